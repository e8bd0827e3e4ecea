/-
  Package machine: New. (Written by wip/gen_mcn.py.)
-/
import Derived.Test.YtgipddeldddbnaaGreatMgAJ
import Derived.Test.YtgipddeldddbnaaGreatCfCloneB
import Derived.Test.YtgipddeldddbnaaGreatLyB
import Derived.Test.YtgipddeldddbnaaGreatRep
import Derived.Deep.Cut
import Derived.Deep.CutRange
namespace Go.Proofs.YtgipddeldddbnaaGreat
open Go Go.RowKit Go.Shelf
set_option linter.unusedSimpArgs false
set_option linter.unusedVariables false

theorem Blk.put24a {w : World} {g : Nat} {t : TypeId} {a0 a1 a2 a3 a4 a5 a6 a7 a8 a9 a10 a11 a12 a13 a14 a15 a16 a17 a18 a19 a20 a21 a22 a23 : Value} (h : Blk w g t #[a0, a1, a2, a3, a4, a5, a6, a7, a8, a9, a10, a11, a12, a13, a14, a15, a16, a17, a18, a19, a20, a21, a22, a23]) (v0 v1 v2 v3 v4 v5 v6 v7 v8 v9 v10 : Value) : Blk (((((((((((w.setCell ⟨g, 0, none⟩ v0).setCell ⟨g, 1, none⟩ v1).setCell ⟨g, 2, none⟩ v2).setCell ⟨g, 3, none⟩ v3).setCell ⟨g, 4, none⟩ v4).setCell ⟨g, 5, none⟩ v5).setCell ⟨g, 6, none⟩ v6).setCell ⟨g, 7, none⟩ v7).setCell ⟨g, 8, none⟩ v8).setCell ⟨g, 9, none⟩ v9).setCell ⟨g, 10, none⟩ v10) g t #[v0, v1, v2, v3, v4, v5, v6, v7, v8, v9, v10, a11, a12, a13, a14, a15, a16, a17, a18, a19, a20, a21, a22, a23] ∧ Fr [g] w (((((((((((w.setCell ⟨g, 0, none⟩ v0).setCell ⟨g, 1, none⟩ v1).setCell ⟨g, 2, none⟩ v2).setCell ⟨g, 3, none⟩ v3).setCell ⟨g, 4, none⟩ v4).setCell ⟨g, 5, none⟩ v5).setCell ⟨g, 6, none⟩ v6).setCell ⟨g, 7, none⟩ v7).setCell ⟨g, 8, none⟩ v8).setCell ⟨g, 9, none⟩ v9).setCell ⟨g, 10, none⟩ v10) := by
  refine ⟨?_, ((((((((((((Fr.refl [g] w).setCell (p := ⟨g, 0, none⟩) (.inl (List.mem_singleton.2 rfl)) v0).setCell (p := ⟨g, 1, none⟩) (.inl (List.mem_singleton.2 rfl)) v1).setCell (p := ⟨g, 2, none⟩) (.inl (List.mem_singleton.2 rfl)) v2).setCell (p := ⟨g, 3, none⟩) (.inl (List.mem_singleton.2 rfl)) v3).setCell (p := ⟨g, 4, none⟩) (.inl (List.mem_singleton.2 rfl)) v4).setCell (p := ⟨g, 5, none⟩) (.inl (List.mem_singleton.2 rfl)) v5).setCell (p := ⟨g, 6, none⟩) (.inl (List.mem_singleton.2 rfl)) v6).setCell (p := ⟨g, 7, none⟩) (.inl (List.mem_singleton.2 rfl)) v7).setCell (p := ⟨g, 8, none⟩) (.inl (List.mem_singleton.2 rfl)) v8).setCell (p := ⟨g, 9, none⟩) (.inl (List.mem_singleton.2 rfl)) v9).setCell (p := ⟨g, 10, none⟩) (.inl (List.mem_singleton.2 rfl)) v10)⟩
  have := (((((((((((h.put 0 v0).put 1 v1).put 2 v2).put 3 v3).put 4 v4).put 5 v5).put 6 v6).put 7 v7).put 8 v8).put 9 v9).put 10 v10)
  simpa only [List.setIfInBounds_toArray, List.set_cons_zero, List.set_cons_succ] using this

theorem Blk.put24b {w : World} {g : Nat} {t : TypeId} {a0 a1 a2 a3 a4 a5 a6 a7 a8 a9 a10 a11 a12 a13 a14 a15 a16 a17 a18 a19 a20 a21 a22 a23 : Value} (h : Blk w g t #[a0, a1, a2, a3, a4, a5, a6, a7, a8, a9, a10, a11, a12, a13, a14, a15, a16, a17, a18, a19, a20, a21, a22, a23]) (v0 v1 v2 v3 v4 v5 v6 v7 v8 : Value) : Blk (((((((((w.setCell ⟨g, 11, none⟩ v0).setCell ⟨g, 12, none⟩ v1).setCell ⟨g, 13, none⟩ v2).setCell ⟨g, 14, none⟩ v3).setCell ⟨g, 15, none⟩ v4).setCell ⟨g, 16, none⟩ v5).setCell ⟨g, 17, none⟩ v6).setCell ⟨g, 18, none⟩ v7).setCell ⟨g, 19, none⟩ v8) g t #[a0, a1, a2, a3, a4, a5, a6, a7, a8, a9, a10, v0, v1, v2, v3, v4, v5, v6, v7, v8, a20, a21, a22, a23] ∧ Fr [g] w (((((((((w.setCell ⟨g, 11, none⟩ v0).setCell ⟨g, 12, none⟩ v1).setCell ⟨g, 13, none⟩ v2).setCell ⟨g, 14, none⟩ v3).setCell ⟨g, 15, none⟩ v4).setCell ⟨g, 16, none⟩ v5).setCell ⟨g, 17, none⟩ v6).setCell ⟨g, 18, none⟩ v7).setCell ⟨g, 19, none⟩ v8) := by
  refine ⟨?_, ((((((((((Fr.refl [g] w).setCell (p := ⟨g, 11, none⟩) (.inl (List.mem_singleton.2 rfl)) v0).setCell (p := ⟨g, 12, none⟩) (.inl (List.mem_singleton.2 rfl)) v1).setCell (p := ⟨g, 13, none⟩) (.inl (List.mem_singleton.2 rfl)) v2).setCell (p := ⟨g, 14, none⟩) (.inl (List.mem_singleton.2 rfl)) v3).setCell (p := ⟨g, 15, none⟩) (.inl (List.mem_singleton.2 rfl)) v4).setCell (p := ⟨g, 16, none⟩) (.inl (List.mem_singleton.2 rfl)) v5).setCell (p := ⟨g, 17, none⟩) (.inl (List.mem_singleton.2 rfl)) v6).setCell (p := ⟨g, 18, none⟩) (.inl (List.mem_singleton.2 rfl)) v7).setCell (p := ⟨g, 19, none⟩) (.inl (List.mem_singleton.2 rfl)) v8)⟩
  have := (((((((((h.put 11 v0).put 12 v1).put 13 v2).put 14 v3).put 15 v4).put 16 v5).put 17 v6).put 18 v7).put 19 v8)
  simpa only [List.setIfInBounds_toArray, List.set_cons_zero, List.set_cons_succ] using this

theorem Blk.frm {S : List Nat} {w w' : World} {g : Nat} {t : TypeId} {cs : Array Value} (h : Blk w g t cs) (f : Fr S w w') (hg : g ∉ S) : Blk w' g t cs := h.of_same (f.block g h.lt hg)

/-- The rows of new records, as the two sides make them. -/
theorem cells_newRs : ∀ t : Nat, cellsR (newRs t) (List.replicate t (.slice none 0 0)) = repCells (freshV 0 (-1)).toList zeroV t 0
  | 0 => rfl
  | t + 1 => by
    have := cells_newRs t
    unfold newRs at this ⊢
    rw [List.replicate_succ, List.replicate_succ]
    simp only [cellsR, List.headD_cons, List.tail_cons, this]
    simp [repCells, List.replicate_succ]
theorem ownR_new {w : World} {B g : Nat} {t : Nat} (hB : B ≤ g) (hm : t ≤ 1000) (h : Blk w g 51 (repCells (freshV 0 (-1)).toList zeroV t 0).toArray) : OwnR w B (.slice (some ⟨g, 0, none⟩) t t) (newRs t) := by
  have hlen : (newRs t).length = t := by simp [newRs]
  refine ⟨List.replicate t (.slice none 0 0), by simp [newRs], ?_, fun i hi => ?_⟩
  · rw [cells_newRs t, hlen]
    have hl := repCells_length (freshV 0 (-1)).toList zeroV rfl rfl t 0
    exact ⟨by rw [hl, Nat.add_zero], .inr ⟨g, t, _, rfl, hB, h, Nat.le_refl _, by unfold maxLen; omega, by rw [List.size_toArray, hl, Nat.add_zero], by rw [List.take_of_length_le (by rw [hl, Nat.add_zero]; exact Nat.le_refl _)]⟩⟩
  · rw [hlen] at hi
    have e1 : (List.replicate t (Value.slice none 0 0)).getD i (.slice none 0 0) = .slice none 0 0 := by simp [List.getD_eq_getElem?_getD, List.getElem?_replicate, hi]
    have e2 : ((newRs t).map Rec.ks).getD i [] = [] := by simp [newRs, List.getD_eq_getElem?_getD, List.getElem?_replicate, hi]
    rw [e1, e2]
    exact OwnI.nil _ _

set_option maxRecDepth 100000 in
set_option maxHeartbeats 8000000 in
theorem pnew_no {w : World} {B : Nat} {c : Cfg} {pa : Option Addr} {pn : Nat} {sa : Option Addr} {sn : Nat} (h : Lists w B c pa pn sa sn) (pc sc : Nat) (hc : chk c ≠ 0) :
    Calls Tryz.prog 4 #[cv c pa pn pc sa sn sc] w fun e w' => e = .returned (.tuple #[.pointer none, .int .i64 (chk c)]) ∧ Below w.heap.size w w' := by
  have hb1 := below_one w (cbox c pa pn pc sa sn sc)
  have hX := Blk.made w 30 (cc c pa pn pc sa sn sc)
  have HN := Lib.hid (show ∀ W : World, Below w.heap.size w W → Calls Tryz.prog 11 #[cv c pa pn pc sa sn sc] W (fun e W' => e = .returned (.tuple #[.agg lz, .int .i64 (chk c)]) ∧ Below W.heap.size W W') by
    intro W hW
    refine (new_any (h.below hW) pc sc).mono ?_
    rintro e W' ⟨rfl, hb⟩
    rw [if_neg hc]
    exact ⟨rfl, hb⟩)
  have HB := Lib.hid hb1
  obtain ⟨e0, e1, e2, e3, e4, e5, e6, e7, e8, e9, e10⟩ := eleven hX
  obtain ⟨R, hR⟩ : ∃ R, chk c = R := ⟨_, rfl⟩
  rw [hR] at HN hc ⊢
  have hne : (R == 0) = false := by simpa using hc
  clear hX hb1 hR hc h
  go_enter Tryz.func4, Tryz.ntmps4
  go_wp2_with fail
  (with_reducible refine (HN.out _ HB.out).mono ?_)
  rintro e w1 ⟨rfl, hb⟩
  have HB1 := Lib.hid (HB.out.trans (hb.mono HB.out.size))
  have HS := Lib.hid hb.size
  clear hb
  go_wp2_with fail
  go_ret2
  exact ⟨rfl, HB1.out.trans ((below_one _ _).mono HB1.out.size)⟩

/-- What New gives of a valid configuration: an environment of the program with the given memory, clock, records; its configuration is the call's own. -/
def PNewed (c : Cfg) (n t : Nat) (w : World) (e : Ending) (w' : World) : Prop :=
  ∃ p m k g qa qn qc ta tn tc rv, e = .returned (.tuple #[.pointer (some ⟨p, 0, none⟩), .int .i64 0]) ∧
    PE w' p m k g n (St.new n) 0 0 (hdC c qa qn qc ta tn tc 4 (4 + c.he) (4 + c.he + c.cl) (4 + c.he + c.cl + c.wo) (rDeques c) (rDeques c + rAll c) (rCells c) c.le c.de) rv (.slice none 0 0) ∧
    OwnR w' w.heap.size rv (newRs t) ∧ OwnP w' w.heap.size (.slice qa qn qc) c.pr ∧ OwnT w' w.heap.size 87 (.slice ta tn tc) c.su ∧ Below w.heap.size w w' ∧ w.heap.size ≤ p ∧ w.heap.size ≤ m ∧ w.heap.size ≤ k ∧ w.heap.size ≤ g

set_option maxRecDepth 100000 in
set_option maxHeartbeats 8000000 in
theorem pnew_yes {w : World} {B : Nat} {c : Cfg} {pa : Option Addr} {pn : Nat} {sa : Option Addr} {sn : Nat} (h : Lists w B c pa pn sa sn) (pc sc : Nat) (hc : chk c = 0) (hpn : pn ≤ 1000) (hsn : sn ≤ 1000) (hpl : ∀ x ∈ c.pr, x.length ≤ 1000) :
    Calls Tryz.prog 4 #[cv c pa pn pc sa sn sc] w (PNewed c (rCells c).toNat c.ta.toNat w) := by
  have hin := cfgIn_chk hc
  have hcl := hin.cells
  have hta := hin.ta
  have hb1 := below_one w (cbox c pa pn pc sa sn sc)
  have hX := Blk.made w 30 (cc c pa pn pc sa sn sc)
  have HN := Lib.hid (show ∀ W : World, Below w.heap.size w W → Calls Tryz.prog 11 #[cv c pa pn pc sa sn sc] W (fun e W' => e = .returned (.tuple #[lv c, .int .i64 0]) ∧ Below W.heap.size W W') by
    intro W hW
    refine (new_any (h.below hW) pc sc).mono ?_
    rintro e W' ⟨rfl, hb⟩
    rw [if_pos hc, hc]
    exact ⟨rfl, hb⟩)
  have HCL := Lib.hid (show ∀ W : World, Below w.heap.size w W → Calls Tryz.prog 14 #[cv c pa pn pc sa sn sc] W (fun e W' => ∃ qa qn qc ta tn tc, e = .returned (cv c qa qn qc ta tn tc) ∧ OwnP W' W.heap.size (.slice qa qn qc) c.pr ∧ OwnT W' W.heap.size 87 (.slice ta tn tc) c.su ∧ Below W.heap.size W W') by
    intro W hW
    refine (cfclone_any (h.below hW) pc sc hpn hsn hpl).mono ?_
    rintro e W' ⟨v, rfl, ⟨qa, qn, qc, ta, tn, tc, rfl, h1, h2, _⟩, hb⟩
    exact ⟨qa, qn, qc, ta, tn, tc, rfl, h1, h2, hb⟩)
  have HB := Lib.hid hb1
  have HX := Lib.hid hX
  obtain ⟨e0, e1, e2, e3, e4, e5, e6, e7, e8, e9, e10⟩ := eleven hX
  have HIN := Lib.hid hin
  clear hX hb1 h hc hin hcl hta
  go_enter Tryz.func4, Tryz.ntmps4
  go_wp2_with fail
  (with_reducible refine (HN.out _ HB.out).mono ?_)
  rintro e w1 ⟨rfl, hb⟩
  have HB1 := Lib.hid (HB.out.trans (hb.mono HB.out.size))
  have HX1 := Lib.hid (HX.out.below hb)
  clear hb e0 e1 e2 e3 e4 e5 e6 e7 e8 e9 e10 HX HB
  go_wp2_with fail
  (with_reducible refine lcells_any.mono ?_)
  rintro e w2 ⟨rfl, hb2⟩
  have hbl := below_one w1 (lbox c)
  have HB2 := Lib.hid (HB1.out.trans ((hbl.trans (hb2.mono hbl.size)).mono HB1.out.size))
  have HX2 := Lib.hid ((HX1.out.below hbl).below hb2)
  have HL2 := Lib.hid ((Blk.made w1 34 (lcells c)).below hb2)
  clear hbl hb2 HB1 HX1
  generalize w1.heap.size = L at *
  have hcl := HIN.out.cells
  have hta := HIN.out.ta
  have hsz : sizeS (rCells c) = (rCells c).toNat := by unfold sizeS; rw [if_neg (by omega), if_pos (by omega)]
  have HBA := Lib.hid (fun W : World => pbare_any (rCells c) W)
  rw [hsz] at HBA
  generalize (rCells c).toNat = n at *
  clear hcl hta hsz
  go_wp2_with fail
  (with_reducible refine (HBA.out _).mono ?_)
  rintro e w3 ⟨p, m, k, g, rfl, hp, hb3, l1, l2, l3, l4⟩
  have HB3 := Lib.hid (HB2.out.trans (hb3.mono HB2.out.size))
  have hx3 := HX2.out.below hb3
  have hl3 := HL2.out.below hb3
  have HLE := Lib.hid (show w.heap.size ≤ p ∧ w.heap.size ≤ m ∧ w.heap.size ≤ k ∧ w.heap.size ≤ g by have := HB2.out.size; omega)
  have HP := Lib.hid hp
  have HX3 := Lib.hid hx3
  have HL3 := Lib.hid hl3
  have HPX := Lib.hid (And.intro (hp.blk.apart hx3 (by decide)) (And.intro (hp.blk.apart hl3 (by decide)) (And.intro (hp.mem.blk.apart hx3 (by decide)) (And.intro (hp.mem.blk.apart hl3 (by decide)) (Blk.apart hx3 hl3 (by decide))))))
  obtain ⟨e0, e1, e2, e3, e4, e5, e6, e7, e8, e9, e10⟩ := eleven hx3
  clear hx3 hl3 hp hb3 l1 l2 l3 l4 HB2 HX2 HL2 HBA
  go_wp2_with fail
  (with_reducible refine (HCL.out _ HB3.out).mono ?_)
  rintro e w4 ⟨qa, qn, qc, ta, tn, tc, rfl, ho1, ho2, hb4⟩
  have HB4 := Lib.hid (HB3.out.trans (hb4.mono HB3.out.size))
  have HO := Lib.hid (And.intro ho1 ho2)
  have HN3 := Lib.hid (And.intro HB3.out.size HP.out.blk.lt)
  have HP4 := Lib.hid (HP.out.below hb4)
  have HX4 := Lib.hid (HX3.out.below hb4)
  have HL4 := Lib.hid (HL3.out.below hb4)
  clear ho1 ho2 hb4 e0 e1 e2 e3 e4 e5 e6 e7 e8 e9 e10 HB3 HP HX3 HL3 HCL
  have hpb : Blk w4 p 40 #[.int .i64 0, .int .i64 0, .int .i64 0, .int .i64 0, .int .i64 0, .int .i64 0, .int .i64 0, .int .i64 0, .int .i64 0, .slice none 0 0, .slice none 0 0, .int .i64 0, .int .i64 0, .int .i64 0, .int .i64 0, .int .i64 0, .int .i64 0, .int .i64 0, .int .i64 0, .int .i64 0, .pointer (some ⟨m, 0, none⟩), .pointer (some ⟨k, 0, none⟩), .slice none 0 0, .slice none 0 0] := HP4.out.blk
  obtain ⟨p0, p1, p2, p3, p4, p5, p6, p7, p8, p9, p10⟩ := (⟨hpb.at_ 0, hpb.at_ 1, hpb.at_ 2, hpb.at_ 3, hpb.at_ 4, hpb.at_ 5, hpb.at_ 6, hpb.at_ 7, hpb.at_ 8, hpb.at_ 9, hpb.at_ 10⟩ : _ ∧ _ ∧ _ ∧ _ ∧ _ ∧ _ ∧ _ ∧ _ ∧ _ ∧ _ ∧ _)
  obtain ⟨f0, f1, f2, f3, f4, f5, f6, f7, f8, f9, f10⟩ := (⟨hpb.free 0, hpb.free 1, hpb.free 2, hpb.free 3, hpb.free 4, hpb.free 5, hpb.free 6, hpb.free 7, hpb.free 8, hpb.free 9, hpb.free 10⟩ : _ ∧ _ ∧ _ ∧ _ ∧ _ ∧ _ ∧ _ ∧ _ ∧ _ ∧ _ ∧ _)
  simp only [List.getElem?_toArray, List.getElem?_cons_zero, List.getElem?_cons_succ] at p0 p1 p2 p3 p4 p5 p6 p7 p8 p9 p10
  have HPB := Lib.hid hpb
  clear hpb
  go_upto_region 6 with fail
  obtain ⟨hq5, hf5⟩ := HPB.out.put24a (.int .i64 c.wo) (.int .i64 c.le) (.int .i64 c.cl) (.int .i64 c.ta) (.int .i64 c.de) (.int .i64 c.he) (.int .i64 c.ba) (.int .i64 c.ag) (.int .i64 c.pa) (.slice qa qn qc) (.slice ta tn tc)
  generalize (((((((((((w4.setCell ⟨p, 0, none⟩ (.int .i64 c.wo)).setCell ⟨p, 1, none⟩ (.int .i64 c.le)).setCell ⟨p, 2, none⟩ (.int .i64 c.cl)).setCell ⟨p, 3, none⟩ (.int .i64 c.ta)).setCell ⟨p, 4, none⟩ (.int .i64 c.de)).setCell ⟨p, 5, none⟩ (.int .i64 c.he)).setCell ⟨p, 6, none⟩ (.int .i64 c.ba)).setCell ⟨p, 7, none⟩ (.int .i64 c.ag)).setCell ⟨p, 8, none⟩ (.int .i64 c.pa)).setCell ⟨p, 9, none⟩ (.slice qa qn qc)).setCell ⟨p, 10, none⟩ (.slice ta tn tc)) = w5 at *
  obtain ⟨a1, a2, a3, a4, a5⟩ := HPX.out
  obtain ⟨b1, b2, b3, b4⟩ := HLE.out
  have HX5 := Lib.hid (HX4.out.frm hf5 (by simpa using a1.symm))
  have hl5 := HL4.out.frm hf5 (by simpa using a2.symm)
  have HL5 := Lib.hid hl5
  have HP4' := HP4.out
  have HM5 := Lib.hid (HP4'.mem.fr hf5 (by simpa using HP4'.hpm.symm) (by simpa using HP4'.hpg.symm))
  have HK5 := Lib.hid (HP4'.clk.fr hf5 (by simpa using HP4'.hpk.symm))
  have HB5 := Lib.hid (HB4.out.trans (hf5.below HB4.out.size (by simpa using b1)))
  have HNE := Lib.hid (And.intro HP4'.hpm (And.intro HP4'.hpk HP4'.hpg))
  have HO5 := Lib.hid (And.intro (HO.out.1.fr hf5 (fun s hs => by simp at hs; have := HN3.out.2; omega)) (HO.out.2.fr hf5 (fun s hs => by simp at hs; have := HN3.out.2; omega)))
  have HQ5 := Lib.hid hq5
  obtain ⟨l0, l1, l2, l3, l4, l5, l6, l7, l8⟩ := (⟨hl5.at_ 0, hl5.at_ 1, hl5.at_ 2, hl5.at_ 3, hl5.at_ 4, hl5.at_ 5, hl5.at_ 6, hl5.at_ 7, hl5.at_ 8⟩ : _ ∧ _ ∧ _ ∧ _ ∧ _ ∧ _ ∧ _ ∧ _ ∧ _)
  simp only [List.getElem?_toArray, List.getElem?_cons_zero, List.getElem?_cons_succ] at l0 l1 l2 l3 l4 l5 l6 l7 l8
  clear p0 p1 p2 p3 p4 p5 p6 p7 p8 p9 p10 f0 f1 f2 f3 f4 f5 f6 f7 f8 f9 f10
  obtain ⟨p0, p1, p2, p3, p4, p5, p6, p7, p8⟩ := (⟨hq5.at_ 11, hq5.at_ 12, hq5.at_ 13, hq5.at_ 14, hq5.at_ 15, hq5.at_ 16, hq5.at_ 17, hq5.at_ 18, hq5.at_ 19⟩ : _ ∧ _ ∧ _ ∧ _ ∧ _ ∧ _ ∧ _ ∧ _ ∧ _)
  obtain ⟨f0, f1, f2, f3, f4, f5, f6, f7, f8⟩ := (⟨hq5.free 11, hq5.free 12, hq5.free 13, hq5.free 14, hq5.free 15, hq5.free 16, hq5.free 17, hq5.free 18, hq5.free 19⟩ : _ ∧ _ ∧ _ ∧ _ ∧ _ ∧ _ ∧ _ ∧ _ ∧ _)
  simp only [List.getElem?_toArray, List.getElem?_cons_zero, List.getElem?_cons_succ] at p0 p1 p2 p3 p4 p5 p6 p7 p8
  clear hq5 hf5 hl5 HPB HX4 HL4 HP4 HP4' HB4 HO
  go_upto_region 7 with fail
  obtain ⟨hq6, hf6⟩ := HQ5.out.put24b (.int .i64 4) (.int .i64 (4 + c.he)) (.int .i64 (4 + c.he + c.cl)) (.int .i64 (4 + c.he + c.cl + c.wo)) (.int .i64 (rDeques c)) (.int .i64 (rDeques c + rAll c)) (.int .i64 (rCells c)) (.int .i64 c.le) (.int .i64 c.de)
  generalize (((((((((w5.setCell ⟨p, 11, none⟩ (.int .i64 4)).setCell ⟨p, 12, none⟩ (.int .i64 (4 + c.he))).setCell ⟨p, 13, none⟩ (.int .i64 (4 + c.he + c.cl))).setCell ⟨p, 14, none⟩ (.int .i64 (4 + c.he + c.cl + c.wo))).setCell ⟨p, 15, none⟩ (.int .i64 (rDeques c))).setCell ⟨p, 16, none⟩ (.int .i64 (rDeques c + rAll c))).setCell ⟨p, 17, none⟩ (.int .i64 (rCells c))).setCell ⟨p, 18, none⟩ (.int .i64 c.le)).setCell ⟨p, 19, none⟩ (.int .i64 c.de)) = w6 at *
  have HX6 := Lib.hid (HX5.out.frm hf6 (by simpa using a1.symm))
  have HM6 := Lib.hid (HM5.out.fr hf6 (by simpa using HNE.out.1.symm) (by simpa using HNE.out.2.2.symm))
  have HK6 := Lib.hid (HK5.out.fr hf6 (by simpa using HNE.out.2.1.symm))
  have HB6 := Lib.hid (HB5.out.trans (hf6.below HB5.out.size (by simpa using b1)))
  have HO6 := Lib.hid (And.intro (HO5.out.1.fr hf6 (fun s hs => by simp at hs; have := HN3.out.2; omega)) (HO5.out.2.fr hf6 (fun s hs => by simp at hs; have := HN3.out.2; omega)))
  have HQ6 := Lib.hid hq6
  obtain ⟨t, ht⟩ : ∃ t : Nat, c.ta = (t : Int) := ⟨c.ta.toNat, by have := HIN.out.ta; omega⟩
  have hta := HIN.out.ta
  have htn : c.ta.toNat = t := by omega
  have hRP := repeat_any (w := w6.alloc (.cells (freshV 0 (-1)) 51)) (gx := w6.heap.size) (cx := 1) (R := (freshV 0 (-1)).toList) rfl (by
    intro v hv
    simp only [List.mem_cons, List.not_mem_nil, or_false] at hv
    rcases hv with rfl | rfl | rfl | rfl | rfl | rfl | rfl <;> rfl) (newCells w6 0 (-1)) (by simp) t (by omega) (by omega)
  rw [← ht] at hRP
  have HRP := Lib.hid hRP
  have HTN := Lib.hid (And.intro htn (show t ≤ 1000 by omega))
  have e3 : (w6.alloc (.cells (freshV 0 (-1)) 51)).cell? ⟨w.heap.size, 3, none⟩ = some (.int .i64 c.ta) := (HX6.out.below (below_one _ _)).at_ 3
  clear l0 l1 l2 l3 l4 l5 l6 l7 l8 p0 p1 p2 p3 p4 p5 p6 p7 p8 f0 f1 f2 f3 f4 f5 f6 f7 f8 hq6 hf6 HQ5 HX5 HL5 HM5 HK5 HB5 HO5 hta ht hRP htn
  go_wp2_with fail
  (with_reducible refine HRP.out.mono ?_)
  rintro e w7 ⟨gr, rfl, hgr, hbr, hb7⟩
  have hl6 := below_one w6 (.cells (freshV 0 (-1)) 51)
  have hb67 : Below w6.heap.size w6 w7 := hl6.trans (hb7.mono hl6.size)
  have hq7 := HQ6.out.below hb67
  have hs22 : Fr [p] w7 (w7.setCell ⟨p, 22, none⟩ (.slice (some ⟨gr, 0, none⟩) t t)) := (Fr.refl _ _).setCell (by simp) _
  have hput := hq7.put 22 (.slice (some ⟨gr, 0, none⟩) t t)
  have p22 : w7.cell? ⟨p, 22, none⟩ = some (.slice none 0 0) := hq7.at_ 22
  have f22 := hq7.free 22
  have hB7 := HB6.out.trans (hb67.mono HB6.out.size)
  have hrp : gr ≠ p := fun e => hbr.apart hq7 (by decide) e
  have HFIN := Lib.hid (show PNewed c n t w (.returned (.tuple #[.pointer (some ⟨p, 0, none⟩), .int .i64 0])) (w7.setCell ⟨p, 22, none⟩ (.slice (some ⟨gr, 0, none⟩) t t)) from
    ⟨p, m, k, g, qa, qn, qc, ta, tn, tc, _, rfl, ⟨hput, rfl, (HM6.out.fr (Fr.old (S := []) hb67) (by simp) (by simp)).fr hs22 (by simpa using HNE.out.1.symm) (by simpa using HNE.out.2.2.symm), (HK6.out.fr (Fr.old (S := []) hb67) (by simp)).fr hs22 (by simpa using HNE.out.2.1.symm)⟩,
      ownR_new (by have := HB6.out.size; have := hl6.size; omega) HTN.out.2 (hbr.frm hs22 (by simpa using hrp)),
      ((HO6.out.1.below hb67).fr hs22 (fun s hs => by simp at hs; have := HN3.out.2; omega)).mono HN3.out.1, ((HO6.out.2.below hb67).fr hs22 (fun s hs => by simp at hs; have := HN3.out.2; omega)).mono HN3.out.1,
      hB7.trans (hs22.below hB7.size (by simpa using b1)), b1, b2, b3, b4⟩)
  clear hput hs22 hq7 hb67 hl6 hgr hbr hb7 hB7 hrp
  go_wp2_with fail
  go_ret2
  show PNewed c n c.ta.toNat w (.returned (.tuple #[.pointer (some ⟨p, 0, none⟩), .int .i64 0])) _
  rw [HTN.out.1]
  exact HFIN.out
end Go.Proofs.YtgipddeldddbnaaGreat
