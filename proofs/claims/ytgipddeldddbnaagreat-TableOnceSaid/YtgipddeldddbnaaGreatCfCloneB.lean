/-
  Contract of Clone.
-/
import Derived.Test.YtgipddeldddbnaaGreatCfClone
import Derived.Test.YtgipddeldddbnaaGreatMgBK
namespace Go.Proofs.YtgipddeldddbnaaGreat
open Go Go.RowKit
set_option linter.unusedSimpArgs false

theorem OwnT.setRow {w : World} {base : Nat} {t t' : TypeId} {v : Value} {l : List T3} (h : OwnT w base t v l) {g : Nat} {cs : Array Value} {fr : Nat × Nat} (hg : w.heap[g]? = some (.cells cs t' fr)) (hne : t ≠ t') (i : Nat) (u : Value) : OwnT (w.setCell ⟨g, i, none⟩ u) base t v l := by
  refine ⟨h.1, ?_⟩
  rcases h.2 with h4 | ⟨g2, cap, cur, rfl, h4, hgg, rest⟩
  · exact .inl h4
  · refine .inr ⟨g2, cap, cur, rfl, h4, (Below.heap_setCell w ⟨g, i, none⟩ u g2 (fun e => ?_)).trans hgg, rest⟩
    have e' : g2 = g := e
    subst e'
    rw [hgg] at hg
    simp only [Option.some.injEq, Obj.cells.injEq] at hg
    exact hne hg.2.1
theorem Tris.setOther {w : World} {B : Nat} {a : Option Addr} {n : Nat} {l : List T3} (h : Tris w B a n l) {p : Addr} {b : Option Addr} {m c : Nat} (hp : w.cell? p = some (.slice b m c)) (u : Value) : Tris (w.setCell p u) B a n l :=
  ⟨h.1, h.2.1, fun i hi => by
    obtain ⟨x, e, hB, hx, h0, h1, h2⟩ := h.2.2 i hi
    have hne : ∀ q z, w.cell? q = some (.int .i64 z) → p ≠ q := by
      intro q z hq e'
      subst e'
      rw [hp] at hq
      cases hq
    refine ⟨x, e, hB, by simpa [World.setCell] using hx, ?_, ?_, ?_⟩
    · rw [World.cell?_setCell_other _ _ _ _ (hne _ _ h0)]; exact h0
    · rw [World.cell?_setCell_other _ _ _ _ (hne _ _ h1)]; exact h1
    · rw [World.cell?_setCell_other _ _ _ _ (hne _ _ h2)]; exact h2⟩
theorem row_below {w w' : World} {base : Nat} {t : TypeId} {s : Nat} {v : Value} {n : Nat} {vs : List Value} (h : w.ownsRow base t s v n vs) (hb : Below w.heap.size w w') : w'.ownsRow base t s v n vs := by
  refine ⟨h.1, ?_⟩
  rcases h.2 with h4 | ⟨g, cap, cur, rfl, h4, hg, rest⟩
  · exact .inl h4
  · exact .inr ⟨g, cap, cur, rfl, h4, (hb.block g (Array.getElem?_eq_some_iff.1 hg).1).trans hg, rest⟩
theorem row_form {w : World} {base : Nat} {t : TypeId} {s : Nat} {v : Value} {n : Nat} {vs : List Value} (h : w.ownsRow base t s v n vs) : ∃ a c, v = .slice a n c := by
  rcases h.2 with ⟨rfl, rfl⟩ | ⟨g, cap, cur, rfl, _⟩
  · exact ⟨_, _, rfl⟩
  · exact ⟨_, _, rfl⟩
theorem cgetD_set_same {vs : List Value} {k : Nat} (hk : k < vs.length) (u d : Value) : (vs.set k u).getD k d = u := by
  rw [List.getD_eq_getElem?_getD, List.getElem?_set_self hk]
  rfl
theorem getD_set_other {vs : List Value} {k i : Nat} (h : k ≠ i) (u d : Value) : (vs.set k u).getD i d = vs.getD i d := by
  rw [List.getD_eq_getElem?_getD, List.getD_eq_getElem?_getD, List.getElem?_set_ne h]

/-- Clone's loop: the first k programs are copied. -/
structure CloneSt (w : World) (g : Nat) (c : Cfg) (qa : Option Addr) (n qc : Nat) (sa : Option Addr) (sn sc : Nat) (k : Nat) (wr : World) : Prop where
  box : Blk wr g 30 (cc c qa n qc sa sn sc)
  res : Blk wr (g + 1) 30 zero11
  su : Tris wr 0 sa sn c.su
  row : ∃ vs : List Value, vs.length = n ∧ wr.ownsRow (g + 2) 81 1 (.slice qa n qc) n vs ∧ ∀ i, i < n → ∃ b m cp, vs.getD i (.slice none 0 0) = .slice b m cp ∧ Tris wr 0 b m (c.pr.getD i []) ∧ (i < k → OwnT wr (g + 2) 84 (.slice b m cp) (c.pr.getD i []))
  below : Below w.heap.size w wr
  len : c.pr.length = n
  base : w.heap.size ≤ g

theorem CloneSt.at_ {w : World} {g : Nat} {c : Cfg} {qa sa : Option Addr} {n qc sn sc k : Nat} {wr : World} (h : CloneSt w g c qa n qc sa sn sc k wr) (hk : k < n) :
    ∃ (x : Addr) (b : Option Addr) (m cp : Nat) (p : List T3), qa = some x ∧ c.pr[k]? = some p ∧ x.block < wr.heap.size ∧ wr.cell? (x.add k) = some (.slice b m cp) ∧ wr.frozen? (x.add k) = false ∧ Tris wr 0 b m p ∧ g < x.block := by
  obtain ⟨vs, hl, hrow, hvs⟩ := h.row
  obtain ⟨b, m, cp, e, ht, _⟩ := hvs k hk
  have hkp : k < c.pr.length := by rw [h.len]; exact hk
  have hkv : k < vs.length := by omega
  have ev : vs[k]? = some (.slice b m cp) := by
    rw [← e, List.getD_eq_getElem?_getD, List.getElem?_eq_getElem hkv]
    rfl
  have ep : c.pr[k]? = some (c.pr.getD k []) := by
    rw [List.getD_eq_getElem?_getD, List.getElem?_eq_getElem hkp]
    rfl
  rcases hrow.2 with ⟨h0, h5⟩ | ⟨gr, cap, cur, hv, h5, hg, _⟩
  · omega
  · simp only [Value.slice.injEq] at hv
    obtain ⟨rfl, _, rfl⟩ := hv
    refine ⟨_, b, m, cp, _, rfl, ep, (Array.getElem?_eq_some_iff.1 hg).1, World.ownsRow.cells hrow rfl _ _ ev, ?_, ht, by show g < gr; omega⟩
    have := World.ownsRow.frozenAt hrow k
    have hadd : (⟨gr, 0, none⟩ : Addr).add k = ⟨gr, k, none⟩ := by unfold Addr.add; split <;> simp_all
    rw [hadd]
    exact this
theorem CloneSt.step {w : World} {g : Nat} {c : Cfg} {x : Addr} {sa : Option Addr} {n qc sn sc k : Nat} {wr w2 : World} (h : CloneSt w g c (some x) n qc sa sn sc k wr) (hk : k < n) (hb : Below wr.heap.size wr w2) {v2 : Value} {p : List T3} (hp : c.pr[k]? = some p)
    (ho : OwnT w2 wr.heap.size 84 v2 p) : CloneSt w g c (some x) n qc sa sn sc (k + 1) (w2.setCell (x.add k) v2) := by
  obtain ⟨x', b0, m0, cp0, p0, ex, _, _, hcell, _, _, _⟩ := h.at_ hk
  cases ex
  have hcell2 : w2.cell? (x.add k) = some (.slice b0 m0 cp0) := by
    rw [hb.cell (World.block_lt_of_cell? wr _ hcell)]
    exact hcell
  obtain ⟨vs, hl, hrow, hvs⟩ := h.row
  have hrow2 := row_below hrow hb
  have hgl := h.res.lt
  rcases hrow2.2 with ⟨h0, h5⟩ | ⟨gr, cap, cur, hv, h5, hg, _⟩
  · omega
  simp only [Value.slice.injEq, Option.some.injEq] at hv
  obtain ⟨rfl, _, rfl⟩ := hv
  have hadd : (⟨gr, 0, none⟩ : Addr).add k = ⟨gr, k, none⟩ := by unfold Addr.add; split <;> simp_all
  rw [hadd] at hcell2 ⊢
  have hs := World.ownsRow.stored hrow2 k v2
  have ep : c.pr.getD k [] = p := by
    rw [List.getD_eq_getElem?_getD, hp]
    rfl
  have hfr : ∀ q, q ≠ gr → (w2.setCell ⟨gr, k, none⟩ v2).heap[q]? = w2.heap[q]? := fun q hq => Below.heap_setCell w2 ⟨gr, k, none⟩ v2 q hq
  refine ⟨(h.box.below hb).of_same (hfr g (by omega)), (h.res.below hb).of_same (hfr (g + 1) (by omega)), (h.su.below hb).setOther hcell2 v2, ⟨vs.set k v2, by simp [hl], hs.1, fun i hi => ?_⟩, ?_, h.len, h.base⟩
  · by_cases hik : k = i
    · subst hik
      obtain ⟨a2, c2, e2, ht2, _⟩ := ho.form
      refine ⟨a2, p.length, c2, ?_, ?_, fun _ => ?_⟩
      · rw [cgetD_set_same (by omega), e2]
      · rw [ep]
        exact (ht2.mono (Nat.zero_le _)).setOther hcell2 v2
      · rw [ep, ← e2]
        exact (ho.setRow hg (by decide) k v2).mono (by omega)
    · obtain ⟨b, m, cp, e, ht, hown⟩ := hvs i hi
      refine ⟨b, m, cp, ?_, (ht.below hb).setOther hcell2 v2, fun hi1 => ?_⟩
      · rw [getD_set_other hik]
        exact e
      · exact ((hown (by omega)).below hb).setRow hg (by decide) k v2
  · have hsz := h.below.size
    have := h.base
    exact (h.below.trans (hb.mono hsz)).setCell (by show w.heap.size ≤ gr; omega) v2
theorem CloneSt.ownP {w : World} {g : Nat} {c : Cfg} {qa sa : Option Addr} {n qc sn sc : Nat} {wr : World} (h : CloneSt w g c qa n qc sa sn sc n wr) : OwnP wr (g + 2) (.slice qa n qc) c.pr := by
  obtain ⟨vs, hl, hrow, hvs⟩ := h.row
  refine ⟨vs, by rw [hl, h.len], by rw [h.len]; exact hrow, fun i hi => ?_⟩
  obtain ⟨b, m, cp, e, _, hown⟩ := hvs i (by rw [← h.len]; exact hi)
  rw [e]
  exact hown (by rw [← h.len]; exact hi)
/-- What the loop keeps. -/
def CloneR (w : World) (g : Nat) (c : Cfg) (qa : Option Addr) (n qc : Nat) (sa : Option Addr) (sn sc : Nat) (i : Value) (wr : World) : Prop := ∃ k : Nat, k ≤ n ∧ i = .int .i64 k ∧ CloneSt w g c qa n qc sa sn sc k wr
/-- What Clone gives. -/
def CfCopied (c : Cfg) (w : World) (e : Ending) (w' : World) : Prop := ∃ v, e = .returned v ∧ OwnCfg w' w.heap.size v c ∧ Below w.heap.size w w'

theorem clone_start {w W1 W2 : World} {g : Nat} {c : Cfg} {pa qa sa : Option Addr} {pn pc qc sn sc : Nat} {vs : List Value} (hg : w.heap.size ≤ g) (hl : c.pr.length = pn) (hB : Below w.heap.size w W1) (hgl : W1.heap.size = g + 2) (hb : Below W1.heap.size W1 W2)
    (box : Blk W1 g 30 (cc c pa pn pc sa sn sc)) (res : Blk W1 (g + 1) 30 zero11) (hsu : Tris W1 0 sa sn c.su) (hvl : vs.length = c.pr.length) (hrow : W2.ownsRow W1.heap.size 81 1 (.slice qa pn qc) c.pr.length vs)
    (hvs : ∀ i, i < c.pr.length → ∃ b m cp, vs.getD i (.slice none 0 0) = .slice b m cp ∧ Tris W2 0 b m (c.pr.getD i [])) : CloneSt w g c qa pn qc sa sn sc 0 (W2.setCell ⟨g, 9, none⟩ (.slice qa pn qc)) := by
  have hC := (box.below hb).put 9 (.slice qa pn qc)
  simp only [List.setIfInBounds_toArray, List.set_cons_zero, List.set_cons_succ] at hC
  have hc9 : W2.cell? ⟨g, 9, none⟩ = some (.slice pa pn pc) := (box.below hb).at_ 9
  have hsz := hB.size
  rw [hl] at hrow
  rw [hgl] at hrow
  refine ⟨hC, (res.below hb).of_same (Below.heap_setCell W2 ⟨g, 9, none⟩ _ (g + 1) (by show g + 1 ≠ g; omega)), (hsu.below hb).setOther hc9 _, ⟨vs, by rw [hvl, hl], ?_, fun i hi => ?_⟩, (hB.trans (hb.mono hsz)).setCell hg _, hl, hg⟩
  · refine ⟨hrow.1, ?_⟩
    rcases hrow.2 with h4 | ⟨gr, cap, cur, e, h4, hgr, rest⟩
    · exact .inl h4
    · exact .inr ⟨gr, cap, cur, e, h4, (Below.heap_setCell W2 ⟨g, 9, none⟩ _ gr (by show gr ≠ g; omega)).trans hgr, rest⟩
  · obtain ⟨b, m, cp, e, ht⟩ := hvs i (by rw [hl]; exact hi)
    exact ⟨b, m, cp, e, ht.setOther hc9 _, fun h0 => by omega⟩
theorem clone_end {w wr w3 : World} {g : Nat} {c : Cfg} {qa sa ta : Option Addr} {n qc sn sc tc : Nat} (h : CloneSt w g c qa n qc sa sn sc n wr) (hb : Below wr.heap.size wr w3) (ho : OwnT w3 wr.heap.size 87 (.slice ta sn tc) c.su)
    {w5 : World} (hF : Fr [g, g + 1] w3 w5) : OwnCfg w5 w.heap.size (cv c qa n qc ta sn tc) c ∧ Below w.heap.size w w5 := by
  have hbase := h.base
  have hlt := h.res.lt
  have hP := (h.ownP.below hb).fr hF (fun s hs => by simp at hs; omega)
  have hT := ho.fr hF (fun s hs => by simp at hs; omega)
  obtain ⟨a1, c1, e1, hp1, _⟩ := hP.form
  obtain ⟨a2, c2, e2, hp2, _⟩ := hT.form
  simp only [Value.slice.injEq] at e1 e2
  obtain ⟨rfl, e1n, rfl⟩ := e1
  obtain ⟨rfl, e2n, rfl⟩ := e2
  rw [← e1n] at hp1
  rw [← e2n] at hp2
  refine ⟨⟨_, _, _, _, _, _, rfl, hP.mono (by omega), hT.mono (by omega), hp1.mono (by omega), hp2.mono (by omega)⟩, ?_⟩
  have hs := h.below.size
  exact (Fr.drop (S := []) (Fr.old (h.below.trans (hb.mono hs))) hF (fun x hx => by simp at hx; omega)).below (Nat.le_refl _) (fun k hk => by cases hk)

set_option maxHeartbeats 4000000 in
theorem cfclone_any {w : World} {B : Nat} {c : Cfg} {pa : Option Addr} {pn : Nat} {sa : Option Addr} {sn : Nat} (h : Lists w B c pa pn sa sn) (pc sc : Nat) (hpn : pn ≤ 1000) (hsn : sn ≤ 1000) (hpl : ∀ p ∈ c.pr, p.length ≤ 1000) :
    Calls Tryz.prog 14 #[cv c pa pn pc sa sn sc] w (CfCopied c w) := by
  have HH := Lib.hid (((h.mono (Nat.zero_le _)).alloc (.cells (cc c pa pn pc sa sn sc) 30)).alloc (.cells zero11 30))
  have hX := (Blk.made w 30 (cc c pa pn pc sa sn sc)).alloc (.cells zero11 30)
  have hR := Blk.made (w.alloc (.cells (cc c pa pn pc sa sn sc) 30)) 30 zero11
  have hw1 : (w.alloc (.cells (cc c pa pn pc sa sn sc) 30)).heap.size = w.heap.size + 1 := by simp
  rw [hw1] at hR
  have HX := Lib.hid hX
  have HR := Lib.hid hR
  have HB := Lib.hid ((below_one w (.cells (cc c pa pn pc sa sn sc) 30)).alloc (by simp) (.cells zero11 30))
  have HZ := Lib.hid (show ((w.alloc (.cells (cc c pa pn pc sa sn sc) 30)).alloc (.cells zero11 30)).heap.size = w.heap.size + 2 by simp)
  have HLN := Lib.hid h.pr.1
  have HPL := Lib.hid hpl
  have e9 : ((w.alloc (.cells (cc c pa pn pc sa sn sc) 30)).alloc (.cells zero11 30)).cell? ⟨w.heap.size, 9, none⟩ = some (.slice pa pn pc) := hX.at_ 9
  clear h hX hR hw1 hpl
  go_enter Tryz.func14, Tryz.ntmps14
  go_wp2_with fail
  generalize (w.alloc (.cells (cc c pa pn pc sa sn sc) 30)).alloc (.cells zero11 30) = W1 at *
  (with_reducible refine (clonep_any HH.out.pr _ (by omega)).mono ?_)
  rintro e W2 ⟨v, vs, rfl, hvl, hrow, hvs, hb⟩
  obtain ⟨qa, qc, rfl⟩ := row_form hrow
  have hrow' := hrow
  rw [HLN.out]
  rw [HLN.out] at hrow'
  have HST := Lib.hid (clone_start (Nat.le_refl _) HLN.out HB.out HZ.out hb HX.out HR.out HH.out.su hvl (by rw [HLN.out]; exact hrow') hvs)
  have x9 : W2.cell? ⟨w.heap.size, 9, none⟩ = some (.slice pa pn pc) := (HX.out.below hb).at_ 9
  have f9 := (HX.out.below hb).free 9
  clear hrow hrow' hvl hvs hb e9 HH HX HR HB HZ
  go_wp2_with fail
  go_loopw [12] (fun i wr => CloneR w w.heap.size c qa pn qc sa sn sc i wr) (fun i _ => pn - (intOf i).toNat)
  case atStart => exact ⟨0, by omega, rfl, HST.out⟩
  case round =>
    obtain ⟨k, hk, rfl, hst⟩ := hrel
    clear x9 f9 HST
    have HS := Lib.hid hst
    by_cases hlt : k < pn
    · obtain ⟨x, b, m, cp, p, rfl, hp, hx, hc, hf, ht, hgx⟩ := hst.at_ hlt
      have hm : m ≤ 1000 := by
        rw [← ht.1]
        exact HPL.out _ (List.mem_of_getElem? hp)
      have HT := Lib.hid (show Tris wr.drew 0 b m p from ht.below (below_drew (Below.refl _ _)))
      have HP := Lib.hid hp
      have k9 : wr.drew.cell? ⟨w.heap.size, 9, none⟩ = some (.slice (some x) pn qc) := hst.box.at_ 9
      have hx' : (x.add k).block < wr.heap.size := by rw [block_add]; exact hx
      have HCD := Lib.hid (show wr.drew.cell? (x.add k) = some (.slice b m cp) from hc)
      have HFD := Lib.hid (show wr.drew.frozen? (x.add k) = false from hf)
      clear hst hp ht
      go_wp2_with fail
      go_region_held3 (fun w' => w'.cell? ⟨w.heap.size, 9, none⟩ = some (.slice (some x) pn qc)) ((first | exact js | go_keep))
        ((go_at_call 26
          refine (clonei_any HT.out _ (by omega)).mono ?_
          rintro e w2 ⟨v2, rfl, ho, hb2⟩
          obtain ⟨b2, c2, rfl, _, _⟩ := ho.form
          have HO := Lib.hid ho
          have HB2 := Lib.hid hb2
          have j9 : w2.cell? ⟨w.heap.size, 9, none⟩ = some (.slice (some x) pn qc) := (hb2.cell (World.block_lt_of_cell? _ _ k9)).trans k9
          have jc : w2.cell? (x.add k) = some (.slice b m cp) := (hb2.cell hx').trans HCD.out
          have jf : w2.frozen? (x.add k) = false := (hb2.frozen hx').trans HFD.out
          have js : (w2.setCell (x.add k) (.slice b2 p.length c2)).cell? ⟨w.heap.size, 9, none⟩ = some (.slice (some x) pn qc) := by
            rw [World.cell?_setCell_other _ _ _ _ (fun e => by have := congrArg Addr.block e; rw [block_add] at this; have : x.block = w.heap.size := this; omega)]
            exact j9
          clear ho hb2))
      go_wp2_with fail
      go_roundw
      case rel => exact ⟨k + 1, by omega, by go_num, HS.out.step hlt (show Below wr.heap.size wr w2 from (below_drew (Below.refl _ _)).trans HB2.out) HP.out HO.out⟩
      case measure => simp [intOf]; omega
    · obtain rfl : k = pn := by omega
      have e10 : wr.cell? ⟨w.heap.size, 10, none⟩ = some (.slice sa sn sc) := HS.out.box.at_ 10
      go_wp2_with fail
      (with_reducible refine (clones_any HS.out.su _ (by omega)).mono ?_)
      rintro e w3 ⟨v3, rfl, ho, hb3⟩
      obtain ⟨ta, tc, rfl, ht3, _⟩ := ho.formN HS.out.su.1
      have HO := Lib.hid ho
      have HB3 := Lib.hid hb3
      obtain ⟨d0, d1, d2, d3, d4, d5, d6, d7, d8, d9, d10⟩ := eleven (HS.out.box.below hb3)
      have f10 := (HS.out.box.below hb3).free 10
      have D := HS.out.res.below hb3
      have HD := Lib.hid D
      have r0 := D.at_ 0
      have r1 := D.at_ 1
      have r2 := D.at_ 2
      have r3 := D.at_ 3
      have r4 := D.at_ 4
      have r5 := D.at_ 5
      have r6 := D.at_ 6
      have r7 := D.at_ 7
      have r8 := D.at_ 8
      have r9 := D.at_ 9
      have r10 := D.at_ 10
      have g0 := D.free 0
      have g1 := D.free 1
      have g2 := D.free 2
      have g3 := D.free 3
      have g4 := D.free 4
      have g5 := D.free 5
      have g6 := D.free 6
      have g7 := D.free 7
      have g8 := D.free 8
      have g9 := D.free 9
      have g10 := D.free 10
      clear ho hb3 ht3 D e10
      go_wp2
      have hR := (HD.out.of_same (Below.heap_setCell w3 ⟨w.heap.size, 10, none⟩ (.slice ta sn tc) (w.heap.size + 1) (by show w.heap.size + 1 ≠ w.heap.size; omega))).put11 (.int .i64 c.wo) (.int .i64 c.le) (.int .i64 c.cl) (.int .i64 c.ta) (.int .i64 c.de) (.int .i64 c.he) (.int .i64 c.ba) (.int .i64 c.ag) (.int .i64 c.pa) (.slice qa k qc) (.slice ta sn tc)
      have hF := fr11 (w3.setCell ⟨w.heap.size, 10, none⟩ (.slice ta sn tc)) (w.heap.size + 1) (.int .i64 c.wo) (.int .i64 c.le) (.int .i64 c.cl) (.int .i64 c.ta) (.int .i64 c.de) (.int .i64 c.he) (.int .i64 c.ba) (.int .i64 c.ag) (.int .i64 c.pa) (.slice qa k qc) (.slice ta sn tc)
      refine bodyPost_ret (results_cell_row (P := Tryz.prog) Tryz.results14 _ _ (w.heap.size + 1) 30 _ (0, 0) _ rfl hR Tryz.underlying30 rfl (by kernel_rfl)) rfl ?_
      have hz := clone_end HS.out HB3.out HO.out (((Fr.refl [w.heap.size, w.heap.size + 1] w3).setCell (p := ⟨w.heap.size, 10, none⟩) (.inl (by simp)) (.slice ta sn tc)).trans (hF.mono (fun k hk => by simp at hk; simp [hk])))
      exact ⟨_, rfl, hz.1, hz.2⟩
end Go.Proofs.YtgipddeldddbnaaGreat
