/-
  Slices of machines of the call's own; the walk of the statement MachineInterleaves: it returns true.
-/
import Derived.Test.YtllkehdokgfafaaMcE
import Derived.Test.YtllkehdokgfafaaMcC
import Derived.Test.YtllkehdokgfafaaRInts
import Derived.Test.YtllkehdokgfafaaCfBytes
import Derived.Test.YtllkehdokgfafaaBel
import Derived.RegionTactic
import Derived.BigRegion
import Derived.Deep.CutBlock
namespace Go.Proofs.Ytllkehdokgfafaa
open Go Go.RowKit Go.Shelf
set_option linter.unusedSimpArgs false

theorem info_mach : (Try.prog.info? 105).map (fun i => (i.zero, i.size, i.bytes)) = some (some .nilIface, 1, 16) := by kernel_rfl

/-- The slice v is the call's own and holds the machines qs. -/
def OwnX (w : World) (base : Nat) (v : Value) (qs : List Nat) : Prop := w.ownsRow base 105 1 v qs.length (qs.map mval)
theorem OwnX.nil (w : World) (base : Nat) : OwnX w base (.slice none 0 0) [] := World.ownsRow_nil w base _ _
theorem OwnX.lt {w : World} {base : Nat} {v : Value} {l : List Nat} (h : OwnX w base v l) : ∀ k, v.ownBlock = some k → base ≤ k ∧ k < w.heap.size := World.ownsRow.lt h
theorem OwnX.below {w w' : World} {base : Nat} {v : Value} {l : List Nat} (h : OwnX w base v l) (hb : Below w.heap.size w w') : OwnX w' base v l := by
  refine ⟨h.1, ?_⟩
  rcases h.2 with h2 | ⟨g, cap, cur, rfl, h2, hg, rest⟩
  · exact .inl h2
  · exact .inr ⟨g, cap, cur, rfl, h2, (hb.block g (Array.getElem?_eq_some_iff.1 hg).1).trans hg, rest⟩
/-- A store into a block of another type. -/
theorem OwnX.other {w w' : World} {base : Nat} {v : Value} {l : List Nat} (h : OwnX w base v l) {g : Nat} {t : TypeId} {cs : Array Value} (hg : Blk w g t cs) (ht : t ≠ 105) (hf : Fr [g] w w') : OwnX w' base v l := by
  refine ⟨h.1, ?_⟩
  rcases h.2 with h2 | ⟨g', cap, cur, rfl, h2, hg', rest⟩
  · exact .inl h2
  · exact .inr ⟨g', cap, cur, rfl, h2, (hf.block g' (Array.getElem?_eq_some_iff.1 hg').1 (by
      simp only [List.mem_cons, List.not_mem_nil, or_false]
      intro e
      subst e
      unfold Blk at hg
      rw [hg'] at hg
      simp only [Option.some.injEq, Obj.cells.injEq] at hg
      exact ht hg.2.1.symm)).trans hg', rest⟩
theorem OwnX.row {w : World} {base : Nat} {v : Value} {l : List Nat} (h : OwnX w base v l) : (v = .slice none 0 0 ∧ l.length = 0) ∨ ∃ g c, v = .slice (some ⟨g, 0, none⟩) l.length c ∧ XRow w g l := by
  rcases h.2 with h2 | ⟨g, cap, cur, rfl, h2, hg, hn, hc, hz, ht⟩
  · exact .inl h2
  · refine .inr ⟨g, cap, rfl, cur, hg, fun i hi => ?_⟩
    have h3 : (cur.toList.take (l.length * 1))[i]? = some (mval (l.getD i 0)) := by
      rw [ht, List.getElem?_map, List.getD_eq_getElem?_getD, List.getElem?_eq_getElem hi]
      rfl
    rw [List.getElem?_take, if_pos (by omega), Array.getElem?_toList] at h3
    exact h3

theorem OwnX.nin {w : World} {base : Nat} {v : Value} {l : List Nat} (h : OwnX w base v l) {g : Nat} {t : TypeId} {cs : Array Value} (hg : Blk w g t cs) (ht : t ≠ 105) : g ∉ v.ownBlock.toList := by
  rcases h.2 with ⟨rfl, _⟩ | ⟨g', cap, cur, rfl, h2, hg', rest⟩
  · simp [Value.ownBlock]
  · simp only [Value.ownBlock, Option.toList_some, List.mem_cons, List.not_mem_nil, or_false]
    intro e
    subst e
    unfold Blk at hg
    rw [hg'] at hg
    simp only [Option.some.injEq, Obj.cells.injEq] at hg
    exact ht hg.2.1.symm
theorem fr_grownX {w w' : World} {o : Option Nat} (h : w.grownBy w' o) : Fr o.toList w w' :=
  ⟨h.os, h.tape, h.output, h.size, fun k hk hn => h.block k hk (fun e => hn (by rw [← e]; simp))⟩
theorem OwnX.nines {w : World} {base : Nat} {v : Value} {l : List Nat} (h : OwnX w base v l) {p m k g cap : Nat} {s : St} {t d : Int} {hd : List Value} {rv ev : Value} (hp : PE w p m k g cap s t d hd rv ev) :
    p ∉ v.ownBlock.toList ∧ m ∉ v.ownBlock.toList ∧ k ∉ v.ownBlock.toList ∧ g ∉ v.ownBlock.toList := by
  obtain ⟨cur, hb, _⟩ := hp.mem.row.blk
  exact ⟨h.nin hp.blk (by decide), h.nin hp.mem.blk (by decide), h.nin hp.clk (by decide), h.nin hb (by decide)⟩
theorem below_appX {w0 w w' : World} {base : Nat} {v : Value} {l : List Nat} (hb : Below w0.heap.size w0 w) (h : OwnX w base v l) (hB : w0.heap.size ≤ base) (hg : w.grownBy w' v.ownBlock) : Below w0.heap.size w0 w' :=
  below_of_fr hb (fr_grownX hg) (fun x hx => by
    have hx' : v.ownBlock = some x := by
      cases hv : v.ownBlock with
      | none => rw [hv] at hx; simp at hx
      | some y => rw [hv] at hx; simp at hx; rw [hx]
    have := (h.lt x hx').1
    omega)

theorem x_new (w : World) (q : Nat) : ∀ j u, ([mval q] : List Value)[j]? = some u → (w.alloc (.cells #[mval q] 105)).cell? ((⟨w.heap.size, 0, none⟩ : Addr).add j) = some u := by
  intro j u hu
  have e : (⟨w.heap.size, 0, none⟩ : Addr).add j = ⟨w.heap.size, j, none⟩ := by unfold Addr.add; split <;> simp_all
  rw [e, (Blk.made w 105 #[mval q]).at_, List.getElem?_toArray]
  exact hu

/-- An append of one machine, for the walk. -/
theorem wpList_appX {w : World} {ops : Array Oper} {rest : List Oper} {o : Oper} {a : Act} {Q : Exit → Act → World → Prop} (hgd : o.guard = none) (s x : Operand)
    (ho : o.op = .call { callee := .builtin .append, args := #[s, x], argTypes := #[60, 60] })
    {base : Nat} {v : Value} {l : List Nat} (hs : a.eval s = v) (hown : OwnX w base v l) {ad : Addr} {c q : Nat} (hx : a.eval x = .slice (some ad) 1 c)
    (hnews : ∀ j u, ([mval q] : List Value)[j]? = some u → w.cell? (ad.add j) = some u) (hn : l.length ≤ 1000000) (hb : base ≤ w.heap.size)
    (h : ∀ v' w', OwnX w' base v' (l ++ [q]) → w.grownBy w' v.ownBlock → wpList Try.prog ops Q rest (a.put o.dst v') w') :
    wpList Try.prog ops Q (o :: rest) a w := by
  obtain ⟨i0, hi, hz0, hz1, hz2⟩ := info_parts info_mach
  refine wpList_append_own_at w hgd s x 60 ho base 105 i0 _ 1 16 Try.underlying60 hi hz0 hz1 hz2 rfl (by omega) v l.length (l.map mval) hs hown ad 1 c [mval q] hx (by simp) hnews (by intro u hu; simp at hu; subst hu; rfl) (by unfold maxLen; omega) (by omega) hb ?_
  intro v' w' h1 h2 _ _
  refine h v' w' ?_ h2
  unfold OwnX
  rw [List.map_append, List.length_append]
  exact h1

/-- The lengths of the counters. -/
def lensOf (zs : List Int) : List Nat := zs.map fun x => (x % 9).toNat
theorem lensOf_length (zs : List Int) : (lensOf zs).length = zs.length := by simp [lensOf]
theorem lensOf_at (zs : List Int) (i : Nat) (h : i < zs.length) : (lensOf zs).getD i 0 = (zs.getD i 0 % 9).toNat := by
  simp [lensOf, h]
theorem lensOf_le (zs : List Int) (i : Nat) : (lensOf zs).getD i 0 ≤ 8 := by
  by_cases h : i < zs.length
  · rw [lensOf_at zs i h]
    omega
  · rw [List.getD_eq_getElem?_getD, List.getElem?_eq_none (by rw [lensOf_length]; omega)]
    simp

theorem fill_set (l : List Nat) (n j : Nat) (hl : l.length = n) (hj : j < n) : (l.take j ++ List.replicate (n - j) 0).set j (l.getD j 0) = l.take (j + 1) ++ List.replicate (n - (j + 1)) 0 := by
  rw [List.set_append_right _ _ (by simp; omega), List.length_take, Nat.min_eq_left (by omega), Nat.sub_self, show n - j = (n - (j + 1)) + 1 by omega, List.replicate_succ, List.set_cons_zero, List.take_add_one, List.append_assoc]
  rw [List.getD_eq_getElem?_getD, List.getElem?_eq_getElem (by omega)]
  rfl

/-- What the first loop keeps: j counters are made. -/
def IlA (w : World) (p m k g n bw bl : Nat) (lens : List Nat) (i v : Value) (wr : World) : Prop :=
  ∃ (j : Nat) (qs : List Nat), j ≤ n ∧ i = .int .i64 j ∧ qs.length = j ∧ OwnX wr w.heap.size v qs ∧ PE wr p m k g n (St.new n) 0 0 hd0 (.slice none 0 0) (.slice none 0 0) ∧ NRow wr bw (List.replicate n 0) ∧
    NRow wr bl ((lens.map (max 1)).take j ++ List.replicate (n - j) 0) ∧ (∀ i, i < j → Cnt wr (qs.getD i 0) i ((lens.getD i 0 : Nat) : Int)) ∧ (∀ q ∈ qs, w.heap.size ≤ q) ∧ Below w.heap.size w wr
/-- What the second loop keeps: what is left, and what is wanted. -/
def IlB (w : World) (p m k g n bw bl bx : Nat) (lens : List Nat) (ys : List Int) (qs : List Nat) (i : Value) (wr : World) : Prop :=
  ∃ (j : Nat), j ≤ ys.length ∧ i = .int .i64 j ∧ XRow wr bx qs ∧ MS wr p m k g n (St.new n) qs lens (List.replicate n 0) ∧ NRow wr bw (picksC n lens (ys.take j)) ∧
    NRow wr bl (leftC lens (picksC n lens (ys.take j))) ∧ Below w.heap.size w wr

theorem rep_zero (n i : Nat) : (List.replicate n 0).getD i 0 = 0 := by
  rw [List.getD_eq_getElem?_getD, List.getElem?_replicate]
  split <;> rfl
theorem new_old (n i : Nat) : (St.new n).old i = 0 := by
  unfold St.old St.new
  split
  · simp [List.getD_eq_getElem?_getD, List.getElem?_replicate]
    split <;> rfl
  · rfl

set_option maxRecDepth 100000 in
set_option maxHeartbeats 4000000 in
theorem inter_law {w : World} {a b : Option Addr} {n L : Nat} {zs ys : List Int} (h : InB w w.heap.size a n zs) (h' : InInts w b L ys) (c c' : Nat) :
    Calls Try.prog 5 #[.slice a n c, .slice b L c'] w fun e w' => e = .returned (.bool true) ∧ Below w.heap.size w w' := by
  have hmax := h.2.1
  have hmax' := h'.2.1
  unfold maxLen at hmax hmax'
  by_cases hn : 20 < n
  · go_enter Try.func5, Try.ntmps5
    go_wp2
    go_ret
    exact ⟨rfl, Below.refl _ _⟩
  by_cases hL : 400 < L
  · have hn' : decide (20 < (n : Int)) = false := by simp; omega
    go_enter Try.func5, Try.ntmps5
    go_wp2
    go_ret
    exact ⟨rfl, Below.refl _ _⟩
  have hn' : decide (20 < (n : Int)) = false := by simp; omega
  have hL' : decide (400 < (L : Int)) = false := by simp; omega
  have H := Lib.hid h
  have H' := Lib.hid h'
  clear h h'
  go_enter Try.func5, Try.ntmps5
  go_wp2_with fail
  (with_reducible refine (bare_any (n : Int) w).mono ?_)
  rintro e w1 ⟨p, m, k, g, rfl, hp, hb, l1, l2, l3, l4⟩
  have e1 : sizeS n = n := by unfold sizeS; split <;> (try split) <;> omega
  rw [e1] at hp
  have h20 := hp.at20
  have HP := Lib.hid hp
  have HB := Lib.hid hb
  have HL := Lib.hid (And.intro l1 (And.intro l2 (And.intro l3 l4)))
  clear e1 hp hb l1 l2 l3 l4
  go_wp2_with fail
  (with_reducible refine (awake_any w1).mono ?_)
  rintro e w2 ⟨rfl, hb2⟩
  have HP2 := Lib.hid (HP.out.below hb2)
  have HB2 := Lib.hid (HB.out.trans (hb2.mono HB.out.size))
  clear hb2 HP HB h20
  have hmk := fun (W : World) => run_make_row' (P := Try.prog) 51 3 (.int .i64 0) 8 Try.underlying51 info_int rfl .i64 .i64 n (by omega) (by omega) W
  go_upto_region 7 with fail
  go_cut [7, 8] from 38 to 43 (fun s7 s8 wx => ∃ bw bl, s7 = .slice (some ⟨bw, 0, none⟩) n n ∧ s8 = .slice (some ⟨bl, 0, none⟩) n n ∧ bw ≠ bl ∧ NRow wx bw (List.replicate n 0) ∧ NRow wx bl (List.replicate n 0) ∧ w2.heap.size ≤ bw ∧ w2.heap.size ≤ bl ∧ Below w2.heap.size w2 wx)
  case first =>
    go_region
    all_goals go_wp2_with fail
    all_goals go_meet
    all_goals (case rel =>
      have hA := (made_nrow w2 n).fr (S := []) (w' := ((w2.alloc (.cells (madeCells #[.int .i64 0] n) 3)).alloc (.cells (madeCells #[.int .i64 0] n) 3)).drew) (((Fr.refl _ _).alloc _).drew) (by simp)
      have hB : NRow ((w2.alloc (.cells (madeCells #[.int .i64 0] n) 3)).alloc (.cells (madeCells #[.int .i64 0] n) 3)).drew (w2.heap.size + 1) (List.replicate n 0) := by
        have := made_nrow (w2.alloc (.cells (madeCells #[.int .i64 0] n) 3)) n
        simp at this
        exact this
      have hbb : Below w2.heap.size w2 ((w2.alloc (.cells (madeCells #[.int .i64 0] n) 3)).alloc (.cells (madeCells #[.int .i64 0] n) 3)).drew := below_drew (((Below.refl _ _).alloc (Nat.le_refl _) _).alloc (by simp) _)
      first | exact ⟨_, _, rfl, rfl, by omega, hB, hA, by omega, by omega, hbb⟩ | exact ⟨_, _, rfl, rfl, by omega, hA, hB, by omega, by omega, hbb⟩)
  case rest =>
    obtain ⟨bw, bl, rfl, rfl, hne, hW, hLf, lw, ll, hb3⟩ := hcut
    have HB3 := Lib.hid (HB2.out.trans (hb3.mono HB2.out.size))
    have HP3 := Lib.hid (HP2.out.below hb3)
    have HW := Lib.hid hW
    have HLf := Lib.hid hLf
    have HN := Lib.hid (And.intro hne (show w.heap.size ≤ bw ∧ w.heap.size ≤ bl by have := HB2.out.size; omega))
    have HLZ := Lib.hid (And.intro H.out.1 H'.out.1)
    clear hne hW hLf lw ll hb3 HP2 HB2 hmk
    have hs8 := HLZ.out.1
    go_upto_block 0 with fail
    go_cut [6, 9] from 44 to 72 (fun s6 s9 wx => s9 = .int .i64 n ∧ IlA w p m k g n bw bl (lensOf zs) s9 s6 wx)
    case first =>
      go_wp2_with fail
      go_loopw [9, 6] (fun i v wr => IlA w p m k g n bw bl (lensOf zs) i v wr) (fun i _ _ => n - (intOf i).toNat)
      case atStart => exact ⟨0, [], by omega, rfl, rfl, OwnX.nil _ _, HP3.out, HW.out, by simpa using HLf.out, fun i hi => by omega, by simp, HB3.out⟩
      case round =>
        obtain ⟨j, qs, hj, rfl, hq, hox, hpe, hnw, hnl, hcn, hqb, hbb⟩ := hrel
        by_cases hlt : j < n
        · obtain ⟨x, rfl, _, hcx, hz0, hz1⟩ := (H.out.below (Nat.le_refl _) hbb).2.2 j hlt
          have hlz := lensOf_at zs j (by omega)
          obtain ⟨z, hzz⟩ : ∃ z, zs.getD j 0 = z := ⟨_, rfl⟩
          rw [hzz] at hcx hz0 hz1 hlz
          have HZZ := Lib.hid hzz
          clear hzz
          have hal : Below wr.heap.size wr ((wr.alloc (.cells #[.int .i64 j, .int .i64 (z % 9)] 54)).alloc (.cells #[mval wr.heap.size] 105)) := ((Below.refl _ _).alloc (Nat.le_refl _) _).alloc (by simp) _
          have hq1 : Cnt ((wr.alloc (.cells #[.int .i64 j, .int .i64 (z % 9)] 54)).alloc (.cells #[mval wr.heap.size] 105)) wr.heap.size j (z % 9) := (cnt_made wr j (z % 9)).fr (S := []) ((Fr.refl _ _).alloc _) (by simp)
          have hox2 := hox.below hal
          have hxn := x_new (wr.alloc (.cells #[.int .i64 j, .int .i64 (z % 9)] 54)) wr.heap.size
          rw [show (wr.alloc (.cells #[.int .i64 j, .int .i64 (z % 9)] 54)).heap.size = wr.heap.size + 1 by simp] at hxn
          have hb2 : w.heap.size ≤ ((wr.alloc (.cells #[.int .i64 j, .int .i64 (z % 9)] 54)).alloc (.cells #[mval wr.heap.size] 105)).heap.size := by have := hbb.size; simp; omega
          have HFA := Lib.hid (And.intro (hpe.below hal) (And.intro (hnw.fr (Fr.old (S := []) hal) (by simp)) (And.intro (hnl.fr (Fr.old (S := []) hal) (by simp)) (And.intro (fun i (hi : i < j) => (hcn i hi).fr (Fr.old (S := []) hal) (by simp)) (And.intro (hbb.trans (hal.mono hbb.size)) hqb)))))
          have HLZ2 := Lib.hid hlz
          have HSZ := Lib.hid hbb.size
          clear hpe hnw hnl hcn hbb hqb hal hlz hox
          have HQ1 := Lib.hid hq1
          have HOX := Lib.hid hox2
          have HXN := Lib.hid hxn
          have HB9 := Lib.hid hb2
          clear hq1 hox2 hxn hb2
          have HQJ := Lib.hid (show qs.length ≤ 1000000 by omega)
          have HQL := Lib.hid hq
          clear hq
          go_wp2_with (at_builtin; refine Hid.out ?_)
          refine Lib.hid ?_
          refine wpList_appX rfl _ _ rfl rfl HOX.out rfl HXN.out HQJ.out HB9.out ?_
          intro v4 w4 hown4 hg4
          obtain ⟨a1, a2, a3, a4, a5, a6⟩ := HFA.out
          have hf4 := fr_grownX hg4
          obtain ⟨n1, n2, n3, n4⟩ := HOX.out.nines a1
          have b1 := a1.fr hf4 n1 n2 n3 n4
          have b2 := a2.fr hf4 (HOX.out.nin a2 (by decide))
          have b3 := a3.fr hf4 (HOX.out.nin a3 (by decide))
          have b4 := fun i (hi : i < j) => (a4 i hi).fr hf4 (HOX.out.nin (a4 i hi) (by decide))
          have b5 := below_appX a5 HOX.out (Nat.le_refl _) hg4
          have b7 := HQ1.out.fr hf4 (HOX.out.nin HQ1.out (by decide))
          obtain ⟨x', ex, _, hcx4, _⟩ := (H.out.below (Nat.le_refl _) b5).2.2 j hlt
          have HB4 := Lib.hid (And.intro b1 (And.intro b2 (And.intro b3 (And.intro b4 (And.intro b5 (And.intro b7 (And.intro hown4 a6)))))))
          cases ex
          rw [HZZ.out] at hcx4
          have fl4 := Blk.free b3 j
          have cl4 := b3.at_ (i := j) (by simp [lensOf_length]; omega)
          have hM : (((lensOf zs).map (max 1)).getD j 0 : Nat) = max 1 (z % 9).toNat := by
            have := HLZ2.out
            have hlj : j < (lensOf zs).length := by rw [lensOf_length]; omega
            rw [List.getD_eq_getElem?_getD, List.getElem?_map, List.getElem?_eq_getElem hlj]
            rw [List.getD_eq_getElem?_getD, List.getElem?_eq_getElem hlj] at this
            simp only [Option.map_some, Option.getD_some] at this ⊢
            rw [this]
          have HMM := Lib.hid hM
          have hfin : ∀ M : Nat, M = max 1 (z % 9).toNat → IlA w p m k g n bw bl (lensOf zs) (.int .i64 ((j + 1 : Nat) : Int)) v4 (w4.setCell ⟨bl, j, none⟩ (.int .i64 (M : Int))) := by
            intro M hMe
            obtain ⟨c1, c2, c3, c4, c5, c7, c8, c9⟩ := HB4.out
            have hs : Fr [bl] w4 (w4.setCell ⟨bl, j, none⟩ (.int .i64 (M : Int))) := (Fr.refl _ _).setCell (by simp) _
            have hbl : Blk w4 bl 3 _ := c3
            obtain ⟨cur, hbg, _⟩ := c1.mem.row.blk
            have d1 := c1.fr hs (by simpa using c1.blk.apart hbl (by decide)) (by simpa using c1.mem.blk.apart hbl (by decide)) (by simpa using Blk.apart c1.clk hbl (by decide)) (by simpa using hbg.apart hbl (by decide))
            have d3 := c3.put j M
            rw [hMe, ← HMM.out, fill_set _ n j (by simp [lensOf_length]; omega) hlt] at d3
            have hap : ∀ i (hi : i < j), qs.getD i 0 ≠ bl := fun i hi => Blk.apart (c4 i hi) hbl (by decide)
            refine ⟨j + 1, qs ++ [wr.heap.size], by omega, rfl, by have := HQL.out; simp; omega, c8.other hbl (by decide) hs, d1, c2.fr hs (by simpa using HN.out.1), by rw [hMe, ← HMM.out] at *; exact d3, fun i hi => ?_, fun q hq => ?_, below_of_fr c5 hs (by have := HN.out; intro x hx; simp at hx; omega)⟩
            · by_cases hij : i < j
              · have e : (qs ++ [wr.heap.size]).getD i 0 = qs.getD i 0 := by
                  have := HQL.out
                  rw [List.getD_eq_getElem?_getD, List.getD_eq_getElem?_getD, List.getElem?_append_left (by omega)]
                rw [e]
                exact (c4 i hij).fr hs (by simpa using hap i hij)
              · obtain rfl : i = j := by omega
                have e : (qs ++ [wr.heap.size]).getD i 0 = wr.heap.size := by
                  have := HQL.out
                  rw [List.getD_eq_getElem?_getD, List.getElem?_append_right (by omega), this, Nat.sub_self]
                  rfl
                rw [e]
                have h7 := c7.fr hs (by simpa using Blk.apart c7 hbl (by decide))
                have := HLZ2.out
                rw [show (((lensOf zs).getD i 0 : Nat) : Int) = z % 9 by omega]
                exact h7
            · rcases List.mem_append.1 hq with hq | hq
              · exact c9 q hq
              · simp at hq
                have := HSZ.out
                omega
          have HFIN := Lib.hid hfin
          clear a1 a2 a3 a4 a5 a6 hf4 n1 n2 n3 n4 b1 b2 b3 b4 b5 b7 hown4 hg4 hM hfin
          generalize (((lensOf zs).map (max 1)).take j ++ List.replicate (n - j) 0).getD j 0 = old at *
          have hj1 : ((j + 1 : Nat) : Int) = (j : Int) + 1 := by omega
          go_wp2_with fail
          go_roundw
          case rel =>
            have := HFIN.out (max 1 (z % 9).toNat) rfl
            rw [hj1] at this
            rw [show (if 1 < z % 9 then z % 9 else 1) = ((max 1 (z % 9).toNat : Nat) : Int) by split <;> omega]
            exact this
          case measure => simp [intOf]; omega
        · obtain rfl : j = n := by omega
          have HI := Lib.hid (show IlA w p m k g j bw bl (lensOf zs) (.int .i64 (j : Int)) u6 wr from ⟨j, qs, hj, rfl, hq, hox, hpe, hnw, hnl, hcn, hqb, hbb⟩)
          clear hq hox hpe hnw hnl hcn hqb hbb
          go_wp2_with fail
          go_meet
          case rel => exact ⟨rfl, HI.out⟩
    case rest =>
      obtain ⟨rfl, j, qs, hj, ej, hq, hox, hpe, hnw, hnl, hcn, hqb, hbb⟩ := hcut
      obtain rfl : n = j := by
        simp only [Value.int.injEq, true_and] at ej
        omega
      have HK := Lib.hid (And.intro hpe (And.intro hnw (And.intro hcn (And.intro hbb hqb))))
      rw [Nat.sub_self, List.replicate_zero, List.append_nil, List.take_of_length_le (by simp [lensOf_length]; omega)] at hnl
      have HNL := Lib.hid hnl
      have HQ := Lib.hid hq
      clear ej hpe hnw hnl hcn hqb hbb HB3 HP3 HW HLf
      by_cases hn0 : n = 0
      · subst hn0
        obtain ⟨ax, cx, rfl⟩ : ∃ ax cx, u6 = .slice ax 0 cx := by
          rcases hox.row with ⟨e, _⟩ | ⟨bx, cx, e, _⟩
          · exact ⟨_, _, e⟩
          · exact ⟨_, _, by rw [e, hq]⟩
        have hnw := HK.out.2.1
        have hbb := HK.out.2.2.2.1
        have HB := Lib.hid hbb
        clear hox hq HK HQ HNL hnw hbb
        rw [show ((0 : Nat) : Int) = 0 from rfl]
        go_wp2_with fail
        go_loopw [10] (fun i wr => i = .int .i64 0 ∧ wr = wc) (fun i _ => (1 - intOf i).toNat)
        case atStart => exact ⟨rfl, rfl⟩
        case round =>
          obtain ⟨rfl, rfl⟩ := hrel
          go_wp2_with fail
          all_goals
            (with_reducible refine (inter_zero _ _ _ _ _).mono ?_)
            rintro e w5 ⟨rfl, hb5⟩
            have HB5 := Lib.hid (HB.out.trans (hb5.mono HB.out.size))
            have i2 : InInts w5 (some ⟨bw, 0, none⟩) 0 [] := ⟨rfl, by omega, fun i hi => by omega⟩
            have i1 : InInts w5 (some ⟨wr.heap.size, 0, none⟩) 0 [] := ⟨rfl, by omega, fun i hi => by omega⟩
            have HII := Lib.hid (keepints_any i1 i2 0 0)
            clear hb5 i2 i1
            go_wp2_with fail
            (with_reducible refine HII.out.mono ?_)
            rintro e w6 ⟨rfl, d6, rfl⟩
            rw [decide_eq_true rfl]
            clear HII
            go_wp2_with fail
            generalize hw6 : w5.drewN d6 = w6
            have HB6 := Lib.hid (show Below w.heap.size w w6 by rw [← hw6]; exact HB5.out.trans ((below_drewN _ _).mono HB5.out.size))
            clear hw6
            refine wp_loop_rounds 1 ?_
            rw [rounds_succ]
            go_wp2_with fail
            go_ret
            exact ⟨rfl, HB6.out⟩
      have hn1 : (0 : Int) < n := by omega
      obtain ⟨bx, cx, rfl, hxr⟩ : ∃ bx cx, u6 = .slice (some ⟨bx, 0, none⟩) n cx ∧ XRow wc bx qs := by
        rcases hox.row with ⟨_, h0⟩ | ⟨bx, cx, e, hx⟩
        · omega
        · exact ⟨bx, cx, by rw [e, hq], hx⟩
      have hms : MS wc p m k g n (St.new n) qs (lensOf zs) (List.replicate n 0) := by
        obtain ⟨h1, h2, h3, h4, h5⟩ := HK.out
        refine ⟨h1, by simp [St.new], hq, by rw [lensOf_length]; exact hs8, by simp, fun i hi => ?_, fun i hi => ?_, lensOf_le zs⟩
        · rw [new_old, rep_zero, Nat.zero_min]
          rfl
        · rw [rep_zero, Nat.zero_min, Nat.sub_zero]
          exact h3 i hi
      have HMS := Lib.hid hms
      have HXR := Lib.hid hxr
      have hxb : w.heap.size ≤ bx := (hox.lt bx (by simp [Value.ownBlock])).1
      have HXB := Lib.hid hxb
      clear hms hxr hox hq hxb
      have hla : ∀ C : List Nat, C.length = n → (lensOf zs).length = C.length := fun C hC => by rw [lensOf_length, hC]; exact hs8
      have HLA := Lib.hid hla
      have HH5 := Lib.hid HK.out.2.2.2.1
      have HQB := Lib.hid HK.out.2.2.2.2
      have HNW := Lib.hid HK.out.2.1
      clear hla HK
      go_upto_block 2 with fail
      go_cut [10, 11] from 73 to 107 (fun _ _ wx => IlB w p m k g n bw bl bx (lensOf zs) ys qs (.int .i64 L) wx)
      case first =>
        go_wp2_with fail
        go_loopw [10, 11] (fun i _ wr => IlB w p m k g n bw bl bx (lensOf zs) ys qs i wr) (fun i _ _ => L - (intOf i).toNat)
        case atStart => exact ⟨0, by omega, rfl, HXR.out, HMS.out, by simpa [picksC] using HNW.out, by
          have := HNL.out
          rw [← leftC_zero (lensOf zs) n (by rw [lensOf_length]; exact hs8)] at this
          simpa [picksC] using this, HH5.out⟩
        case round =>
          obtain ⟨j, hj, rfl, hx, hm, hw, hl, hb⟩ := hrel
          have hys : ys.length = L := HLZ.out.2
          by_cases hlt : j < L
          · obtain ⟨x, rfl, _, hcy⟩ := (H'.out.below hb).2.2 j hlt
            have hnext := picksC_take n (lensOf zs) ys j (by omega)
            obtain ⟨z, hz⟩ : ∃ z, ys.getD j 0 = z := ⟨_, rfl⟩
            rw [hz] at hnext hcy
            obtain ⟨y, hy⟩ : ∃ y, pickN n z = y := ⟨_, rfl⟩
            have hdr := drw_in z n (by omega)
            have hyn : y < n := by unfold pickN at hy; omega
            have hyd : drw z n = (y : Int) := by unfold pickN at hy; omega
            rw [hy] at hnext
            obtain ⟨C, hC⟩ : ∃ C, picksC n (lensOf zs) (ys.take j) = C := ⟨_, rfl⟩
            have hCl : C.length = n := by rw [← hC]; exact picksC_length _ _ _
            rw [hC] at hnext hw hl
            have hdraw := rdraw_any z n (by omega) wr
            rw [hyd] at hdraw
            have HDR := Lib.hid hdraw
            have cl := hl.at_ (i := y) (by rw [leftC_length _ _ (HLA.out C hCl)]; omega)
            rw [leftC_at _ C y (by omega) (HLA.out C hCl)] at cl
            have cw := hw.at_ (i := y) (by omega)
            have fl := Blk.free hl y
            have fw := Blk.free hw y
            have HNX := Lib.hid hnext
            have HCL := Lib.hid hCl
            have HYS := Lib.hid hys
            have H8 := Lib.hid (lensOf_le zs y)
            clear hnext hCl hz hy hdr hyd hC hdraw hys
            by_cases hlf : C.getD y 0 < max 1 ((lensOf zs).getD y 0)
            · obtain ⟨V, hV⟩ : ∃ V, max 1 ((lensOf zs).getD y 0) - C.getD y 0 = V := ⟨_, rfl⟩
              obtain ⟨Y, hY⟩ : ∃ Y, C.getD y 0 = Y := ⟨_, rfl⟩
              rw [hV] at cl
              rw [hY] at cw
              obtain ⟨Vi, hVi⟩ : ∃ Vi : Int, (V : Int) = Vi := ⟨_, rfl⟩
              obtain ⟨Yi, hYi⟩ : ∃ Yi : Int, (Y : Int) = Yi := ⟨_, rfl⟩
              obtain ⟨V1, hV1⟩ : ∃ V1 : Int, ((V - 1 : Nat) : Int) = V1 := ⟨_, rfl⟩
              obtain ⟨Y1, hY1⟩ : ∃ Y1 : Int, ((Y + 1 : Nat) : Int) = Y1 := ⟨_, rfl⟩
              have hv0 : (0 : Int) < Vi := by omega
              have e1 : wrap64 (Vi - 1) = V1 := by have := H8.out; unfold wrap64; omega
              have e2 : wrap64 (Yi + 1) = Y1 := by have := H8.out; unfold wrap64; omega
              have hl2 := leftC_set (lensOf zs) C y (Y + 1) (HLA.out C HCL.out)
              rw [show max 1 ((lensOf zs).getD y 0) - (Y + 1) = V - 1 by omega] at hl2
              have hnb := HN.out.1
              have g1 := hl.put y (V - 1)
              rw [← hl2] at g1
              have f1 : Fr [bl] wr (wr.setCell ⟨bl, y, none⟩ (.int .i64 ((V - 1 : Nat) : Int))) := (Fr.refl _ _).setCell (by simp) _
              have g2 := hw.fr f1 (by simpa using hnb)
              have g3 := g2.put y (Y + 1)
              have f2 : Fr [bw] (wr.setCell ⟨bl, y, none⟩ (.int .i64 ((V - 1 : Nat) : Int))) ((wr.setCell ⟨bl, y, none⟩ (.int .i64 ((V - 1 : Nat) : Int))).setCell ⟨bw, y, none⟩ (.int .i64 ((Y + 1 : Nat) : Int))) := (Fr.refl _ _).setCell (by simp) _
              have g4 := g1.fr f2 (by simpa using fun e => hnb e.symm)
              have f3 := (f1.mono (T := [bl, bw]) (by simp)).trans (f2.mono (T := [bl, bw]) (by simp))
              have hbls : ∀ x : Nat, (∃ (t : TypeId) (cs : Array Value), Blk wr x t cs ∧ t ≠ 3) → x ∉ [bl, bw] := by
                rintro x ⟨t, cs, hx, ht⟩
                simp only [List.mem_cons, List.not_mem_nil, or_false, not_or]
                exact ⟨hx.apart hl ht, hx.apart hw ht⟩
              obtain ⟨curx, hxb, _⟩ := hx
              have hx' : XRow wr bx qs := ⟨curx, hxb, by assumption⟩
              obtain ⟨curg, hgb, _⟩ := hm.e.mem.row.blk
              have g5 := hx'.fr f3 (hbls bx ⟨_, _, hxb, by decide⟩)
              have g6 := hm.fr f3 (hbls p ⟨_, _, hm.e.blk, by decide⟩) (hbls m ⟨_, _, hm.e.mem.blk, by decide⟩) (hbls k ⟨_, _, hm.e.clk, by decide⟩) (hbls g ⟨_, _, hgb, by decide⟩) (fun q hq => by
                obtain ⟨i, hi, rfl⟩ := List.getElem_of_mem hq
                have := hm.t i (by rw [← hm.q]; exact hi)
                have hg : qs.getD i 0 = qs[i] := by simp [hi]
                rw [hg] at this
                exact hbls _ ⟨_, _, this, by decide⟩)
              have g7 := below_of_fr hb f3 (fun x hx => by have := HN.out; simp at hx; omega)
              have HG := Lib.hid (And.intro g3 (And.intro g4 (And.intro g5 (And.intro g6 g7))))
              have HN2 : nextC (lensOf zs) C y = C.set y (Y + 1) := by unfold nextC; rw [if_pos hlf, hY]
              have HN3 := Lib.hid (HNX.out.trans HN2)
              have hnb' : ¬ bl = bw := fun e => hnb e.symm
              have cw2 : (wr.setCell ⟨bl, y, none⟩ (.int .i64 ((V - 1 : Nat) : Int))).cell? ⟨bw, y, none⟩ = some (.int .i64 (Y : Int)) := by
                have := g2.at_ (i := y) (by rw [HCL.out]; exact hyn)
                rw [hY] at this
                exact this
              rw [hV1] at HG cw2
              rw [hY1] at HG
              rw [hYi] at cw cw2
              rw [hVi] at cl
              clear g1 g2 g3 g4 g5 g6 g7 f1 f2 f3 hbls hx' hxb hgb hm hw hl hb hl2 HN2 hV hY hlf hVi hYi hV1 hY1
              go_wp2_with fail
              (with_reducible refine HDR.out.mono ?_)
              rintro e w' ⟨rfl, rfl⟩
              go_wp2_with fail
              go_roundw
              case rel =>
                obtain ⟨g3, g4, g5, g6, g7⟩ := HG.out
                exact ⟨j + 1, by rw [HYS.out]; omega, by go_num, g5, g6, by rw [HN3.out]; exact g3, by rw [HN3.out]; exact g4, g7⟩
              case measure => simp [intOf]; omega
            · have hv0 : max 1 ((lensOf zs).getD y 0) - C.getD y 0 = 0 := by omega
              rw [hv0] at cl
              have HG := Lib.hid (And.intro hx (And.intro hm (And.intro hw (And.intro hl hb))))
              have HNF := Lib.hid hlf
              clear hx hm hw hl hb cw fl fw hv0 hlf
              go_wp2_with fail
              (with_reducible refine HDR.out.mono ?_)
              rintro e w' ⟨rfl, rfl⟩
              go_wp2_with fail
              go_roundw
              case rel =>
                have hN := HNX.out
                unfold nextC at hN
                rw [if_neg HNF.out] at hN
                obtain ⟨hx, hm, hw, hl, hb⟩ := HG.out
                exact ⟨j + 1, by rw [HYS.out]; omega, by go_num, hx, hm, by rw [hN]; exact hw, by rw [hN]; exact hl, hb⟩
              case measure => simp [intOf]; omega
          · obtain rfl : j = L := by omega
            have HG := Lib.hid (And.intro hx (And.intro hm (And.intro hw (And.intro hl hb))))
            have HJ := Lib.hid hj
            clear hx hm hw hl hb hj hys
            go_wp2_with fail
            go_meet
            case rel =>
              obtain ⟨hx, hm, hw, hl, hb⟩ := HG.out
              exact ⟨j, HJ.out, rfl, hx, hm, hw, hl, hb⟩
      case rest =>
        obtain ⟨j, hj, ej, hx, hm, hw, hl, hb⟩ := hcut
        obtain rfl : L = j := by
          simp only [Value.int.injEq, true_and] at ej
          omega
        have hys : ys.take L = ys := List.take_of_length_le (by rw [HLZ.out.2]; exact Nat.le_refl _)
        rw [hys] at hw hl
        have hzq : ∀ x ∈ MS.S m g qs, ∀ y : Addr, b = some y → 0 < L → y.block ≠ x := by
          intro x hx y hy h0 e
          obtain ⟨x', ex, hlt, _⟩ := H'.out.2.2 0 h0
          rw [hy] at ex
          cases ex
          have h5 := HL.out
          unfold MS.S at hx
          simp only [List.mem_cons] at hx
          rcases hx with rfl | rfl | hx
          · omega
          · omega
          · have := HQB.out x hx
            omega
        have HI := Lib.hid (inter_any hm (by omega) (by omega) (cx := cx) hx (H'.out.below hb) hzq c')
        have HW := Lib.hid hw
        have HB := Lib.hid hb
        have hsub : ∀ x ∈ MS.S m g qs, w.heap.size ≤ x ∧ x ≠ bw := by
          intro x hx'
          have h5 := HL.out
          unfold MS.S at hx'
          simp only [List.mem_cons] at hx'
          obtain ⟨curg, hgb, _⟩ := hm.e.mem.row.blk
          rcases hx' with rfl | rfl | hx'
          · exact ⟨by omega, hm.e.mem.blk.apart hw (by decide)⟩
          · exact ⟨by omega, hgb.apart hw (by decide)⟩
          · obtain ⟨i, hi, rfl⟩ := List.getElem_of_mem hx'
            have := hm.t i (by rw [← hm.q]; exact hi)
            have hg : qs.getD i 0 = qs[i] := by simp [hi]
            rw [hg] at this
            exact ⟨HQB.out _ (List.getElem_mem hi), Blk.apart this hw (by decide)⟩
        have HSUB := Lib.hid hsub
        have h20 := hm.e.at20
        clear hsub hx hm hw hl hb hzq hys ej hj
        go_wp2_with fail
        (with_reducible refine HI.out.mono ?_)
        rintro e w5 ⟨bi, st, rfl, lbi, hni, hmi, hfi⟩
        have hw5 := HW.out.fr hfi (fun e => (HSUB.out _ e).2 rfl)
        have hb5 := below_of_fr HB.out hfi (fun x hx => (HSUB.out x hx).1)
        have hclen : (picksC n (lensOf zs) ys).length = n := picksC_length _ _ _
        have i1 := hni.ints (by rw [hclen]; omega)
        have i2 := hw5.ints (by rw [hclen]; omega)
        rw [hclen] at i1 i2
        have HII := Lib.hid (keepints_any i1 i2 n n)
        have HM5 := Lib.hid hmi
        have HW5 := Lib.hid hw5
        have HB5 := Lib.hid hb5
        have HCL := Lib.hid hclen
        clear i1 i2 hmi hw5 hb5 hni hfi HI HW HB h20 hclen
        go_wp2_with fail
        (with_reducible refine HII.out.mono ?_)
        rintro e w6 ⟨rfl, d6, rfl⟩
        rw [decide_eq_true rfl]
        clear HII
        obtain ⟨C, hC⟩ : ∃ C, picksC n (lensOf zs) ys = C := ⟨_, rfl⟩
        have hc4 : ∀ j, C.getD j 0 ≤ 400 := by
          intro j
          rw [← hC]
          refine Nat.le_trans (picksC_le n (lensOf zs) (fun i => lensOf_le zs i) ys j) (by omega)
        have HC4 := Lib.hid hc4
        rw [hC] at HM5 HW5 HCL
        clear hC hc4
        go_wp2_with fail
        go_loopw [13] (fun i wr => ∃ j d : Nat, j ≤ n ∧ i = .int .i64 j ∧ wr = w5.drewN d) (fun i _ => n - (intOf i).toNat)
        case atStart => exact ⟨0, d6, by omega, rfl, rfl⟩
        case round =>
          obtain ⟨j, d, hj, rfl, rfl⟩ := hrel
          by_cases hlt : j < n
          · obtain ⟨x, rfl, _, hcx, hz0, hz1⟩ := (H.out.below (Nat.le_refl _) HB5.out).2.2 j hlt
            have cw := HW5.out.at_ (i := j) (by rw [HCL.out]; exact hlt)
            have h20 := HM5.out.e.at20
            have hcx : (w5.drewN d).cell? (x.add j) = some (.int .u8 (zs.getD j 0)) := hcx
            have cw : (w5.drewN d).cell? ⟨bw, j, none⟩ = some (.int .i64 ((C.getD j 0 : Nat) : Int)) := cw
            have h20 : (w5.drewN d).cell? ⟨p, 20, none⟩ = some (.pointer (some ⟨m, 0, none⟩)) := h20
            have hpk := fun (n' : Nat) => peek_any ((HM5.out.e.mem.drewN d).drewN n') j
            rw [HM5.out.o j hlt] at hpk
            have hlz := lensOf_at zs j (by rw [HLZ.out.1]; exact hlt)
            obtain ⟨z, hzz⟩ : ∃ z, zs.getD j 0 = z := ⟨_, rfl⟩
            rw [hzz] at hcx hz0 hz1 hlz
            obtain ⟨y, hyy⟩ : ∃ y, C.getD j 0 = y := ⟨_, rfl⟩
            rw [hyy] at cw hpk
            obtain ⟨v, hv⟩ : ∃ v : Nat, min y ((lensOf zs).getD j 0) = v := ⟨_, rfl⟩
            rw [hv] at hpk
            obtain ⟨yi, hyi⟩ : ∃ yi : Int, (y : Int) = yi := ⟨_, rfl⟩
            rw [hyi] at cw
            have hvv : (v : Int) = if z % 9 < yi then z % 9 else yi := by split <;> omega
            have HVV := Lib.hid hvv
            have hyi0 : 0 ≤ yi := by omega
            have hcy : C.getD j 0 ≤ 400 := HC4.out j
            have hyi9 : yi ≤ 400 := by omega
            clear hvv hv hyi hyy hzz hlz hcy
            have hrel : ∀ d', ∃ d2, (w5.drewN d).drewN d' = w5.drewN d2 := fun d' => ⟨_, World.drewN_drewN _ _ _⟩
            have HREL := Lib.hid hrel
            clear hrel
            generalize w5.drewN d = wd at *
            have hq := fun (d' : Nat) => (hpk d').mono (fun e w' (h : e = .returned (.int .u64 (v : Int)) ∧ wd.drewN d' = w') => (⟨h.1, h.2.symm⟩ : e = .returned (.int .u64 (v : Int)) ∧ w' = wd.drewN d'))
            clear hpk
            by_cases hlz : z % 9 < yi
            · have hvz : (v : Int) = z % 9 := by have := HVV.out; rw [if_pos hlz] at this; exact this
              have hb : ((v : Int) != z % 9) = false := by rw [hvz]; simp
              clear hvz
              go_wp2_with fail
              go_quiet ((go_at_call 20; exact Calls.quiet_of_same (hq _)))
              go_wp2_with fail
              go_roundw
              case rel =>
                obtain ⟨d2, h2⟩ := HREL.out nq
                exact ⟨j + 1, d2, by omega, by go_num, h2⟩
              case measure => simp [intOf]; omega
            · have hvz : (v : Int) = yi := by have := HVV.out; rw [if_neg hlz] at this; exact this
              have hb : ((v : Int) != yi) = false := by rw [hvz]; simp
              clear hvz
              go_wp2_with fail
              go_quiet ((go_at_call 20; exact Calls.quiet_of_same (hq _)))
              go_wp2_with fail
              go_roundw
              case rel =>
                obtain ⟨d2, h2⟩ := HREL.out nq
                exact ⟨j + 1, d2, by omega, by go_num, h2⟩
              case measure => simp [intOf]; omega
          · obtain rfl : j = n := by omega
            go_wp2_with fail
            go_ret
            exact ⟨rfl, HB5.out.trans ((below_drewN _ _).mono HB5.out.size)⟩
end Go.Proofs.Ytllkehdokgfafaa
