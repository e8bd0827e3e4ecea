/-
  The reference's Coder as a writer: the contract of Put.
-/
import Derived.Test.YtnpnamgeajifkaaCfRef
namespace Go.Proofs.Ytnpnamgeajifkaa
open Go Go.RowKit

theorem info_u8 : (Try.prog.info? 5).map (fun i => (i.zero, i.size, i.bytes)) = some (some (.int .u8 0), 1, 1) := by kernel_rfl

/-- The slice v is the call's own and holds the bytes bs. -/
def OwnB (w : World) (base : Nat) (v : Value) (bs : List Int) : Prop := w.ownsRow base 5 1 v bs.length (bs.map (Value.int .u8))
theorem OwnB.nil (w : World) (base : Nat) : OwnB w base (.slice none 0 0) [] := World.ownsRow_nil w base _ _
theorem OwnB.lt {w : World} {base : Nat} {v : Value} {bs : List Int} (h : OwnB w base v bs) : ∀ k, v.ownBlock = some k → base ≤ k ∧ k < w.heap.size := World.ownsRow.lt h
theorem OwnB.same {w w' : World} {base : Nat} {v : Value} {bs : List Int} (h : OwnB w base v bs) (hk : ∀ k, v.ownBlock = some k → w'.heap[k]? = w.heap[k]?) : OwnB w' base v bs := by
  refine ⟨h.1, ?_⟩
  rcases h.2 with h2 | ⟨g, cap, cur, rfl, h2, hg, rest⟩
  · exact .inl h2
  · exact .inr ⟨g, cap, cur, rfl, h2, (hk g rfl).trans hg, rest⟩
theorem OwnB.mono {w : World} {base base' : Nat} {v : Value} {bs : List Int} (h : OwnB w base v bs) (hb : base' ≤ base) : OwnB w base' v bs := by
  refine ⟨h.1, ?_⟩
  rcases h.2 with h2 | ⟨g, cap, cur, rfl, h2, rest⟩
  · exact .inl h2
  · exact .inr ⟨g, cap, cur, rfl, Nat.le_trans hb h2, rest⟩
theorem OwnB.below {w w' : World} {base : Nat} {v : Value} {bs : List Int} (h : OwnB w base v bs) (hb : Below w.heap.size w w') : OwnB w' base v bs := h.same fun k hk => hb.block k (h.lt k hk).2
theorem OwnB.form {w : World} {base : Nat} {v : Value} {bs : List Int} {n : Nat} (h : OwnB w base v bs) (hn : bs.length = n) : ∃ a c, v = .slice a n c ∧ n ≤ c := by
  subst hn
  rcases h.2 with ⟨rfl, h2⟩ | ⟨g, cap, cur, rfl, h2, hg, hn, hc, _, _⟩
  · rw [h2]
    exact ⟨none, 0, rfl, Nat.le_refl _⟩
  · exact ⟨_, cap, rfl, hn⟩
theorem bytes_one (bs : List Int) : ∀ u ∈ bs.map (Value.int .u8), u.oneCell' = true := by
  intro u hu
  obtain ⟨x, _, rfl⟩ := List.mem_map.1 hu
  rfl
/-- An append of one byte at the operation, for the walk. -/
theorem wpList_appB {w : World} {ops : Array Oper} {rest : List Oper} {o : Oper} {a : Act} {Q : Exit → Act → World → Prop} (hgd : o.guard = none) (s x : Operand)
    (ho : o.op = .call { callee := .builtin .append, args := #[s, x], argTypes := #[26, 26] })
    {base : Nat} {v : Value} {bs : List Int} (hs : a.eval s = v) (hown : OwnB w base v bs) {ad : Addr} {c : Nat} {b : Int} (hx : a.eval x = .slice (some ad) 1 c)
    (hc : w.cell? (ad.add 0) = some (.int .u8 b)) (hn : bs.length + 1 ≤ 1000000) (hb : base ≤ w.heap.size)
    (h : ∀ v' w', OwnB w' base v' (bs ++ [b]) → w.grownBy w' v.ownBlock → wpList Try.prog ops Q rest (a.put o.dst v') w') :
    wpList Try.prog ops Q (o :: rest) a w := by
  obtain ⟨i0, hi, hz0, hz1, hz2⟩ := info_parts info_u8
  refine wpList_append_own_at w hgd s x 26 ho base 5 i0 _ 1 1 Try.underlying26 hi hz0 hz1 hz2 rfl (by omega) v bs.length (bs.map (Value.int .u8)) hs hown ad 1 c [.int .u8 b] hx rfl ?_ (bytes_one [b]) (by unfold maxLen; omega) (by omega) hb ?_
  · intro j u hu
    match j, hu with
    | 0, hu => exact hc.trans hu
    | j + 1, hu => simp at hu
  · intro v' w' h1 h2 _ _
    refine h v' w' ?_ h2
    unfold OwnB
    rw [List.map_append, List.length_append]
    exact h1

/-- What is left as it was when a row of bytes of the call's own (from B on) grows, kept in the block r. -/
structure FrE (B r : Nat) (w w' : World) : Prop where
  os : w'.os = w.os
  tape : w'.tape = w.tape
  output : w'.output = w.output
  size : w.heap.size ≤ w'.heap.size
  block : ∀ k, k < w.heap.size → k ≠ r → (k < B ∨ ∃ t cs, Blk w k t cs ∧ t ≠ 5) → w'.heap[k]? = w.heap[k]?
theorem FrE.refl (B r : Nat) (w : World) : FrE B r w w := ⟨rfl, rfl, rfl, Nat.le_refl _, fun _ _ _ _ => rfl⟩
theorem FrE.blk {B r : Nat} {w w' : World} (h : FrE B r w w') {g : Nat} {t : TypeId} {cs : Array Value} (hb : Blk w g t cs) (hr : g ≠ r) (ht : t ≠ 5) : Blk w' g t cs :=
  hb.of_same (h.block g hb.lt hr (.inr ⟨t, cs, hb, ht⟩))
/-- What was there at the beginning. -/
theorem FrE.below {B r : Nat} {w0 w w' : World} (h : FrE B r w w') (hb : Below w0.heap.size w0 w) (h0 : w0.heap.size ≤ B) (hr : w0.heap.size ≤ r) : Below w0.heap.size w0 w' :=
  ⟨h.os.trans hb.os, h.tape.trans hb.tape, h.output.trans hb.output, Nat.le_trans hb.size h.size, fun k hk => (h.block k (Nat.lt_of_lt_of_le hk hb.size) (by omega) (.inl (by omega))).trans (hb.block k hk)⟩

abbrev fit (e : Int × Int) : Bool := decide (0 ≤ e.1) && decide (e.1 < e.2)
/-- The Coder r has been given the numbers pre, which are the first ones of c's. -/
def EncSt (c : Cfg) (w : World) (B r : Nat) (pre : List (Int × Int)) : Prop :=
  ∃ (v : Value) (bs : List Int) (bad : Bool), Blk w r 59 #[.slice none 0 0, v, .int .i64 0, .bool bad] ∧ OwnB w B v bs ∧ bs.length ≤ pre.length ∧
    (bad = false → pre.all fit = true ∧ bs = pre.map (·.1)) ∧ (bad = true → fits c = false) ∧ r < B ∧ B ≤ w.heap.size
theorem EncSt.below {c : Cfg} {w w' : World} {B r : Nat} {pre : List (Int × Int)} (h : EncSt c w B r pre) (hb : Below w.heap.size w w') : EncSt c w' B r pre := by
  obtain ⟨v, bs, bad, h1, h2, h3, h4, h5, h6, h7⟩ := h
  exact ⟨v, bs, bad, h1.below hb, h2.below hb, h3, h4, h5, h6, Nat.le_trans h7 hb.size⟩
theorem EncSt.alloc {c : Cfg} {w : World} {B r : Nat} {pre : List (Int × Int)} (h : EncSt c w B r pre) (o : Obj) : EncSt c (w.alloc o) B r pre := h.below (below_one w o)
theorem EncSt.drew {c : Cfg} {w : World} {B r : Nat} {pre : List (Int × Int)} (h : EncSt c w B r pre) : EncSt c w.drew B r pre := h.below (below_drew (Below.refl _ _))

/-- What Put gives. -/
def PutN (c : Cfg) (B r : Nat) (pre : List (Int × Int)) (w : World) (e : Ending) (w' : World) : Prop :=
  e = .returned (.tuple #[]) ∧ EncSt c w' B r pre ∧ FrE B r w w'

theorem all_snoc (pre : List (Int × Int)) (e : Int × Int) : (pre ++ [e]).all fit = (pre.all fit && fit e) := by simp
theorem fits_no {c : Cfg} {e : Int × Int} (h : e ∈ puts c) (hf : fit e = false) : fits c = false := List.all_eq_false.2 ⟨e, h, by rw [show (decide (0 ≤ e.1) && decide (e.1 < e.2)) = false from hf]; simp⟩

theorem size_set (w : World) (p : Addr) (u : Value) : (w.setCell p u).heap.size = w.heap.size := by simp [World.setCell]
/-- What an append and the store of the new row leave. -/
theorem put_grow {c : Cfg} {w w2 : World} {B r : Nat} {pre : List (Int × Int)} {v k : Int} {bs : List Int} {bad : Bool} {oa : Option Addr} {m oc : Nat} {v2 : Value}
    (hb : Blk w r 59 #[.slice none 0 0, .slice oa m oc, .int .i64 0, .bool bad]) (ho : OwnB w B (.slice oa m oc) bs) (hlen : bs.length ≤ pre.length)
    (hno : bad = false → pre.all fit = true ∧ bs = pre.map (·.1)) (hyes : bad = true → fits c = false) (hr : r < B) (hB : B ≤ w.heap.size) (hfit : fit (v, k) = true)
    (hown : OwnB w2 B v2 (bs ++ [v])) (hg : (w.alloc (.cells #[.int .u8 v] 5)).grownBy w2 (Value.slice oa m oc).ownBlock) :
    ∃ pa m2 pc, v2 = .slice pa m2 pc ∧ w2.cell? ⟨r, 1, none⟩ = some (.slice oa m oc) ∧ w2.frozen? ⟨r, 1, none⟩ = false ∧
      EncSt c (w2.setCell ⟨r, 1, none⟩ (.slice pa m2 pc)) B r (pre ++ [(v, k)]) ∧ FrE B r w (w2.setCell ⟨r, 1, none⟩ (.slice pa m2 pc)) := by
  have HO := ho.below (below_one w (.cells #[.int .u8 v] 5))
  have HB := hb.alloc (.cells #[.int .u8 v] 5)
  have hrow : ∀ x, (Value.slice oa m oc).ownBlock = some x → B ≤ x := fun x hx => (HO.lt x hx).1
  have hbl : Blk w2 r 59 #[.slice none 0 0, .slice oa m oc, .int .i64 0, .bool bad] := HB.grown hg (fun e => by have := hrow r e; omega)
  obtain ⟨pa, pc, rfl, _⟩ := hown.form rfl
  have hp := hbl.put 1 (.slice pa (bs ++ [v]).length pc)
  simp only [List.setIfInBounds_toArray, List.set_cons_zero, List.set_cons_succ] at hp
  have hs2 := hg.size
  have hs1 : w.heap.size < (w.alloc (.cells #[.int .u8 v] 5)).heap.size := by simp
  refine ⟨pa, _, pc, rfl, hbl.at_ 1, hbl.free 1, ?_, ?_⟩
  · refine ⟨_, _, bad, hp, hown.same fun x hx => Below.heap_setCell _ ⟨r, 1, none⟩ _ x (by have := (hown.lt x hx).1; show x ≠ r; omega), by simp; exact hlen, fun hbad => ?_, hyes, hr, ?_⟩
    · obtain ⟨g1, g2⟩ := hno hbad
      exact ⟨by rw [all_snoc, g1, hfit]; rfl, by rw [g2]; simp⟩
    · rw [size_set]
      omega
  · refine ⟨hg.os, hg.tape, hg.output, ?_, fun x hx hne hor => ?_⟩
    · rw [size_set]
      omega
    · refine (Below.heap_setCell _ ⟨r, 1, none⟩ _ x hne).trans ?_
      refine (hg.block x (by omega) (fun e => ?_)).trans (Below.heap_alloc w _ x hx)
      have hxB := hrow x e.symm
      rcases hor with h1 | ⟨t, cs, hbx, ht⟩
      · omega
      · rcases HO.2 with ⟨e2, _⟩ | ⟨g2, cap2, cur2, e2, _, hg2, _⟩
        · rw [e2] at e
          simp [Value.ownBlock] at e
        · rw [e2] at e
          simp [Value.ownBlock] at e
          subst e
          have hb2 := hbx.alloc (.cells #[.int .u8 v] 5)
          unfold Blk at hb2
          rw [hb2] at hg2
          simp only [Option.some.injEq, Obj.cells.injEq] at hg2
          exact ht hg2.2.1

set_option maxHeartbeats 2000000 in
theorem put_any {c : Cfg} {w : World} {B r : Nat} {pre : List (Int × Int)} (h : EncSt c w B r pre) (v k : Int) (hk : k ≤ 200) (hm : (v, k) ∈ puts c) (hl : pre.length ≤ 100000) :
    Calls Try.prog 36 #[.pointer (some ⟨r, 0, none⟩), .int .i64 v, .int .i64 k] w (PutN c B r (pre ++ [(v, k)]) w) := by
  obtain ⟨o, bs, bad, hb, ho, hlen, hno, hyes, hr, hB⟩ := h
  have hrl := hb.lt
  by_cases hf : 0 ≤ v ∧ v < k
  · have hfit : fit (v, k) = true := by simpa [fit] using hf
    obtain ⟨hv0, hvk⟩ := hf
    have hv1 : v ≤ 255 := by omega
    obtain ⟨m, hmm⟩ : ∃ m, bs.length = m := ⟨_, rfl⟩
    obtain ⟨oa, oc, rfl, _⟩ := ho.form hmm
    have c1 : w.cell? ⟨r, 1, none⟩ = some (.slice oa m oc) := hb.at_ 1
    have ho1 : OwnB (w.alloc (.cells #[.int .u8 v] 5)) B (.slice oa m oc) bs := ho.below (below_one w _)
    have HO := Lib.hid ho1
    have HU := Lib.hid (show (w.alloc (.cells #[.int .u8 v] 5)).cell? ((⟨w.heap.size, 0, none⟩ : Addr).add 0) = some (.int .u8 v) from (Blk.made w 5 #[.int .u8 v]).at_ 0)
    have hBs : B ≤ (w.alloc (.cells #[.int .u8 v] 5)).heap.size := by simp; omega
    have HML := Lib.hid (show bs.length + 1 ≤ 1000000 by omega)
    have HG := Lib.hid (fun (v2 : Value) (w2 : World) => put_grow (v2 := v2) (w2 := w2) hb ho hlen hno hyes hr hB hfit)
    clear ho ho1 hb hno hyes hmm hlen
    go_enter Try.func36, Try.ntmps36
    go_wp2_with
      (at_builtin
       refine wpList_appB rfl _ _ rfl rfl HO.out rfl HU.out HML.out hBs ?_
       intro v2 w2 hown hg
       obtain ⟨pa, m2, pc, rfl, d1, f1, g1, g2⟩ := HG.out v2 w2 hown hg
       have HW := Lib.hid g1
       have HF := Lib.hid g2
       clear g1 g2 hown hg)
    go_end0
    exact ⟨rfl, HW.out, HF.out⟩
  · have hfit : fit (v, k) = false := by
      unfold fit
      rcases Int.lt_or_le v 0 with h1 | h1
      · simp; omega
      · simp; omega
    have hno2 := fits_no hm hfit
    have c3 : w.cell? ⟨r, 3, none⟩ = some (.bool bad) := hb.at_ 3
    have f3 := hb.free 3
    have hp := hb.put 3 (.bool true)
    simp only [List.setIfInBounds_toArray, List.set_cons_zero, List.set_cons_succ] at hp
    have hW : EncSt c (w.setCell ⟨r, 3, none⟩ (.bool true)) B r (pre ++ [(v, k)]) :=
      ⟨o, bs, true, hp, ho.same fun x hx => Below.heap_setCell _ ⟨r, 3, none⟩ _ x (by have := (ho.lt x hx).1; show x ≠ r; omega), (by simp; omega), (fun e => absurd e (by simp)), fun _ => hno2, hr, by simpa [World.setCell] using hB⟩
    have hF : FrE B r w (w.setCell ⟨r, 3, none⟩ (.bool true)) :=
      ⟨rfl, rfl, rfl, by simp [World.setCell], fun x hx hne _ => Below.heap_setCell _ ⟨r, 3, none⟩ _ x hne⟩
    have HW := Lib.hid hW
    have HF := Lib.hid hF
    clear hb ho hno hyes hp hW hF hlen hm hno2 hfit
    by_cases h0 : v < 0
    · clear hf
      go_enter Try.func36, Try.ntmps36
      go_wp2
      go_end0
      exact ⟨rfl, HW.out, HF.out⟩
    · have hkv : k ≤ v := by omega
      clear hf
      go_enter Try.func36, Try.ntmps36
      go_wp2
      go_end0
      exact ⟨rfl, HW.out, HF.out⟩
end Go.Proofs.Ytnpnamgeajifkaa
