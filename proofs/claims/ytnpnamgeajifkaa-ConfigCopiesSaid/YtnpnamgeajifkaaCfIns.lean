/-
  Contracts of reader and readInstr.
-/
import Derived.Test.YtnpnamgeajifkaaCfRead
namespace Go.Proofs.Ytnpnamgeajifkaa
open Go Go.RowKit

/-- The value of a triple. -/
abbrev ins (x : T3) : Value := .agg #[.int .i64 x.1, .int .i64 x.2.1, .int .i64 x.2.2]
def InsRead (B g : Nat) (zs : List Int) (n le : Int) (i : Nat) (w : World) (e : Ending) (w' : World) : Prop :=
  e = .returned (ins (rdI (strm zs) n le i).1) ∧ Rdr w' B g zs (rdI (strm zs) n le i).2 ∧ Fr [g] w w'

theorem reader_any {w : World} {B : Nat} {a : Option Addr} {n : Nat} {zs : List Int} (h : InB w B a n zs) (c : Nat) (hc : n ≤ c) (hB : B ≤ w.heap.size) :
    Calls Try.prog 32 #[.slice a n c] w fun e w' => e = .returned (.func (.func 47) #[] #[.pointer (some ⟨w.heap.size, 0, none⟩)]) ∧ Rdr w' B w.heap.size zs 0 ∧ Below w.heap.size w w' := by
  have hmf : ∀ (fn : Fn) (first cap : Array Value) (w : World), (Instr.makeFunc fn first cap).run Try.prog w = .ok (.func fn first cap) w := fun _ _ _ _ => rfl
  have HR := Lib.hid (show Rdr (w.alloc (.cells #[.slice a n c] 26)) B w.heap.size zs 0 from
    ⟨a, n, c, Blk.made w 26 #[.slice a n c], by rw [List.drop_zero]; exact h.below hB ((Below.refl _ _).alloc hB _), hc, hB⟩)
  clear h
  go_enter Try.func32, Try.ntmps32
  go_wp2
  go_ret
  exact ⟨rfl, HR.out, below_one _ _⟩

theorem Blk.put3 {w : World} {g : Nat} {t : TypeId} {a0 a1 a2 : Value} (h : Blk w g t #[a0, a1, a2]) (v0 v1 v2 : Value) : Blk (((w.setCell ⟨g, 0, none⟩ v0).setCell ⟨g, 1, none⟩ v1).setCell ⟨g, 2, none⟩ v2) g t #[v0, v1, v2] := by
  have := ((h.put 0 v0).put 1 v1).put 2 v2
  simpa only [List.setIfInBounds_toArray, List.set_cons_zero, List.set_cons_succ] using this
theorem fr3 (w : World) (g : Nat) (v0 v1 v2 : Value) : Fr [g] w (((w.setCell ⟨g, 0, none⟩ v0).setCell ⟨g, 1, none⟩ v1).setCell ⟨g, 2, none⟩ v2) :=
  (((Fr.refl [g] w).setCell (p := ⟨g, 0, none⟩) (.inl (List.mem_singleton.2 rfl)) v0).setCell (p := ⟨g, 1, none⟩) (.inl (List.mem_singleton.2 rfl)) v1).setCell (p := ⟨g, 2, none⟩) (.inl (List.mem_singleton.2 rfl)) v2

/-- What is known on the way: block d (the result) holds zeros, block c the instruction. -/
structure InsSt (w0 : World) (B g : Nat) (zs : List Int) (i : Nat) (c : Nat) (cs : Array Value) (w : World) : Prop where
  rd : Rdr w B g zs i
  fr : Fr [g] w0 w
  b : Blk w c 47 cs
  new : w0.heap.size < c
  d : Blk w w0.heap.size 47 #[.int .i64 0, .int .i64 0, .int .i64 0]
theorem InsSt.step {w0 w w' : World} {B g c : Nat} {zs : List Int} {i : Nat} {cs : Array Value} (h : InsSt w0 B g zs i c cs w) (hg : g < w0.heap.size) (hB : B ≤ g) (hr : Rdr w' B g zs (i + 1)) (hf : Fr [g] w w') (j : Nat) (u : Value) :
    InsSt w0 B g zs (i + 1) c (cs.setIfInBounds j u) (w'.setCell ⟨c, j, none⟩ u) := by
  have hn := h.new
  have hc := h.b.of_same (hf.block _ h.b.lt (by simp; omega))
  have hd := h.d.of_same (hf.block _ h.d.lt (by simp; omega))
  exact ⟨hr.set (by show B ≤ c; omega) (by show c ≠ g; omega) u, (h.fr.trans hf).setCell (.inr (by show w0.heap.size ≤ c; omega)) u, hc.put j u, hn, hd.of_same (Below.heap_setCell _ _ _ _ (by show w0.heap.size ≠ c; omega))⟩
theorem InsSt.at_ {w0 w w' : World} {B g c : Nat} {zs : List Int} {i : Nat} {cs : Array Value} (h : InsSt w0 B g zs i c cs w) (hg : g < w0.heap.size) (hf : Fr [g] w w') (j : Nat) : w'.cell? ⟨c, j, none⟩ = cs[j]? ∧ w'.frozen? ⟨c, j, none⟩ = false :=
  have hn := h.new
  have hc := h.b.of_same (hf.block _ h.b.lt (by simp; omega))
  ⟨hc.at_ j, hc.free j⟩
/-- The first step: the block c is made. -/
theorem insSt_first {w w1 : World} {B g : Nat} {zs : List Int} {i : Nat} (hr : Rdr w1 B g zs i) (hg : g < w.heap.size) (hf : Fr [g] (w.alloc (.cells #[.int .i64 0, .int .i64 0, .int .i64 0] 47)) w1) (o : Int) :
    InsSt w B g zs i w1.heap.size #[.int .i64 o, .int .i64 0, .int .i64 0] (w1.alloc (.cells #[.int .i64 o, .int .i64 0, .int .i64 0] 47)) := by
  have hs := hf.size
  have hd := (Blk.made w 47 #[.int .i64 0, .int .i64 0, .int .i64 0]).of_same (hf.block _ (by simp) (by simp; omega))
  refine ⟨hr.alloc _, (((Fr.refl [g] w).alloc _).trans hf).alloc _, Blk.made _ _ _, ?_, hd.alloc _⟩
  simp at hs
  omega

/-- The end: the instruction is copied into the result. -/
theorem insSt_end {w0 w : World} {B g c : Nat} {zs : List Int} {i : Nat} {cs : Array Value} (h : InsSt w0 B g zs i c cs w) (hg : g < w0.heap.size) (hB : B ≤ g) (v0 v1 v2 : Value) :
    Blk (((w.setCell ⟨w0.heap.size, 0, none⟩ v0).setCell ⟨w0.heap.size, 1, none⟩ v1).setCell ⟨w0.heap.size, 2, none⟩ v2) w0.heap.size 47 #[v0, v1, v2] ∧
    Rdr (((w.setCell ⟨w0.heap.size, 0, none⟩ v0).setCell ⟨w0.heap.size, 1, none⟩ v1).setCell ⟨w0.heap.size, 2, none⟩ v2) B g zs i ∧
    Fr [g] w0 (((w.setCell ⟨w0.heap.size, 0, none⟩ v0).setCell ⟨w0.heap.size, 1, none⟩ v1).setCell ⟨w0.heap.size, 2, none⟩ v2) :=
  ⟨h.d.put3 v0 v1 v2, h.rd.fr (fr3 w w0.heap.size v0 v1 v2) (fun s hs => by simp at hs; omega), h.fr.drop (fr3 w w0.heap.size v0 v1 v2) (fun s hs => by simp at hs; omega)⟩

set_option maxRecDepth 20000 in
set_option maxHeartbeats 4000000 in
theorem readinstr_any {w : World} {B g : Nat} {zs : List Int} {i : Nat} (h : Rdr w B g zs i) (n le : Int) (hn : 1 ≤ n) (hn' : n ≤ 1000) (hl : 1 ≤ le) (hl' : le ≤ 1000) :
    Calls Try.prog 34 #[.func (.func 47) #[] #[.pointer (some ⟨g, 0, none⟩)], .int .i64 n, .int .i64 le] w (InsRead B g zs n le i w) := by
  have hg := h.lt
  have hB := h.le
  have HR0 := Lib.hid (h.alloc (.cells #[.int .i64 0, .int .i64 0, .int .i64 0] 47))
  clear h
  obtain ⟨f, hf⟩ : ∃ f, strm zs = f := ⟨_, rfl⟩
  have HFF := Lib.hid hf
  have m3 := modk (f i) (k := 3) (by omega)
  have m4 := mod4 (f (i + 1))
  have mn := modk (f (i + 1)) hn
  have ml := modk (f (i + 2)) hl
  clear hf
  have ht : f i % 3 = 0 ∨ f i % 3 = 1 ∨ f i % 3 = 2 := by omega
  clear m3
  rcases ht with ht | ht | ht
  · have HE := Lib.hid (show rdI f n le i = ((0, 1 + f (i + 1) % 4, 0), i + 2) by unfold rdI; rw [if_pos ht])
    have HT := Lib.hid ht
    clear ht
    go_enter Try.func34, Try.ntmps34
    go_wp2_with fail
    refine (next_any HR0.out _ (by omega) (by omega)).mono ?_
    rintro e w1 ⟨rfl, hr, hf⟩
    rw [HFF.out, HT.out]
    have S1 := Lib.hid (insSt_first hr hg hf 0)
    clear hr hf HR0
    go_wp2_with fail
    refine (next_any S1.out.rd _ (by omega) (by omega)).mono ?_
    rintro e w2 ⟨rfl, hr, hf⟩
    rw [HFF.out]
    obtain ⟨c1, f1⟩ : w2.cell? ⟨w1.heap.size, 1, none⟩ = some (.int .i64 0) ∧ w2.frozen? ⟨w1.heap.size, 1, none⟩ = false := S1.out.at_ hg hf 1
    have c0 : w2.cell? ⟨w1.heap.size, 0, none⟩ = some (.int .i64 0) := (S1.out.at_ hg hf 0).1
    have c2 : w2.cell? ⟨w1.heap.size, 2, none⟩ = some (.int .i64 0) := (S1.out.at_ hg hf 2).1
    have S2 := Lib.hid (S1.out.step hg hB hr hf 1 (.int .i64 (1 + f (i + 1) % 4)))
    have e0 := S2.out.d.at_ 0
    have e1 := S2.out.d.at_ 1
    have e2 := S2.out.d.at_ 2
    have g0 := S2.out.d.free 0
    have g1 := S2.out.d.free 1
    have g2 := S2.out.d.free 2
    have hne := S2.out.new
    clear hr hf S1
    go_wp2
    obtain ⟨hD, hR, hF⟩ := insSt_end S2.out hg hB (.int .i64 0) (.int .i64 (1 + f (i + 1) % 4)) (.int .i64 0)
    refine bodyPost_ret (results_cell_row (P := Try.prog) Try.results34 _ _ w.heap.size 47 _ (0, 0) _ rfl hD Try.underlying47 rfl (by kernel_rfl)) rfl ?_
    refine ⟨?_, ?_, hF⟩
    · rw [HFF.out, HE.out]
    · rw [HFF.out, HE.out]
      exact hR
  · have HE := Lib.hid (show rdI f n le i = ((1, f (i + 1) % n, f (i + 2) % le), i + 3) by unfold rdI; rw [if_neg (by omega), if_pos ht])
    have HT := Lib.hid ht
    clear ht
    go_enter Try.func34, Try.ntmps34
    go_wp2_with fail
    refine (next_any HR0.out _ (by omega) (by omega)).mono ?_
    rintro e w1 ⟨rfl, hr, hf⟩
    rw [HFF.out, HT.out]
    have S1 := Lib.hid (insSt_first hr hg hf 1)
    clear hr hf HR0
    go_wp2_with fail
    refine (next_any S1.out.rd _ (by omega) (by omega)).mono ?_
    rintro e w2 ⟨rfl, hr, hf⟩
    rw [HFF.out]
    obtain ⟨c1, f1⟩ : w2.cell? ⟨w1.heap.size, 1, none⟩ = some (.int .i64 0) ∧ w2.frozen? ⟨w1.heap.size, 1, none⟩ = false := S1.out.at_ hg hf 1
    have S2 := Lib.hid (S1.out.step hg hB hr hf 1 (.int .i64 (f (i + 1) % n)))
    clear hr hf S1
    go_wp2_with fail
    refine (next_any S2.out.rd _ (by omega) (by omega)).mono ?_
    rintro e w3 ⟨rfl, hr, hf⟩
    rw [HFF.out]
    obtain ⟨c2, f2⟩ : w3.cell? ⟨w1.heap.size, 2, none⟩ = some (.int .i64 0) ∧ w3.frozen? ⟨w1.heap.size, 2, none⟩ = false := S2.out.at_ hg hf 2
    have c0 : w3.cell? ⟨w1.heap.size, 0, none⟩ = some (.int .i64 1) := (S2.out.at_ hg hf 0).1
    have c1' : w3.cell? ⟨w1.heap.size, 1, none⟩ = some (.int .i64 (f (i + 1) % n)) := (S2.out.at_ hg hf 1).1
    have S3 := Lib.hid (S2.out.step hg hB hr hf 2 (.int .i64 (f (i + 2) % le)))
    have e0 := S3.out.d.at_ 0
    have e1 := S3.out.d.at_ 1
    have e2 := S3.out.d.at_ 2
    have g0 := S3.out.d.free 0
    have g1 := S3.out.d.free 1
    have g2 := S3.out.d.free 2
    have hne := S3.out.new
    clear hr hf S2 c1 f1
    go_wp2
    obtain ⟨hD, hR, hF⟩ := insSt_end S3.out hg hB (.int .i64 1) (.int .i64 (f (i + 1) % n)) (.int .i64 (f (i + 2) % le))
    refine bodyPost_ret (results_cell_row (P := Try.prog) Try.results34 _ _ w.heap.size 47 _ (0, 0) _ rfl hD Try.underlying47 rfl (by kernel_rfl)) rfl ?_
    refine ⟨?_, ?_, hF⟩
    · rw [HFF.out, HE.out]
    · rw [HFF.out, HE.out]
      exact hR
  · have HE := Lib.hid (show rdI f n le i = ((2, f (i + 1) % 4, 0), i + 2) by unfold rdI; rw [if_neg (by omega), if_neg (by omega)])
    have HT := Lib.hid ht
    clear ht
    go_enter Try.func34, Try.ntmps34
    go_wp2_with fail
    refine (next_any HR0.out _ (by omega) (by omega)).mono ?_
    rintro e w1 ⟨rfl, hr, hf⟩
    rw [HFF.out, HT.out]
    have S1 := Lib.hid (insSt_first hr hg hf 2)
    clear hr hf HR0
    go_wp2_with fail
    refine (next_any S1.out.rd _ (by omega) (by omega)).mono ?_
    rintro e w2 ⟨rfl, hr, hf⟩
    rw [HFF.out]
    obtain ⟨c1, f1⟩ : w2.cell? ⟨w1.heap.size, 1, none⟩ = some (.int .i64 0) ∧ w2.frozen? ⟨w1.heap.size, 1, none⟩ = false := S1.out.at_ hg hf 1
    have c0 : w2.cell? ⟨w1.heap.size, 0, none⟩ = some (.int .i64 2) := (S1.out.at_ hg hf 0).1
    have c2 : w2.cell? ⟨w1.heap.size, 2, none⟩ = some (.int .i64 0) := (S1.out.at_ hg hf 2).1
    have S2 := Lib.hid (S1.out.step hg hB hr hf 1 (.int .i64 (f (i + 1) % 4)))
    have e0 := S2.out.d.at_ 0
    have e1 := S2.out.d.at_ 1
    have e2 := S2.out.d.at_ 2
    have g0 := S2.out.d.free 0
    have g1 := S2.out.d.free 1
    have g2 := S2.out.d.free 2
    have hne := S2.out.new
    clear hr hf S1
    go_wp2
    obtain ⟨hD, hR, hF⟩ := insSt_end S2.out hg hB (.int .i64 2) (.int .i64 (f (i + 1) % 4)) (.int .i64 0)
    refine bodyPost_ret (results_cell_row (P := Try.prog) Try.results34 _ _ w.heap.size 47 _ (0, 0) _ rfl hD Try.underlying47 rfl (by kernel_rfl)) rfl ?_
    refine ⟨?_, ?_, hF⟩
    · rw [HFF.out, HE.out]
    · rw [HFF.out, HE.out]
      exact hR
end Go.Proofs.Ytnpnamgeajifkaa
