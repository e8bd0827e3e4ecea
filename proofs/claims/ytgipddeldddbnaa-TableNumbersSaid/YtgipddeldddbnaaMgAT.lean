/-
  Rows of the call's own beside other blocks.
  Records as rows of the call's own: other blocks change, a record with children is appended. No function is named.
  Package memory: Cas.
  Package memory: Store.
  Package clock: Now.
-/
import Derived.Test.YtgipddeldddbnaaRecA
import Derived.Laws.AppendOwnNone
import Derived.Test.YtgipddeldddbnaaMemAcc
import Derived.Test.YtgipddeldddbnaaMgAM
import Derived.WalkSpells
import Derived.WalkLawsBesides
import Derived.Lib.Hide
import Derived.Deep.RegionHeld3
import Derived.IntWalk
namespace Go.Proofs.Ytgipddeldddbnaa
open Go Go.RowKit
set_option linter.unusedSimpArgs false

theorem ty_at {w : World} {k : Nat} {t t' : TypeId} {cs cs' : Array Value} (h : Blk w k t cs) (h' : w.heap[k]? = some (Obj.cells cs' t' (0, 0))) : t = t' := by
  unfold Blk at h
  rw [h] at h'
  simp only [Option.some.injEq, Obj.cells.injEq] at h'
  exact h'.2.1
theorem row_frS {w w' : World} {S : List Nat} {base : Nat} {t : TypeId} {s : Nat} {v : Value} {n : Nat} {vs : List Value} (h : w.ownsRow base t s v n vs) (hf : Fr S w w') (hn : ∀ k, v.ownBlock = some k → k ∉ S) : w'.ownsRow base t s v n vs :=
  row_same h (fun k hk => hf.block k (World.ownsRow.lt h k hk).2 (hn k hk))
end Go.Proofs.Ytgipddeldddbnaa

namespace Go.Proofs.Ytgipddeldddbnaa
open Go Go.RowKit
set_option linter.unusedSimpArgs false

theorem OwnR.frS {w w' : World} {S : List Nat} {B : Nat} {v : Value} {rs : List Rec} (h : OwnR w B v rs) (hf : Fr S w w') (hn : ∀ k, v.ownBlock = some k → k ∉ S) (hi : ∀ (k : Nat) (cs : Array Value), k ∈ S → w.heap[k]? ≠ some (Obj.cells cs 3 (0, 0))) : OwnR w' B v rs := by
  obtain ⟨ks, a, b, c⟩ := h
  refine ⟨ks, a, row_frS b hf hn, fun i hi' => row_frS (c i hi') hf (fun k hk hm => ?_)⟩
  rcases (c i hi').2 with ⟨e, _⟩ | ⟨g, cap, cur, e, _, hg, _⟩
  · rw [e] at hk
    simp [Value.ownBlock] at hk
  · rw [e] at hk
    simp only [Value.ownBlock, Option.some.injEq] at hk
    subst hk
    exact hi g cur hm hg

theorem info_recF : (Try.prog.info? 55).map (fun i => (i.zero, i.size, i.bytes)) = some (some (.agg #[.int .i64 0, .int .i64 0, .int .i64 0, .int .i64 0, .int .i64 0, .slice none 0 0, .bool false]), 7, 72) := by kernel_rfl
theorem cellsR_app : ∀ (l : List Rec) (ks : List Value) (r : Rec) (k : Value), ks.length = l.length → cellsR (l ++ [r]) (ks ++ [k]) = cellsR l ks ++ rcl r k
  | [], [], _, _, _ => rfl
  | [], _ :: _, _, _, h => by simp at h
  | _ :: _, [], _, _, h => by simp at h
  | e :: l, x :: ks, r, k, h => by
    have := cellsR_app l ks r k (by simpa using h)
    simp only [List.cons_append, cellsR, List.headD_cons, List.tail_cons, this]
theorem OwnI.oneCell {w : World} {B : Nat} {v : Value} {l : List Int} (h : OwnI w B v l) : v.oneCell' = true := by
  obtain ⟨a, c, rfl, _⟩ := h.form
  rfl
/-- An append of one record, with its children's row. -/
theorem wpList_appRk {w : World} {ops : Array Oper} {rest : List Oper} {o : Oper} {a : Act} {Q : Exit → Act → World → Prop} (hgd : o.guard = none) (s x : Operand)
    (ho : o.op = .call { callee := .builtin .append, args := #[s, x], argTypes := #[36, 36] })
    {base : Nat} {v : Value} {l : List Rec} (hs : a.eval s = v) (hown : OwnR w base v l) {ad : Addr} {c : Nat} {r : Rec} {kv : Value} (hk : OwnI w base kv r.ks) (hx : a.eval x = .slice (some ad) 1 c) (h5 : ∀ j u, (rcl r kv)[j]? = some u → w.cell? (ad.add j) = some u) (hn : l.length + 1 ≤ 1000000) (hb : base ≤ w.heap.size)
    (h : ∀ v' w', OwnR w' base v' (l ++ [r]) → w.grownBy w' v.ownBlock → wpList Try.prog ops Q rest (a.put o.dst v') w') : wpList Try.prog ops Q (o :: rest) a w := by
  obtain ⟨i0, hi, hz0, hz1, hz2⟩ := info_parts info_recF
  obtain ⟨ks, h1, h2, h3⟩ := hown
  have hkv := hk.oneCell
  refine wpList_append_own_at w hgd s x 36 ho base 55 i0 _ 7 72 Try.underlying36 hi hz0 hz1 hz2 rfl (by omega) v l.length (cellsR l ks) hs h2 ad 1 c (rcl r kv) hx rfl h5 (by
    intro u hu
    simp only [List.mem_cons, List.not_mem_nil, or_false] at hu
    rcases hu with rfl | rfl | rfl | rfl | rfl | rfl | rfl
    all_goals first | rfl | exact hkv) (by unfold maxLen; omega) (by omega) hb ?_
  intro v' w' g1 g2 _ _
  have keep : ∀ {u : Value} {q : List Int}, OwnI w base u q → OwnI w' base u q := by
    intro u q hu
    refine row_same hu (fun k hk' => ?_)
    rcases hu.2 with ⟨e, _⟩ | ⟨g, cap, cur, e, _, hg, _⟩
    · rw [e] at hk'
      cases hk'
    · rw [e] at hk'
      simp only [Value.ownBlock, Option.some.injEq] at hk'
      subst hk'
      exact g2.block g (Array.getElem?_eq_some_iff.1 hg).1 (fun e => row_apart h2 hg (by decide) g e.symm rfl)
  refine h v' w' ⟨ks ++ [kv], by simp [h1], ?_, fun i hi => ?_⟩ g2
  · rw [cellsR_app l ks r _ h1, List.length_append]
    exact g1
  · by_cases hil : i < l.length
    · have e1 : (ks ++ [kv]).getD i (.slice none 0 0) = ks.getD i (.slice none 0 0) := by
        rw [List.getD_eq_getElem?_getD, List.getD_eq_getElem?_getD, List.getElem?_append_left (by omega)]
      have e2 : ((l ++ [r]).map Rec.ks).getD i [] = (l.map Rec.ks).getD i [] := by
        rw [List.map_append, List.getD_eq_getElem?_getD, List.getD_eq_getElem?_getD, List.getElem?_append_left (by simpa using hil)]
      rw [e1, e2]
      exact keep (h3 i hil)
    · have hie : i = l.length := by
        simp at hi
        omega
      subst hie
      have e1 : (ks ++ [kv]).getD l.length (.slice none 0 0) = kv := by
        rw [List.getD_eq_getElem?_getD, List.getElem?_append_right (by omega), h1, Nat.sub_self]
        rfl
      have e2 : ((l ++ [r]).map Rec.ks).getD l.length [] = r.ks := by
        rw [List.map_append, List.getD_eq_getElem?_getD, List.getElem?_append_right (by simp), List.length_map, Nat.sub_self]
        rfl
      rw [e1, e2]
      exact keep hk
end Go.Proofs.Ytgipddeldddbnaa

namespace Go.Proofs.Ytgipddeldddbnaa
open Go Go.RowKit Go.Shelf

theorem cas_fn (x v u : Int) (a b : Addr) (w : World) (h : w.cell? a = some (.int .u64 v)) (h' : w.cell? b = some (.int .u64 u)) : Calls Try.prog 83 #[.int .u64 x, .pointer (some a), .pointer (some b)] w fun e w' => e = .returned (.int .u64 (if x = v then u else x)) ∧ w = w' := by
  by_cases hx : x = v
  · subst hx
    go_enter Try.func83, Try.ntmps83
    go_wp2
    go_ret
    exact ⟨by simp, rfl⟩
  · have hb : (x == v) = false := by simpa using hx
    go_enter Try.func83, Try.ntmps83
    go_wp2
    go_ret
    exact ⟨by simp, rfl⟩

theorem cas_any {w : World} {p g cap : Nat} {s : St} (h : Mem w p g cap s) (i v u : Int) :
    Calls Try.prog 80 #[.pointer (some ⟨p, 0, none⟩), .int .i64 i, .int .u64 v, .int .u64 u] w fun e w' => e = .returned (.bool (s.hit i v)) ∧ Mem w' p g cap (s.go 3 i fun x => if x = v then u else x) ∧ Fr [p, g] w w' := by
  have hc : ((w.alloc (.cells #[.int .u64 v] 96)).alloc (.cells #[.int .u64 u] 96)).cell? ⟨w.heap.size, 0, none⟩ = some (.int .u64 v) := ((Blk.made w 96 #[.int .u64 v]).of_same (Below.heap_alloc _ _ _ (by simp))).at_ 0
  have hd : ((w.alloc (.cells #[.int .u64 v] 96)).alloc (.cells #[.int .u64 u] 96)).cell? ⟨w.heap.size + 1, 0, none⟩ = some (.int .u64 u) := by
    simp
  have H := access_any ((h.alloc (.cells #[.int .u64 v] 96)).alloc (.cells #[.int .u64 u] 96)) 3 i 83 #[.pointer (some ⟨w.heap.size, 0, none⟩), .pointer (some ⟨w.heap.size + 1, 0, none⟩)] _ (enters_of Try.func83 (by kernel_rfl) rfl) (fun x => cas_fn x v u _ _ _ hc hd)
  unfold St.hit
  by_cases hi : s.has i
  · simp only [decide_eq_true hi] at H ⊢
    generalize s.old i = x at *
    clear hd hi
    go_enter Try.func80, Try.ntmps80
    go_wp2_with fail
    refine H.mono ?_
    rintro e w' ⟨rfl, hm, hfr⟩
    have hc' : w'.cell? ⟨w.heap.size, 0, none⟩ = some (.int .u64 v) := by
      rw [World.cell?_of_block (hfr.block w.heap.size (by simp; omega) (by have := h.blk.lt; have := h.row.lt; simp; omega))]
      exact hc
    clear hc H
    go_wp2
    go_ret
    exact ⟨by simp, hm, (((Fr.refl _ _).alloc _).alloc _).trans hfr⟩
  · simp only [decide_eq_false hi] at H ⊢
    generalize s.old i = x at *
    clear hd hi hc
    go_enter Try.func80, Try.ntmps80
    go_wp2_with fail
    refine H.mono ?_
    rintro e w' ⟨rfl, hm, hfr⟩
    clear H
    go_wp2
    go_ret
    exact ⟨by simp, hm, (((Fr.refl _ _).alloc _).alloc _).trans hfr⟩
end Go.Proofs.Ytgipddeldddbnaa

namespace Go.Proofs.Ytgipddeldddbnaa
open Go Go.RowKit Go.Shelf

theorem store_fn (x v : Int) (a : Addr) (w : World) (h : w.cell? a = some (.int .u64 v)) : Calls Try.prog 72 #[.int .u64 x, .pointer (some a)] w fun e w' => e = .returned (.int .u64 v) ∧ w = w' := by
  go_enter Try.func72, Try.ntmps72
  go_wp2
  go_ret
  exact ⟨rfl, rfl⟩

theorem store_any {w : World} {p g cap : Nat} {s : St} (h : Mem w p g cap s) (i v : Int) :
    Calls Try.prog 67 #[.pointer (some ⟨p, 0, none⟩), .int .i64 i, .int .u64 v] w fun e w' => e = .returned (.tuple #[]) ∧ Mem w' p g cap (s.go 2 i fun _ => v) ∧ Fr [p, g] w w' := by
  have hc : (w.alloc (.cells #[.int .u64 v] 96)).cell? ⟨w.heap.size, 0, none⟩ = some (.int .u64 v) := (Blk.made w 96 #[.int .u64 v]).at_ 0
  have H := access_any (h.alloc (.cells #[.int .u64 v] 96)) 2 i 72 #[.pointer (some ⟨w.heap.size, 0, none⟩)] _ (enters_of Try.func72 (by kernel_rfl) rfl) (fun x => store_fn x v _ _ hc)
  generalize s.old i = x at *
  generalize decide (s.has i) = b at *
  go_enter Try.func67, Try.ntmps67
  go_wp2_with fail
  refine H.mono ?_
  rintro e w' ⟨rfl, hm, hfr⟩
  go_wp2
  go_end0
  exact ⟨rfl, hm, ((Fr.refl _ _).alloc _).trans hfr⟩
end Go.Proofs.Ytgipddeldddbnaa

namespace Go.Proofs.Ytgipddeldddbnaa
open Go Go.RowKit

theorem now_any {w : World} {p : Nat} {t d : Int} (h : Clk w p t d) :
    Calls Try.prog 75 #[.pointer (some ⟨p, 0, none⟩)] w fun e w' => e = .returned (.int .i64 t) ∧ w = w' := by
  have h0 : w.cell? ⟨p, 0, none⟩ = some (.int .i64 t) := Blk.at_ h 0
  go_enter Try.func75, Try.ntmps75
  go_wp2
  go_ret
  exact ⟨rfl, rfl⟩

end Go.Proofs.Ytgipddeldddbnaa
