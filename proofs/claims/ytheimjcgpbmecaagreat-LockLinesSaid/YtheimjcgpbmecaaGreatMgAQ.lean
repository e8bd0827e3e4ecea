/-
  Plain mathematics: every word of a memory and of a frame is one of 64 bits, and the lines of push, pop, steal, set and clear keep that. No function is named.
  workstealkeep.Engine; what a run of an engine leaves; a run of nothing.
  Records as rows of the call's own: other blocks change, a record with children is appended. No function is named.
-/
import Derived.Test.YtheimjcgpbmecaaGreatMgAI
import Derived.Test.YtheimjcgpbmecaaGreatEngN
import Derived.Test.YtheimjcgpbmecaaGreatMgAN
import Derived.Laws.AppendOwnNone
namespace Go.Proofs.YtheimjcgpbmecaaGreat
open Go Go.RowKit
set_option linter.unusedSimpArgs false

/-- A word. -/
def uw (x : Int) : Prop := 0 ≤ x ∧ x < 18446744073709551616
theorem uw_wrap (x : Int) : uw (IntKind.u64.wrap x) := by
  rw [IntKind.wrap_u64]
  exact ⟨Int.emod_nonneg _ (by decide), Int.emod_lt_of_pos _ (by decide)⟩
theorem uw_zero : uw 0 := ⟨by decide, by decide⟩
/-- Every word of the memory is one. -/
def St.U (s : St) : Prop := ∀ i, uw (s.old i)
theorem St.U.n {s : St} (h : s.U) : s.N := fun i => (h i).1
theorem go_U {s : St} (h : s.U) (k i : Int) (F : Int → Int) (hF : ∀ x, uw x → uw (F x)) : (s.go k i F).U := by
  intro j
  by_cases hj : i = j
  · subst hj
    by_cases hi : s.has i
    · rw [go_old s k i F hi]
      exact hF _ (h i)
    · unfold St.go
      rw [if_neg hi]
      exact h i
  · rw [go_other s k i j F hj]
    exact h j
theorem U_of {s : St} (h : ∀ j, j < s.X.length → uw (s.X.getD j 0)) : s.U := by
  intro i
  unfold St.old
  split
  · rename_i hi
    have := hi.1
    have := hi.2
    exact h i.toNat (by omega)
  · exact uw_zero
/-- Every word of a frame is one. -/
def Fra.U (f : Fra) : Prop := uw f.fu ∧ uw f.fv ∧ uw f.fw ∧ uw f.fx
theorem fra1_U (kd t b r k a : Int) : (fra1 kd t b r k a).U := ⟨uw_zero, uw_zero, uw_zero, uw_zero⟩
/-- What a line keeps. -/
def KeepsU (stp : St → Fra → St × Fra × Res) : Prop := ∀ (s : St) (f : Fra), s.U → f.U → (stp s f).1.U ∧ (stp s f).2.1.U
theorem push_U : KeepsU pushS := by
  intro s f hs hf
  obtain ⟨hu, hv, hw, hx⟩ := hf
  unfold pushS
  split
  · exact ⟨go_U hs _ _ _ (fun x hx => hx), hs _, hv, hw, hx⟩
  split
  · split <;> exact ⟨go_U hs _ _ _ (fun x hx => hx), hu, hs _, hw, hx⟩
  split
  · exact ⟨go_U hs _ _ _ (fun x _ => uw_wrap _), hu, hv, hw, hx⟩
  · exact ⟨go_U hs _ _ _ (fun x _ => uw_wrap _), hu, hv, hw, hx⟩
theorem pop_U : KeepsU popS := by
  intro s f hs hf
  obtain ⟨hu, hv, hw, hx⟩ := hf
  unfold popS
  split
  · exact ⟨go_U hs _ _ _ (fun x hx => hx), hs _, hv, hw, hx⟩
  split
  · split <;> exact ⟨go_U hs _ _ _ (fun x hx => hx), hu, hs _, hw, hx⟩
  split
  · exact ⟨go_U hs _ _ _ (fun x _ => uw_wrap _), hu, hv, hw, hx⟩
  split
  · exact ⟨go_U hs _ _ _ (fun x hx => hx), hu, hs _, hw, hx⟩
  split
  · exact ⟨go_U hs _ _ _ (fun x hx => hx), hu, hv, hw, hx⟩
  split
  · refine ⟨go_U hs 3 f.qt (fun x => if x = f.fv then add1 f.fv else x) (fun x hx => ?_), hu, hv, hw, hx⟩
    show uw (if x = f.fv then add1 f.fv else x)
    split
    · exact uw_wrap _
    · exact hx
  split
  · exact ⟨go_U hs _ _ _ (fun x _ => hu), hu, hv, hw, hx⟩
  · exact ⟨go_U hs _ _ _ (fun x _ => hu), hu, hv, hw, hx⟩
theorem steal_U : KeepsU stealS := by
  intro s f hs hf
  obtain ⟨hu, hv, hw, hx⟩ := hf
  unfold stealS
  split
  · exact ⟨go_U hs _ _ _ (fun x hx => hx), hu, hs _, hw, hx⟩
  split
  · split <;> exact ⟨go_U hs _ _ _ (fun x hx => hx), hs _, hv, hw, hx⟩
  split
  · exact ⟨go_U hs _ _ _ (fun x hx => hx), hu, hv, hs _, hx⟩
  · refine ⟨go_U hs 3 f.qt (fun x => if x = f.fv then add1 f.fv else x) (fun x hx => ?_), hu, hv, hw, hx⟩
    show uw (if x = f.fv then add1 f.fv else x)
    split
    · exact uw_wrap _
    · exact hx
theorem set_U : KeepsU setS := by
  intro s f hs hf
  exact ⟨go_U hs _ _ _ (fun x _ => uw_wrap _), hf⟩
theorem clear_U : KeepsU clearS := by
  intro s f hs hf
  obtain ⟨hu, hv, hw, hx⟩ := hf
  unfold clearS
  split
  · exact ⟨go_U hs _ _ _ (fun x _ => uw_wrap _), hu, hv, hw, hx⟩
  split
  · exact ⟨go_U hs _ _ _ (fun x hx => hx), hs _, hv, hw, hx⟩
  split
  · split <;> exact ⟨go_U hs _ _ _ (fun x hx => hx), hu, hs _, hw, hx⟩
  · exact ⟨go_U hs _ _ _ (fun x _ => uw_wrap _), hu, hv, hw, hx⟩
end Go.Proofs.YtheimjcgpbmecaaGreat

namespace Go.Proofs.YtheimjcgpbmecaaGreat
open Go Go.RowKit
set_option linter.unusedSimpArgs false
set_option linter.unusedVariables false

/-- What Engine gives. -/
def KEng (c : Cfg) (pa : Option Addr) (pn pc : Nat) (sa : Option Addr) (sn sc n t k : Nat) (w : World) (e : Ending) (w' : World) : Prop :=
  ∃ B x q g rv mv ys, w.heap.size ≤ B ∧ e = .returned (.pointer (some ⟨x, 0, none⟩)) ∧ EnvF B w' q (newA c pa pn pc sa sn sc g n rv) (St.new n) [] (newRs t) ∧ EngP w' B x q mv ys (engF t k ++ [fraCl]) ∧ B ≤ x ∧ Below w.heap.size w w'
set_option maxHeartbeats 2000000 in
theorem kengine_any {w : World} {c : Cfg} {pa : Option Addr} {pn pc : Nat} {sa : Option Addr} {sn sc : Nat} (hin : CfgIn c) (hl : Lists w 0 c pa pn sa sn) :
    Calls Tryz.prog 34 #[cv c pa pn pc sa sn sc] w (KEng c pa pn pc sa sn sc (rCells c).toNat c.ta.toNat c.wo.toNat w) := by
  have hX := Blk.made w 29 (cc c pa pn pc sa sn sc)
  have HB := Lib.hid (below_one w (cbox c pa pn pc sa sn sc))
  have HL := Lib.hid (hl.below HB.out)
  have HIN := Lib.hid hin
  obtain ⟨e0, e1, e2, e3, e4, e5, e6, e7, e8, e9, e10⟩ := eleven hX
  clear hX hin hl
  go_enter Tryz.func34, Tryz.ntmps34
  go_wp2_with fail
  (with_reducible refine (rnew28_any HIN.out HL.out).mono ?_)
  rintro e w2 ⟨x, q, g, rv, mv, ys, rfl, he, hp, hx, hb⟩
  have HE := Lib.hid (And.intro he (And.intro hp (And.intro hx hb)))
  clear he hp hx hb e0 e1 e2 e3 e4 e5 e6 e7 e8 e9 e10
  go_wp2
  go_ret
  obtain ⟨he, hp, hx, hb⟩ := HE.out
  have hs := HB.out.size
  exact ⟨_, x, q, g, rv, mv, ys, hs, rfl, he, hp, hx, HB.out.trans (hb.mono hs)⟩

/-- An engine's block and its environment's. -/
def EngB (w : World) (x q : Nat) : Prop := ∃ cs : List Value, Blk w x 97 (Value.pointer (some ⟨q, 0, none⟩) :: cs).toArray
theorem EngB.below {w w' : World} {x q : Nat} (h : EngB w x q) (hb : Below w.heap.size w w') : EngB w' x q := by
  obtain ⟨cs, h⟩ := h
  exact ⟨cs, h.below hb⟩
theorem EngB.at0 {w : World} {x q : Nat} (h : EngB w x q) : w.cell? ⟨x, 0, none⟩ = some (.pointer (some ⟨q, 0, none⟩)) := by
  obtain ⟨cs, h⟩ := h
  exact h.at_ 0
/-- What a run gives: an environment, no later than T. -/
def RanG (B x n t : Nat) (T : Int) (w : World) (e : Ending) (w' : World) : Prop :=
  ∃ q a s es rs, e = .returned (.tuple #[]) ∧ EnvF B w' q a s es rs ∧ EngB w' x q ∧ s.X.length = n ∧ s.U ∧ (0 ≤ a.now ∧ a.now ≤ T) ∧ rs.length = t ∧ (∀ r, r ∈ rs → r.ks.length ≤ 100000) ∧ Below B w w'
theorem newRs_ks (t : Nat) : ∀ r, r ∈ newRs t → r.ks.length ≤ 100000 := fun r hr => by
  rw [(List.mem_replicate.1 hr).2]
  exact Nat.zero_le _
/-- A run of nothing. -/
theorem run0_any {w : World} {B x q : Nat} {c : Cfg} {pa : Option Addr} {pn pc : Nat} {sa : Option Addr} {sn sc g n t : Nat} {rv mv : Value} {ys : List (Nat × Nat × Nat)} {fs : List Fra} (he : EnvF B w q (newA c pa pn pc sa sn sc g n rv) (St.new n) [] (newRs t)) (hp : EngP w B x q mv ys fs) (hu : (St.new n).U) (la : Option Addr) (lc : Nat) :
    Calls Tryz.prog 35 #[.pointer (some ⟨x, 0, none⟩), .slice la 0 lc] w (RanG B x n t 0 w) := by
  have HG := Lib.hid (show RanG B x n t 0 w (.returned (.tuple #[])) w from ⟨q, _, _, [], _, rfl, he, ⟨_, hp.blk⟩, by simp [St.new], hu, ⟨Int.le_refl _, Int.le_refl _⟩, by simp [newRs], newRs_ks t, Below.refl _ _⟩)
  clear he hp hu
  go_enter Tryz.func35, Tryz.ntmps35
  go_wp2_with fail
  go_loopw [4] (fun i wr => i = .int .i64 0 ∧ wr = w) (fun _ _ => 0)
  case atStart => exact ⟨rfl, rfl⟩
  case round =>
    obtain ⟨rfl, rfl⟩ := hrel
    go_wp2
    go_end0
    exact HG.out
end Go.Proofs.YtheimjcgpbmecaaGreat

namespace Go.Proofs.YtheimjcgpbmecaaGreat
open Go Go.RowKit
set_option linter.unusedSimpArgs false

theorem OwnR.frS {w w' : World} {S : List Nat} {B : Nat} {v : Value} {rs : List Rec} (h : OwnR w B v rs) (hf : Fr S w w') (hn : ∀ k, v.ownBlock = some k → k ∉ S) (hi : ∀ (k : Nat) (cs : Array Value), k ∈ S → w.heap[k]? ≠ some (Obj.cells cs 3 (0, 0))) : OwnR w' B v rs := by
  obtain ⟨ks, a, b, c⟩ := h
  refine ⟨ks, a, row_frS b hf hn, fun i hi' => row_frS (c i hi') hf (fun k hk hm => ?_)⟩
  rcases (c i hi').2 with ⟨e, _⟩ | ⟨g, cap, cur, e, _, hg, _⟩
  · rw [e] at hk
    simp [Value.ownBlock] at hk
  · rw [e] at hk
    simp only [Value.ownBlock, Option.some.injEq] at hk
    subst hk
    exact hi g cur hm hg

theorem info_recF : (Tryz.prog.info? 62).map (fun i => (i.zero, i.size, i.bytes)) = some (some (.agg #[.int .i64 0, .int .i64 0, .int .i64 0, .int .i64 0, .int .i64 0, .slice none 0 0, .bool false]), 7, 72) := by kernel_rfl
theorem cellsR_app : ∀ (l : List Rec) (ks : List Value) (r : Rec) (k : Value), ks.length = l.length → cellsR (l ++ [r]) (ks ++ [k]) = cellsR l ks ++ rcl r k
  | [], [], _, _, _ => rfl
  | [], _ :: _, _, _, h => by simp at h
  | _ :: _, [], _, _, h => by simp at h
  | e :: l, x :: ks, r, k, h => by
    have := cellsR_app l ks r k (by simpa using h)
    simp only [List.cons_append, cellsR, List.headD_cons, List.tail_cons, this]
theorem OwnI.oneCell {w : World} {B : Nat} {v : Value} {l : List Int} (h : OwnI w B v l) : v.oneCell' = true := by
  obtain ⟨a, c, rfl, _⟩ := h.form
  rfl
/-- An append of one record, with its children's row. -/
theorem wpList_appRk {w : World} {ops : Array Oper} {rest : List Oper} {o : Oper} {a : Act} {Q : Exit → Act → World → Prop} (hgd : o.guard = none) (s x : Operand)
    (ho : o.op = .call { callee := .builtin .append, args := #[s, x], argTypes := #[44, 44] })
    {base : Nat} {v : Value} {l : List Rec} (hs : a.eval s = v) (hown : OwnR w base v l) {ad : Addr} {c : Nat} {r : Rec} {kv : Value} (hk : OwnI w base kv r.ks) (hx : a.eval x = .slice (some ad) 1 c) (h5 : ∀ j u, (rcl r kv)[j]? = some u → w.cell? (ad.add j) = some u) (hn : l.length + 1 ≤ 1000000) (hb : base ≤ w.heap.size)
    (h : ∀ v' w', OwnR w' base v' (l ++ [r]) → w.grownBy w' v.ownBlock → wpList Tryz.prog ops Q rest (a.put o.dst v') w') : wpList Tryz.prog ops Q (o :: rest) a w := by
  obtain ⟨i0, hi, hz0, hz1, hz2⟩ := info_parts info_recF
  obtain ⟨ks, h1, h2, h3⟩ := hown
  have hkv := hk.oneCell
  refine wpList_append_own_at w hgd s x 44 ho base 62 i0 _ 7 72 Tryz.underlying44 hi hz0 hz1 hz2 rfl (by omega) v l.length (cellsR l ks) hs h2 ad 1 c (rcl r kv) hx rfl h5 (by
    intro u hu
    simp only [List.mem_cons, List.not_mem_nil, or_false] at hu
    rcases hu with rfl | rfl | rfl | rfl | rfl | rfl | rfl
    all_goals first | rfl | exact hkv) (by unfold maxLen; omega) (by omega) hb ?_
  intro v' w' g1 g2 _ _
  have keep : ∀ {u : Value} {q : List Int}, OwnI w base u q → OwnI w' base u q := by
    intro u q hu
    refine row_same hu (fun k hk' => ?_)
    rcases hu.2 with ⟨e, _⟩ | ⟨g, cap, cur, e, _, hg, _⟩
    · rw [e] at hk'
      cases hk'
    · rw [e] at hk'
      simp only [Value.ownBlock, Option.some.injEq] at hk'
      subst hk'
      exact g2.block g (Array.getElem?_eq_some_iff.1 hg).1 (fun e => row_apart h2 hg (by decide) g e.symm rfl)
  refine h v' w' ⟨ks ++ [kv], by simp [h1], ?_, fun i hi => ?_⟩ g2
  · rw [cellsR_app l ks r _ h1, List.length_append]
    exact g1
  · by_cases hil : i < l.length
    · have e1 : (ks ++ [kv]).getD i (.slice none 0 0) = ks.getD i (.slice none 0 0) := by
        rw [List.getD_eq_getElem?_getD, List.getD_eq_getElem?_getD, List.getElem?_append_left (by omega)]
      have e2 : ((l ++ [r]).map Rec.ks).getD i [] = (l.map Rec.ks).getD i [] := by
        rw [List.map_append, List.getD_eq_getElem?_getD, List.getD_eq_getElem?_getD, List.getElem?_append_left (by simpa using hil)]
      rw [e1, e2]
      exact keep (h3 i hil)
    · have hie : i = l.length := by
        simp at hi
        omega
      subst hie
      have e1 : (ks ++ [kv]).getD l.length (.slice none 0 0) = kv := by
        rw [List.getD_eq_getElem?_getD, List.getElem?_append_right (by omega), h1, Nat.sub_self]
        rfl
      have e2 : ((l ++ [r]).map Rec.ks).getD l.length [] = r.ks := by
        rw [List.map_append, List.getD_eq_getElem?_getD, List.getElem?_append_right (by simp), List.length_map, Nat.sub_self]
        rfl
      rw [e1, e2]
      exact keep hk
end Go.Proofs.YtheimjcgpbmecaaGreat
