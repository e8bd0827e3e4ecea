/-
  workstealkeep.Engine; what a run of an engine leaves; a run of nothing.
  Records as rows of the call's own: other blocks change, a record with children is appended. No function is named.
  The reference's CopyRecords: records of the call's own, equal to those that came in.
-/
import Derived.Test.YtanbjdlaolgepaaGreatEngN
import Derived.Test.YtanbjdlaolgepaaGreatMgAG
import Derived.Test.YtanbjdlaolgepaaGreatMgAH
import Derived.Laws.AppendOwnNone
import Derived.LoopTactic
import Derived.Deep.OwnRows
import Derived.Deep.Cut
import Derived.Deep.CutRange
namespace Go.Proofs.YtanbjdlaolgepaaGreat
open Go Go.RowKit
set_option linter.unusedSimpArgs false
set_option linter.unusedVariables false

/-- What Engine gives. -/
def KEng (c : Cfg) (pa : Option Addr) (pn pc : Nat) (sa : Option Addr) (sn sc n t k : Nat) (w : World) (e : Ending) (w' : World) : Prop :=
  ∃ B x q g rv mv ys, w.heap.size ≤ B ∧ e = .returned (.pointer (some ⟨x, 0, none⟩)) ∧ EnvF B w' q (newA c pa pn pc sa sn sc g n rv) (St.new n) [] (newRs t) ∧ EngP w' B x q mv ys (engF t k ++ [fraCl]) ∧ B ≤ x ∧ Below w.heap.size w w'
set_option maxHeartbeats 2000000 in
theorem kengine_any {w : World} {c : Cfg} {pa : Option Addr} {pn pc : Nat} {sa : Option Addr} {sn sc : Nat} (hin : CfgIn c) (hl : Lists w 0 c pa pn sa sn) :
    Calls Tryz.prog 18 #[cv c pa pn pc sa sn sc] w (KEng c pa pn pc sa sn sc (rCells c).toNat c.ta.toNat c.wo.toNat w) := by
  have hX := Blk.made w 28 (cc c pa pn pc sa sn sc)
  have HB := Lib.hid (below_one w (cbox c pa pn pc sa sn sc))
  have HL := Lib.hid (hl.below HB.out)
  have HIN := Lib.hid hin
  obtain ⟨e0, e1, e2, e3, e4, e5, e6, e7, e8, e9, e10⟩ := eleven hX
  clear hX hin hl
  go_enter Tryz.func18, Tryz.ntmps18
  go_wp2_with fail
  (with_reducible refine (rnew28_any HIN.out HL.out).mono ?_)
  rintro e w2 ⟨x, q, g, rv, mv, ys, rfl, he, hp, hx, hb⟩
  have HE := Lib.hid (And.intro he (And.intro hp (And.intro hx hb)))
  clear he hp hx hb e0 e1 e2 e3 e4 e5 e6 e7 e8 e9 e10
  go_wp2
  go_ret
  obtain ⟨he, hp, hx, hb⟩ := HE.out
  have hs := HB.out.size
  exact ⟨_, x, q, g, rv, mv, ys, hs, rfl, he, hp, hx, HB.out.trans (hb.mono hs)⟩

/-- An engine's block and its environment's. -/
def EngB (w : World) (x q : Nat) : Prop := ∃ cs : List Value, Blk w x 82 (Value.pointer (some ⟨q, 0, none⟩) :: cs).toArray
theorem EngB.below {w w' : World} {x q : Nat} (h : EngB w x q) (hb : Below w.heap.size w w') : EngB w' x q := by
  obtain ⟨cs, h⟩ := h
  exact ⟨cs, h.below hb⟩
theorem EngB.at0 {w : World} {x q : Nat} (h : EngB w x q) : w.cell? ⟨x, 0, none⟩ = some (.pointer (some ⟨q, 0, none⟩)) := by
  obtain ⟨cs, h⟩ := h
  exact h.at_ 0
/-- What a run gives: an environment, no later than T. -/
def RanG (B x n t : Nat) (T : Int) (w : World) (e : Ending) (w' : World) : Prop :=
  ∃ q a s es rs, e = .returned (.tuple #[]) ∧ EnvF B w' q a s es rs ∧ EngB w' x q ∧ s.X.length = n ∧ s.U ∧ (0 ≤ a.now ∧ a.now ≤ T) ∧ rs.length = t ∧ (∀ r, r ∈ rs → r.ks.length ≤ 100000) ∧ Below B w w'
theorem newRs_ks (t : Nat) : ∀ r, r ∈ newRs t → r.ks.length ≤ 100000 := fun r hr => by
  rw [(List.mem_replicate.1 hr).2]
  exact Nat.zero_le _
/-- A run of nothing. -/
theorem run0_any {w : World} {B x q : Nat} {c : Cfg} {pa : Option Addr} {pn pc : Nat} {sa : Option Addr} {sn sc g n t : Nat} {rv mv : Value} {ys : List (Nat × Nat × Nat)} {fs : List Fra} (he : EnvF B w q (newA c pa pn pc sa sn sc g n rv) (St.new n) [] (newRs t)) (hp : EngP w B x q mv ys fs) (hu : (St.new n).U) (la : Option Addr) (lc : Nat) :
    Calls Tryz.prog 19 #[.pointer (some ⟨x, 0, none⟩), .slice la 0 lc] w (RanG B x n t 0 w) := by
  have HG := Lib.hid (show RanG B x n t 0 w (.returned (.tuple #[])) w from ⟨q, _, _, [], _, rfl, he, ⟨_, hp.blk⟩, by simp [St.new], hu, ⟨Int.le_refl _, Int.le_refl _⟩, by simp [newRs], newRs_ks t, Below.refl _ _⟩)
  clear he hp hu
  go_enter Tryz.func19, Tryz.ntmps19
  go_wp2_with fail
  go_loopw [4] (fun i wr => i = .int .i64 0 ∧ wr = w) (fun _ _ => 0)
  case atStart => exact ⟨rfl, rfl⟩
  case round =>
    obtain ⟨rfl, rfl⟩ := hrel
    go_wp2
    go_end0
    exact HG.out
end Go.Proofs.YtanbjdlaolgepaaGreat

namespace Go.Proofs.YtanbjdlaolgepaaGreat
open Go Go.RowKit
set_option linter.unusedSimpArgs false

theorem OwnR.frS {w w' : World} {S : List Nat} {B : Nat} {v : Value} {rs : List Rec} (h : OwnR w B v rs) (hf : Fr S w w') (hn : ∀ k, v.ownBlock = some k → k ∉ S) (hi : ∀ (k : Nat) (cs : Array Value), k ∈ S → w.heap[k]? ≠ some (Obj.cells cs 3 (0, 0))) : OwnR w' B v rs := by
  obtain ⟨ks, a, b, c⟩ := h
  refine ⟨ks, a, row_frS b hf hn, fun i hi' => row_frS (c i hi') hf (fun k hk hm => ?_)⟩
  rcases (c i hi').2 with ⟨e, _⟩ | ⟨g, cap, cur, e, _, hg, _⟩
  · rw [e] at hk
    simp [Value.ownBlock] at hk
  · rw [e] at hk
    simp only [Value.ownBlock, Option.some.injEq] at hk
    subst hk
    exact hi g cur hm hg

theorem info_recF : (Tryz.prog.info? 119).map (fun i => (i.zero, i.size, i.bytes)) = some (some (.agg #[.int .i64 0, .int .i64 0, .int .i64 0, .int .i64 0, .int .i64 0, .slice none 0 0, .bool false]), 7, 72) := by kernel_rfl
theorem cellsR_app : ∀ (l : List Rec) (ks : List Value) (r : Rec) (k : Value), ks.length = l.length → cellsR (l ++ [r]) (ks ++ [k]) = cellsR l ks ++ rcl r k
  | [], [], _, _, _ => rfl
  | [], _ :: _, _, _, h => by simp at h
  | _ :: _, [], _, _, h => by simp at h
  | e :: l, x :: ks, r, k, h => by
    have := cellsR_app l ks r k (by simpa using h)
    simp only [List.cons_append, cellsR, List.headD_cons, List.tail_cons, this]
theorem OwnI.oneCell {w : World} {B : Nat} {v : Value} {l : List Int} (h : OwnI w B v l) : v.oneCell' = true := by
  obtain ⟨a, c, rfl, _⟩ := h.form
  rfl
/-- An append of one record, with its children's row. -/
theorem wpList_appRk {w : World} {ops : Array Oper} {rest : List Oper} {o : Oper} {a : Act} {Q : Exit → Act → World → Prop} (hgd : o.guard = none) (s x : Operand)
    (ho : o.op = .call { callee := .builtin .append, args := #[s, x], argTypes := #[40, 40] })
    {base : Nat} {v : Value} {l : List Rec} (hs : a.eval s = v) (hown : OwnR w base v l) {ad : Addr} {c : Nat} {r : Rec} {kv : Value} (hk : OwnI w base kv r.ks) (hx : a.eval x = .slice (some ad) 1 c) (h5 : ∀ j u, (rcl r kv)[j]? = some u → w.cell? (ad.add j) = some u) (hn : l.length + 1 ≤ 1000000) (hb : base ≤ w.heap.size)
    (h : ∀ v' w', OwnR w' base v' (l ++ [r]) → w.grownBy w' v.ownBlock → wpList Tryz.prog ops Q rest (a.put o.dst v') w') : wpList Tryz.prog ops Q (o :: rest) a w := by
  obtain ⟨i0, hi, hz0, hz1, hz2⟩ := info_parts info_recF
  obtain ⟨ks, h1, h2, h3⟩ := hown
  have hkv := hk.oneCell
  refine wpList_append_own_at w hgd s x 40 ho base 119 i0 _ 7 72 Tryz.underlying40 hi hz0 hz1 hz2 rfl (by omega) v l.length (cellsR l ks) hs h2 ad 1 c (rcl r kv) hx rfl h5 (by
    intro u hu
    simp only [List.mem_cons, List.not_mem_nil, or_false] at hu
    rcases hu with rfl | rfl | rfl | rfl | rfl | rfl | rfl
    all_goals first | rfl | exact hkv) (by unfold maxLen; omega) (by omega) hb ?_
  intro v' w' g1 g2 _ _
  have keep : ∀ {u : Value} {q : List Int}, OwnI w base u q → OwnI w' base u q := by
    intro u q hu
    refine row_same hu (fun k hk' => ?_)
    rcases hu.2 with ⟨e, _⟩ | ⟨g, cap, cur, e, _, hg, _⟩
    · rw [e] at hk'
      cases hk'
    · rw [e] at hk'
      simp only [Value.ownBlock, Option.some.injEq] at hk'
      subst hk'
      exact g2.block g (Array.getElem?_eq_some_iff.1 hg).1 (fun e => row_apart h2 hg (by decide) g e.symm rfl)
  refine h v' w' ⟨ks ++ [kv], by simp [h1], ?_, fun i hi => ?_⟩ g2
  · rw [cellsR_app l ks r _ h1, List.length_append]
    exact g1
  · by_cases hil : i < l.length
    · have e1 : (ks ++ [kv]).getD i (.slice none 0 0) = ks.getD i (.slice none 0 0) := by
        rw [List.getD_eq_getElem?_getD, List.getD_eq_getElem?_getD, List.getElem?_append_left (by omega)]
      have e2 : ((l ++ [r]).map Rec.ks).getD i [] = (l.map Rec.ks).getD i [] := by
        rw [List.map_append, List.getD_eq_getElem?_getD, List.getD_eq_getElem?_getD, List.getElem?_append_left (by simpa using hil)]
      rw [e1, e2]
      exact keep (h3 i hil)
    · have hie : i = l.length := by
        simp at hi
        omega
      subst hie
      have e1 : (ks ++ [kv]).getD l.length (.slice none 0 0) = kv := by
        rw [List.getD_eq_getElem?_getD, List.getElem?_append_right (by omega), h1, Nat.sub_self]
        rfl
      have e2 : ((l ++ [r]).map Rec.ks).getD l.length [] = r.ks := by
        rw [List.map_append, List.getD_eq_getElem?_getD, List.getElem?_append_right (by simp), List.length_map, Nat.sub_self]
        rfl
      rw [e1, e2]
      exact keep hk
end Go.Proofs.YtanbjdlaolgepaaGreat

namespace Go.Proofs.YtanbjdlaolgepaaGreat
open Go Go.RowKit
set_option linter.unusedSimpArgs false
set_option linter.unusedVariables false

/-- What CopyRecords gives. -/
def CopiedR (rs : List Rec) (w : World) (e : Ending) (w' : World) : Prop := ∃ v, e = .returned v ∧ OwnR w' w.heap.size v rs ∧ Below w.heap.size w w'
/-- What its loop keeps. -/
def CpRR (rs : List Rec) (w : World) (i v : Value) (wr : World) : Prop := ∃ j, j ≤ rs.length ∧ i = .int .i64 j ∧ OwnR wr w.heap.size v (rs.take j) ∧ Below w.heap.size w wr

set_option maxRecDepth 100000 in
set_option maxHeartbeats 4000000 in
theorem rcopyrecs_any {w : World} {B : Nat} {rv : Value} {rs : List Rec} (h : OwnR w B rv rs) (hn : rs.length ≤ 1000) (hk : ∀ r, r ∈ rs → r.ks.length ≤ 100000) :
    Calls Tryz.prog 26 #[rv] w (CopiedR rs w) := by
  obtain ⟨x0, c0, hv⟩ := h.form
  subst hv
  obtain ⟨n, hnn⟩ : ∃ n, rs.length = n := ⟨_, rfl⟩
  have HR := Lib.hid h
  have HN := Lib.hid (And.intro hnn (And.intro hn hk))
  have HST := Lib.hid (show CpRR rs w (.int .i64 0) (.slice none 0 0) w from ⟨0, Nat.zero_le _, rfl, ⟨[], by simp, World.ownsRow_nil _ _ _ _, fun i hi => by simp at hi⟩, Below.refl _ _⟩)
  rw [hnn]
  clear h hn hk hnn
  go_enter Tryz.func26, Tryz.ntmps26
  go_wp2_with fail
  go_loopw [4, 3] (fun i v wr => CpRR rs w i v wr) (fun i _ _ => n - (intOf i).toNat)
  case atStart => exact HST.out
  case round =>
    clear HST
    obtain ⟨j, hj, rfl, hO, hb⟩ := hrel
    rw [HN.out.1] at hj
    have O := Lib.hid hO
    have BB := Lib.hid hb
    clear hO hb
    by_cases hlt : j < n
    case neg =>
      obtain rfl : j = n := by omega
      go_wp2
      go_ret
      have h := O.out
      rw [List.take_of_length_le (by rw [HN.out.1]; exact Nat.le_refl _)] at h
      exact ⟨_, rfl, h, BB.out⟩
    have hr := HR.out.same (fun k cs t hk _ => BB.out.block k (Array.getElem?_eq_some_iff.1 hk).1)
    obtain ⟨x, c, k, he, ⟨hx0, hxs⟩, _, hki, hc, _, _⟩ := hr.at_ (show j < rs.length by rw [HN.out.1]; exact hlt)
    simp only [Value.slice.injEq, Option.some.injEq] at he
    obtain ⟨rfl, _, rfl⟩ := he
    obtain ⟨r, hrj⟩ : ∃ r, rs.getD j zrec = r := ⟨_, rfl⟩
    rw [hrj] at hki hc
    have hrm : r ∈ rs := by
      rw [← hrj, List.getD_eq_getElem?_getD, List.getElem?_eq_getElem (by rw [HN.out.1]; exact hlt)]
      exact List.getElem_mem _
    obtain ⟨ka, kn, kc, rfl, hcase⟩ : ∃ ka kn kc, k = .slice ka kn kc ∧ ((ka = none ∧ kn = 0 ∧ kc = 0 ∧ r.ks = []) ∨ ∃ kg, ka = some ⟨kg, 0, none⟩ ∧ kn = r.ks.length) := by
      rcases hki.2 with ⟨e, hl0⟩ | ⟨kg, cap, cur, e, _⟩
      · exact ⟨_, _, _, e, .inl ⟨rfl, rfl, rfl, List.eq_nil_of_length_eq_zero hl0⟩⟩
      · exact ⟨_, _, _, e, .inr ⟨kg, rfl, rfl⟩⟩
    have c0 : wr.cell? (x.add (j * 7)) = some (.int .i64 r.pg) := by rw [add_head _ ⟨hx0, hxs⟩]; exact hc 0 (by omega)
    have c1 : wr.cell? ⟨(x.add (j * 7)).block, (x.add (j * 7)).off + 1, none⟩ = some (.int .i64 r.pt) := by rw [add_cell _ ⟨hx0, hxs⟩]; exact hc 1 (by omega)
    have c2 : wr.cell? ⟨(x.add (j * 7)).block, (x.add (j * 7)).off + 2, none⟩ = some (.int .i64 r.pc) := by rw [add_cell _ ⟨hx0, hxs⟩]; exact hc 2 (by omega)
    have c3 : wr.cell? ⟨(x.add (j * 7)).block, (x.add (j * 7)).off + 3, none⟩ = some (.int .i64 r.lf) := by rw [add_cell _ ⟨hx0, hxs⟩]; exact hc 3 (by omega)
    have c4 : wr.cell? ⟨(x.add (j * 7)).block, (x.add (j * 7)).off + 4, none⟩ = some (.int .i64 r.wt) := by rw [add_cell _ ⟨hx0, hxs⟩]; exact hc 4 (by omega)
    have c5 : wr.cell? ⟨(x.add (j * 7)).block, (x.add (j * 7)).off + 5, none⟩ = some (.slice ka kn kc) := by rw [add_cell _ ⟨hx0, hxs⟩]; exact hc 5 (by omega)
    have c6 : wr.cell? ⟨(x.add (j * 7)).block, (x.add (j * 7)).off + 6, none⟩ = some (.bool r.st) := by rw [add_cell _ ⟨hx0, hxs⟩]; exact hc 6 (by omega)
    have KI := Lib.hid (hki.alloc (.cells (rcl r (.slice ka kn kc)).toArray 119))
    have HK := Lib.hid (And.intro hrj (HN.out.2.2 r hrm))
    have hj0 : (0 : Int) ≤ (j : Int) := by omega
    have hj1 : (j : Int) < (n : Int) := by omega
    have hj2 : j ≤ 1000 := by have := HN.out; omega
    have HJ := Lib.hid (And.intro hlt hj2)
    have ej : wrap64 ((j : Int) + 1) = ((j + 1 : Nat) : Int) := by unfold wrap64; omega
    have HCASE := Lib.hid hcase
    have HKI := Lib.hid hki
    clear hki hrj hrm hc hr hx0 hxs hcase
    go_upto_region 6 with fail
    clear c0 c1 c2 c3 c4 c5 c6
    have hW6 := below_one wr (.cells (rcl r (.slice ka kn kc)).toArray 119)
    have X6 := Lib.hid (Blk.made wr 119 (rcl r (.slice ka kn kc)).toArray)
    have B6 := Lib.hid (BB.out.alloc BB.out.size (.cells (rcl r (.slice ka kn kc)).toArray 119))
    have O6 := Lib.hid (O.out.same (fun q cs t hk _ => hW6.block q (Array.getElem?_eq_some_iff.1 hk).1))
    have K6 := Lib.hid (HKI.out.below hW6)
    have HG := Lib.hid (show w.heap.size ≤ wr.heap.size ∧ ∀ q, u3.ownBlock = some q → q ≠ wr.heap.size from ⟨BB.out.size, fun q hq e => by
      obtain ⟨ks, _, h2, _⟩ := O.out
      have := (World.ownsRow.lt h2 q hq).2
      omega⟩)
    clear O BB KI HKI hW6
    change Code.wp _ _ _ _ (wr.alloc (.cells (rcl r (.slice ka kn kc)).toArray 119))
    generalize wr.alloc (.cells (rcl r (.slice ka kn kc)).toArray 119) = W6 at *
    generalize wr.heap.size = g6 at *
    go_cut [] from 6 to 24 (fun wx => ∃ v', Blk wx g6 119 (rcl r v').toArray ∧ OwnI wx w.heap.size v' r.ks ∧ OwnR wx w.heap.size u3 (rs.take j) ∧ Below w.heap.size w wx)
    case first =>
      have hb7 := below_one W6 (.cells #[] 3)
      have X7 := Lib.hid (X6.out.below hb7)
      have B7 := Lib.hid (B6.out.alloc B6.out.size (.cells #[] 3))
      have O7 := Lib.hid (O6.out.same (fun q cs t hk _ => hb7.block q (Array.getElem?_eq_some_iff.1 hk).1))
      have K7 := Lib.hid (K6.out.below hb7)
      have N7 := Lib.hid (show OwnI (W6.alloc (.cells #[] 3)) w.heap.size (.slice (some ⟨W6.heap.size, 0, none⟩) 0 0) [] from OwnI.lit W6 w.heap.size [] B6.out.size (by unfold maxLen; simp))
      have HS7 := Lib.hid (show w.heap.size ≤ (W6.alloc (.cells #[] 3)).heap.size from B7.out.size)
      have x5 : (W6.alloc (.cells #[] 3)).cell? ⟨g6, 5, none⟩ = some (.slice ka kn kc) := X7.out.at_ 5
      clear X6 B6 K6 hb7
      rcases HCASE.out with ⟨rfl, rfl, rfl, hks⟩ | ⟨kg, rfl, rfl⟩
      · have f5 : (W6.alloc (.cells #[] 3)).frozen? ⟨g6, 5, none⟩ = false := X7.out.free 5
        have HKS := Lib.hid hks
        clear hks
        obtain ⟨i0, hi, hz0, hz1, hz2⟩ := info_parts info_int
        go_wp2_with (refine wpList_append_own_none rfl (.tmp 16) (.tmp 18) 23 rfl w.heap.size 3 i0 1 Tryz.underlying23 hi _ 0 [] rfl N7.out rfl ?_)
        go_meet
        case rel =>
          have hp := X7.out.put 5 (.slice (some ⟨W6.heap.size, 0, none⟩) 0 0)
          have hf : Fr [g6] (W6.alloc (.cells #[] 3)) ((W6.alloc (.cells #[] 3)).setCell ⟨g6, 5, none⟩ (.slice (some ⟨W6.heap.size, 0, none⟩) 0 0)) := (Fr.refl _ _).setCell (by simp) _
          refine ⟨_, hp, ?_, O7.out.frS hf (fun q hq hm => HG.out.2 q hq (by simpa using hm)) (fun q cs hm hk => ?_), B7.out.trans (hf.below HS7.out (fun y hy => by simp at hy; have := HG.out.1; omega))⟩
          · rw [HKS.out]
            exact row_frS N7.out hf (fun q hq hm => by
              simp at hm
              subst hm
              exact row_apart N7.out X7.out (by decide) q hq rfl)
          · simp at hm
            subst hm
            exact absurd (ty_at X7.out hk) (by decide)
      · have hl := HK.out.2
        have HNW := Lib.hid (show ∀ i u, (r.ks.map (Value.int .i64))[i]? = some u → (W6.alloc (.cells #[] 3)).cell? ((⟨kg, 0, none⟩ : Addr).add i) = some u from fun i u hu => by
          have hil : i < r.ks.length := by
            have := (List.getElem?_eq_some_iff.1 hu).1
            simpa using this
          rw [add_head _ ⟨rfl, rfl⟩, K7.out.cellAt hil, ← hu, List.getElem?_map, List.getElem?_eq_getElem hil, List.getD_eq_getElem?_getD, List.getElem?_eq_getElem hil]
          rfl)
        go_wp2_with (refine wpList_appI rfl (.tmp 16) (.tmp 18) rfl rfl N7.out rfl rfl HNW.out (by simp; omega) HS7.out ?_; intro v8 w8 hown hgr; obtain ⟨a8, c8, rfl, _⟩ := hown.form; have hx8 := X7.out.appI N7.out hgr (.inl (by decide)); have x58 : w8.cell? ⟨g6, 5, none⟩ = some (.slice (some ⟨kg, 0, none⟩) r.ks.length kc) := hx8.at_ 5; have f58 := hx8.free 5; have X8 := Lib.hid hx8; have O8 := Lib.hid hown; have G8 := Lib.hid hgr; clear hown hgr hx8)
        go_meet
        case rel =>
          have hp := X8.out.put 5 (.slice a8 ([] ++ r.ks).length c8)
          have hf : Fr [g6] w8 (w8.setCell ⟨g6, 5, none⟩ (.slice a8 ([] ++ r.ks).length c8)) := (Fr.refl _ _).setCell (by simp) _
          have hb8 := below_appI B7.out N7.out (Nat.le_refl _) G8.out
          have ho8 := O6.out.same (w' := w8) (fun q cs t hk ht => by
            have hq := (Array.getElem?_eq_some_iff.1 hk).1
            exact (G8.out.block q (Nat.lt_of_lt_of_le hq (below_one W6 (.cells #[] 3)).size) (fun e => by
              have e' : some q = some W6.heap.size := e
              have := Option.some.inj e'
              omega)).trans ((below_one W6 (.cells #[] 3)).block q hq))
          refine ⟨_, hp, ?_, ho8.frS hf (fun q hq hm => HG.out.2 q hq (by simpa using hm)) (fun q cs hm hk => ?_), hb8.trans (hf.below hb8.size (fun y hy => by simp at hy; have := HG.out.1; omega))⟩
          · exact row_frS O8.out hf (fun q hq hm => by
              simp at hm
              subst hm
              exact row_apart O8.out X8.out (by decide) q hq rfl)
          · simp at hm
            subst hm
            exact absurd (ty_at X8.out hk) (by decide)
    case rest =>
    clear X6 B6 O6 K6 HCASE
    obtain ⟨kv, hx, hki, ho, hb⟩ := hcut
    have X7 := Lib.hid hx
    have KI := Lib.hid hki
    have O7 := Lib.hid ho
    have B7 := Lib.hid hb
    obtain ⟨va, vn, vc, hkv⟩ : ∃ va vn vc, kv = .slice va vn vc := by
      obtain ⟨a8, c8, e, _⟩ := hki.form
      exact ⟨_, _, _, e⟩
    subst hkv
    have x0 : wc.cell? ⟨g6, 0, none⟩ = some (.int .i64 r.pg) := hx.at_ 0
    have x1 : wc.cell? ⟨g6, 1, none⟩ = some (.int .i64 r.pt) := hx.at_ 1
    have x2 : wc.cell? ⟨g6, 2, none⟩ = some (.int .i64 r.pc) := hx.at_ 2
    have x3 : wc.cell? ⟨g6, 3, none⟩ = some (.int .i64 r.lf) := hx.at_ 3
    have x4 : wc.cell? ⟨g6, 4, none⟩ = some (.int .i64 r.wt) := hx.at_ 4
    have x5 : wc.cell? ⟨g6, 5, none⟩ = some (.slice va vn vc) := hx.at_ 5
    have x6 : wc.cell? ⟨g6, 6, none⟩ = some (.bool r.st) := hx.at_ 6
    have hb8 := below_one wc (.cells (rcl r (.slice va vn vc)).toArray 119)
    have O8 := Lib.hid (O7.out.same (fun q cs t hk _ => hb8.block q (Array.getElem?_eq_some_iff.1 hk).1))
    have K8 := Lib.hid (KI.out.below hb8)
    have B8 := Lib.hid (B7.out.trans (hb8.mono B7.out.size))
    have N8 := Lib.hid (show ∀ i u, (rcl r (.slice va vn vc))[i]? = some u → (wc.alloc (.cells (rcl r (.slice va vn vc)).toArray 119)).cell? ((⟨wc.heap.size, 0, none⟩ : Addr).add i) = some u from fun i u hu => by
      rw [add_head _ ⟨rfl, rfl⟩, (Blk.made wc 119 (rcl r (.slice va vn vc)).toArray).at_, List.getElem?_toArray]
      exact hu)
    have HL8 := Lib.hid (show (rs.take j).length + 1 ≤ 1000000 by rw [List.length_take]; have := HN.out.2.1; omega)
    clear hx hki ho hb hb8
    go_wp2_with (refine wpList_appRk rfl (.tmp 21) (.tmp 23) rfl rfl O8.out K8.out rfl N8.out HL8.out B8.out.size ?_; intro v9 w9 hown hgr; have O9 := Lib.hid hown; have B9 := Lib.hid (show Below w.heap.size w w9 from by
      obtain ⟨ks, _, h2, _⟩ := O8.out
      exact B8.out.trans ⟨hgr.os, hgr.tape, hgr.output, hgr.size, fun q hq => hgr.block q (Nat.lt_of_lt_of_le hq B8.out.size) (fun e => by have := (World.ownsRow.lt h2 q e.symm).1; omega)⟩); clear hown hgr)
    go_roundw
    case rel =>
      refine ⟨j + 1, by have := HJ.out; have := HN.out; omega, by go_num, ?_, B9.out⟩
      have h := O9.out
      rw [show rs.take (j + 1) = rs.take j ++ [r] by
        rw [List.take_add_one, List.getElem?_eq_getElem (by have := HN.out; omega)]
        have e := HK.out.1
        rw [List.getD_eq_getElem?_getD, List.getElem?_eq_getElem (by have := HN.out; omega)] at e
        simp at e
        rw [e]
        rfl]
      exact h
    case measure => simp [intOf]; have := HJ.out; omega
end Go.Proofs.YtanbjdlaolgepaaGreat
