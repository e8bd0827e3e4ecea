/-
  Contracts of the reference's Same and Complete.
-/
import Derived.Test.YtpaacpcmijhcmaaScCallsB
import Derived.Deep.CutBlock
import Derived.Deep.CutRange
namespace Go.Proofs.Ytpaacpcmijhcmaa
open Go Go.RowKit

theorem neq_entry (a0 a1 b0 b1 : Int) (w : World) :
    (binOp .neq 43 (.agg #[.int .i64 a0, .int .i64 a1]) (.agg #[.int .i64 b0, .int .i64 b1])).run Try.prog w = .ok (.bool (!(a0 == b0 && a1 == b1))) w := by
  have uA := Try.underlying43
  have uI := Try.underlying3
  have zI := Try.isAgg3
  have sI := Try.sizeOf3
  rw [run_neq_struct, show (10000 : Nat) = 9999 + 1 from rfl, run_equalIn_struct _ _ _ _ _ uA (by kernel_rfl)]
  have hf : (Try.prog.fieldsOf 43).toList = [⟨ "Kind", 3, 0, false, "", "", 0⟩, ⟨ "Value", 3, 1, false, "", "", 8⟩] := by kernel_rfl
  rw [hf]
  by_cases h0 : a0 = b0 <;> by_cases h1 : a1 = b1 <;> simp [Op.eqFields, go_sem, h0, h1]

/-- A bool, behind some draws. -/
def BoolDrawn (b : Bool) (w : World) (e : Ending) (w' : World) : Prop := e = .returned (.bool b) ∧ ∃ m, w' = w.drewN m
theorem Ents.drewN {w : World} {a : Option Addr} {n : Nat} {es : List (Int × Int)} (h : Ents w a n es) (m : Nat) : Ents (w.drewN m) a n es := h
theorem below_drewN (w : World) (m : Nat) : Below w.heap.size w (w.drewN m) := ⟨rfl, rfl, rfl, Nat.le_refl _, fun _ _ => rfl⟩

theorem take_eq_step {es fs : List (Int × Int)} {k : Nat} (h : es.take k = fs.take k) {e : Int × Int} (h1 : es[k]? = some e) (h2 : fs[k]? = some e) : es.take (k + 1) = fs.take (k + 1) := by
  rw [List.take_add_one, List.take_add_one, h, h1, h2]

theorem same_any {w : World} {a b : Option Addr} {n m : Nat} {es fs : List (Int × Int)} (ha : Ents w a n es) (hb : Ents w b m fs) (c d : Nat) :
    Calls Try.prog 12 #[.slice a n c, .slice b m d] w (BoolDrawn (decide (es = fs)) w) := by
  have hmax := ha.2.1
  have hmax' := hb.2.1
  unfold maxLen at hmax hmax'
  have hnl := ha.1
  have hml := hb.1
  have HA := Lib.hid ha
  have HB := Lib.hid hb
  clear ha hb
  by_cases hnm : n = m
  · subst hnm
    obtain ⟨r, hr⟩ : ∃ r, decide (es = fs) = r := ⟨_, rfl⟩
    rw [hr]
    have HR := Lib.hid hr
    clear hr
    go_enter Try.func12, Try.ntmps12
    go_wp2_with fail
    go_loopw [5] (fun i wr => ∃ k m : Nat, k ≤ n ∧ i = .int .i64 k ∧ wr = w.drewN m ∧ es.take k = fs.take k) (fun i _ => n - (intOf i).toNat)
    case atStart => exact ⟨0, 0, by omega, rfl, rfl, rfl⟩
    case round =>
      obtain ⟨k, m, hk, rfl, rfl, htk⟩ := hrel
      have HT := Lib.hid htk
      clear htk
      by_cases hlt : k < n
      · obtain ⟨x, k1, v1, rfl, he, _, c0, c1⟩ := HA.out.at_ hlt
        obtain ⟨y, k2, v2, rfl, hf, _, d0, d1⟩ := HB.out.at_ hlt
        have HE := Lib.hid he
        have HF := Lib.hid hf
        clear he hf
        have k0 : (0 : Int) ≤ (k : Int) := by omega
        have k1' : (k : Int) < (n : Int) := by omega
        by_cases heq : k1 = k2 ∧ v1 = v2
        · obtain ⟨rfl, rfl⟩ := heq
          have hq := neq_entry k1 v1 k1 v1
          simp only [beq_self_eq_true, Bool.and_true, Bool.not_true] at hq
          go_wp2_with fail
          go_quiet (fail)
          go_wp2_with fail
          go_roundw
          case rel => exact ⟨k + 1, _, by omega, by go_num, rfl, take_eq_step HT.out HE.out HF.out⟩
          case measure => simp [intOf]; omega
        · have hq : ∀ w, (binOp .neq 43 (.agg #[.int .i64 k1, .int .i64 v1]) (.agg #[.int .i64 k2, .int .i64 v2])).run Try.prog w = .ok (.bool true) w := fun w => by
            rw [neq_entry]
            congr 2
            by_cases h1 : k1 = k2
            · by_cases h2 : v1 = v2
              · exact absurd ⟨h1, h2⟩ heq
              · simp [h2]
            · simp [h1]
          have HQ := Lib.hid heq
          clear heq
          go_wp2_with fail
          go_quiet (fail)
          go_wp2
          go_ret
          have hr : r = false := by
            rw [← HR.out]
            refine decide_eq_false ?_
            intro e
            subst e
            have := HE.out.symm.trans HF.out
            simp only [Option.some.injEq, Prod.mk.injEq] at this
            exact HQ.out this
          subst hr
          exact ⟨rfl, m + nq, by rw [World.drewN_drewN]⟩
      · obtain rfl : k = n := by omega
        go_wp2
        go_ret
        have hr : r = true := by
          rw [← HR.out]
          refine decide_eq_true ?_
          have := HT.out
          rwa [List.take_of_length_le (l := es) (by omega), List.take_of_length_le (l := fs) (by omega)] at this
        subst hr
        exact ⟨rfl, m, rfl⟩
  · rw [decide_eq_false (fun e => hnm (by rw [← hnl, ← hml, e]))]
    have hnm' : ((n : Int) == (m : Int)) = false := by simp; omega
    go_enter Try.func12, Try.ntmps12
    go_wp2
    go_ret
    exact ⟨rfl, 0, rfl⟩

theorem any_step {es : List (Int × Int)} {k : Nat} {e : Int × Int} (he : es[k]? = some e) (p : Int × Int → Bool) : (es.take (k + 1)).any p = ((es.take k).any p || p e) := by
  rw [List.take_add_one, he]
  simp

/-- What Complete's first loop keeps. -/
def TickR (w : World) (n : Nat) (es : List (Int × Int)) (t i : Value) (wr : World) : Prop :=
  ∃ k : Nat, k ≤ n ∧ i = .int .i64 k ∧ t = .bool ((es.take k).any fun e => e.1 == 1) ∧ wr = w
/-- What its second loop keeps: every machine before has been found. -/
def MachR (w : World) (n : Int) (es : List (Int × Int)) (i : Value) (wr : World) : Prop :=
  ∃ k : Nat, (k : Int) ≤ max n 0 ∧ i = .int .i64 k ∧ (∀ m : Nat, m < k → (es.any fun e => cls n e == (m : Int)) = true) ∧ Below w.heap.size w wr
/-- What the loop inside it keeps. -/
def FindR (w : World) (L : Nat) (n : Int) (m : Nat) (es : List (Int × Int)) (f i : Value) (wr : World) : Prop :=
  ∃ k : Nat, k ≤ L ∧ i = .int .i64 k ∧ f = .bool ((es.take k).any fun e => cls n e == (m : Int)) ∧ Below w.heap.size w wr

set_option maxHeartbeats 1000000 in
theorem complete_any {w : World} {a : Option Addr} {L : Nat} {es : List (Int × Int)} (h : Ents w a L es) (c : Nat) (n : Int) (hn : n ≤ 9223372036854775807) :
    Calls Try.prog 34 #[.slice a L c, .int .i64 n] w (Gives (.bool (compB n es)) w) := by
  have hmax := h.2.1
  unfold maxLen at hmax
  have hl := h.1
  have H := Lib.hid h
  have HN := Lib.hid hn
  clear h hn
  obtain ⟨T, hT⟩ : ∃ T, (es.any fun e => e.1 == 1) = T := ⟨_, rfl⟩
  obtain ⟨R, hR⟩ : ∃ R, compB n es = R := ⟨_, rfl⟩
  rw [hR]
  have HT := Lib.hid hT
  have HR := Lib.hid hR
  clear hT hR
  go_enter Try.func34, Try.ntmps34
  go_wp2_with fail
  go_loopw [5, 6] (fun t i wr => TickR w L es t i wr) (fun _ i _ => L - (intOf i).toNat)
  case atStart => exact ⟨0, by omega, rfl, rfl, rfl⟩
  case round =>
    obtain ⟨k, hk, rfl, rfl, rfl⟩ := hrel
    by_cases hlt : k < L
    · obtain ⟨x, k1, v1, rfl, he, _, c0, c1⟩ := H.out.at_ hlt
      have hst := any_step he (fun e => e.1 == 1)
      generalize hg : (es.take k).any (fun e => e.1 == 1) = t at hst
      have HS := Lib.hid hst
      clear hst he hg
      cases t with
      | true =>
        go_wp2_with fail
        go_roundw
        case rel => exact ⟨k + 1, by omega, by go_num, by rw [HS.out]; rfl, rfl⟩
        case measure => simp [intOf]; omega
      | false =>
        go_wp2_with fail
        go_roundw
        case rel => exact ⟨k + 1, by omega, by go_num, by rw [HS.out]; rfl, rfl⟩
        case measure => simp [intOf]; omega
    · obtain rfl : L = k := by omega
      rw [List.take_of_length_le (by omega), HT.out]
      obtain ⟨wr0, rfl⟩ : ∃ wr0 : World, wr0 = wr := ⟨_, rfl⟩
      go_wp2_with fail
      go_loopw [7, 8, 9] (fun i _ _ wr => MachR wr0 n es i wr) (fun i _ _ _ => (n - intOf i).toNat)
      case atStart => exact ⟨0, by omega, rfl, fun m hm => by omega, Below.refl _ _⟩
      case round =>
        obtain ⟨m, hm, rfl, hall, hb⟩ := hrel
        have HALL := Lib.hid hall
        have HB := Lib.hid hb
        clear hall hb
        have hw1 := HN.out
        by_cases hmn : (m : Int) < n
        · obtain ⟨wo, rfl⟩ : ∃ wo : World, wo = wr := ⟨_, rfl⟩
          go_wp2_with fail
          go_loopw [8, 9] (fun f i wr => FindR wr0 L n m es f i wr) (fun _ i _ => L - (intOf i).toNat)
          case atStart => exact ⟨0, by omega, rfl, rfl, HB.out⟩
          case round =>
            obtain ⟨k, hk, rfl, rfl, hb⟩ := hrel
            have HB2 := Lib.hid hb
            clear hb HB
            by_cases hlt : k < L
            · obtain ⟨x, k1, v1, rfl, he, _, c0, c1⟩ := (H.out.below HB2.out).at_ hlt
              have hst := any_step he (fun e => cls n e == (m : Int))
              generalize hg : (es.take k).any (fun e => cls n e == (m : Int)) = t at hst
              have HS := Lib.hid hst
              clear hst he hg
              cases t with
              | true =>
                go_wp2_with fail
                go_roundw
                case rel => exact ⟨k + 1, by omega, by go_num, by rw [HS.out]; rfl, HB2.out⟩
                case measure => simp [intOf]; omega
              | false =>
                go_wp2_with fail
                refine (rmach_any k1 v1 n HN.out _).mono ?_
                rintro e w2 ⟨rfl, hb2⟩
                have hb3 := HB2.out.trans (hb2.mono HB2.out.size)
                have HB3 := Lib.hid hb3
                clear hb2 hb3 HB2 c0 c1
                go_wp2_with fail
                go_roundw
                case rel => exact ⟨k + 1, by omega, by go_num, by rw [HS.out]; rfl, HB3.out⟩
                case measure => simp [intOf]; omega
            · obtain rfl : L = k := by omega
              rw [List.take_of_length_le (by omega)]
              generalize hg : es.any (fun e => cls n e == (m : Int)) = t
              have HG := Lib.hid hg
              clear hg
              cases t with
              | true =>
                go_wp2_with fail
                go_roundw
                case rel => exact ⟨m + 1, by omega, by go_num, fun j hj => by
                  by_cases hjm : j < m
                  · exact HALL.out j hjm
                  · obtain rfl : j = m := by omega
                    exact HG.out, HB2.out⟩
                case measure => simp [intOf]; omega
              | false =>
                go_wp2
                go_ret
                have hr : R = false := by
                  rw [← HR.out]
                  refine (compB_false n es).2 (fun hc => ?_)
                  obtain ⟨e, he, hce⟩ := hc.2 m (by omega) hmn
                  have := List.any_eq_false.1 HG.out e he
                  simp [hce] at this
                subst hr
                exact ⟨rfl, HB2.out⟩
        · have he : (m : Int) = max n 0 := by omega
          go_wp2
          go_ret
          have hr : T = R := by
            rw [← HR.out, ← HT.out]
            unfold compB
            have : ((List.range n.toNat).all fun m => es.any fun e => cls n e == (m : Int)) = true := by
              rw [List.all_eq_true]
              intro j hj
              rw [List.mem_range] at hj
              exact HALL.out j (by omega)
            rw [this, Bool.and_true]
          subst hr
          exact ⟨rfl, HB.out⟩
end Go.Proofs.Ytpaacpcmijhcmaa
