/-
  Contracts of light and bytes.
-/
import Derived.Test.YtnpnamgeajifkaaCfREnc
import Derived.Test.YtnpnamgeajifkaaCfREq
namespace Go.Proofs.Ytnpnamgeajifkaa
open Go Go.RowKit

/-- A configuration is small. -/
def lightB (c : Cfg) : Bool := decide (c.pr.length ≤ 50) && decide (c.su.length ≤ 100) && c.pr.all fun p => decide (p.length ≤ 60)
theorem all_dropP {f : List T3 → Bool} {l : List (List T3)} {k : Nat} {x : List T3} (h : l[k]? = some x) : (l.drop k).all f = (f x && (l.drop (k + 1)).all f) := by
  obtain ⟨hk, he⟩ := List.getElem?_eq_some_iff.1 h
  rw [List.drop_eq_getElem_cons hk, he]
  rfl
def LightR (w : World) (n : Nat) (t : Bool) (ps : List (List T3)) (i : Value) (wr : World) : Prop :=
  ∃ k : Nat, k ≤ n ∧ i = .int .i64 k ∧ t = (ps.drop k).all (fun p => decide (p.length ≤ 60)) ∧ Below w.heap.size w wr

set_option maxHeartbeats 2000000 in
theorem light_any {w : World} {B : Nat} {c : Cfg} {pa : Option Addr} {pn : Nat} {sa : Option Addr} {sn : Nat} (h : Lists w B c pa pn sa sn) (pc sc : Nat) :
    Calls Try.prog 8 #[cv c pa pn pc sa sn sc] w (EqGives (lightB c) w) := by
  have hlen := h.pr.1
  have hmax := h.pr.2.1
  have hmax2 := h.su.2.1
  unfold maxLen at hmax hmax2
  obtain ⟨R, hR⟩ : ∃ R, lightB c = R := ⟨_, rfl⟩
  rw [hR]
  unfold lightB at hR
  rw [hlen, h.su.1] at hR
  have H1 := Lib.hid (h.alloc (.cells (cc c pa pn pc sa sn sc) 25))
  have X1 := Lib.hid (Blk.made w 25 (cc c pa pn pc sa sn sc))
  have B1 := Lib.hid (below_one w (.cells (cc c pa pn pc sa sn sc) 25))
  have HR := Lib.hid hR
  have HL := Lib.hid hlen
  clear hR hlen h
  by_cases hp : (50 : Int) < (pn : Int)
  · have hr : R = false := by
      rw [← HR.out, decide_eq_false (show ¬ pn ≤ 50 by omega), Bool.false_and, Bool.false_and]
    subst hr
    go_enter Try.func8, Try.ntmps8
    go_wp2
    go_ret
    exact ⟨rfl, B1.out⟩
  by_cases hs : (100 : Int) < (sn : Int)
  · have hr : R = false := by
      rw [← HR.out, decide_eq_false (show ¬ sn ≤ 100 by omega), Bool.and_false, Bool.false_and]
    subst hr
    go_enter Try.func8, Try.ntmps8
    go_wp2
    go_ret
    exact ⟨rfl, B1.out⟩
  have hr : R = c.pr.all fun p => decide (p.length ≤ 60) := by
    rw [← HR.out, decide_eq_true (show pn ≤ 50 by omega), decide_eq_true (show sn ≤ 100 by omega), Bool.true_and, Bool.true_and]
  have HR2 := Lib.hid hr
  clear hr
  go_enter Try.func8, Try.ntmps8
  go_wp2_with fail
  generalize w.alloc (.cells (cc c pa pn pc sa sn sc) 25) = W1 at *
  go_loopw [3] (fun i wr => LightR W1 pn R c.pr i wr) (fun i _ => pn - (intOf i).toNat)
  case atStart => exact ⟨0, by omega, rfl, HR2.out, Below.refl _ _⟩
  case round =>
    obtain ⟨k, hk, rfl, hrk, hb⟩ := hrel
    have HRK := Lib.hid hrk
    have HBk := Lib.hid hb
    have c9 := (eleven (X1.out.below hb)).c9
    clear hrk hb
    by_cases hlt : k < pn
    · obtain ⟨x, b, m, cp, p, rfl, hp2, _, hx, hc0, ht⟩ := (H1.out.below HBk.out).pr.at_ hlt
      have HST := Lib.hid (all_dropP (f := fun p => decide (p.length ≤ 60)) hp2)
      have hm := ht.2.1
      unfold maxLen at hm
      have HPL := Lib.hid ht.1
      clear hp2 ht
      by_cases h60 : (60 : Int) < (m : Int)
      · have hr : R = false := by
          rw [HRK.out, HST.out, HPL.out, decide_eq_false (show ¬ m ≤ 60 by omega), Bool.false_and]
        subst hr
        go_wp2
        go_ret
        exact ⟨rfl, B1.out.trans (HBk.out.mono B1.out.size)⟩
      · have hr : R = (c.pr.drop (k + 1)).all (fun p => decide (p.length ≤ 60)) := by
          have := HST.out
          rw [HPL.out, decide_eq_true (show m ≤ 60 by omega), Bool.true_and] at this
          exact HRK.out.trans this
        have HR3 := Lib.hid hr
        clear hr
        go_wp2_with fail
        go_roundw
        case rel => exact ⟨k + 1, by omega, by go_num, HR3.out, HBk.out⟩
        case measure => simp [intOf]; omega
    · obtain rfl : k = pn := by omega
      have hr : R = true := by
        rw [HRK.out, List.drop_eq_nil_of_le (by rw [HL.out]; omega)]
        rfl
      subst hr
      go_wp2
      go_ret
      exact ⟨rfl, B1.out.trans (HBk.out.mono B1.out.size)⟩

/-- What bytes gives. -/
def BytesN (w : World) (e : Ending) (w' : World) : Prop :=
  ∃ a n cp zs, e = .returned (.slice a n cp) ∧ InB w' w'.heap.size a n zs ∧ Below w.heap.size w w'
theorem OwnB.inB {w : World} {B : Nat} {v : Value} {bs : List Int} (h : OwnB w B v bs) (hz : ∀ z ∈ bs, 0 ≤ z ∧ z ≤ 255) : ∃ a c, v = .slice a bs.length c ∧ InB w w.heap.size a bs.length bs ∧ bs.length ≤ c := by
  rcases h.2 with ⟨rfl, h2⟩ | ⟨g, cap, cur, rfl, h2, hg, hn, hc, _, _⟩
  · have : bs = [] := List.eq_nil_of_length_eq_zero h2
    subst this
    exact ⟨none, 0, rfl, inB_nil _ _ _, Nat.le_refl _⟩
  · refine ⟨_, cap, rfl, ⟨rfl, Nat.le_trans hn hc, fun i hi => ⟨_, rfl, (Array.getElem?_eq_some_iff.1 hg).1, ?_, ?_⟩⟩, hn⟩
    · refine World.ownsRow.cells h rfl _ _ ?_
      rw [List.getElem?_map, List.getD_eq_getElem?_getD, List.getElem?_eq_getElem hi]
      rfl
    · have e : bs.getD i 0 = bs[i] := by
        rw [List.getD_eq_getElem?_getD, List.getElem?_eq_getElem hi]
        rfl
      rw [e]
      exact hz _ (List.getElem_mem hi)
/-- The bytes of an encoding are bytes. -/
theorem encOut_bytes {c : Cfg} {zs : List Int} {er : Int} (h : EncOut c zs er) : ∀ z ∈ zs, 0 ≤ z ∧ z ≤ 255 := by
  rcases h with ⟨_, _, rfl⟩ | ⟨_, _, _, rfl⟩ | ⟨hk, hf, _, ht⟩
  · intro z hz
    cases hz
  · intro z hz
    cases hz
  · obtain ⟨q, _, rfl, _, _⟩ := ht
    intro z hz
    have hz2 := List.mem_of_mem_take hz
    unfold vals at hz2
    obtain ⟨e, he, rfl⟩ := List.mem_map.1 hz2
    obtain ⟨t, ht⟩ := List.getElem?_of_mem he
    have h1 := fits_iff.1 hf t e ht
    have h2 := small_puts hk e he
    omega

set_option maxHeartbeats 2000000 in
theorem bytes_any {w : World} {B : Nat} {c : Cfg} {pa : Option Addr} {pn : Nat} {sa : Option Addr} {sn : Nat} (h : Lists w B c pa pn sa sn) (pc sc : Nat) :
    Calls Try.prog 22 #[cv c pa pn pc sa sn sc] w (BytesN w) := by
  have H1 := Lib.hid (h.alloc (.cells (cc c pa pn pc sa sn sc) 25))
  have B1 := Lib.hid (below_one w (.cells (cc c pa pn pc sa sn sc) 25))
  clear h
  go_enter Try.func22, Try.ntmps22
  go_wp2_with fail
  (with_reducible refine (rencode_any H1.out _ _).mono ?_)
  rintro e w1 ⟨v, zs, er, rfl, ho, he, hb⟩
  obtain ⟨a, cp, rfl, hi, _⟩ := ho.inB (encOut_bytes he)
  obtain ⟨n, hn⟩ : ∃ n, zs.length = n := ⟨_, rfl⟩
  rw [hn] at hi ⊢
  have HI := Lib.hid hi
  have B2 := Lib.hid (B1.out.trans (hb.mono B1.out.size))
  clear hi hb ho he hn
  go_wp2
  go_ret
  exact ⟨_, _, _, zs, rfl, HI.out, B2.out⟩
end Go.Proofs.Ytnpnamgeajifkaa
