/-
  The walk of the statement ScriptRound.
-/
import Derived.Test.YtpaacpcmijhcmaaScLawsA
namespace Go.Proofs.Ytpaacpcmijhcmaa
open Go Go.RowKit

theorem bytesE_at : ∀ (es : List (Int × Int)) (i : Nat) (e : Int × Int), es[i]? = some e → (bytesE es).getD (2 * i) 0 = e.1 ∧ (bytesE es).getD (2 * i + 1) 0 = e.2
  | [], _, _, h => by simp at h
  | e :: r, 0, x, h => by
    simp at h
    subst h
    exact ⟨rfl, rfl⟩
  | e :: r, i + 1, x, h => by
    have := bytesE_at r i x (by simpa using h)
    rw [show 2 * (i + 1) = 2 * i + 1 + 1 by omega]
    simpa [bytesE] using this
/-- Valid entries survive both. -/
theorem dec_enc {es : List (Int × Int)} (h : es.all okE = true) : decS (bytesE es) = es := by
  apply List.ext_getElem?
  intro i
  unfold decS
  rw [bytesE_length, Nat.mul_div_cancel _ (by omega)]
  by_cases hi : i < es.length
  · obtain ⟨e, he⟩ : ∃ e, es[i]? = some e := ⟨_, List.getElem?_eq_getElem hi⟩
    have hok : okE e = true := List.all_eq_true.1 h e (List.mem_of_getElem? he)
    obtain ⟨b1, b2⟩ := bytesE_at es i e he
    obtain ⟨k, v⟩ := e
    have hr := okE_in hok
    unfold okE at hok
    simp at hok
    simp only at b1 b2
    rw [he]
    simp [hi]
    unfold ent
    rw [b1, b2]
    have hk : k % 4 = k := by omega
    rw [hk]
    congr 1
    split <;> omega
  · rw [List.getElem?_eq_none (by simp; omega), List.getElem?_eq_none (by omega)]
/-- What is decoded is valid. -/
theorem dec_ok {w : World} {a : Option Addr} {L : Nat} {zs : List Int} (h : InBytes w a L zs) : (decS zs).all okE = true := by
  rw [List.all_eq_true]
  intro e he
  unfold decS at he
  obtain ⟨i, hi, rfl⟩ := List.mem_map.1 he
  rw [List.mem_range] at hi
  obtain ⟨_, _, _, _, z0, z1⟩ := h.2.2 (2 * i) (by rw [← h.1]; omega)
  obtain ⟨_, _, _, _, v0, v1⟩ := h.2.2 (2 * i + 1) (by rw [← h.1]; omega)
  unfold okE ent
  simp only [decide_eq_true_eq]
  generalize zs.getD (2 * i) 0 = z at *
  generalize zs.getD (2 * i + 1) 0 = v at *
  by_cases hz : z % 4 = 0 ∨ z % 4 = 2
  · rw [if_pos hz]
    exact .inl ⟨hz, v0, v1⟩
  · rw [if_neg hz]
    refine .inr ⟨by omega, rfl⟩
theorem bytesE_in {es : List (Int × Int)} (h : es.all okE = true) : ∀ z ∈ bytesE es, 0 ≤ z ∧ z ≤ 255 := by
  induction es with
  | nil => intro z hz; cases hz
  | cons e r ih =>
    simp only [List.all_cons, Bool.and_eq_true] at h
    intro z hz
    simp only [bytesE, List.mem_cons] at hz
    have := okE_in (k := e.1) (v := e.2) h.1
    rcases hz with rfl | rfl | hz
    · omega
    · omega
    · exact ih h.2 z hz
theorem OwnB.bytes {w : World} {base : Nat} {v : Value} {bs : List Int} (h : OwnB w base v bs) (hr : ∀ z ∈ bs, 0 ≤ z ∧ z ≤ 255) : ∃ a c, v = .slice a bs.length c ∧ InBytes w a bs.length bs := by
  rcases h.2 with ⟨rfl, h2⟩ | ⟨g, cap, cur, rfl, h2, hg, hn, hc, _, _⟩
  · have : bs = [] := List.eq_nil_of_length_eq_zero h2
    subst this
    exact ⟨none, 0, rfl, rfl, by simp, fun i hi => by simp at hi⟩
  · refine ⟨_, cap, rfl, rfl, Nat.le_trans hn hc, fun i hi => ⟨_, rfl, (Array.getElem?_eq_some_iff.1 hg).1, ?_, ?_⟩⟩
    · exact World.ownsRow.cells h rfl i (.int .u8 (bs.getD i 0)) (by simp [hi])
    · have e : bs.getD i 0 = bs[i] := by
        rw [List.getD_eq_getElem?_getD, List.getElem?_eq_getElem hi]
        rfl
      rw [e]
      exact hr _ (List.getElem_mem hi)

/-- Encode, told of valid entries, and of others. -/
theorem encode_yes {w : World} {a : Option Addr} {L : Nat} {es : List (Int × Int)} (h : Ents w a L es) (c : Nat) (hL : L ≤ 4000) (hok : es.all okE = true) :
    Calls Try.prog 15 #[.slice a L c] w fun e w' => ∃ a c, e = .returned (.tuple #[.slice a (2 * L) c, .int .i64 0]) ∧ InBytes w' a (2 * L) (bytesE es) ∧ Below w.heap.size w w' := by
  refine (encode_any h c hL).mono ?_
  rintro e w1 ⟨v1, bs, er, rfl, O1, h1, b1⟩
  rcases h1 with ⟨_, rfl, rfl⟩ | ⟨h1, _⟩
  · obtain ⟨a1, c1, rfl, hi⟩ := O1.bytes (bytesE_in hok)
    have hl : (bytesE es).length = 2 * L := by
      rw [bytesE_length, h.1]
      omega
    rw [hl] at hi ⊢
    exact ⟨a1, c1, rfl, hi, b1⟩
  · rw [hok] at h1
    cases h1
theorem encode_no {w : World} {a : Option Addr} {L : Nat} {es : List (Int × Int)} (h : Ents w a L es) (c : Nat) (hL : L ≤ 4000) (hok : es.all okE = false) :
    Calls Try.prog 15 #[.slice a L c] w fun e w' => ∃ v, e = .returned (.tuple #[v, .int .i64 1]) ∧ Below w.heap.size w w' := by
  refine (encode_any h c hL).mono ?_
  rintro e w1 ⟨v1, bs, er, rfl, O1, h1, b1⟩
  rcases h1 with ⟨h1, _⟩ | ⟨_, _, rfl⟩
  · rw [hok] at h1
    cases h1
  · exact ⟨v1, rfl, b1⟩
/-- Decode, told of the bytes of valid entries. -/
theorem decode_back {w : World} {a : Option Addr} {L : Nat} {es : List (Int × Int)} (h : InBytes w a (2 * L) (bytesE es)) (hl : es.length = L) (c : Nat) (hL : L ≤ 2000) (hok : es.all okE = true) :
    Calls Try.prog 13 #[.slice a (2 * L) c] w fun e w' => ∃ a c, e = .returned (.slice a L c) ∧ Ents w' a L es ∧ Below w.heap.size w w' := by
  refine (decode_any h c (by omega)).mono ?_
  rintro e w1 ⟨a1, c1, rfl, E1, b1⟩
  rw [dec_enc hok, h.1, show 2 * L / 2 = L by omega] at E1
  rw [h.1, show 2 * L / 2 = L by omega]
  exact ⟨a1, c1, rfl, E1, b1⟩

set_option maxHeartbeats 2000000 in
theorem round_law (a : Option Addr) (L c : Nat) (zs : List Int) (a' : Option Addr) (L' c' : Nat) (es : List (Int × Int)) (w : World) (h : InBytes w a L zs) (h' : Ents w a' L' es) :
    Calls Try.prog 5 #[.slice a L c, .slice a' L' c'] w fun e w' => e = .returned (.bool true) ∧ Below w.heap.size w w' := by
  have hmax := h.2.1
  have hmax' := h'.2.1
  unfold maxLen at hmax hmax'
  have hl := Lib.hid h.1
  have hl' := Lib.hid h'.1
  have H := Lib.hid h
  have H' := Lib.hid h'
  clear h h'
  by_cases hL : (2000 : Int) < (L : Int)
  · go_enter Try.func5, Try.ntmps5
    go_wp2
    go_ret
    exact ⟨rfl, Below.refl _ _⟩
  · by_cases hL' : (500 : Int) < (L' : Int)
    · go_enter Try.func5, Try.ntmps5
      go_wp2
      go_ret
      exact ⟨rfl, Below.refl _ _⟩
    · have hdok := Lib.hid (dec_ok H.out)
      obtain ⟨n, hn⟩ : ∃ n, zs.length / 2 = n := ⟨_, rfl⟩
      have HN := Lib.hid hn
      have hn2 : n ≤ 1000 := by have := hl.out; omega
      have hdl : (decS zs).length = n := by simp [decS, hn]
      have HDL := Lib.hid hdl
      clear hn hdl
      go_enter Try.func5, Try.ntmps5
      go_wp2_with fail
      refine (decode_any H.out _ (by omega)).mono ?_
      rintro e w1 ⟨a1, c1, rfl, E1, b1⟩
      rw [HN.out] at E1 ⊢
      have B1 := Lib.hid b1
      have HE1 := Lib.hid E1
      clear b1 E1
      go_wp2_with fail
      refine (encode_yes HE1.out _ (by omega) hdok.out).mono ?_
      rintro e w2 ⟨a2, c2, rfl, I2, b2⟩
      have B2 := Lib.hid (B1.out.trans (b2.mono B1.out.size))
      have HE2 := Lib.hid (HE1.out.below b2)
      have HI2 := Lib.hid I2
      clear b2 I2 B1 HE1
      go_wp2_with fail
      refine (awake_any w2).mono ?_
      rintro e w3 ⟨rfl, b3⟩
      have B3 := Lib.hid (B2.out.trans (b3.mono B2.out.size))
      have HE3 := Lib.hid (HE2.out.below b3)
      have HI3 := Lib.hid (HI2.out.below b3)
      clear b3 B2 HE2 HI2
      go_wp2_with fail
      refine (decode_back HI3.out HDL.out _ (by omega) hdok.out).mono ?_
      rintro e w4 ⟨a4, c4, rfl, E4, b4⟩
      have B4 := Lib.hid (B3.out.trans (b4.mono B3.out.size))
      have HE4 := Lib.hid (HE3.out.below b4)
      have HF4 := Lib.hid E4
      clear b4 E4 B3 HE3 HI3
      go_wp2_with fail
      refine (same_true HF4.out HE4.out _ _).mono ?_
      rintro e w5 ⟨rfl, b5⟩
      have B5 := Lib.hid (B4.out.trans (b5.mono B4.out.size))
      clear b5 B4 HE4 HF4
      by_cases hok : es.all okE = true
      · have HOK := Lib.hid hok
        clear hok
        go_wp2_with fail
        refine (encode_yes (H'.out.below B5.out) _ (by omega) HOK.out).mono ?_
        rintro e w6 ⟨a6, c6, rfl, I6, b6⟩
        have B6 := Lib.hid (B5.out.trans (b6.mono B5.out.size))
        have HI6 := Lib.hid I6
        clear b6 I6 B5
        go_wp2_with fail
        refine (decode_back HI6.out hl'.out _ (by omega) HOK.out).mono ?_
        rintro e w7 ⟨a7, c7, rfl, E7, b7⟩
        have B7 := Lib.hid (B6.out.trans (b7.mono B6.out.size))
        have HE7 := Lib.hid E7
        clear b7 E7 B6 HI6
        go_wp2_with fail
        refine (same_true HE7.out (H'.out.below B7.out) _ _).mono ?_
        rintro e w8 ⟨rfl, b8⟩
        have B8 := Lib.hid (B7.out.trans (b8.mono B7.out.size))
        clear b8 B7 HE7
        go_wp2
        go_ret
        exact ⟨rfl, B8.out⟩
      · have HOK := Lib.hid (show es.all okE = false by simpa using hok)
        clear hok
        go_wp2_with fail
        refine (encode_no (H'.out.below B5.out) _ (by omega) HOK.out).mono ?_
        rintro e w6 ⟨v6, rfl, b6⟩
        have B6 := Lib.hid (B5.out.trans (b6.mono B5.out.size))
        clear b6 B5
        go_wp2
        go_ret
        exact ⟨rfl, B6.out⟩
end Go.Proofs.Ytpaacpcmijhcmaa
