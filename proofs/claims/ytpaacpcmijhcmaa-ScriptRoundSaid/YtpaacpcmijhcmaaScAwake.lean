/-
  awake of the statements on scripts.
-/
import Derived.Test.YtpaacpcmijhcmaaScFair
import Derived.Test.YtpaacpcmijhcmaaScREnc
import Derived.Deep.RegionHeld3
namespace Go.Proofs.Ytpaacpcmijhcmaa
open Go Go.RowKit

/-- Entries written out, in a row of their own. -/
theorem ents_lit (w : World) (es : List (Int × Int)) (hm : es.length ≤ maxLen) : Ents (w.alloc (.cells (cellsE es).toArray 43)) (some ⟨w.heap.size, 0, none⟩) es.length es :=
  ERow.ents (Y := es) (Blk.made w 43 (cellsE es).toArray) hm
/-- Bytes written out, in a row of their own. -/
theorem bytes_lit (w : World) (zs : List Int) (hm : zs.length ≤ maxLen) (hz : ∀ z ∈ zs, 0 ≤ z ∧ z ≤ 255) : InBytes (w.alloc (.cells (zs.map (Value.int .u8)).toArray 5)) (some ⟨w.heap.size, 0, none⟩) zs.length zs := by
  have hB := Blk.made w 5 (zs.map (Value.int .u8)).toArray
  refine ⟨rfl, hm, fun i hi => ⟨_, rfl, hB.lt, ?_, ?_⟩⟩
  · have e : (⟨w.heap.size, 0, none⟩ : Addr).add i = ⟨w.heap.size, i, none⟩ := by unfold Addr.add; split <;> simp_all
    rw [e, hB.at_ i]
    simp [hi]
  · have e : zs.getD i 0 = zs[i] := by
      rw [List.getD_eq_getElem?_getD, List.getElem?_eq_getElem hi]
      rfl
    rw [e]
    exact hz _ (List.getElem_mem hi)

theorem same_true {w : World} {a b : Option Addr} {n m : Nat} {es : List (Int × Int)} (ha : Ents w a n es) (hb : Ents w b m es) (c d : Nat) :
    Calls Try.prog 12 #[.slice a n c, .slice b m d] w (Gives (.bool true) w) := by
  refine (same_any ha hb c d).mono ?_
  rintro e w' ⟨rfl, m, rfl⟩
  rw [decide_eq_true rfl]
  exact ⟨rfl, below_drewN w m⟩

def three : List (Int × Int) := [(0, 5), (1, 0), (2, 200)]
def six : List (Int × Int) := [(0, 0), (1, 0), (0, 1), (0, 1), (0, 0), (1, 0)]
theorem six_two : rndsOf 2 six = 2 := by decide

theorem decode_six {w : World} {a : Option Addr} (h : InBytes w a 6 [0, 5, 1, 9, 2, 200]) (c : Nat) :
    Calls Try.prog 13 #[.slice a 6 c] w fun e w' => ∃ a c, e = .returned (.slice a 3 c) ∧ Ents w' a 3 three ∧ Below w.heap.size w w' :=
  decode_any h c (by omega)
theorem rounds_six {w : World} {a : Option Addr} (h : Ents w a 6 six) (c : Nat) :
    Calls Try.prog 20 #[.slice a 6 c, .int .i64 2] w (Gives (.int .i64 2) w) := by
  have := rounds_any h c (by omega) 2
  rwa [six_two] at this

/-- The cells of two entries, a pick of 0 at p and a tick at q. -/
def Four (w : World) (p q : Nat) : Prop := w.cell? ⟨p, 0, none⟩ = some (.int .i64 0) ∧ w.cell? ⟨p, 1, none⟩ = some (.int .i64 0) ∧ w.cell? ⟨q, 0, none⟩ = some (.int .i64 1) ∧ w.cell? ⟨q, 1, none⟩ = some (.int .i64 0)
theorem Four.below {w w' : World} {p q : Nat} (h : Four w p q) (hb : Below w.heap.size w w') : Four w' p q := by
  obtain ⟨h0, h1, h2, h3⟩ := h
  have k : ∀ (g j : Nat) (u : Value), w.cell? ⟨g, j, none⟩ = some u → w'.cell? ⟨g, j, none⟩ = some u := fun g j u hu => (hb.cell (p := ⟨g, j, none⟩) (World.block_lt_of_cell? w _ hu)).trans hu
  exact ⟨k _ _ _ h0, k _ _ _ h1, k _ _ _ h2, k _ _ _ h3⟩
theorem Four.alloc {w : World} {p q : Nat} (h : Four w p q) (o : Obj) : Four (w.alloc o) p q := h.below (below_one w o)
theorem Four.drew {w : World} {p q : Nat} (h : Four w p q) : Four w.drew p q := h
theorem Four.drewN {w : World} {p q : Nat} (h : Four w p q) (m : Nat) : Four (w.drewN m) p q := h

set_option maxHeartbeats 4000000 in
theorem awake_any (w : World) : Calls Try.prog 11 #[] w (Gives (.bool true) w) := by
  have hin := bytes_lit w [0, 5, 1, 9, 2, 200] (by unfold maxLen; simp) (by simp)
  have B0 := below_one w (.cells (([0, 5, 1, 9, 2, 200] : List Int).map (Value.int .u8)).toArray 5)
  go_enter Try.func11, Try.ntmps11
  go_wp2_with fail
  refine (decode_six hin _).mono ?_
  rintro e w1 ⟨a1, c1, rfl, E1, b1⟩
  have B1 := Lib.hid (B0.trans (b1.mono B0.size))
  have HE1 := Lib.hid E1
  clear hin B0 b1 E1
  go_wp2_with fail
  refine (picked_any 0 _).mono ?_
  rintro e w2 ⟨rfl, b2⟩
  have B2 := Lib.hid (B1.out.trans (b2.mono B1.out.size))
  have HE2 := Lib.hid (HE1.out.below b2)
  clear b2 B1 HE1
  go_wp2_with fail
  have B3 := (B2.out.alloc B2.out.size (.cells #[.int .i64 0, .int .i64 0] 43)).alloc (Nat.le_trans B2.out.size (by simp)) (.cells #[.int .i64 1, .int .i64 0] 43)
  have E3 := (HE2.out.alloc (.cells #[.int .i64 0, .int .i64 0] 43)).alloc (.cells #[.int .i64 1, .int .i64 0] 43)
  have P3 : Blk ((w2.alloc (.cells #[.int .i64 0, .int .i64 0] 43)).alloc (.cells #[.int .i64 1, .int .i64 0] 43)) w2.heap.size 43 #[.int .i64 0, .int .i64 0] :=
    (Blk.made w2 43 #[.int .i64 0, .int .i64 0]).of_same (Below.heap_alloc _ _ _ (by simp))
  have Q3 : Blk ((w2.alloc (.cells #[.int .i64 0, .int .i64 0] 43)).alloc (.cells #[.int .i64 1, .int .i64 0] 43)) (w2.heap.size + 1) 43 #[.int .i64 1, .int .i64 0] := by
    simpa using Blk.made (w2.alloc (.cells #[.int .i64 0, .int .i64 0] 43)) 43 #[.int .i64 1, .int .i64 0]
  generalize (w2.alloc (.cells #[.int .i64 0, .int .i64 0] 43)).alloc (.cells #[.int .i64 1, .int .i64 0] 43) = W at *
  generalize w2.heap.size + 1 = q at *
  generalize w2.heap.size = p at *
  clear B2 HE2
  have HB3 := Lib.hid B3
  have HE3 := Lib.hid (E3.drew.alloc (.cells (cellsE three).toArray 43))
  have HT3 := Lib.hid (ents_lit W.drew three (by unfold maxLen; simp [three]))
  have HB4 := Lib.hid (below_one W.drew (.cells (cellsE three).toArray 43))
  have F0 : Four W p q := ⟨P3.at_ 0, P3.at_ 1, Q3.at_ 0, Q3.at_ 1⟩
  have HF1 := Lib.hid (F0.alloc (.cells (cellsE three).toArray 43))
  obtain ⟨p0, p1, q0, q1⟩ := F0.drew
  obtain ⟨a0, a1', a2, a3⟩ := HF1.out.drew
  simp only [three, cellsE] at a0 a1' a2 a3
  clear B3 E3 P3 Q3 F0
  go_region_held3 (fun w' => w'.cell? ⟨p, 0, none⟩ = some (.int .i64 0) ∧ w'.cell? ⟨p, 1, none⟩ = some (.int .i64 0) ∧ w'.cell? ⟨q, 0, none⟩ = some (.int .i64 1) ∧ w'.cell? ⟨q, 1, none⟩ = some (.int .i64 0)) (go_keep)
    (first
      | (go_at_call 12
         refine (same_true HE3.out HT3.out _ _).mono ?_
         rintro e w4 ⟨rfl, b4⟩
         have B4 := Lib.hid (HB3.out.trans ((below_drew (below_one W (.cells (cellsE three).toArray 43))).mono HB3.out.size |>.trans (b4.mono (Nat.le_trans HB3.out.size (by simp)))))
         have F4 := Lib.hid (HF1.out.drew.below b4)
         obtain ⟨r0', r1', r2', r3'⟩ := F4.out
         clear b4)
      | (go_at_call 26
         refine (picked_any 1 _).mono ?_
         rintro e w5 ⟨rfl, b5⟩
         have B5 := Lib.hid (B4.out.trans (b5.mono B4.out.size))
         have F5 := Lib.hid (F4.out.below b5)
         obtain ⟨r0, r1, r2, r3⟩ := F5.out
         clear b5 B4 F4)
      | (go_at_call 26
         refine (picked_any 1 _).mono ?_
         rintro e w6 ⟨rfl, b6⟩
         have B6 := Lib.hid ((B5.out.trans (b6.mono B5.out.size)))
         have F6 := Lib.hid (F5.out.below b6)
         obtain ⟨s0, s1, s2, s3⟩ := F6.out
         obtain ⟨t0, t1, t2, t3⟩ := F6.out.alloc (.cells (cellsE six).toArray 43)
         simp only [six, cellsE] at t0 t1 t2 t3
         have E6 := Lib.hid (ents_lit w6 six (by unfold maxLen; simp [six]))
         clear b6 B5 F5)
      | (go_at_call 20
         refine (rounds_six E6.out _).mono ?_
         rintro e w7 ⟨rfl, b7⟩
         have B7 := Lib.hid (B6.out.trans ((below_one w6 (.cells (cellsE six).toArray 43)).mono B6.out.size |>.trans (b7.mono (Nat.le_trans B6.out.size (by simp)))))
         obtain ⟨u0, u1, u2, u3⟩ := (F6.out.alloc (.cells (cellsE six).toArray 43)).below b7
         clear b7 B6 F6 E6))
  go_wp2
  go_ret
  exact ⟨rfl, B7.out⟩
end Go.Proofs.Ytpaacpcmijhcmaa
