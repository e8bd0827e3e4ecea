/-
  Slices of bytes, as the walks are told of them; the contracts of both Decodes.
-/
import Derived.Test.YtpaacpcmijhcmaaScCallsC
import Derived.Test.YtpaacpcmijhcmaaOpen
import Derived.Deep.OwnRows
import Derived.Laws.NewBlocks
import Derived.Laws.BytesArg
import Derived.StillTailTactics
namespace Go.Proofs.Ytpaacpcmijhcmaa
open Go Go.RowKit Go.ChangeShapes Go.WideShapes Go.ChangeAt

/-- The slice (a, n) reads as the bytes zs. -/
def InBytes (w : World) (a : Option Addr) (n : Nat) (zs : List Int) : Prop :=
  zs.length = n ∧ n ≤ maxLen ∧ ∀ i, i < n → ∃ x : Addr, a = some x ∧ x.block < w.heap.size ∧ w.cell? (x.add i) = some (.int .u8 (zs.getD i 0)) ∧ 0 ≤ zs.getD i 0 ∧ zs.getD i 0 ≤ 255

theorem InBytes.below {w w' : World} {a : Option Addr} {n : Nat} {zs : List Int} (h : InBytes w a n zs) (hb : Below w.heap.size w w') : InBytes w' a n zs :=
  ⟨h.1, h.2.1, fun i hi => by
    obtain ⟨x, e, hx, hc, hr⟩ := h.2.2 i hi
    refine ⟨x, e, Nat.lt_of_lt_of_le hx hb.size, ?_, hr⟩
    rw [hb.cell (by rw [block_add]; exact hx)]
    exact hc⟩
theorem InBytes.drew {w : World} {a : Option Addr} {n : Nat} {zs : List Int} (h : InBytes w a n zs) : InBytes w.drew a n zs := h

theorem open_bytes {H : Type} {enc : TypeId × Value → H} {w : World} {base b0 : Nat} {spare : Nat → Bool} {held : Bool} {r : Reach} {v : Value} {d : DataW H} {p : List MemPlace}
    (hv : Value.okWide Try.prog w r b0 22 v) (h : DataW.Trod enc Try.prog w base spare held 22 v d p) :
    ∃ (a : Option Addr) (n c : Nat) (zs : List Int), v = .slice a n c ∧ InBytes w a n zs := by
  obtain ⟨a, n, c, rfl⟩ := okWide_slice Try.underlying22 hv
  obtain ⟨fuel, hf⟩ := h
  rcases open_ints Try.underlying22 Try.underlying5 (by kernel_rfl) hf with ⟨hcs, _⟩ | ⟨x, l, c', zs, hcs, _, hl, hm, hz, _, hcell, hwf⟩
  · simp [Value.cells] at hcs
    obtain ⟨rfl, rfl, rfl⟩ := hcs
    exact ⟨_, _, _, [], rfl, rfl, by simp, fun i hi => absurd hi (by omega)⟩
  · simp [Value.cells] at hcs
    obtain ⟨rfl, rfl, rfl⟩ := hcs
    have hnz : n ≤ zs.length := by rw [hz]; split <;> omega
    refine ⟨_, _, _, zs.take n, rfl, by simp; omega, by omega, fun i hi => ⟨x, rfl, ?_, ?_, ?_⟩⟩
    · have := World.block_lt_of_cell? w _ (hcell i (by omega))
      rwa [show (x.add i).block = x.block by unfold Addr.add; split <;> rfl] at this
    · rw [hcell i (by omega), List.getD_eq_getElem?_getD, List.getD_eq_getElem?_getD, List.getElem?_take, if_pos hi]
    · have hi' : i < zs.length := by omega
      have hw := hwf (zs[i]) (List.getElem_mem hi')
      have e : (zs.take n).getD i 0 = zs[i] := by
        rw [List.getD_eq_getElem?_getD, List.getElem?_take, if_pos hi, List.getElem?_eq_getElem hi']
        rfl
      rw [e]
      simp only [Lit.wf, Bool.and_eq_true, decide_eq_true_eq] at hw
      have h0 : IntKind.u8.min = 0 := rfl
      have h1 : IntKind.u8.max = 255 := rfl
      rw [h0, h1] at hw
      exact hw

/-- The entry of the two bytes at place i. -/
def ent (zs : List Int) (i : Nat) : Int × Int :=
  (zs.getD (2 * i) 0 % 4, if zs.getD (2 * i) 0 % 4 = 0 ∨ zs.getD (2 * i) 0 % 4 = 2 then zs.getD (2 * i + 1) 0 else 0)
def decS (zs : List Int) : List (Int × Int) := (List.range (zs.length / 2)).map (ent zs)

/-- Block g is just the entries Y. -/
def ERow (w : World) (g : Nat) (Y : List (Int × Int)) : Prop := Blk w g 43 (cellsE Y).toArray
theorem cellsE_set : ∀ (Y : List (Int × Int)) (k : Nat) (e : Int × Int), k < Y.length → cellsE (Y.set k e) = ((cellsE Y).set (k * 2) (.int .i64 e.1)).set (k * 2 + 1) (.int .i64 e.2)
  | [], _, _, h => absurd h (by simp)
  | x :: r, 0, e, _ => by simp [cellsE]
  | x :: r, k + 1, e, h => by
    have := cellsE_set r k e (by simpa using h)
    rw [show (k + 1) * 2 = k * 2 + 1 + 1 by omega]
    simp [cellsE, this]
theorem ERow.put {w : World} {g : Nat} {Y : List (Int × Int)} (h : ERow w g Y) {k : Nat} (hk : k < Y.length) (e : Int × Int) : ERow ((w.setCell ⟨g, k * 2, none⟩ (.int .i64 e.1)).setCell ⟨g, k * 2 + 1, none⟩ (.int .i64 e.2)) g (Y.set k e) := by
  have := Blk.put (Blk.put h (k * 2) (.int .i64 e.1)) (k * 2 + 1) (.int .i64 e.2)
  unfold ERow
  rw [cellsE_set Y k e hk]
  rwa [List.setIfInBounds_toArray, List.setIfInBounds_toArray] at this
theorem ERow.lt {w : World} {g : Nat} {Y : List (Int × Int)} (h : ERow w g Y) : g < w.heap.size := Blk.lt h
theorem ERow.below {w w' : World} {g : Nat} {Y : List (Int × Int)} (h : ERow w g Y) (hb : Below w.heap.size w w') : ERow w' g Y := Blk.of_same h (hb.block g (Blk.lt h))
theorem ERow.at_ {w : World} {g : Nat} {Y : List (Int × Int)} (h : ERow w g Y) {k : Nat} (hk : k < Y.length) : ∃ p q : Int, w.cell? ⟨g, k * 2, none⟩ = some (.int .i64 p) ∧ w.cell? ⟨g, k * 2 + 1, none⟩ = some (.int .i64 q) := by
  refine ⟨(Y.getD k (0, 0)).1, (Y.getD k (0, 0)).2, ?_, ?_⟩
  · rw [Blk.at_ h, List.getElem?_toArray]
    exact (cellsE_at Y k hk).1
  · rw [Blk.at_ h, List.getElem?_toArray]
    exact (cellsE_at Y k hk).2
theorem ERow.ents {w : World} {g : Nat} {Y : List (Int × Int)} (h : ERow w g Y) (hm : Y.length ≤ maxLen) : Ents w (some ⟨g, 0, none⟩) Y.length Y := by
  refine ⟨rfl, hm, fun i hi => ⟨_, rfl, Blk.lt h, ?_, ?_⟩⟩
  · have e : (⟨g, 0, none⟩ : Addr).add (i * 2) = ⟨g, i * 2, none⟩ := by unfold Addr.add; split <;> simp_all
    rw [e, Blk.at_ h, List.getElem?_toArray]
    exact (cellsE_at Y i hi).1
  · have e : (⟨g, 0, none⟩ : Addr).add (i * 2 + 1) = ⟨g, i * 2 + 1, none⟩ := by unfold Addr.add; split <;> simp_all
    rw [e, Blk.at_ h, List.getElem?_toArray]
    exact (cellsE_at Y i hi).2
theorem cellsE_zero (n : Nat) : ((List.range (n * 2)).map fun _ => Value.int .i64 0) = cellsE (List.replicate n (0, 0)) := by
  induction n with
  | zero => rfl
  | succ n ih =>
    rw [List.replicate_succ, show (n + 1) * 2 = n * 2 + 1 + 1 by omega]
    rw [List.map_const', List.length_range] at ih ⊢
    rw [List.replicate_succ, List.replicate_succ, ih]
    rfl
theorem ERow.made (w : World) (n : Nat) : ERow (w.alloc (.cells (madeCells #[.int .i64 0, .int .i64 0] (n * 2)) 43)) w.heap.size (List.replicate n (0, 0)) := by
  have := Blk.made w 43 (madeCells #[.int .i64 0, .int .i64 0] (n * 2))
  unfold ERow
  have e : madeCells #[.int .i64 0, .int .i64 0] (n * 2) = (cellsE (List.replicate n (0, 0))).toArray := by
    apply Array.ext'
    rw [← cellsE_zero]
    apply List.ext_getElem?
    intro j
    by_cases hj : j < n * 2
    · have : j % 2 = 0 ∨ j % 2 = 1 := by omega
      rcases this with h | h <;> simp [madeCells, hj, h]
    · simp [madeCells, hj]
  rw [← e]
  exact this

/-- A place behind the head, as the walk spells it. -/
theorem cell_succ {w : World} {x : Addr} {j : Nat} {u : Value} (h : w.cell? (x.add (j + 1)) = some u) : w.cell? ⟨x.block, x.off + (j + 1), none⟩ = some u := by
  have e : x.add (j + 1) = ⟨x.block, x.off + (j + 1), none⟩ := by
    unfold Addr.add
    rw [if_neg (by omega)]
  rw [← e]
  exact h

/-- What Decode gives. -/
def Decoded (zs : List Int) (w : World) (e : Ending) (w' : World) : Prop :=
  ∃ a c, e = .returned (.slice a (zs.length / 2) c) ∧ Ents w' a (zs.length / 2) (decS zs) ∧ Below w.heap.size w w'
/-- What the loop of Decode keeps. -/
def DecodeR (w : World) (g n : Nat) (zs : List Int) (i : Value) (wr : World) : Prop :=
  ∃ (k : Nat) (Y : List (Int × Int)), k ≤ n ∧ i = .int .i64 k ∧ Y.length = n ∧ (∀ j, j < k → Y[j]? = some (ent zs j)) ∧ ERow wr g Y ∧ Below w.heap.size w wr

theorem run_make_ents (n : Nat) (hn : n ≤ 1000000) (w : World) :
    (Instr.makeSlice 25 (.int .i64 (n : Int)) (.int .i64 (n : Int))).run Try.prog w = .ok (.slice (some ⟨w.heap.size, 0, none⟩) n n) (w.alloc (.cells (madeCells #[.int .i64 0, .int .i64 0] (n * 2)) 43)) := by
  obtain ⟨i0, hi, hz0, hz1, hz2⟩ := info_parts info_entry
  have hr := run_make (P := Try.prog) w 25 43 i0 _ Try.underlying25 hi hz0 .i64 .i64 n n (by omega) (Int.le_refl _) (by rw [hz2]; omega) (by omega)
  simp only [Int.toNat_natCast, hz1] at hr
  exact hr

set_option maxHeartbeats 1000000 in
theorem decode_any {w : World} {a : Option Addr} {L : Nat} {zs : List Int} (h : InBytes w a L zs) (c : Nat) (hL : L ≤ 4000) :
    Calls Try.prog 13 #[.slice a L c] w (Decoded zs w) := by
  have hl := h.1
  subst hl
  have H := Lib.hid h
  clear h
  obtain ⟨n, hn⟩ : ∃ n, zs.length / 2 = n := ⟨_, rfl⟩
  have hmk := run_make_ents n (by omega) w
  have R0 := ERow.made w n
  have B0 := below_one w (.cells (madeCells #[.int .i64 0, .int .i64 0] (n * 2)) 43)
  have hq : ((zs.length : Nat) : Int) / 2 = (n : Int) := by omega
  have hmin : (n : Int) ≤ 65536 := by omega
  go_enter Try.func13, Try.ntmps13
  go_wp2_with fail
  go_loopw [4, 5, 13] (fun _ _ i wr => DecodeR w w.heap.size n zs i wr) (fun _ _ i _ => n - (intOf i).toNat)
  case atStart => exact ⟨0, _, by omega, rfl, by simp, fun j hj => by omega, R0, B0⟩
  case round =>
    obtain ⟨k, Y, hk, rfl, hY, hall, hrow, hb⟩ := hrel
    have HA := Lib.hid hall
    have HR := Lib.hid hrow
    have HB := Lib.hid hb
    clear hall hrow hb R0 B0 hmk
    by_cases hlt : k < n
    · obtain ⟨x, rfl, _, hc0, z0, z1⟩ := (H.out.below HB.out).2.2 (2 * k) (by omega)
      obtain ⟨x', e', hx', hc1, v0, v1⟩ := (H.out.below HB.out).2.2 (2 * k + 1) (by omega)
      cases e'
      have he : ent zs k = (zs.getD (2 * k) 0 % 4, if zs.getD (2 * k) 0 % 4 = 0 ∨ zs.getD (2 * k) 0 % 4 = 2 then zs.getD (2 * k + 1) 0 else 0) := rfl
      generalize zs.getD (2 * k) 0 = z at *
      generalize hgv : zs.getD (2 * k + 1) 0 = v at *
      have HGV := Lib.hid hgv
      clear hgv
      have HE := Lib.hid he
      clear he
      have m0 : 0 ≤ z % 4 := Int.emod_nonneg _ (by omega)
      have m1 : z % 4 < 4 := Int.emod_lt_of_pos _ (by omega)
      have HV := Lib.hid (And.intro m0 m1)
      have HB1 := Lib.hid (HB.out.alloc HB.out.size (.cells #[.int .i64 (z % 4), .int .i64 0] 43))
      have HR1 := Lib.hid (HR.out.below (below_one wr (.cells #[.int .i64 (z % 4), .int .i64 0] 43)))
      have HX := Lib.hid (Blk.made wr 43 #[.int .i64 (z % 4), .int .i64 0])
      have hc1' := Lib.hid hc1
      clear hc1
      have hgr := HR.out.lt
      clear HB HR
      go_wp2_with fail
      refine (hasvalue_any (z % 4) 0 _).mono ?_
      rintro e w1 ⟨rfl, hb1⟩
      have HB2 := Lib.hid (HB1.out.trans (hb1.mono HB1.out.size))
      have HR2 := Lib.hid (HR1.out.below hb1)
      have hX := HX.out.of_same (hb1.block wr.heap.size (by simp))
      have d0 : w1.cell? ⟨wr.heap.size, 0, none⟩ = some (.int .i64 (z % 4)) := hX.at_ 0
      have d1 : w1.cell? ⟨wr.heap.size, 1, none⟩ = some (.int .i64 0) := hX.at_ 1
      have q1 := Blk.free hX 1
      have g0 := Blk.free HR2.out (k * 2)
      have g1 := Blk.free HR2.out (k * 2 + 1)
      obtain ⟨x2, e2, _, hc2, _⟩ := (H.out.below HB2.out).2.2 (2 * k + 1) (by omega)
      cases e2
      rw [HGV.out] at hc2
      have hc3 := cell_succ hc2
      clear hc2
      clear hb1 HB1 HR1 HX hX hc0 hc1' z0 z1
      have hkY : k < Y.length := by omega
      by_cases hv : z % 4 = 0 ∨ z % 4 = 2
      · rw [decide_eq_true hv]
        rw [if_pos hv] at HE
        have hw2 := Below.heap_setCell w1 ⟨wr.heap.size, 1, none⟩ (.int .i64 v) w.heap.size (by simp; omega)
        have hR2 : ERow (w1.setCell ⟨wr.heap.size, 1, none⟩ (.int .i64 v)) w.heap.size Y := Blk.of_same HR2.out hw2
        obtain ⟨p, q, y0, y1⟩ := hR2.at_ hkY
        have HR3 := Lib.hid (ERow.put hR2 hkY (z % 4, v))
        clear hR2
        have HB3 := Lib.hid (((HB2.out.setCell (p := ⟨wr.heap.size, 1, none⟩) (Nat.le_of_lt hgr) (.int .i64 v)).setCell (p := ⟨w.heap.size, k * 2, none⟩) (Nat.le_refl _) (.int .i64 (z % 4))).setCell (p := ⟨w.heap.size, k * 2 + 1, none⟩) (Nat.le_refl _) (.int .i64 v))
        clear HR2 HB2 hv hw2
        go_wp2_with fail
        go_roundw
        case rel => exact ⟨k + 1, Y.set k (z % 4, v), by omega, by go_num, by simpa using hY, fun j hj => by
          by_cases hjk : k = j
          · subst hjk
            rw [List.getElem?_set_self hkY, HE.out]
          · rw [List.getElem?_set_ne hjk]
            exact HA.out j (by omega), HR3.out, HB3.out⟩
        case measure => simp [intOf]; omega
      · rw [decide_eq_false hv]
        rw [if_neg hv] at HE
        obtain ⟨p, q, y0, y1⟩ := HR2.out.at_ hkY
        have HR3 := Lib.hid (ERow.put HR2.out hkY (z % 4, 0))
        have HB3 := Lib.hid ((HB2.out.setCell (p := ⟨w.heap.size, k * 2, none⟩) (Nat.le_refl _) (.int .i64 (z % 4))).setCell (p := ⟨w.heap.size, k * 2 + 1, none⟩) (Nat.le_refl _) (.int .i64 0))
        clear HR2 HB2 hv
        go_wp2_with fail
        go_roundw
        case rel => exact ⟨k + 1, Y.set k (z % 4, 0), by omega, by go_num, by simpa using hY, fun j hj => by
          by_cases hjk : k = j
          · subst hjk
            rw [List.getElem?_set_self hkY, HE.out]
          · rw [List.getElem?_set_ne hjk]
            exact HA.out j (by omega), HR3.out, HB3.out⟩
        case measure => simp [intOf]; omega
    · obtain rfl : n = k := by omega
      have hYe : Y = decS zs := by
        apply List.ext_getElem?
        intro j
        unfold decS
        by_cases hj : j < n
        · rw [HA.out j hj, hn]
          simp [hj]
        · rw [List.getElem?_eq_none (by omega), List.getElem?_eq_none (by simp; omega)]
      have hE := ERow.ents HR.out (by rw [hY]; unfold maxLen; omega)
      rw [hY, hYe] at hE
      have HE := Lib.hid hE
      clear hE hYe
      go_wp2
      go_ret
      refine ⟨_, _, by rw [hn]; rfl, ?_, HB.out⟩
      rw [hn]
      exact HE.out
end Go.Proofs.Ytpaacpcmijhcmaa
