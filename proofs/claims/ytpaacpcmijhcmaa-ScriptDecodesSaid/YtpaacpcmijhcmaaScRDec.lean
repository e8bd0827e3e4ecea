/-
  Contract of the reference's Decode.
-/
import Derived.Test.YtpaacpcmijhcmaaScBytes
import Derived.BigRegion
namespace Go.Proofs.Ytpaacpcmijhcmaa
open Go Go.RowKit

theorem OwnE.drew {w : World} {base : Nat} {v : Value} {es : List (Int × Int)} (h : OwnE w base v es) : OwnE w.drew base v es := h
theorem below_drew {w w' : World} {B : Nat} (h : Below B w w') : Below B w w'.drew := ⟨h.os, h.tape, h.output, h.size, h.block⟩
theorem ents_two (w : World) (o : Obj) (k v : Int) : Ents ((w.alloc o).alloc (.cells #[.int .i64 k, .int .i64 v] 43)).drew (some ⟨w.heap.size + 1, 0, none⟩) 1 [(k, v)] := by
  have := (ents_one (w.alloc o) k v).drew
  simpa using this

theorem OwnE.entsN {w : World} {base : Nat} {v : Value} {es : List (Int × Int)} {n : Nat} (h : OwnE w base v es) (hn : es.length = n) : ∃ a c, v = .slice a n c ∧ Ents w a n es ∧ n ≤ c := by
  subst hn
  exact h.ents

/-- What the reference's Decode gives. -/
def RDecoded (zs : List Int) (w : World) (e : Ending) (w' : World) : Prop := ∃ v, e = .returned v ∧ OwnE w' w.heap.size v (decS zs) ∧ Below w.heap.size w w'
/-- What its loop keeps. -/
def RDecodeR (w : World) (zs : List Int) (l i : Value) (wr : World) : Prop :=
  ∃ k : Nat, k ≤ zs.length / 2 ∧ i = .int .i64 (2 * (k : Int)) ∧ OwnE wr w.heap.size l ((List.range k).map (ent zs)) ∧ Below w.heap.size w wr

set_option maxRecDepth 20000 in
set_option maxHeartbeats 2000000 in
theorem rdecode_any {w : World} {a : Option Addr} {L : Nat} {zs : List Int} (h : InBytes w a L zs) (c : Nat) (hL : L ≤ 4000) :
    Calls Try.prog 14 #[.slice a L c] w (RDecoded zs w) := by
  have hl := h.1
  subst hl
  have H := Lib.hid h
  clear h
  go_enter Try.func14, Try.ntmps14
  go_wp2_with fail
  go_loopw [3, 4] (fun l i wr => RDecodeR w zs l i wr) (fun _ i _ => zs.length - (intOf i).toNat)
  case atStart => exact ⟨0, by omega, rfl, OwnE.nil _ _, Below.refl _ _⟩
  case round =>
    obtain ⟨k, hk, rfl, hown, hb⟩ := hrel
    obtain ⟨al, cl, rfl, hE, hcl⟩ := hown.entsN (n := k) (by simp)
    have HO := Lib.hid hown
    have HB := Lib.hid hb
    clear hown hb hE
    by_cases hlt : 2 * k + 1 < zs.length
    · obtain ⟨x, rfl, _, hc0, z0, z1⟩ := (H.out.below HB.out).2.2 (2 * k) (by omega)
      obtain ⟨x', e', hx', hc1, v0, v1⟩ := (H.out.below HB.out).2.2 (2 * k + 1) (by omega)
      cases e'
      have he : ent zs k = (zs.getD (2 * k) 0 % 4, if zs.getD (2 * k) 0 % 4 = 0 ∨ zs.getD (2 * k) 0 % 4 = 2 then zs.getD (2 * k + 1) 0 else 0) := rfl
      generalize zs.getD (2 * k) 0 = z at *
      generalize zs.getD (2 * k + 1) 0 = v at *
      have HE := Lib.hid he
      clear he
      have m0 : 0 ≤ z % 4 := Int.emod_nonneg _ (by omega)
      have m1 : z % 4 < 4 := Int.emod_lt_of_pos _ (by omega)
      have hc2 := cell_succ hc1
      clear hc1
      have i0 : (2 : Int) * (k : Int) < (zs.length : Int) := by omega
      have i1 : (2 : Int) * (k : Int) + 1 < (zs.length : Int) := by omega
      have HK := Lib.hid hk
      have HLT := Lib.hid hlt
      have hd : decide ((k : Int) < 65536) = true := decide_eq_true (by omega)
      clear hk hlt
      go_wp2_with fail
      clear hd
      have al := below_one wr (.cells #[.int .i64 0, .int .i64 0] 43)
      have hA0 : (wr.alloc (.cells #[.int .i64 0, .int .i64 0] 43)).cell? (x.add (2 * k)) = some (.int .u8 z) := (al.cell (by rw [block_add]; exact hx')).trans hc0
      have hA1 : (wr.alloc (.cells #[.int .i64 0, .int .i64 0] 43)).cell? ⟨x.block, x.off + (2 * k + 1), none⟩ = some (.int .u8 v) := (al.cell (p := ⟨x.block, x.off + (2 * k + 1), none⟩) hx').trans hc2
      clear al
      go_region
      clear hA0 hA1
      by_cases hv : z % 4 = 0 ∨ z % 4 = 2
      · have q1 : (z % 4 == 1) = false := by simp; omega
        have q3 : (z % 4 == 3) = false := by simp; omega
        rw [if_pos hv] at HE
        have O1 := ((HO.out.alloc (.cells #[.int .i64 (z % 4), .int .i64 v] 43)).alloc (.cells #[.int .i64 (z % 4), .int .i64 v] 43)).drew
        have E1 := ents_two wr (.cells #[.int .i64 (z % 4), .int .i64 v] 43) (z % 4) v
        have B1 := below_drew ((HB.out.alloc HB.out.size (.cells #[.int .i64 (z % 4), .int .i64 v] 43)).alloc (Nat.le_trans HB.out.size (by simp)) (.cells #[.int .i64 (z % 4), .int .i64 v] 43))
        have hs1 := B1.size
        clear hv HO HB hc0 hc2
        go_wp2_with
          (at_builtin
           refine wpList_app (v := .slice al k cl) rfl _ _ rfl rfl O1 rfl E1 (by simp; have := HK.out; omega) hs1 ?_
           intro v2 w2 hown2 hg2 _
           have HB2 := Lib.hid (below_app B1 O1 hg2)
           have HO2 := Lib.hid hown2
           clear hown2 hg2 O1 E1 B1 hs1)
        go_roundw
        case rel => exact ⟨k + 1, by have := HLT.out; omega, by go_num, by rw [List.range_succ, List.map_append, List.map_singleton, HE.out]; exact HO2.out, HB2.out⟩
        case measure => have := HLT.out; simp [intOf]; omega
      · rw [if_neg hv] at HE
        have hq : ((z % 4 == 1) = true) ∨ ((z % 4 == 1) = false ∧ (z % 4 == 3) = true) := by
          simp
          omega
        have O1 := ((HO.out.alloc (.cells #[.int .i64 (z % 4), .int .i64 0] 43)).alloc (.cells #[.int .i64 (z % 4), .int .i64 0] 43)).drew
        have E1 := ents_two wr (.cells #[.int .i64 (z % 4), .int .i64 0] 43) (z % 4) 0
        have B1 := below_drew ((HB.out.alloc HB.out.size (.cells #[.int .i64 (z % 4), .int .i64 0] 43)).alloc (Nat.le_trans HB.out.size (by simp)) (.cells #[.int .i64 (z % 4), .int .i64 0] 43))
        have hs1 := B1.size
        clear hv HO HB hc0 hc2
        rcases hq with q1 | ⟨q1, q3⟩
        all_goals
          go_wp2_with
            (at_builtin
             refine wpList_app (v := .slice al k cl) rfl _ _ rfl rfl O1 rfl E1 (by simp; have := HK.out; omega) hs1 ?_
             intro v2 w2 hown2 hg2 _
             have HB2 := Lib.hid (below_app B1 O1 hg2)
             have HO2 := Lib.hid hown2
             clear hown2 hg2 O1 E1 B1 hs1)
          go_roundw
          case rel => exact ⟨k + 1, by have := HLT.out; omega, by go_num, by rw [List.range_succ, List.map_append, List.map_singleton, HE.out]; exact HO2.out, HB2.out⟩
          case measure => have := HLT.out; simp [intOf]; omega
    · have hkk : k = zs.length / 2 := by omega
      have HKK := Lib.hid hkk
      have hd : decide ((2 : Int) * (k : Int) + 1 < (zs.length : Int)) = false := decide_eq_false (by omega)
      have hk2 : k ≤ 2000 := by omega
      have hd2 : decide ((k : Int) < 65536) = true := decide_eq_true (by omega)
      clear hk hlt hkk
      go_wp2
      go_ret
      exact ⟨_, rfl, by unfold decS; rw [← HKK.out]; exact HO.out, HB.out⟩
end Go.Proofs.Ytpaacpcmijhcmaa
