/-
  The program's Pack and Unpack. (Taken out of XCallsC, XCallsD.)
-/
import Derived.Test.YtanbjdlaolgepaaGreatMgAG
import Derived.Test.YtanbjdlaolgepaaGreatMgAB
import Derived.WalkKit
import Derived.WalkSpells
import Derived.WalkLawsBesides
import Derived.Lib.Hide
import Derived.Lib.BitFns
namespace Go.Proofs.YtanbjdlaolgepaaGreat
open Go Go.RowKit

theorem orp_walk (d a t : Int) (h : Keyed d a t) : bits .or .u64 (bits .or .u64 (d * 1099511627776) (a * 65536)) t = keyS d a t := by
  obtain ⟨⟨d0, d1⟩, ⟨a0, a1⟩, t0, t1⟩ := h
  have w64 : ∀ n : Int, 0 ≤ n → n < 2 ^ 64 → IntKind.u64.wrap n = n := by intro n h0 h1; rw [IntKind.wrap_u64]; omega
  have e1 := bits_join .u64 64 (by decide) w64 40 (d * 1099511627776) (a * 65536) (by omega) (by omega) (by omega) (by omega) (by omega) (by omega)
  have e2 := bits_join .u64 64 (by decide) w64 16 (d * 1099511627776 + a * 65536) t (by omega) (by omega) (by omega) (by omega) (by omega) (by omega)
  rw [e1, e2]
  rfl

set_option maxHeartbeats 1000000 in
theorem ppack_ok (d a t : Int) (h : Keyed d a t) (w : World) :
    Calls Tryz.prog 199 #[.int .i64 d, .int .i64 a, .int .i64 t] w fun e w' => e = .returned (.tuple #[.int .u64 (keyS d a t), .bool true]) ∧ w = w' := by
  have key := orp_walk d a t h
  generalize keyS d a t = k at key ⊢
  obtain ⟨⟨d0, d1⟩, ⟨a0, a1⟩, t0, t1⟩ := h
  go_enter Tryz.func199, Tryz.ntmps199
  go_wp2
  go_ret2
  exact ⟨rfl, rfl⟩

set_option maxHeartbeats 1000000 in
theorem ppack_no (d a t : Int) (h : ¬ Keyed d a t) (w : World) :
    Calls Tryz.prog 199 #[.int .i64 d, .int .i64 a, .int .i64 t] w fun e w' => e = .returned (.tuple #[.int .u64 0, .bool false]) ∧ w = w' := by
  unfold Keyed at h
  by_cases hd : 0 ≤ d ∧ d ≤ 16777215
  · by_cases ha : 0 ≤ a ∧ a ≤ 16777215
    · have ht : ¬ (0 ≤ t ∧ t ≤ 65535) := fun c => h ⟨hd, ha, c⟩
      clear h
      obtain ⟨d0, d1⟩ := hd
      obtain ⟨a0, a1⟩ := ha
      by_cases t0 : t < 0
      · clear ht
        go_enter Tryz.func199, Tryz.ntmps199
        go_wp2
        go_ret2
        exact ⟨rfl, rfl⟩
      · have t1 : 65535 < t := by omega
        clear ht
        go_enter Tryz.func199, Tryz.ntmps199
        go_wp2
        go_ret2
        exact ⟨rfl, rfl⟩
    · clear h
      obtain ⟨d0, d1⟩ := hd
      by_cases a0 : a < 0
      · clear ha
        go_enter Tryz.func199, Tryz.ntmps199
        go_wp2
        go_ret2
        exact ⟨rfl, rfl⟩
      · have a1 : 16777215 < a := by omega
        clear ha
        go_enter Tryz.func199, Tryz.ntmps199
        go_wp2
        go_ret2
        exact ⟨rfl, rfl⟩
  · clear h
    by_cases d0 : d < 0
    · clear hd
      go_enter Tryz.func199, Tryz.ntmps199
      go_wp2
      go_ret2
      exact ⟨rfl, rfl⟩
    · have d1 : 16777215 < d := by omega
      clear hd
      go_enter Tryz.func199, Tryz.ntmps199
      go_wp2
      go_ret2
      exact ⟨rfl, rfl⟩

theorem ret_ints3p {a b c a' b' c' : Int} (h : a = a') (h' : b = b') (h'' : c = c') : Ending.returned (.tuple #[.int .i64 a, .int .i64 b, .int .i64 c]) = .returned (.tuple #[.int .i64 a', .int .i64 b', .int .i64 c']) := by rw [h, h', h'']

theorem unpackp_k1 (x : Nat) : wrap64 (IntKind.u64.wrap ((x : Int) * 16777216) / 1099511627776) = (x : Int) / 65536 % 16777216 := by
  rw [IntKind.wrap_u64]
  unfold wrap64
  omega

theorem unpackp_k2 (x : Nat) : wrap64 (IntKind.u16.wrap (x : Int)) = (x : Int) % 65536 := by
  have e : IntKind.u16.wrap (x : Int) = (x : Int) % 65536 := by simp [IntKind.wrap, IntKind.bits, IntKind.signed]
  rw [e]
  unfold wrap64
  omega

set_option maxHeartbeats 1000000 in
theorem punpack_any (x : Nat) (hx : x < 18446744073709551616) (w : World) :
    Calls Tryz.prog 189 #[.int .u64 (x : Int)] w fun e w' => e = .returned (.tuple #[.int .i64 ((x : Int) / 1099511627776), .int .i64 ((x : Int) / 65536 % 16777216), .int .i64 ((x : Int) % 65536)]) ∧ w = w' := by
  go_enter Tryz.func189, Tryz.ntmps189
  go_wp2
  go_ret3
  exact ⟨ret_ints3p rfl (unpackp_k1 x) (unpackp_k2 x), rfl⟩

end Go.Proofs.YtanbjdlaolgepaaGreat
