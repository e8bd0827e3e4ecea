/-
  The walk of the statement MemoryCopies: it returns true.
-/
import Derived.Test.YtbnaiogabcaboaaMemLawsF
import Derived.Deep.CutBlock
import Derived.Deep.CutRange
namespace Go.Proofs.Ytbnaiogabcaboaa
open Go Go.RowKit Go.Shelf

/-- A memory and a reference of n cells, in one state. -/
def Duo (w : World) (p g cap q r cap' n : Nat) : Prop := ∃ s : St, s.X.length = n ∧ Mem w p g cap s ∧ Ref w q r cap' s

theorem Duo.fr {S : List Nat} {w w' : World} {p g cap q r cap' n : Nat} (h : Duo w p g cap q r cap' n) (f : Fr S w w') (hs : p ∉ S ∧ g ∉ S ∧ q ∉ S ∧ r ∉ S) : Duo w' p g cap q r cap' n := by
  obtain ⟨s, hn, hm, hr⟩ := h
  exact ⟨s, hn, hm.fr f hs.1 hs.2.1, hr.fr f hs.2.2.1 hs.2.2.2⟩
theorem Duo.below {w w' : World} {p g cap q r cap' n : Nat} (h : Duo w p g cap q r cap' n) (f : Below w.heap.size w w') : Duo w' p g cap q r cap' n := h.fr (Fr.old (S := []) f) (by simp)
theorem Duo.alloc {w : World} {p g cap q r cap' n : Nat} (h : Duo w p g cap q r cap' n) (o : Obj) : Duo (w.alloc o) p g cap q r cap' n := h.below ((Below.refl _ _).alloc (Nat.le_refl _) o)
theorem Duo.lt {w : World} {p g cap q r cap' n : Nat} (h : Duo w p g cap q r cap' n) : p < w.heap.size ∧ g < w.heap.size ∧ q < w.heap.size ∧ r < w.heap.size := by
  obtain ⟨s, hn, hm, hr⟩ := h
  exact ⟨hm.blk.lt, hm.row.lt, hr.blk.lt, hr.row.lt⟩

/-- act, told of a pair. -/
def ActedDuo (w : World) (p g cap q r cap' n : Nat) (e : Ending) (w' : World) : Prop := e = .returned (.bool true) ∧ Duo w' p g cap q r cap' n ∧ Fr [p, g, q, r] w w'
theorem act_duo {w : World} {p g cap q r cap' n : Nat} (h : Duo w p g cap q r cap' n) (hgr : g ≠ r) (k c v u : Int) :
    Calls Try.prog 13 #[.pointer (some ⟨p, 0, none⟩), .pointer (some ⟨q, 0, none⟩), .agg #[.int .i64 k, .int .i64 c, .int .u64 v, .int .u64 u]] w (ActedDuo w p g cap q r cap' n) := by
  obtain ⟨s, rfl, hm, hr⟩ := h
  refine (act_any hm hr hgr k c v u).mono ?_
  rintro e w' ⟨rfl, s', hs', hm', hr', hf⟩
  exact ⟨rfl, ⟨s', hs', hm', hr'⟩, hf⟩
theorem same_duo {w : World} {p g cap q r cap' n : Nat} (h : Duo w p g cap q r cap' n) :
    Calls Try.prog 14 #[.pointer (some ⟨p, 0, none⟩), .pointer (some ⟨q, 0, none⟩)] w fun e w' => e = .returned (.bool true) ∧ Below w.heap.size w w' := by
  obtain ⟨s, _, hm, hr⟩ := h
  exact same_any hm hr

/-- What the first loop keeps. -/
def CopiesR (W : World) (p g q r n L : Nat) (i : Value) (wr : World) : Prop :=
  ∃ k : Nat, k ≤ L ∧ k ≤ 30 ∧ i = .int .i64 k ∧ Duo wr p g n q r n n ∧ Below W.heap.size W wr
/-- What the second loop keeps: two pairs. -/
def CopiesR2 (W : World) (p g q r pk gk ck qk rk dk n L : Nat) (i : Value) (wr : World) : Prop :=
  ∃ k : Nat, k ≤ L ∧ k ≤ 30 ∧ i = .int .i64 k ∧ Duo wr pk gk ck qk rk dk n ∧ Duo wr p g n q r n n ∧ Below W.heap.size W wr
/-- What the third loop keeps: two pairs, and a row of its own. -/
def CopiesR3 (W : World) (p g q r pk gk ck qk rk dk gx cx n : Nat) (i : Value) (wr : World) : Prop :=
  ∃ (k : Nat) (Y : List Int), k ≤ n ∧ i = .int .i64 k ∧ Row wr gx n cx Y ∧ Duo wr pk gk ck qk rk dk n ∧ Duo wr p g n q r n n ∧ Below W.heap.size W wr

/-- The reference's copy: its struct in a new block, its cells in a new row. -/
theorem copied_ref {w1 w3 : World} {q r cap : Nat} {s : St} {v' : Value} (hr : Ref w1 q r cap s)
    (hC : Cloned (w1.alloc (.cells #[.slice (some ⟨r, 0, none⟩) s.X.length cap, .int .i64 s.k, .int .i64 s.i, .int .u64 s.o, .int .u64 s.v, .int .i64 s.c] 30)) s.X.length s.X (.returned v') w3) :
    ∃ rk dk, v' = .slice (some ⟨rk, 0, none⟩) s.X.length dk ∧ w1.heap.size < rk ∧ Ref (w3.setCell ⟨w1.heap.size, 0, none⟩ v') w1.heap.size rk dk s ∧ Below w1.heap.size w1 (w3.setCell ⟨w1.heap.size, 0, none⟩ v') ∧
      w3.cell? ⟨w1.heap.size, 0, none⟩ = some (.slice (some ⟨r, 0, none⟩) s.X.length cap) ∧ w3.frozen? ⟨w1.heap.size, 0, none⟩ = false := by
  obtain ⟨rk, dk, hv, hrk, hrow, hb⟩ := hC
  simp only [Ending.returned.injEq] at hv
  subst hv
  have hB := (Blk.made w1 30 #[.slice (some ⟨r, 0, none⟩) s.X.length cap, .int .i64 s.k, .int .i64 s.i, .int .u64 s.o, .int .u64 s.v, .int .i64 s.c]).of_same (hb.block w1.heap.size (by simp))
  have hlt : w1.heap.size < rk := by
    simp at hrk
    omega
  have hb1 : Below w1.heap.size w1 w3 := ((Below.refl w1.heap.size w1).alloc (Nat.le_refl _) _).trans (hb.mono (by simp))
  refine ⟨rk, dk, rfl, hlt, ⟨hB.put 0 _, ?_, hr.small⟩, hb1.setCell (Nat.le_refl _) _, hB.at_ 0, hB.free 0⟩
  exact hrow.of_same (Below.heap_setCell _ _ _ _ (by simp; omega))

set_option maxHeartbeats 4000000 in
theorem copies_law (c : Int) (a : Option Addr) (L cap : Nat) (a2 : Option Addr) (L2 cap2 : Nat) (w : World) (hL : InCalls w a L) (hL2 : InCalls w a2 L2) :
    Calls Try.prog 5 #[.int .i64 c, .slice a L cap, .slice a2 L2 cap2] w fun e w' => e = .returned (.bool true) ∧ Below w.heap.size w w' := by
  have hmax := hL.1
  have hmax2 := hL2.1
  unfold maxLen at hmax hmax2
  have HL := Lib.hid hL
  have HL2 := Lib.hid hL2
  clear hL hL2
  go_enter Try.func5, Try.ntmps5
  go_wp2_with fail
  refine (draw_some c 20 (by omega) (by omega) _).mono ?_
  rintro e w' ⟨d, d0, d1, rfl, rfl⟩
  obtain ⟨n, hd⟩ : ∃ n, sizeS d = n := ⟨_, rfl⟩
  have hn : n ≤ 131072 := by
    rw [← hd]
    unfold sizeS
    split
    · omega
    · split <;> omega
  have HN := Lib.hid hd
  clear hd
  go_wp2_with fail
  refine (new_any _ w).mono ?_
  rintro e w1 ⟨rfl, hm1, hb1⟩
  rw [HN.out] at hm1
  go_wp2_with fail
  refine (rnew_any _ w1).mono ?_
  rw [HN.out]
  rintro e w2 ⟨rfl, hr2, hb2⟩
  have hm2 := hm1.fr (Fr.old (S := []) hb2) (by simp) (by simp)
  have hr3 := boxed_ref hn hr2
  have hm3 := hm2.alloc (.cells #[.slice (some ⟨w1.heap.size + 1, 0, none⟩) n n, .int .i64 0, .int .i64 0, .int .u64 0, .int .u64 0, .int .i64 0] 30)
  have hb3 : Below w.heap.size w w2 := hb1.trans (hb2.mono hb1.size)
  have hb3' := hb3.alloc hb3.size (.cells #[.slice (some ⟨w1.heap.size + 1, 0, none⟩) n n, .int .i64 0, .int .i64 0, .int .u64 0, .int .u64 0, .int .i64 0] 30)
  have hs1 := hb1.size
  have hs3 := hb3.size
  clear hm1 hm2 hr2 hb2 hb3 hb1
  go_wp2_with fail
  refine (awake_any _).mono ?_
  rintro e w3 ⟨rfl, hb4⟩
  have hD : Duo w3 (w.heap.size + 1) w.heap.size n w2.heap.size (w1.heap.size + 1) n n := Duo.below ⟨_, by simp [St.new], hm3, hr3⟩ hb4
  have hb4' := hb3'.trans (hb4.mono hb3'.size)
  clear hm3 hr3 hb3' hb4
  have hne : w.heap.size ≠ w1.heap.size + 1 := by omega
  have hin : ∀ k, k ∈ [w.heap.size + 1, w.heap.size, w2.heap.size, w1.heap.size + 1] → w.heap.size ≤ k := by simp; omega
  have HIN := Lib.hid hin
  have HNE := Lib.hid hne
  clear hin hne hs1 hs3
  generalize w2.heap.size = q at *
  generalize w1.heap.size + 1 = r at *
  go_upto_block 0 with fail
  go_cut [9, 10] from 29 to 51 (fun _i _x wx => Duo wx (w.heap.size + 1) w.heap.size n q r n n ∧ Below w.heap.size w wx)
  case first =>
    go_wp2_with fail
    go_loopw [9] (fun i wr => CopiesR w (w.heap.size + 1) w.heap.size q r n L i wr) (fun i _ => (30 - intOf i).toNat)
    case atStart => exact ⟨0, by omega, by omega, rfl, hD, hb4'⟩
    case round =>
      obtain ⟨k, hk, hk30, rfl, hDs, hbs⟩ := hrel
      clear hD hb4'
      by_cases hgo : k < L ∧ k < 30
      · obtain ⟨hlt, hl30⟩ := hgo
        obtain ⟨x, kd, cl, v, u, rfl, _, g0, g1, g2, g3⟩ := (HL.out.below hbs).2 k hlt
        have g0' : wr.cell? (x.add (k * 4)) = some (.int .i64 kd) := by simpa using g0
        have g1' := cell_field g1
        have g2' := cell_field g2
        have g3' := cell_field g3
        clear g0 g1 g2 g3
        go_wp2_with fail
        refine (draw_some cl _ (by omega) (by omega) _).mono ?_
        rintro e w' ⟨y, _, _, rfl, rfl⟩
        go_wp2_with fail
        refine (act_duo (hDs.alloc _) HNE.out _ _ _ _).mono ?_
        rintro e w5 ⟨rfl, hD5, hf5⟩
        have hb5 := (hbs.alloc hbs.size _).trans (hf5.below (B := w.heap.size) (by simp; have := hbs.size; omega) HIN.out)
        clear hDs hbs hf5 g0' g1' g2' g3'
        go_wp2_with fail
        go_roundw
        case rel => exact ⟨k + 1, by omega, by omega, by go_num, hD5, hb5⟩
        case measure => simp [intOf]; omega
      · have hex : (L : Int) ≤ k ∨ (k < L ∧ k = 30) := by omega
        clear hgo
        rcases hex with hex | ⟨hex, rfl⟩
        · go_wp2_with fail
          go_meet
          case rel => exact ⟨hDs, hbs⟩
        · go_wp2_with fail
          go_meet
          case rel => exact ⟨hDs, hbs⟩
  case rest =>
    obtain ⟨hD1, hb1⟩ := hcut
    clear hD hb4'
    obtain ⟨s, rfl, hm, hr⟩ := hD1
    go_wp2_with fail
    refine (copy_any hm).mono ?_
    rintro e w4 ⟨pk, gk, ck, rfl, hpk, hgk, hmk, hb4⟩
    have hm4 := hm.fr (Fr.old (S := []) hb4) (by simp) (by simp)
    have hr4 := hr.fr (Fr.old (S := []) hb4) (by simp) (by simp)
    have hb4' := hb1.trans (hb4.mono hb1.size)
    have hold := Duo.lt ⟨s, rfl, hm, hr⟩
    have hs4 := hb4.size
    have hs1 := hb1.size
    have l0 := hr4.blk.lt
    have j0 := hr4.blk.at_ 0
    have j1 := hr4.blk.at_ 1
    have j2 := hr4.blk.at_ 2
    have j3 := hr4.blk.at_ 3
    have j4 := hr4.blk.at_ 4
    have j5 := hr4.blk.at_ 5
    have hrow := hr4.row.alloc (.cells #[.slice (some ⟨r, 0, none⟩) s.X.length s.X.length, .int .i64 s.k, .int .i64 s.i, .int .u64 s.o, .int .u64 s.v, .int .i64 s.c] 30)
    have hown0 : ((w4.alloc (.cells #[.slice (some ⟨r, 0, none⟩) s.X.length s.X.length, .int .i64 s.k, .int .i64 s.i, .int .u64 s.o, .int .u64 s.v, .int .i64 s.c] 30)).alloc (.cells #[] 26)).ownsRow (w4.heap.size + 1) 26 1 (.slice (some ⟨w4.heap.size + 1, 0, none⟩) 0 0) 0 [] := by
      have := World.ownsRow_made (base := w4.heap.size + 1) (e := 26) (size := 1) (w4.alloc (.cells #[.slice (some ⟨r, 0, none⟩) s.X.length s.X.length, .int .i64 s.k, .int .i64 s.i, .int .u64 s.o, .int .u64 s.v, .int .i64 s.c] 30)) #[] 0 (by simp) (by unfold maxLen; omega) rfl
      simpa using this
    obtain ⟨i0, hi, hz0, hz1, hz2⟩ := info_parts info_u64
    clear hm hr
    go_wp2_with
      (at_builtin
       refine wpList_append_own_at _ rfl (.tmp 55) (.tmp 57) _ rfl (w4.heap.size + 1) 26 i0 _ 1 8 Try.underlying25 hi hz0 hz1 hz2 rfl (by omega) (.slice (some ⟨w4.heap.size + 1, 0, none⟩) 0 0) 0 [] rfl
         hown0 ⟨r, 0, none⟩ s.X.length s.X.length (s.X.map (Value.int .u64)) rfl (by simp) ((hrow.alloc _).own.cells rfl) (by simp [Value.oneCell'])
         (by unfold maxLen; omega) (by omega) (by simp) ?_
       intro v' w5 hown hgrow hnil _
       have hC : Cloned (w4.alloc (.cells #[.slice (some ⟨r, 0, none⟩) s.X.length s.X.length, .int .i64 s.k, .int .i64 s.i, .int .u64 s.o, .int .u64 s.v, .int .i64 s.c] 30)) s.X.length s.X (.returned v') w5 := cloned_of (by simpa using hown) (by simpa using hgrow) (by simpa using hnil)
       obtain ⟨rk, dk, rfl, hrk, hrf, hbk, hcell, hfree⟩ := copied_ref hr4 hC
       clear hown hgrow hnil hC)
    have hmk5 := hmk.fr (Fr.old (S := []) hbk) (by simp) (by simp)
    have hDk : Duo (w5.setCell ⟨w4.heap.size, 0, none⟩ (.slice (some ⟨rk, 0, none⟩) s.X.length dk)) pk gk ck w4.heap.size rk dk s.X.length := ⟨s, rfl, hmk5, hrf⟩
    have hDo : Duo (w5.setCell ⟨w4.heap.size, 0, none⟩ (.slice (some ⟨rk, 0, none⟩) s.X.length dk)) (w.heap.size + 1) w.heap.size s.X.length q r s.X.length s.X.length := Duo.below ⟨s, rfl, hm4, hr4⟩ hbk
    have hb6 := hb4'.trans (hbk.mono hb4'.size)
    have hgl := hmk.row.lt
    have hne : gk ≠ rk := by omega
    have hin : ∀ k, k ∈ [pk, gk, w4.heap.size, rk] → w.heap.size ≤ k := by simp; omega
    have hout : (w.heap.size + 1 ∉ [pk, gk, w4.heap.size, rk] ∧ w.heap.size ∉ [pk, gk, w4.heap.size, rk] ∧ q ∉ [pk, gk, w4.heap.size, rk] ∧ r ∉ [pk, gk, w4.heap.size, rk]) := by
      simp only [List.mem_cons, List.not_mem_nil, or_false, not_or]
      omega
    have HNE2 := Lib.hid hne
    have HIN2 := Lib.hid hin
    have HOUT := Lib.hid hout
    clear hmk5 hin hout hne hgl hcell hfree hrf hbk hrk hmk hm4 hr4 hb4 hb4' hold hs4 hs1 j0 j1 j2 j3 j4 j5 l0 hrow hown0 hi hz0 hz1 hz2 hpk hgk hb1 HN hn
    refine (same_duo hDk).mono ?_
    rintro e w7 ⟨rfl, hb7⟩
    have hDk7 := hDk.below hb7
    have hDo7 := hDo.below hb7
    have hb7' := hb6.trans (hb7.mono hb6.size)
    clear hDk hDo hb6 hb7
    generalize w4.heap.size = qk at *
    generalize s.X.length = n at *
    go_upto_block 2 with fail
    go_cut [13, 14] from 67 to 95 (fun _i _x wx => Duo wx pk gk ck qk rk dk n ∧ Duo wx (w.heap.size + 1) w.heap.size n q r n n ∧ Below w.heap.size w wx)
    case first =>
      go_wp2_with fail
      go_loopw [13] (fun i wr => CopiesR2 w (w.heap.size + 1) w.heap.size q r pk gk ck qk rk dk n L2 i wr) (fun i _ => (30 - intOf i).toNat)
      case atStart => exact ⟨0, by omega, by omega, rfl, hDk7, hDo7, hb7'⟩
      case round =>
        obtain ⟨k, hk, hk30, rfl, hDs, hDt, hbs⟩ := hrel
        clear hDk7 hDo7 hb7'
        by_cases hgo : k < L2 ∧ k < 30
        · obtain ⟨hlt, hl30⟩ := hgo
          obtain ⟨x, kd, cl, v, u, rfl, _, g0, g1, g2, g3⟩ := (HL2.out.below hbs).2 k hlt
          have g0' : wr.cell? (x.add (k * 4)) = some (.int .i64 kd) := by simpa using g0
          have g1' := cell_field g1
          have g2' := cell_field g2
          have g3' := cell_field g3
          clear g0 g1 g2 g3
          go_wp2_with fail
          refine (draw_some cl _ (by omega) (by omega) _).mono ?_
          rintro e w' ⟨y, _, _, rfl, rfl⟩
          go_wp2_with fail
          refine (act_duo (hDs.alloc _) HNE2.out _ _ _ _).mono ?_
          rintro e w8 ⟨rfl, hD8, hf8⟩
          have hb8 := (hbs.alloc hbs.size _).trans (hf8.below (B := w.heap.size) (by simp; have := hbs.size; omega) HIN2.out)
          have hDt8 := (hDt.alloc _).fr hf8 HOUT.out
          clear hDs hDt hbs hf8 g0' g1' g2' g3'
          go_wp2_with fail
          refine (same_duo hDt8).mono ?_
          rintro e w9 ⟨rfl, hb9⟩
          have hD9 := hD8.below hb9
          have hDt9 := hDt8.below hb9
          have hb9' := hb8.trans (hb9.mono hb8.size)
          clear hD8 hDt8 hb8 hb9
          go_wp2_with fail
          go_roundw
          case rel => exact ⟨k + 1, by omega, by omega, by go_num, hD9, hDt9, hb9'⟩
          case measure => simp [intOf]; omega
        · have hex : (L2 : Int) ≤ k ∨ (k < L2 ∧ k = 30) := by omega
          clear hgo
          rcases hex with hex | ⟨hex, rfl⟩
          · go_wp2_with fail
            go_meet
            case rel => exact ⟨hDs, hDt, hbs⟩
          · go_wp2_with fail
            go_meet
            case rel => exact ⟨hDs, hDt, hbs⟩
    case rest =>
      obtain ⟨hDs, hDt, hbs⟩ := hcut
      clear hDk7 hDo7 hb7'
      obtain ⟨X, hcall⟩ : ∃ X, Calls Try.prog 21 #[.pointer (some ⟨w.heap.size + 1, 0, none⟩)] wc (Cloned wc n X) := by
        obtain ⟨s2, hs2, hm2, _⟩ := hDt
        exact ⟨s2.X, hs2 ▸ cells_any hm2⟩
      have HC := Lib.hid hcall
      have l1 := hDs.lt
      have l2 := hDt.lt
      clear hcall
      go_wp2_with fail
      refine HC.out.mono ?_
      rintro e w8 ⟨gx, cx, rfl, hgx, hrowx, hb8⟩
      have hDs8 := hDs.below hb8
      have hDt8 := hDt.below hb8
      have hb8' := hbs.trans (hb8.mono hbs.size)
      have hxs : pk ∉ [gx] ∧ gk ∉ [gx] ∧ qk ∉ [gx] ∧ rk ∉ [gx] := by simp only [List.mem_cons, List.not_mem_nil, or_false]; omega
      have hxt : w.heap.size + 1 ∉ [gx] ∧ w.heap.size ∉ [gx] ∧ q ∉ [gx] ∧ r ∉ [gx] := by simp only [List.mem_cons, List.not_mem_nil, or_false]; omega
      have hxw : w.heap.size ≤ gx := by have := hbs.size; omega
      have hmaxn := hrowx.max
      have hlen := hrowx.le
      unfold maxLen at hmaxn
      have HXS := Lib.hid hxs
      have HXT := Lib.hid hxt
      clear hDs hDt hb8 hxs hxt hgx l1 l2 hbs HC
      go_wp2_with fail
      go_loopw [16] (fun i wr => CopiesR3 w (w.heap.size + 1) w.heap.size q r pk gk ck qk rk dk gx cx n i wr) (fun i _ => n - (intOf i).toNat)
      case atStart => exact ⟨0, X, by omega, rfl, hrowx, hDs8, hDt8, hb8'⟩
      case round =>
        obtain ⟨k, Y, hk, rfl, hrow, hDs, hDt, hbs⟩ := hrel
        clear hDs8 hDt8 hb8' hrowx
        by_cases hlt : k < n
        · have hc := hrow.cell hlt
          have fx := hrow.free k
          generalize Y.getD k 0 = y at hc
          go_wp2_with fail
          go_roundw
          case rel => exact ⟨k + 1, _, by omega, by go_num, hrow.put _, hDs.fr ((Fr.refl _ _).setCell (by simp) _) HXS.out, hDt.fr ((Fr.refl _ _).setCell (by simp) _) HXT.out, hbs.setCell hxw _⟩
          case measure => simp [intOf]; omega
        · obtain rfl : k = n := by omega
          clear hrow
          go_wp2_with fail
          refine (same_duo hDs).mono ?_
          rintro e w9 ⟨rfl, hb9⟩
          have hDt9 := hDt.below hb9
          have hb9' := hbs.trans (hb9.mono hbs.size)
          clear hDs hDt hb9 hbs
          go_wp2_with fail
          refine (same_duo hDt9).mono ?_
          rintro e w10 ⟨rfl, hb10⟩
          have hz := hb9'.trans (hb10.mono hb9'.size)
          clear hDt9 hb9' hb10
          go_wp2
          go_ret
          exact ⟨rfl, hz⟩
end Go.Proofs.Ytbnaiogabcaboaa
