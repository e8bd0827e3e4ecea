/-
  The walk of the statement ThiefOnce: it returns true.
-/
import Derived.Test.YtplifdmfoeejaaaMgBV
import Derived.Test.YtplifdmfoeejaaaMgAY
import Derived.Test.YtplifdmfoeejaaaMgAK
import Derived.Deep.OwnRows
import Derived.Deep.Cut
import Derived.Deep.CutRange
namespace Go.Proofs.Ytplifdmfoeejaaa
open Go Go.RowKit Go.Shelf
set_option linter.unusedSimpArgs false
set_option linter.unusedVariables false

theorem info_mach : (Try.prog.info? 37).map (fun i => (i.zero, i.size, i.bytes)) = some (some .nilIface, 1, 16) := by kernel_rfl
theorem info_bool : (Try.prog.info? 4).map (fun i => (i.zero, i.size, i.bytes)) = some (some (.bool false), 1, 1) := by kernel_rfl
theorem made_rep (v : Value) (n : Nat) : madeCells #[v] n = (List.replicate n v).toArray := by
  apply Array.ext
  · simp [madeCells]
  · intro i h1 h2
    simp [madeCells, Nat.mod_one]
theorem DQ.cl0 {s : St} {n t : Nat} {l : List Int} (h : DQ s n t l) (ht : t < 9223372036854775808) : CL s n t t l :=
  ⟨h.nn, h.len, h.top, h.cap, ⟨Nat.le_refl _, by have := h.cap; have := h.nn; omega, ht⟩, h.ent⟩
theorem two_made (w : World) (t1 t2 : TypeId) (c1 c2 : Array Value) : Blk ((w.alloc (.cells c1 t1)).alloc (.cells c2 t2)).drew w.heap.size t1 c1 ∧ Blk ((w.alloc (.cells c1 t1)).alloc (.cells c2 t2)).drew (w.heap.size + 1) t2 c2 ∧ Below w.heap.size w ((w.alloc (.cells c1 t1)).alloc (.cells c2 t2)).drew := by
  have h1 := (Blk.made w t1 c1).alloc (.cells c2 t2)
  have h2 := Blk.made (w.alloc (.cells c1 t1)) t2 c2
  rw [show (w.alloc (.cells c1 t1)).heap.size = w.heap.size + 1 by simp] at h2
  exact ⟨h1, h2, below_drew (((Below.refl _ _).alloc (Nat.le_refl _) _).alloc (by simp) _)⟩
theorem eql_mach {q : Nat} {X : Mach} {V : Value} (h : mval q X = V) : ∃ bn : Bool, (bn = true ↔ X = .no) ∧ (∀ W : World, (binOp .eql 37 V .nilIface).run Try.prog W = .ok (.bool bn) W) ∧ ∀ (W : World) (x : Operand), (eqGuard .eql 37 x (.const .nilIface) V .nilIface).run Try.prog W = .ok () W := by
  subst h
  cases X with
  | no => exact ⟨true, by simp, fun W => by kernel_rfl, fun W x => by cases x <;> rfl⟩
  | push f => exact ⟨false, by simp, fun W => by kernel_rfl, fun W x => rfl⟩
  | pop f => exact ⟨false, by simp, fun W => by kernel_rfl, fun W x => rfl⟩
  | steal f => exact ⟨false, by simp, fun W => by kernel_rfl, fun W x => rfl⟩
theorem d0_keep {w0 w : World} {p m k g cap qb C bd bp bt K N : Nat} {q : Nat → Nat} {s : St} {M : List Mach} {D : List Int} {P : List Bool} {T : List Int} (h : XW w0 p m k g cap qb C bd bp bt K N q s M D P T w) {a : Nat} {v : Int} (ha : a < K) (hn : M.getD a .no = .no) {f : Fra} (hf : M.getD 0 .no = .push f) : f.fa = (D.set a v).getD 0 0 ∧ 0 ≤ (D.set a v).getD 0 0 ∧ (D.set a v).getD 0 0 < N := by
  have hne : a ≠ 0 := fun e => by
    subst e
    rw [hn] at hf
    cases hf
  rw [set_off _ _ _ _ _ hne]
  exact h.d0 f hf
theorem XS.below2 {w0 w : World} {p m k g cap qb C bd bp bt bx K N : Nat} {q : Nat → Nat} {s : St} {M : List Mach} {D : List Int} {P : List Bool} {T : List Int} (h : XS w0 bx K q M w) (hw : XW w0 p m k g cap qb C bd bp bt K N q s M D P T w) (v : Value) (a : Nat) : XS w0 bx K q M (w.setCell ⟨bd, a, none⟩ v) := by
  have hf : Fr [bd] w (w.setCell ⟨bd, a, none⟩ v) := (Fr.refl _ _).setCell (by simp) _
  exact ⟨h.1.of_same (hf.block bx h.1.lt (by simpa using h.1.apart hw.ds (by decide))), h.2⟩
theorem XS.off {w0 w : World} {bx K b : Nat} {q : Nat → Nat} {M : List Mach} {t : TypeId} {cs : Array Value} (h : XS w0 bx K q M w) (hb : Blk w b t cs) (ht : 37 ≠ t) (v : Value) (a : Nat) : XS w0 bx K q M (w.setCell ⟨b, a, none⟩ v) := by
  have hf : Fr [b] w (w.setCell ⟨b, a, none⟩ v) := (Fr.refl _ _).setCell (by simp) _
  exact ⟨h.1.of_same (hf.block bx h.1.lt (by simpa using h.1.apart hb ht)), h.2⟩
theorem leftC_le (P : List Bool) (T : List Int) : ∀ k, leftC P T k ≤ k
  | 0 => Nat.le_refl _
  | k + 1 => by
    have := leftC_le P T k
    show leftC P T k + (if P.getD k false = true ∧ T.getD k 0 = 0 then 1 else 0) ≤ k + 1
    split <;> omega
/-- All that the first loop keeps. -/
def Full (w0 : World) (p m k g cap qb C t0 bx bd bp bt K N L : Nat) (i : Nat) (w : World) : Prop :=
  ∃ (q : Nat → Nat) (s : St) (M : List Mach) (D : List Int) (P : List Bool) (T : List Int) (t : Nat) (l : List Int) (cl : Option Int) (B : Nat), B ≤ i ∧ XW w0 p m k g cap qb C bd bp bt K N q s M D P T w ∧ XS w0 bx K q M w ∧ Inv N C t0 B s t l cl M P T ∧ Prog L K i M
def OnceR (w0 : World) (p m k g cap qb C t0 bx bd bp bt K N L : Nat) (i : Value) (w : World) : Prop :=
  ∃ j, j ≤ L + 12 * K ∧ i = .int .i64 j ∧ Full w0 p m k g cap qb C t0 bx bd bp bt K N L j w

set_option maxRecDepth 100000 in
set_option maxHeartbeats 16000000 in
theorem once_law {w : World} {la : Option Addr} {L : Nat} {lz : List Int} (n th : Int) (t : Nat) (lc : Nat) (hn : 0 ≤ n ∧ n ≤ 255) (hth : 0 ≤ th ∧ th ≤ 255) (ht : t < 18446744073709551616) (hl : InInts w la L lz) :
    Calls Try.prog 6 #[.int .u8 n, .int .u8 th, .int .u64 t, .slice la L lc] w fun e w' => e = .returned (.bool true) ∧ Below w.heap.size w w' := by
  have hml := hl.2.1
  unfold maxLen at hml
  have HL := Lib.hid hl
  clear hl
  by_cases h400 : 400 < L
  · go_enter Try.func6, Try.ntmps6
    go_wp2
    go_ret
    exact ⟨rfl, Below.refl _ _⟩
  have h401 : decide (400 < (L : Int)) = false := decide_eq_false (by omega)
  obtain ⟨C, hC, hC2⟩ : ∃ C : Nat, 1 + n % 4 = (C : Int) ∧ (1 ≤ C ∧ C ≤ 4) := ⟨(1 + n % 4).toNat, by omega, by omega⟩
  obtain ⟨K, hK, hK2⟩ : ∃ K : Nat, 2 + th % 5 = (K : Int) ∧ (2 ≤ K ∧ K ≤ 6) := ⟨(2 + th % 5).toNat, by omega, by omega⟩
  obtain ⟨t2, ht2, ht3⟩ : ∃ t2 : Nat, (t : Int) / 2 = (t2 : Int) ∧ t2 < 9223372036854775808 := ⟨t / 2, by omega, by omega⟩
  obtain ⟨N, hN⟩ : ∃ N : Nat, L + 500 = N := ⟨_, rfl⟩
  have hN2 : (L : Int) + 500 = (N : Int) := by omega
  have HC := Lib.hid (And.intro hC2 (And.intro hK2 (And.intro ht3 (And.intro hN h400))))
  have HNL := Lib.hid (show InInts w none 0 [] from ⟨rfl, by simp, fun i hi => absurd hi (by omega)⟩)
  go_enter Try.func6, Try.ntmps6
  go_wp2_with fail
  (with_reducible refine (queue_any C _).mono ?_)
  rintro e w2 ⟨rfl, hb2⟩
  have B2 := Lib.hid hb2
  clear hb2
  go_upto_region 5 with fail
  have Q3 := Lib.hid (Blk.made w2 25 (qcells 0 1 2 C))
  have B3 := Lib.hid (B2.out.alloc B2.out.size (.cells (qcells 0 1 2 C) 25))
  have HQB := Lib.hid B2.out.size
  generalize w2.alloc (.cells (qcells 0 1 2 C) 25) = W3 at *
  generalize w2.heap.size = qb at *
  clear B2
  have hdq0 := deque_any (HNL.out.below B3.out) 0 C t2 0 (by omega) (by omega) (by omega)
  rw [show ((0 : Nat) : Int) = 0 from rfl] at hdq0
  have HDQ0 := Lib.hid hdq0
  clear hdq0
  go_wp2_with fail
  (with_reducible refine HDQ0.out.mono ?_)
  rintro e w4 ⟨gd, X, l, rfl, hr4, hX, hg4, hb4, hll, _, hdx⟩
  have hl0 : l = [] := List.eq_nil_of_length_eq_zero hll
  subst hl0
  obtain ⟨hd1, hd2⟩ := hdx (by omega)
  have Q4 := Lib.hid (Q3.out.below hb4)
  have B4 := Lib.hid (B3.out.trans (hb4.mono B3.out.size))
  have R4 := Lib.hid hr4
  have HXX := Lib.hid (And.intro hX (And.intro hd1 hd2))
  clear hr4 hX hg4 hb4 Q3 B3 hd1 hd2 hdx hll
  go_wp2_with fail
  (with_reducible refine (mbare_any R4.out.inW (C + 3) (by omega)).mono ?_)
  rintro e w5 ⟨p, m, k, g, q, ag, acap, s, rfl, hd, hsX, hsc, hb5⟩
  have hs4 := B4.out.size
  have hdq := DQ.ofX hsX R4.out.len HXX.out.2.1 HXX.out.2.2 (by simp) (by omega)
  have A5 := Lib.hid (show AW w p m k g (C + 3) hd0 nilV nilV 0 0 qb C s w5 from ⟨hd.e, Q4.out.below hb5, Row.inNN HXX.out.1 hsX, B4.out.trans (hb5.mono hs4), Nat.le_trans hs4 hd.bp, Nat.le_trans hs4 hd.bm, Nat.le_trans hs4 hd.bk, Nat.le_trans hs4 hd.bg, HQB.out⟩)
  have DQ5 := Lib.hid hdq
  clear hd hsX hsc hb5 Q4 HXX R4 hs4 hdq B4
  go_wp2_with fail
  (with_reducible refine (awake10_any _).mono ?_)
  rintro e w6 ⟨rfl, hb6⟩
  have A6 := Lib.hid (A5.out.below hb6)
  clear hb6 A5
  have hmkX := fun (W : World) => run_make_row' (P := Try.prog) 65 37 .nilIface 16 Try.underlying65 info_mach rfl .i64 .i64 K (by omega) (by omega) W
  go_upto_region 9 with fail
  clear hmkX
  have X7 := Lib.hid (Blk.made w6 37 (madeCells #[.nilIface] K))
  have A7 := Lib.hid (A6.out.below (below_one w6 (.cells (madeCells #[.nilIface] K) 37)))
  have HX7 := Lib.hid (show w.heap.size ≤ w6.heap.size from A6.out.b.size)
  generalize w6.alloc (.cells (madeCells #[.nilIface] K) 37) = W7 at *
  generalize w6.heap.size = bx at *
  clear A6
  have hmkI := fun (W : World) => run_make_row' (P := Try.prog) 23 3 (.int .i64 0) 8 Try.underlying23 info_int rfl .i64 .i64 K (by omega) (by omega) W
  have hmkB := fun (W : World) => run_make_row' (P := Try.prog) 66 4 (.bool false) 1 Try.underlying66 info_bool rfl .i64 .i64 N (by omega) (by omega) W
  go_cut [16, 17] from 55 to 60 (fun v1 v2 wx => ∃ bd bp, v1 = .slice (some ⟨bd, 0, none⟩) K K ∧ v2 = .slice (some ⟨bp, 0, none⟩) N N ∧ Blk wx bd 3 (madeCells #[.int .i64 0] K) ∧ Blk wx bp 4 (madeCells #[.bool false] N) ∧ W7.heap.size ≤ bd ∧ W7.heap.size ≤ bp ∧ Below W7.heap.size W7 wx)
  case first =>
    go_region
    · go_wp2_with fail
      go_meet
      case rel =>
        have h := two_made W7 3 4 (madeCells #[.int .i64 0] K) (madeCells #[.bool false] N)
        exact ⟨_, _, rfl, rfl, h.1, h.2.1, Nat.le_refl _, by omega, h.2.2⟩
    · go_wp2_with fail
      go_meet
      case rel =>
        have h := two_made W7 4 3 (madeCells #[.bool false] N) (madeCells #[.int .i64 0] K)
        exact ⟨_, _, rfl, rfl, h.2.1, h.1, by omega, Nat.le_refl _, h.2.2⟩
  case rest =>
  obtain ⟨bd, bp, rfl, rfl, hbd, hbp, hbd0, hbp0, hb8⟩ := hcut
  have D8 := Lib.hid (And.intro hbd (And.intro hbp (And.intro hbd0 hbp0)))
  have X8 := Lib.hid (X7.out.below hb8)
  have A8 := Lib.hid (A7.out.below hb8)
  have HS8 := Lib.hid (And.intro A7.out.b.size hb8.size)
  clear hbd hbp hbd0 hbp0 hb8 X7 A7 hmkI hmkB
  have hmkT := fun (W : World) => run_make_row' (P := Try.prog) 23 3 (.int .i64 0) 8 Try.underlying23 info_int rfl .i64 .i64 N (by omega) (by omega) W
  go_upto_region 11 with fail
  clear hmkT
  have hbt0 := below_one wc (.cells (madeCells #[.int .i64 0] N) 3)
  have T9 := Lib.hid (Blk.made wc 3 (madeCells #[.int .i64 0] N))
  have HT9 := Lib.hid (show w.heap.size ≤ wc.heap.size ∧ bd ≠ wc.heap.size from ⟨by have := HS8.out; omega, by have := D8.out.1.lt; omega⟩)
  have D9 := Lib.hid (And.intro (D8.out.1.below hbt0) (And.intro (D8.out.2.1.below hbt0) (And.intro D8.out.2.2.1 D8.out.2.2.2)))
  have X9 := Lib.hid (X8.out.below hbt0)
  have A9 := Lib.hid (A8.out.below hbt0)
  clear hbt0 D8 X8 A8
  generalize wc.alloc (.cells (madeCells #[.int .i64 0] N) 3) = W9 at *
  generalize wc.heap.size = bt at *
  have F0 := Lib.hid (show Full w p m k g (C + 3) qb C t2 bx bd bp bt K N L 0 W9 from by
    have hK1 : 1 ≤ K := by omega
    have e1 := D9.out.1
    have e2 := D9.out.2.1
    have e3 := T9.out
    have e4 := X9.out
    rw [made_rep] at e1 e2 e3 e4
    refine ⟨fun _ => 0, s, List.replicate K .no, List.replicate K 0, List.replicate N false, List.replicate N 0, t2, [], none, 0, Nat.le_refl _,
      ⟨A9.out, by rw [List.map_replicate]; exact e1, by rw [List.map_replicate]; exact e2, by rw [List.map_replicate]; exact e3, fun a ha => by rw [getD_rep]; trivial, fun a b _ _ _ n1 => absurd (getD_rep ..) n1, fun a _ n1 => absurd (getD_rep ..) n1, ⟨by have := HS8.out; have := D9.out; omega, by have := HS8.out; have := D9.out; omega, HT9.out.1⟩, HT9.out.2, by simp, by simp, by simp, by simp, fun f hf => (by rw [getD_rep] at hf; cases hf), hK1⟩,
      ⟨?_, HX7.out⟩, Inv.begin (DQ5.out.cl0 HC.out.2.2.1) DQ5.out.bot (by have := HC.out; omega) K, Prog.begin L⟩
    have ex : xcells K (fun _ => 0) (List.replicate K .no) = (List.replicate K Value.nilIface).toArray := by
      unfold xcells
      congr 1
      apply List.ext_getElem
      · simp
      · intro i h1 h2
        simp only [List.length_map, List.length_range] at h1
        rw [List.getElem_map, List.getElem_range, getD_rep, List.getElem_replicate]
        rfl
    rw [ex]
    exact e4)
  clear D9 X9 A9 T9 HT9 HS8 DQ5 HX7
  obtain ⟨E, hE⟩ : ∃ E : Nat, 12 * K = E := ⟨_, rfl⟩
  obtain ⟨E2, hE2⟩ : ∃ E2 : Nat, L + E = E2 := ⟨_, rfl⟩
  have hE3 : (K : Int) * 12 = (E : Int) := by omega
  have hE4 : (L : Int) + (E : Int) = (E2 : Int) := by omega
  have HE := Lib.hid (And.intro hE hE2)
  clear hE hE2
  go_wp2_with fail
  go_loopw [19] (fun i wr => OnceR w p m k g (C + 3) qb C t2 bx bd bp bt K N L i wr) (fun i _ => E2 - (intOf i).toNat)
  case atStart => exact ⟨0, by omega, rfl, F0.out⟩
  case round =>
    clear F0
    obtain ⟨j, hj, rfl, hF⟩ := hrel
    have F := Lib.hid hF
    clear hF
    have hj' : j ≤ E2 := by have := HE.out; omega
    by_cases hlt : j < E2
    case neg =>
      as_aux_lemma =>
        obtain ⟨q, s, M, D, P, T, t, l, cl, B, hB, hW, hX, hI, hP⟩ := F.out
        have hP2 : Prog L K (L + 12 * K) M := by
          have e : j = L + 12 * K := by have := HE.out; omega
          rw [← e]
          exact hP
        have h0 := hP2.end 0 (by have := hW.kk; omega)
        have KZ0 := hI.last h0
        have KZ := Lib.hid (show ∀ u : World, Calls Try.prog 15 #[.int .u64 (s.old 1), .int .u64 (s.old 0)] u (fun e w' => e = .returned (.int .i64 (leftC P T N : Nat)) ∧ u = w') from fun u => KZ0 ▸ size_any (s.old 1) (s.old 0) u)
        have W0 := Lib.hid hW
        have I0 := Lib.hid hI
        have HN1 := Lib.hid (show N ≤ 900 by have := HC.out; omega)
        clear hB hW hX hI hP hP2 h0 KZ0 F
        go_wp2_with fail
        go_loopw [24, 23] (fun i v wr2 => ∃ j2 : Nat, j2 ≤ N ∧ i = .int .i64 j2 ∧ v = .int .i64 (leftC P T j2 : Nat) ∧ wr2 = wr) (fun i _ _ => N - (intOf i).toNat)
        case atStart => exact ⟨0, by omega, rfl, rfl, rfl⟩
        case round =>
          obtain ⟨j2, hj2, rfl, rfl, rfl⟩ := hrel
          have hle := leftC_le P T j2
          have hS : leftC P T (j2 + 1) = leftC P T j2 + if P.getD j2 false = true ∧ T.getD j2 0 = 0 then 1 else 0 := rfl
          obtain ⟨v0, hv0⟩ : ∃ v0, leftC P T j2 = v0 := ⟨_, rfl⟩
          rw [hv0] at hle hS ⊢
          by_cases hlt2 : j2 < N
          · have c1 := W0.out.tcell hlt2
            have c2 := W0.out.pcell hlt2
            have hj3 : (j2 : Int) < (N : Int) := by omega
            have hj4 : (0 : Int) ≤ (j2 : Int) := by omega
            have hv1 : v0 ≤ 900 := by have := HN1.out; omega
            have hj5 : j2 ≤ 900 := by have := HN1.out; omega
            have HS := Lib.hid hS
            clear hS hv0
            rcases I0.out.ct.kk j2 with hT | ⟨hT, hPt⟩
            · have HT := Lib.hid hT
              rw [hT] at c1
              clear hT
              cases hPj : P.getD j2 false with
              | true =>
                rw [hPj] at c2
                have HP := Lib.hid hPj
                clear hPj
                go_wp2_with fail
                go_roundw
                case rel => exact ⟨j2 + 1, by omega, by go_num, by rw [HS.out, if_pos ⟨HP.out, HT.out⟩]; go_num, trivial⟩
                case measure => simp [intOf]; omega
              | false =>
                rw [hPj] at c2
                have HP := Lib.hid hPj
                clear hPj
                go_wp2_with fail
                go_roundw
                case rel => exact ⟨j2 + 1, by omega, by go_num, by rw [HS.out, if_neg (fun h => by rw [HP.out] at h; exact absurd h.1 (by decide))]; go_num, trivial⟩
                case measure => simp [intOf]; omega
            · have HT := Lib.hid hT
              rw [hT] at c1
              rw [hPt] at c2
              clear hT hPt
              go_wp2_with fail
              go_roundw
              case rel => exact ⟨j2 + 1, by omega, by go_num, by rw [HS.out, if_neg (fun h => by rw [HT.out] at h; exact absurd h.2 (by decide))]; go_num, trivial⟩
              case measure => simp [intOf]; omega
          · obtain rfl : j2 = N := by omega
            rw [hv0] at KZ
            have E7 := Lib.hid (W0.out.aw.e.drewN 1)
            have d20 : wr.drew.cell? ⟨p, 20, none⟩ = some (.pointer (some ⟨m, 0, none⟩)) := E7.out.at20
            have B7 := Lib.hid (below_drew W0.out.aw.b)
            clear hS hv0 W0 I0
            go_wp2_with fail
            go_region_held3 (fun w' => w'.cell? ⟨p, 20, none⟩ = some (.pointer (some ⟨m, 0, none⟩))) ((first | exact d20 | go_keep))
              (first
               | (go_at_call 16
                  refine (peek_any E7.out.mem _).mono ?_
                  rintro e u ⟨rfl, rfl⟩)
               | (go_at_call 15
                  refine (KZ.out _).mono ?_
                  rintro e u ⟨rfl, rfl⟩))
            go_wp2
            go_ret
            exact ⟨rfl, B7.out⟩
    have hlt2 : (j : Int) < (E2 : Int) := by omega
    obtain ⟨D0, hD0⟩ : ∃ D0, (j : Int) - (L : Int) = D0 := ⟨_, rfl⟩
    obtain ⟨A0, hA0⟩ : ∃ A0, D0.tdiv 12 = A0 := ⟨_, rfl⟩
    have HA := Lib.hid (show L ≤ j → A0 = (((j - L) / 12 : Nat) : Int) from fun h => by
      rw [← hA0, ← hD0, show (j : Int) - (L : Int) = ((j - L : Nat) : Int) by omega]
      exact (Int.ofNat_tdiv _ _).symm)
    have hj0 : (0 : Int) ≤ (j : Int) := by omega
    have hjs : j ≤ 472 := by have := HC.out; have := HE.out; omega
    have hD1 : -400 ≤ D0 ∧ D0 ≤ 472 := by have := HC.out; omega
    have hA1 : -400 ≤ A0 ∧ A0 ≤ 472 := by
      rw [← hA0]
      have h1 := Int.natAbs_tdiv_le_natAbs D0 12
      omega
    have HJ := Lib.hid (And.intro hjs hlt)
    have hdv : L ≤ j → (j - L) / 12 < K := fun h => by
      have h1 := HE.out.1
      have h2 := HE.out.2
      omega
    have HDV := Lib.hid hdv
    clear hdv
    go_upto_if 82 with fail
    clear hD0 hA0 hD1 hA1
    go_cut [20] from 64 to 190 (fun v wx => wx = wr ∧ ∃ a : Nat, v = .int .i64 a ∧ a < K ∧ (L ≤ j → a = (j - L) / 12))
    case first =>
      by_cases hjl : j < L
      · obtain ⟨q, s, M, D, P, T, t, l, cl, B, hB, hW, hX, hI, hP⟩ := F.out
        obtain ⟨x0, rfl, hx0, hc0⟩ := (HL.out.below hW.aw.b).2.2 j hjl
        generalize lz.getD j 0 = z at *
        have hjl2 : (j : Int) < (L : Int) := by omega
        clear hW hX hI hP hB hx0
        go_wp2_with fail
        (with_reducible refine (rdraw_any z K (by omega) _).mono ?_)
        rintro e w7 ⟨rfl, rfl⟩
        have hdr := drw_in z K (by omega)
        obtain ⟨a, ha⟩ : ∃ a : Nat, drw z K = (a : Int) := ⟨(drw z K).toNat, by omega⟩
        rw [ha] at hdr ⊢
        go_wp2_with fail
        go_meet
        case rel => exact ⟨rfl, a, rfl, by omega, fun h => by omega⟩
      · have hjl2 : decide ((j : Int) < (L : Int)) = false := decide_eq_false (by omega)
        have hA2 := HA.out (by omega)
        subst hA2
        go_wp2_with fail
        go_meet
        case rel => exact ⟨rfl, _, rfl, HDV.out (by omega), fun _ => rfl⟩
    case rest =>
    obtain ⟨rfl, a, rfl, ha, haj⟩ := hcut
    have HAJ := Lib.hid (And.intro ha haj)
    obtain ⟨q, s, M, D, P, T, t, l, cl, B, hB, hW, hX, hI, hP⟩ := F.out
    have W0 := Lib.hid hW
    have X0 := Lib.hid hX
    have I0 := Lib.hid (And.intro hI (And.intro hP hB))
    clear F hW hX hI hP hB HA haj
    obtain ⟨V0, hV0⟩ : ∃ V, mval (q a) (M.getD a .no) = V := ⟨_, rfl⟩
    obtain ⟨bn, hbn, heq, hgu⟩ := eql_mach hV0
    have cx := X0.out.cell ha
    rw [hV0] at cx
    have HV := Lib.hid (And.intro hV0 hbn)
    have hq0 := heq wc
    have hq1 := hgu wc
    have ha0 : (0 : Int) ≤ (a : Int) := by omega
    have ha1 : (a : Int) < (K : Int) := by omega
    clear hV0 hbn heq hgu
    go_upto_if 93 with fail
    clear hq0 hq1
    go_cut [] from 64 to 190 (fun wx => ∃ (q : Nat → Nat) (M : List Mach) (D : List Int) (B : Nat), B ≤ j + 1 ∧ XW w p m k g (C + 3) qb C bd bp bt K N q s M D P T wx ∧ XS w bx K q M wx ∧ Inv N C t2 B s t l cl M P T ∧ Prog L K j M ∧ M.getD a .no ≠ .no)
    case first =>
      as_aux_lemma =>
        cases bn with
        | false =>
          go_wp2_with fail
          go_meet
          case rel => exact ⟨q, M, D, B, by have := I0.out.2.2; omega, W0.out, X0.out, I0.out.1, I0.out.2.1, fun e => by have := HV.out.2.2 e; cases this⟩
        | true =>
          have hno := HV.out.2.1 rfl
          have HNO := Lib.hid hno
          clear hno
          by_cases hjl : j < L
          case neg =>
            have hjl2 : (L : Int) ≤ (j : Int) := by omega
            go_wp2_with fail
            go_roundw
            case rel =>
              exact ⟨j + 1, by have := HE.out; have := HJ.out; omega, by go_num, q, s, M, D, P, T, t, l, cl, B, by have := I0.out.2.2; omega, W0.out, X0.out, I0.out.1, I0.out.2.1.skip (by omega) (HAJ.out.2 (by omega)) HNO.out⟩
            case measure => simp [intOf]; omega
          have hjl2 : decide ((L : Int) ≤ (j : Int)) = false := decide_eq_false (by omega)
          have c0 := W0.out.dcell ha
          have f0 := W0.out.ds.free a
          go_upto_region 21 with fail
          have W1 := Lib.hid (W0.out.putD a (-1) (fun f hf => d0_keep W0.out ha HNO.out hf))
          have X1 := Lib.hid (X0.out.below2 W0.out (.int .i64 (-1)) a)
          clear W0 X0 c0 f0 cx
          generalize D.set a (-1) = D1 at *
          generalize wc.setCell ⟨bd, a, none⟩ (.int .i64 (-1)) = V1 at *
          obtain ⟨x0, rfl, hx0, hc0⟩ := (HL.out.below W1.out.aw.b).2.2 j hjl
          obtain ⟨z, hz⟩ : ∃ z, lz.getD j 0 = z := ⟨_, rfl⟩
          rw [hz] at hc0
          obtain ⟨ch, hch⟩ : ∃ ch, IntKind.i64.wrap (z.tdiv (K : Int)) = ch := ⟨_, rfl⟩
          have hch2 : wrap64 (z.tdiv (K : Int)) = ch := by rw [← i64_wrap64]; exact hch
          have hK0 : ¬ (K : Int) = 0 := by omega
          have hK00 : ¬ K = 0 := by omega
          have hK01 : ((K : Int) == 0) = false := by simp; omega
          have HZ := Lib.hid hz
          have hjL : (j : Int) < (L : Int) := by omega
          have Wd := Lib.hid (W1.out.below (below_drew (Below.refl _ _)))
          have Xd := Lib.hid (X1.out.below (below_drew (Below.refl _ _)))
          have y0 : V1.drew.cell? ⟨qb, 0, none⟩ = some (.int .i64 0) := Wd.out.aw.q.at_ 0
          have y1 : V1.drew.cell? ⟨qb, 1, none⟩ = some (.int .i64 1) := Wd.out.aw.q.at_ 1
          have y2 : V1.drew.cell? ⟨qb, 2, none⟩ = some (.int .i64 2) := Wd.out.aw.q.at_ 2
          have y3 : V1.drew.cell? ⟨qb, 3, none⟩ = some (.int .i64 C) := Wd.out.aw.q.at_ 3
          have y4 : V1.drew.cell? (x0.add j) = some (.int .i64 z) := hc0
          have HCC := Lib.hid (show (C : Int) ≤ 100 by omega)
          clear hx0 hc0 W1 X1 hz
          obtain ⟨X, hX9⟩ : ∃ X, nextM a ch j C = X := ⟨_, rfl⟩
          have HNX := Lib.hid (hX9 ▸ fun W => next_told a ch j C HCC.out W)
          have HX9 := Lib.hid hX9
          clear hX9
          go_region_held3 (fun w' => w'.cell? ⟨qb, 0, none⟩ = some (.int .i64 0) ∧ w'.cell? ⟨qb, 1, none⟩ = some (.int .i64 1) ∧ w'.cell? ⟨qb, 2, none⟩ = some (.int .i64 2) ∧ w'.cell? ⟨qb, 3, none⟩ = some (.int .i64 C) ∧ w'.cell? (x0.add j) = some (.int .i64 z)) ((first | exact ⟨e0, e1, e2, e3, e4⟩ | exact ⟨v0, v1, v2, v3, v4⟩ | exact ⟨y0, y1, y2, y3, y4⟩ | go_keep))
            ((go_at_call 23
              refine (HNX.out _).mono ?_
              rintro e w7 ⟨x, ty9, rfl, hmv, hmo, hx, hb7⟩
              have W7x := Lib.hid (Wd.out.below hb7)
              have X7x := Lib.hid (Xd.out.below hb7)
              have hnew : ∀ b, b < K → M.getD b .no ≠ .no → q b ≠ x := fun b hb hn => by
                obtain ⟨ty, post, f, ho, _⟩ := (Wd.out.mo b hb).ob hn
                have := ho.blk.lt
                omega
              have hxw : w.heap.size ≤ x := Nat.le_trans Wd.out.aw.b.size hx
              have v0 : w7.cell? ⟨qb, 0, none⟩ = some (.int .i64 0) := W7x.out.aw.q.at_ 0
              have v1 : w7.cell? ⟨qb, 1, none⟩ = some (.int .i64 1) := W7x.out.aw.q.at_ 1
              have v2 : w7.cell? ⟨qb, 2, none⟩ = some (.int .i64 2) := W7x.out.aw.q.at_ 2
              have v3 : w7.cell? ⟨qb, 3, none⟩ = some (.int .i64 C) := W7x.out.aw.q.at_ 3
              have v4 : w7.cell? (x0.add j) = some (.int .i64 z) := by rw [← HZ.out]; exact (HL.out.below W7x.out.aw.b).cell hjl
              have cx : w7.cell? ⟨bx, a, none⟩ = some .nilIface := by have h := X7x.out.cell ha; rw [HNO.out] at h; exact h
              have fx := X7x.out.free a
              have hfs : Fr [bx] w7 (w7.setCell ⟨bx, a, none⟩ (.iface ty9 (.pointer (some ⟨x, 0, none⟩)))) := (Fr.refl _ _).setCell (by simp) _
              have W8 := Lib.hid (W7x.out.put X7x.out.1 X7x.out.2 rfl hfs)
              have e0 : (w7.setCell ⟨bx, a, none⟩ (.iface ty9 (.pointer (some ⟨x, 0, none⟩)))).cell? ⟨qb, 0, none⟩ = some (.int .i64 0) := W8.out.aw.q.at_ 0
              have e1 : (w7.setCell ⟨bx, a, none⟩ (.iface ty9 (.pointer (some ⟨x, 0, none⟩)))).cell? ⟨qb, 1, none⟩ = some (.int .i64 1) := W8.out.aw.q.at_ 1
              have e2 : (w7.setCell ⟨bx, a, none⟩ (.iface ty9 (.pointer (some ⟨x, 0, none⟩)))).cell? ⟨qb, 2, none⟩ = some (.int .i64 2) := W8.out.aw.q.at_ 2
              have e3 : (w7.setCell ⟨bx, a, none⟩ (.iface ty9 (.pointer (some ⟨x, 0, none⟩)))).cell? ⟨qb, 3, none⟩ = some (.int .i64 C) := W8.out.aw.q.at_ 3
              have e4 : (w7.setCell ⟨bx, a, none⟩ (.iface ty9 (.pointer (some ⟨x, 0, none⟩)))).cell? (x0.add j) = some (.int .i64 z) := by rw [← HZ.out]; exact (HL.out.below W8.out.aw.b).cell hjl
              have X8 := Lib.hid (show XS w bx K (fun b => if b = a then x else q b) (M.set a X) (w7.setCell ⟨bx, a, none⟩ (.iface ty9 (.pointer (some ⟨x, 0, none⟩)))) from hmv ▸ X7x.out.put W7x.out.ml ha x X)
              have O8 := Lib.hid (hmo.off X7x.out.1 (by decide) (by decide) (by decide) hfs)
              have N8 := Lib.hid (And.intro hnew hxw)))
          clear y0 y1 y2 y3 y4 v0 v1 v2 v3 v4 e0 e1 e2 e3 cx fx W7x X7x Wd Xd hmo hx hb7 hnew hxw hfs hmv
          generalize w7.setCell ⟨bx, a, none⟩ (.iface ty9 (.pointer (some ⟨x, 0, none⟩))) = V8 at *
          by_cases ha9 : 0 < a
          · have HA9 := Lib.hid ha9
            have hab : ((a : Int) == 0) = false := by simp; omega
            have eX := HX9.out
            unfold nextM at eX
            rw [if_pos ha9] at eX
            have EX := Lib.hid eX
            clear ha9 eX
            go_wp2_with fail
            go_meet
            case rel =>
              have eX := EX.out
              subst eX
              refine ⟨_, _, D1, B, by have := I0.out.2.2; omega, W8.out.more ha O8.out N8.out.1 N8.out.2 (fun f hf => ?_), X8.out, I0.out.1.steal a (by have := W8.out.ml; omega) HA9.out _ ⟨rfl, rfl, rfl, rfl⟩ rfl, I0.out.2.1.new W8.out.ml _ hjl (by show (1 : Int) ≤ 1 ∧ (1 : Int) ≤ 9; omega), ?_⟩
              · rw [set_off _ _ _ _ _ (by have := HA9.out; omega)] at hf
                exact W8.out.d0 f hf
              · rw [set_at _ _ _ _ (by have := W8.out.ml; omega)]
                intro e
                cases e
          · have HA9 := Lib.hid (show a = 0 by omega)
            have hab : ((a : Int) == 0) = true := by simp; omega
            by_cases hc2 : ch.tmod 2 = 0
            · have hc3 : (ch.tmod 2 == 0) = true := by simp [hc2]
              have eX := HX9.out
              unfold nextM at eX
              rw [if_neg ha9, if_pos hc2] at eX
              have EX := Lib.hid eX
              clear ha9 eX
              have c1 := W8.out.dcell ha
              have f1 := W8.out.ds.free a
              go_wp2_with fail
              have W9 := Lib.hid (W8.out.putD a j (fun f hf => d0_keep W8.out ha HNO.out hf))
              have X9 := Lib.hid (X8.out.off W8.out.ds (by decide) (.int .i64 j) a)
              have O9 := Lib.hid (O8.out.off W8.out.ds (by decide) (by decide) (by decide) ((Fr.refl [bd] V8).setCell (p := ⟨bd, a, none⟩) (by simp) (.int .i64 j)))
              go_meet
              case rel =>
                have eX := EX.out
                subst eX
                have hml := W8.out.ml
                have hdl := W8.out.dl
                refine ⟨_, _, D1.set a j, j + 1, by omega, W9.out.more ha O9.out N8.out.1 N8.out.2 (fun f hf => ?_), X9.out, ?_, I0.out.2.1.new hml _ hjl (by show (1 : Int) ≤ 1 ∧ (1 : Int) ≤ 9; omega), ?_⟩
                · have e0 := HA9.out
                  subst e0
                  rw [set_at _ _ _ _ (by omega)] at hf ⊢
                  injection hf with hf
                  subst hf
                  exact ⟨rfl, by omega, by have := HC.out; have := HJ.out; omega⟩
                · have e0 := HA9.out
                  subst e0
                  exact I0.out.1.push (by omega) HNO.out _ j I0.out.2.2 (by have := HC.out; omega) ⟨rfl, rfl, rfl, rfl⟩ rfl rfl
                · rw [set_at _ _ _ _ (by omega)]
                  intro e
                  cases e
            · have hc3 : (ch.tmod 2 == 0) = false := by simp [hc2]
              have eX := HX9.out
              unfold nextM at eX
              rw [if_neg ha9, if_neg hc2] at eX
              have EX := Lib.hid eX
              clear ha9 eX
              go_wp2_with fail
              go_meet
              case rel =>
                have eX := EX.out
                subst eX
                have hml := W8.out.ml
                refine ⟨_, _, D1, B, by have := I0.out.2.2; omega, W8.out.more ha O8.out N8.out.1 N8.out.2 (fun f hf => ?_), X8.out, ?_, I0.out.2.1.new hml _ hjl (by show (1 : Int) ≤ 1 ∧ (1 : Int) ≤ 9; omega), ?_⟩
                · have e0 := HA9.out
                  subst e0
                  rw [set_at _ _ _ _ (by omega)] at hf
                  cases hf
                · have e0 := HA9.out
                  subst e0
                  exact I0.out.1.pop (by omega) HNO.out _ ⟨rfl, rfl, rfl, rfl⟩ rfl
                · rw [set_at _ _ _ _ (by omega)]
                  intro e
                  cases e
    case rest =>
    clear W0 X0 I0 HV cx
    obtain ⟨q, M, D, B, hB, hW, hX, hI, hP, hne⟩ := hcut
    have W0 := Lib.hid hW
    have X0 := Lib.hid hX
    have I0 := Lib.hid (And.intro hI (And.intro hB hP))
    obtain ⟨X, hXm⟩ : ∃ X, M.getD a .no = X := ⟨_, rfl⟩
    have cx := hX.cell ha
    rw [hXm] at cx hne
    obtain ⟨qa, hqa⟩ : ∃ qa, q a = qa := ⟨_, rfl⟩
    rw [hqa] at cx
    have HQA := Lib.hid hqa
    have HXM := Lib.hid hXm
    have CX := Lib.hid cx
    obtain ⟨ty0, hty0⟩ := mval_live qa hne
    rw [hty0] at cx
    have HNE := Lib.hid hne
    clear hty0 hne hXm hqa hW hX hI hP hB
    go_upto_region 26 with fail
    clear cx
    go_cut [141] from 64 to 190 (fun v wx => (v = .bool true ∧ Full w p m k g (C + 3) qb C t2 bx bd bp bt K N L (j + 1) wx) ∨ (v = .bool false ∧ ∃ (s2 : St) (t3 : Nat) (l2 : List Int) (cl2 : Option Int) (cd vl : Int) (ty : TypeId) (post : List Value) (f2 : Fra), OB wx qa ty post { f2 with ln := 0 } cd vl ∧ XW w p m k g (C + 3) qb C bd bp bt K N q s2 (M.set a .no) D P T wx ∧ XS w bx K q M wx ∧ Prog L K (j + 1) (M.set a .no) ∧ Ended N C t2 B s2 t3 l2 cl2 (M.set a .no) D P T a cd vl))
    case first =>
      as_aux_lemma =>
        cases X with
        | no => exact absurd rfl HNE.out
        | push f =>
          have HS := W0.out.push X0.out I0.out.1 I0.out.2.2 ha HAJ.out.2 HXM.out
          have cx0 : wc.cell? ⟨bx, a, none⟩ = some (.iface 81 (.pointer (some ⟨qa, 0, none⟩))) := CX.out
          rw [HQA.out] at HS
          have HSS := Lib.hid HS
          have km := meth_step_pusher qa
          have kn := ahead_step_pusher qa
          clear HS W0 X0 CX
          go_wp2_with fail
          (with_reducible refine HSS.out.mono ?_)
          rintro e w1 he
          clear HSS cx0
          rcases he with ⟨rfl, s2, M2, t3, l2, cl2, hW, hX, hI, hP⟩ | ⟨rfl, s2, t3, l2, cl2, cd, vl, ty, post, f2, ho, hW, hX, hP, hI⟩
          · have R0 := Lib.hid (show Full w p m k g (C + 3) qb C t2 bx bd bp bt K N L (j + 1) w1 from ⟨q, s2, M2, D, P, T, t3, l2, cl2, B, I0.out.2.1, hW, hX, hI, hP⟩)
            clear hW hX hI hP
            go_wp2_with fail
            go_meet
            case rel => exact .inl ⟨rfl, R0.out⟩
          · rw [HQA.out] at ho
            have R0 := Lib.hid (And.intro ho (And.intro hW (And.intro hX (And.intro hP hI))))
            clear ho hW hX hP hI
            go_wp2_with fail
            go_meet
            case rel => exact .inr ⟨rfl, s2, t3, l2, cl2, cd, vl, ty, post, f2, R0.out⟩
        | pop f =>
          have HS := W0.out.pop X0.out I0.out.1 I0.out.2.2 ha HAJ.out.2 HXM.out
          have cx0 : wc.cell? ⟨bx, a, none⟩ = some (.iface 89 (.pointer (some ⟨qa, 0, none⟩))) := CX.out
          rw [HQA.out] at HS
          have HSS := Lib.hid HS
          have km := meth_step_popper qa
          have kn := ahead_step_popper qa
          clear HS W0 X0 CX
          go_wp2_with fail
          (with_reducible refine HSS.out.mono ?_)
          rintro e w1 he
          clear HSS cx0
          rcases he with ⟨rfl, s2, M2, t3, l2, cl2, hW, hX, hI, hP⟩ | ⟨rfl, s2, t3, l2, cl2, cd, vl, ty, post, f2, ho, hW, hX, hP, hI⟩
          · have R0 := Lib.hid (show Full w p m k g (C + 3) qb C t2 bx bd bp bt K N L (j + 1) w1 from ⟨q, s2, M2, D, P, T, t3, l2, cl2, B, I0.out.2.1, hW, hX, hI, hP⟩)
            clear hW hX hI hP
            go_wp2_with fail
            go_meet
            case rel => exact .inl ⟨rfl, R0.out⟩
          · rw [HQA.out] at ho
            have R0 := Lib.hid (And.intro ho (And.intro hW (And.intro hX (And.intro hP hI))))
            clear ho hW hX hP hI
            go_wp2_with fail
            go_meet
            case rel => exact .inr ⟨rfl, s2, t3, l2, cl2, cd, vl, ty, post, f2, R0.out⟩
        | steal f =>
          have HS := W0.out.steal X0.out I0.out.1 I0.out.2.2 ha HAJ.out.2 HXM.out
          have cx0 : wc.cell? ⟨bx, a, none⟩ = some (.iface 98 (.pointer (some ⟨qa, 0, none⟩))) := CX.out
          rw [HQA.out] at HS
          have HSS := Lib.hid HS
          have km := meth_step_stealer qa
          have kn := ahead_step_stealer qa
          clear HS W0 X0 CX
          go_wp2_with fail
          (with_reducible refine HSS.out.mono ?_)
          rintro e w1 he
          clear HSS cx0
          rcases he with ⟨rfl, s2, M2, t3, l2, cl2, hW, hX, hI, hP⟩ | ⟨rfl, s2, t3, l2, cl2, cd, vl, ty, post, f2, ho, hW, hX, hP, hI⟩
          · have R0 := Lib.hid (show Full w p m k g (C + 3) qb C t2 bx bd bp bt K N L (j + 1) w1 from ⟨q, s2, M2, D, P, T, t3, l2, cl2, B, I0.out.2.1, hW, hX, hI, hP⟩)
            clear hW hX hI hP
            go_wp2_with fail
            go_meet
            case rel => exact .inl ⟨rfl, R0.out⟩
          · rw [HQA.out] at ho
            have R0 := Lib.hid (And.intro ho (And.intro hW (And.intro hX (And.intro hP hI))))
            clear ho hW hX hP hI
            go_wp2_with fail
            go_meet
            case rel => exact .inr ⟨rfl, s2, t3, l2, cl2, cd, vl, ty, post, f2, R0.out⟩
    case rest =>
    clear W0 X0 CX
    rcases hcut with ⟨rfl, hfull⟩ | ⟨rfl, s2, t3, l2, cl2, cd, vl, ty, post, f2, ho, hW, hX, hP, hI⟩
    · have R0 := Lib.hid hfull
      clear hfull
      go_wp2_with fail
      go_roundw
      case rel => exact ⟨j + 1, by have := HE.out; have := HJ.out; omega, by go_num, R0.out⟩
      case measure => simp [intOf]; omega
    have W2 := Lib.hid hW
    have X2 := Lib.hid hX
    have I2 := Lib.hid (And.intro hI hP)
    have O2 := Lib.hid ho
    have cx2 : wc.cell? ⟨bx, a, none⟩ = some (mval qa X) := by
      have h := hX.cell ha
      rw [HXM.out, HQA.out] at h
      exact h
    have CX2 := Lib.hid cx2
    clear hW hX hP hI ho cx2
    go_upto_region 27 with fail
    go_cut [21, 22] from 64 to 190 (fun v1 v2 wx => v1 = .int .i64 cd ∧ v2 = .int .i64 vl ∧ ∃ nd, wx = wc.drewN nd)
    case first =>
      as_aux_lemma =>
        cases X with
        | no => exact absurd rfl HNE.out
        | push f =>
          have cx3 : wc.cell? ⟨bx, a, none⟩ = some (.iface 81 (.pointer (some ⟨qa, 0, none⟩))) := CX2.out
          have kr := meth_result_pusher qa
          have ks := ahead_result_pusher qa
          clear W2 X2 I2 CX2
          go_wp2_with fail
          (with_reducible refine (oresult_any O2.out).mono ?_)
          rintro e w2 ⟨rfl, nd, rfl⟩
          go_wp2_with fail
          go_meet
          case rel => exact ⟨rfl, rfl, nd, rfl⟩
        | pop f =>
          have cx3 : wc.cell? ⟨bx, a, none⟩ = some (.iface 89 (.pointer (some ⟨qa, 0, none⟩))) := CX2.out
          have kr := meth_result_popper qa
          have ks := ahead_result_popper qa
          clear W2 X2 I2 CX2
          go_wp2_with fail
          (with_reducible refine (oresult_any O2.out).mono ?_)
          rintro e w2 ⟨rfl, nd, rfl⟩
          go_wp2_with fail
          go_meet
          case rel => exact ⟨rfl, rfl, nd, rfl⟩
        | steal f =>
          have cx3 : wc.cell? ⟨bx, a, none⟩ = some (.iface 98 (.pointer (some ⟨qa, 0, none⟩))) := CX2.out
          have kr := meth_result_stealer qa
          have ks := ahead_result_stealer qa
          clear W2 X2 I2 CX2
          go_wp2_with fail
          (with_reducible refine (oresult_any O2.out).mono ?_)
          rintro e w2 ⟨rfl, nd, rfl⟩
          go_wp2_with fail
          go_meet
          case rel => exact ⟨rfl, rfl, nd, rfl⟩
    case rest =>
    obtain ⟨rfl, rfl, nd, hwc⟩ := hcut
    clear CX2 O2
    have W3 := Lib.hid (show XW w p m k g (C + 3) qb C bd bp bt K N q s2 (M.set a .no) D P T wc from by rw [hwc]; exact W2.out.below (below_drewN _ nd))
    have X3 := Lib.hid (show XS w bx K q M wc from by rw [hwc]; exact X2.out.below (below_drewN _ nd))
    have cx3 := X3.out.cell ha
    have fx3 := X3.out.free a
    clear W2 X2 hwc
    go_upto_region 29 with fail
    clear cx3 fx3
    have hml : M.length = K := by have h := W3.out.ml; rw [List.length_set] at h; exact h
    have W4 := Lib.hid (W3.out.put X3.out.1 X3.out.2 rfl ((Fr.refl [bx] wc).setCell (p := ⟨bx, a, none⟩) (by simp) .nilIface))
    have X4 := Lib.hid (X3.out.over hml ha)
    generalize wc.setCell ⟨bx, a, none⟩ .nilIface = V4 at *
    clear W3 X3 hml
    rcases I2.out.1 with ⟨rfl, d, hd, hdN, hI⟩ | ⟨rfl, d, rfl, hdN, hd, hI⟩ | ⟨c0, c1, hI⟩
    · have J := Lib.hid (And.intro hI I2.out.2)
      have c2 := W4.out.dcell ha
      rw [hd] at c2
      have c3 := W4.out.pcell hdN
      have f3 := W4.out.ps.free d
      have hd0 : (0 : Int) ≤ (d : Int) := by omega
      have hd1 : (d : Int) < (N : Int) := by omega
      have R0 := Lib.hid (show Full w p m k g (C + 3) qb C t2 bx bd bp bt K N L (j + 1) (V4.setCell ⟨bp, d, none⟩ (.bool true)) from ⟨q, s2, _, D, _, T, t3, l2, cl2, B, I0.out.2.1, W4.out.putP d true, X4.out.off W4.out.ps (by decide) _ _, J.out.1, J.out.2⟩)
      clear hI hd I2 W4 X4 J
      go_wp2_with fail
      go_roundw
      case rel => exact ⟨j + 1, by have := HE.out; have := HJ.out; omega, by go_num, R0.out⟩
      case measure => simp [intOf]; omega
    · have J := Lib.hid (And.intro hI I2.out.2)
      have c3 := W4.out.tcell hdN
      rw [hd] at c3
      have f3 := W4.out.ts.free d
      have hd0 : (0 : Int) ≤ (d : Int) := by omega
      have hd1 : (d : Int) < (N : Int) := by omega
      have R0 := Lib.hid (show Full w p m k g (C + 3) qb C t2 bx bd bp bt K N L (j + 1) (V4.setCell ⟨bt, d, none⟩ (.int .i64 1)) from ⟨q, s2, _, D, P, _, t3, l2, cl2, B, I0.out.2.1, W4.out.putT d 1, X4.out.off W4.out.ts (by decide) _ _, J.out.1, J.out.2⟩)
      clear hI hd I2 W4 X4 J
      go_wp2_with fail
      go_roundw
      case rel => exact ⟨j + 1, by have := HE.out; have := HJ.out; omega, by go_num, R0.out⟩
      case measure => simp [intOf]; omega
    · have hc0 : (cd == 0) = false := by simpa using c0
      have hc1 : (cd == 1) = false := by simpa using c1
      have R0 := Lib.hid (show Full w p m k g (C + 3) qb C t2 bx bd bp bt K N L (j + 1) V4 from ⟨q, s2, _, D, P, T, t3, l2, cl2, B, I0.out.2.1, W4.out, X4.out, hI, I2.out.2⟩)
      clear hI c0 c1 I2 W4 X4
      go_wp2_with fail
      go_roundw
      case rel => exact ⟨j + 1, by have := HE.out; have := HJ.out; omega, by go_num, R0.out⟩
      case measure => simp [intOf]; omega
end Go.Proofs.Ytplifdmfoeejaaa
