/-
  The walk of the statement LockExclusive: it returns true. (Written by wip/gen_l15x.py.)
-/
import Derived.Test.YtclbkmhlgopcaaaLkX
import Derived.Test.YtclbkmhlgopcaaaMgBU
import Derived.Deep.OwnRows
import Derived.Deep.Cut
import Derived.Deep.CutRange
namespace Go.Proofs.Ytclbkmhlgopcaaa
open Go Go.RowKit Go.Shelf
set_option linter.unusedSimpArgs false
set_option linter.unusedVariables false

theorem info_mach : (Try.prog.info? 45).map (fun i => (i.zero, i.size, i.bytes)) = some (some .nilIface, 1, 16) := by kernel_rfl
theorem info_bool : (Try.prog.info? 4).map (fun i => (i.zero, i.size, i.bytes)) = some (some (.bool false), 1, 1) := by kernel_rfl
theorem made_rowA (v : Value) (n : Nat) : madeCells #[v] n = rowA n fun _ => v := by
  rw [← rowA_rep]
  apply Array.ext
  · simp [madeCells]
  · intro i h1 h2
    simp [madeCells, Nat.mod_one]
theorem three_made (w : World) (t1 t2 t3 : TypeId) (c1 c2 c3 : Array Value) : Blk (((w.alloc (.cells c1 t1)).alloc (.cells c2 t2)).alloc (.cells c3 t3)).drew w.heap.size t1 c1 ∧ Blk (((w.alloc (.cells c1 t1)).alloc (.cells c2 t2)).alloc (.cells c3 t3)).drew (w.heap.size + 1) t2 c2 ∧ Blk (((w.alloc (.cells c1 t1)).alloc (.cells c2 t2)).alloc (.cells c3 t3)).drew (w.heap.size + 1 + 1) t3 c3 ∧ Below w.heap.size w (((w.alloc (.cells c1 t1)).alloc (.cells c2 t2)).alloc (.cells c3 t3)).drew := by
  have h1 := ((Blk.made w t1 c1).alloc (.cells c2 t2)).alloc (.cells c3 t3)
  have h2 := (Blk.made (w.alloc (.cells c1 t1)) t2 c2).alloc (.cells c3 t3)
  have h3 := Blk.made ((w.alloc (.cells c1 t1)).alloc (.cells c2 t2)) t3 c3
  rw [show (w.alloc (.cells c1 t1)).heap.size = w.heap.size + 1 by simp] at h2
  rw [show ((w.alloc (.cells c1 t1)).alloc (.cells c2 t2)).heap.size = w.heap.size + 1 + 1 by simp] at h3
  exact ⟨h1, h2, h3, below_drew ((((Below.refl _ _).alloc (Nat.le_refl _) _).alloc (by simp) _).alloc (by simp; omega) _)⟩
/-- What the loop keeps at its head. -/
def LXF (w0 : World) (p m k g cap : Nat) (c : Cfg) (hd : List Value) (rv : Value) (bx bh bl n : Nat) (w : World) : Prop :=
  ∃ (q M : Nat → Nat) (h : Option Nat) (s : St), LXW w0 p m k g cap c hd rv n q M s w ∧ LXR w0 bx bh bl n (fun a => lmv (q a) (M a)) (fun a => decide (h = some a)) (fun a => decide (M a = 3)) w ∧ LXI n M h s
def ExclR (w0 : World) (p m k g cap : Nat) (c : Cfg) (hd : List Value) (rv : Value) (bx bh bl n L : Nat) (i : Value) (w : World) : Prop :=
  ∃ j, j ≤ L ∧ i = .int .i64 j ∧ LXF w0 p m k g cap c hd rv bx bh bl n w
/-- The number of holders among the first j. -/
def heldC (h : Option Nat) (j : Nat) : Nat := match h with
  | none => 0
  | some a => if a < j then 1 else 0

set_option maxRecDepth 100000 in
set_option maxHeartbeats 16000000 in
theorem excl15_law {w : World} {la : Option Addr} {L : Nat} {lz : List Int} (n0 : Int) (lc : Nat) (hn : 0 ≤ n0 ∧ n0 ≤ 255) (hl : InInts w la L lz) :
    Calls Try.prog 3 #[.int .u8 n0, .slice la L lc] w fun e w' => e = .returned (.bool true) ∧ Below w.heap.size w w' := by
  have hml := hl.2.1
  unfold maxLen at hml
  have HLI := Lib.hid hl
  clear hl
  by_cases h400 : 400 < L
  · go_enter Try.func3, Try.ntmps3
    go_wp2
    go_ret
    exact ⟨rfl, Below.refl _ _⟩
  have h401 : decide (400 < (L : Int)) = false := decide_eq_false (by omega)
  obtain ⟨n, hnn, hn2⟩ : ∃ n : Nat, 2 + n0 % 5 = (n : Int) ∧ (2 ≤ n ∧ n ≤ 6) := ⟨(2 + n0 % 5).toNat, by omega, by omega⟩
  have HN := Lib.hid (And.intro hn2 h400)
  go_enter Try.func3, Try.ntmps3
  go_wp2_with fail
  (with_reducible refine (config_any (inB_nil w w.heap.size none) 0).mono ?_)
  rintro e w1 ⟨u, rfl, hcfg, hb1⟩
  obtain ⟨c, hcd⟩ : ∃ c, decC (strm []) = c := ⟨_, rfl⟩
  rw [hcd] at hcfg
  have hck := chk_dec (strm [])
  rw [hcd] at hck
  have HCK := Lib.hid (And.intro hcd hck)
  obtain ⟨pa, pn, pc, sa, sn, sc, rfl, hl⟩ := hcfg.isCfg
  have H1 := Lib.hid hl
  have B1 := Lib.hid hb1
  clear hl hb1 hcd hck hcfg
  go_wp2_with fail
  (with_reducible refine (enew_any H1.out _ _ HCK.out.2).mono ?_)
  rintro e w2 ⟨p, m, k, g, hd, rv, rfl, hE⟩
  have K2 := Lib.hid (nil_LK HCK.out.1)
  have E2 := Lib.hid (show EW w p m k g _ c hd rv (.slice none 0 0) _ w2 from ⟨hE.e, hE.l, hE.i, hE.u, B1.out.trans (hE.b.mono B1.out.size), by have := hE.lo; have := B1.out.size; omega⟩)
  clear hE H1 B1
  generalize (rCells c).toNat = cap at *
  generalize St.new cap = s0 at *
  go_wp2_with fail
  (with_reducible refine (awake15_any _).mono ?_)
  rintro e w3 ⟨rfl, hb⟩
  have E3 := Lib.hid (E2.out.below hb)
  have e20 := E3.out.e.at20
  clear hb E2
  go_upto_region 7 with fail
  clear e20
  have hmkX := fun (W : World) => run_make_row' (P := Try.prog) 41 45 .nilIface 16 Try.underlying41 info_mach rfl .i64 .i64 n (by omega) (by omega) W
  have hmkB := fun (W : World) => run_make_row' (P := Try.prog) 42 4 (.bool false) 1 Try.underlying42 info_bool rfl .i64 .i64 n (by omega) (by omega) W
  go_cut [8, 9, 10] from 46 to 52 (fun v1 v2 v3 wx => ∃ bx bh bl, v1 = .slice (some ⟨bx, 0, none⟩) n n ∧ v2 = .slice (some ⟨bh, 0, none⟩) n n ∧ v3 = .slice (some ⟨bl, 0, none⟩) n n ∧ Blk wx bx 45 (madeCells #[.nilIface] n) ∧ Blk wx bh 4 (madeCells #[.bool false] n) ∧ Blk wx bl 4 (madeCells #[.bool false] n) ∧ w3.heap.size ≤ bx ∧ w3.heap.size ≤ bh ∧ w3.heap.size ≤ bl ∧ bh ≠ bl ∧ Below w3.heap.size w3 wx)
  case first =>
    go_region
    all_goals
      go_wp2_with fail
      go_meet
      case rel =>
        first
        | exact ⟨_, _, _, rfl, rfl, rfl, (three_made w3 45 4 4 (madeCells #[.nilIface] n) (madeCells #[.bool false] n) (madeCells #[.bool false] n)).1, (three_made w3 45 4 4 (madeCells #[.nilIface] n) (madeCells #[.bool false] n) (madeCells #[.bool false] n)).2.1, (three_made w3 45 4 4 (madeCells #[.nilIface] n) (madeCells #[.bool false] n) (madeCells #[.bool false] n)).2.2.1, by omega, by omega, by omega, by omega, (three_made w3 45 4 4 (madeCells #[.nilIface] n) (madeCells #[.bool false] n) (madeCells #[.bool false] n)).2.2.2⟩
        | exact ⟨_, _, _, rfl, rfl, rfl, (three_made w3 45 4 4 (madeCells #[.nilIface] n) (madeCells #[.bool false] n) (madeCells #[.bool false] n)).1, (three_made w3 45 4 4 (madeCells #[.nilIface] n) (madeCells #[.bool false] n) (madeCells #[.bool false] n)).2.2.1, (three_made w3 45 4 4 (madeCells #[.nilIface] n) (madeCells #[.bool false] n) (madeCells #[.bool false] n)).2.1, by omega, by omega, by omega, by omega, (three_made w3 45 4 4 (madeCells #[.nilIface] n) (madeCells #[.bool false] n) (madeCells #[.bool false] n)).2.2.2⟩
        | exact ⟨_, _, _, rfl, rfl, rfl, (three_made w3 4 45 4 (madeCells #[.bool false] n) (madeCells #[.nilIface] n) (madeCells #[.bool false] n)).2.1, (three_made w3 4 45 4 (madeCells #[.bool false] n) (madeCells #[.nilIface] n) (madeCells #[.bool false] n)).1, (three_made w3 4 45 4 (madeCells #[.bool false] n) (madeCells #[.nilIface] n) (madeCells #[.bool false] n)).2.2.1, by omega, by omega, by omega, by omega, (three_made w3 4 45 4 (madeCells #[.bool false] n) (madeCells #[.nilIface] n) (madeCells #[.bool false] n)).2.2.2⟩
        | exact ⟨_, _, _, rfl, rfl, rfl, (three_made w3 4 4 45 (madeCells #[.bool false] n) (madeCells #[.bool false] n) (madeCells #[.nilIface] n)).2.2.1, (three_made w3 4 4 45 (madeCells #[.bool false] n) (madeCells #[.bool false] n) (madeCells #[.nilIface] n)).1, (three_made w3 4 4 45 (madeCells #[.bool false] n) (madeCells #[.bool false] n) (madeCells #[.nilIface] n)).2.1, by omega, by omega, by omega, by omega, (three_made w3 4 4 45 (madeCells #[.bool false] n) (madeCells #[.bool false] n) (madeCells #[.nilIface] n)).2.2.2⟩
        | exact ⟨_, _, _, rfl, rfl, rfl, (three_made w3 4 45 4 (madeCells #[.bool false] n) (madeCells #[.nilIface] n) (madeCells #[.bool false] n)).2.1, (three_made w3 4 45 4 (madeCells #[.bool false] n) (madeCells #[.nilIface] n) (madeCells #[.bool false] n)).2.2.1, (three_made w3 4 45 4 (madeCells #[.bool false] n) (madeCells #[.nilIface] n) (madeCells #[.bool false] n)).1, by omega, by omega, by omega, by omega, (three_made w3 4 45 4 (madeCells #[.bool false] n) (madeCells #[.nilIface] n) (madeCells #[.bool false] n)).2.2.2⟩
        | exact ⟨_, _, _, rfl, rfl, rfl, (three_made w3 4 4 45 (madeCells #[.bool false] n) (madeCells #[.bool false] n) (madeCells #[.nilIface] n)).2.2.1, (three_made w3 4 4 45 (madeCells #[.bool false] n) (madeCells #[.bool false] n) (madeCells #[.nilIface] n)).2.1, (three_made w3 4 4 45 (madeCells #[.bool false] n) (madeCells #[.bool false] n) (madeCells #[.nilIface] n)).1, by omega, by omega, by omega, by omega, (three_made w3 4 4 45 (madeCells #[.bool false] n) (madeCells #[.bool false] n) (madeCells #[.nilIface] n)).2.2.2⟩
  case rest =>
  obtain ⟨bx, bh, bl, rfl, rfl, rfl, hx, hh, hl, lx, lh, ll, hne, hb⟩ := hcut
  clear hmkX hmkB
  have F0 := Lib.hid (show LXF w p m k g cap c hd rv bx bh bl n wc from by
    have hs := E3.out.b.size
    rw [made_rowA] at hx hh hl
    exact ⟨fun _ => 0, fun _ => 0, none, s0, ⟨E3.out.below hb, fun a _ => trivial, fun a b _ _ _ h1 => absurd rfl h1, fun a _ h1 => absurd rfl h1⟩, ⟨hx, hh, hl, ⟨by omega, by omega, by omega⟩, hne⟩, ⟨K2.out, fun a _ e => by simp at e, fun a _ e => by simp at e, fun a e => by simp at e, fun a _ => by simp⟩⟩)
  clear hx hh hl lx lh ll hne hb E3 K2
  go_wp2_with fail
  go_loopw [11] (fun i wr => ExclR w p m k g cap c hd rv bx bh bl n L i wr) (fun i _ => L - (intOf i).toNat)
  case atStart => exact ⟨0, by omega, rfl, F0.out⟩
  case round =>
    clear F0
    obtain ⟨j, hj, rfl, hF⟩ := hrel
    have F := Lib.hid hF
    clear hF
    by_cases hlt : j < L
    case neg =>
      obtain rfl : j = L := by omega
      go_wp2
      go_ret
      obtain ⟨q, M, h, s, hW, _⟩ := F.out
      exact ⟨rfl, hW.e.b⟩
    obtain ⟨q, M, h, s, hW, hR, hI⟩ := F.out
    have W0 := Lib.hid hW
    have R0 := Lib.hid hR
    have I0 := Lib.hid hI
    obtain ⟨x0, rfl, hx0, hc0⟩ := (HLI.out.below hW.e.b).2.2 j hlt
    generalize lz.getD j 0 = z at *
    clear F hW hR hI hx0
    have hlt2 : (j : Int) < (L : Int) := by omega
    have hj0 : (0 : Int) ≤ (j : Int) := by omega
    have HJ := Lib.hid (And.intro hlt (show j ≤ 400 by omega))
    go_wp2_with fail
    (with_reducible refine (rdraw_any z n (by omega) _).mono ?_)
    rintro e w7 ⟨rfl, rfl⟩
    have hdr := drw_in z n (by omega)
    obtain ⟨a, ha⟩ : ∃ a : Nat, drw z n = (a : Int) := ⟨(drw z n).toNat, by omega⟩
    rw [ha] at hdr ⊢
    have HA := Lib.hid (show a < n by omega)
    have ha0 : (0 : Int) ≤ (a : Int) := by omega
    have ha1 : (a : Int) < (n : Int) := by omega
    clear ha hc0
    obtain ⟨V0, hV0⟩ : ∃ V, lmv (q a) (M a) = V := ⟨_, rfl⟩
    obtain ⟨bn, hbn, heq, hgu⟩ := eql_lm hV0
    have cx := rowA_at R0.out.x HA.out
    simp only [hV0] at cx
    have HV := Lib.hid (And.intro hV0 hbn)
    have hq0 := heq wr
    have hq1 := hgu wr
    clear hV0 hbn heq hgu
    go_upto_if 68 with fail
    clear hq0 hq1
    go_cut [] from 52 to 165 (fun wx => ∃ (q M : Nat → Nat) (h : Option Nat) (s : St), LXW w p m k g cap c hd rv n q M s wx ∧ LXR w bx bh bl n (fun a => lmv (q a) (M a)) (fun a => decide (h = some a)) (fun a => decide (M a = 3)) wx ∧ LXI n M h s ∧ M a ≠ 0)
    case first =>
      as_aux_lemma =>
        cases bn with
        | false =>
          go_wp2_with fail
          go_meet
          case rel => exact ⟨q, M, h, s, W0.out, R0.out, I0.out, fun e => by have := HV.out.2.2 e; cases this⟩
        | true =>
          have HNO := Lib.hid (HV.out.2.1 rfl)
          have c1 := rowA_at R0.out.h HA.out
          have hnew : ∀ x, wr.heap.size ≤ x → ∀ b, b < n → M b ≠ 0 → q b ≠ x := fun x hx b hbn hn => by
            have := (W0.out.mo b hbn).lt hn
            omega
          have HNEW := Lib.hid hnew
          have HSZ := Lib.hid W0.out.e.b.size
          clear hnew cx
          by_cases hh : h = some a
          · have hd1 : decide (h = some a) = true := by simpa using hh
            simp only [hd1] at c1
            have HH := Lib.hid hh
            clear hh hd1
            go_wp2_with fail
            (with_reducible refine (releaser_new _).mono ?_)
            rintro e w8 ⟨x, rfl, hv, hx, hb⟩
            have W8 := Lib.hid ((W0.out.below hb).more (K := 3) HA.out hv (HNEW.out x hx) (Nat.le_trans HSZ.out hx))
            have R8 := Lib.hid (R0.out.below hb)
            have c2 := rowA_at R8.out.x HA.out
            have c3 := rowA_at R8.out.l HA.out
            have f2 := R8.out.x.free a
            have f3 := R8.out.l.free a
            have R8b := R8.out.putX HA.out (lmv x 3)
            have c3b : (w8.setCell ⟨bx, a, none⟩ (.iface 66 (.pointer (some ⟨x, 0, none⟩)))).cell? ⟨bl, a, none⟩ = some (.bool (decide (M a = 3))) := rowA_at R8b.l HA.out
            have f3b : (w8.setCell ⟨bx, a, none⟩ (.iface 66 (.pointer (some ⟨x, 0, none⟩)))).frozen? ⟨bl, a, none⟩ = false := R8b.l.free a
            clear hv hb hx W0 R0 c1 R8b c3 f3
            go_wp2_with fail
            have R9 := Lib.hid ((R8.out.putX HA.out (lmv x 3)).putL HA.out true)
            have hf1 : Fr [bx] w8 (w8.setCell ⟨bx, a, none⟩ (lmv x 3)) := (Fr.refl _ _).setCell (by simp) _
            have hl1 := (R8.out.putX HA.out (lmv x 3)).l
            have hf2 : Fr [bl] (w8.setCell ⟨bx, a, none⟩ (lmv x 3)) ((w8.setCell ⟨bx, a, none⟩ (lmv x 3)).setCell ⟨bl, a, none⟩ (.bool true)) := (Fr.refl _ _).setCell (by simp) _
            have W9 := Lib.hid ((W8.out.off R8.out.x R8.out.lo.1 (.inl rfl) hf1).off hl1 R8.out.lo.2.2 (.inr rfl) hf2)
            clear hf1 hl1 hf2 W8 R8 c2 c3b f2 f3b
            go_meet
            case rel =>
              refine ⟨_, _, h, s, W9.out, R9.out.congr (fun b hb => ?_) (fun b hb => rfl) (fun b hb => ?_), I0.out.begin HA.out (.inr (.inr rfl)) ⟨fun _ => HH.out, fun _ => rfl⟩, by simp⟩
              · by_cases e : b = a <;> simp [e]
              · by_cases e : b = a <;> simp [e]
          · have hd1 : decide (h = some a) = false := by simpa using hh
            simp only [hd1] at c1
            have HH := Lib.hid hh
            clear hh hd1
            by_cases hev : a % 2 = 0
            · have he1 : ((a : Int).tmod 2 == 0) = true := by
                rw [Int.tmod_eq_emod_of_nonneg ha0]
                simp; omega
              have he2 : ((a : Int) % 2 == 0) = true := by simp; omega
              have he3 : (((a % 2 : Nat) : Int) == 0) = true := by simp; omega
              have he4 :  (a : Int) % 2 = 0 := by omega
              clear hev
              go_upto_if 86 with fail
              go_wp2_with fail
              (with_reducible refine (acquirer_new (a : Int) _).mono ?_)
              rintro e w8 ⟨x, rfl, hv, hx, hb⟩
              have W8 := Lib.hid ((W0.out.below hb).more (K := 1) HA.out hv (HNEW.out x hx) (Nat.le_trans HSZ.out hx))
              have R8 := Lib.hid (R0.out.below hb)
              have c2 := rowA_at R8.out.x HA.out
              have f2 := R8.out.x.free a
              clear hv hb hx W0 R0 c1
              go_wp2_with fail
              have R9 := Lib.hid (R8.out.putX HA.out (lmv x 1))
              have hf1 : Fr [bx] w8 (w8.setCell ⟨bx, a, none⟩ (lmv x 1)) := (Fr.refl _ _).setCell (by simp) _
              have W9 := Lib.hid (W8.out.off R8.out.x R8.out.lo.1 (.inl rfl) hf1)
              clear hf1 W8 R8 c2 f2
              go_meet
              case rel =>
                refine ⟨_, _, h, s, W9.out, R9.out.congr (fun b hb => ?_) (fun b hb => rfl) (fun b hb => ?_), I0.out.begin HA.out (.inl rfl) ⟨fun e => (by cases e), fun e => absurd e HH.out⟩, by simp⟩
                · by_cases e : b = a <;> simp [e]
                · by_cases e : b = a
                  · simp [e, HNO.out]
                  · simp [e]
            · have he1 : ((a : Int).tmod 2 == 0) = false := by
                rw [Int.tmod_eq_emod_of_nonneg ha0]
                simp; omega
              have he2 : ((a : Int) % 2 == 0) = false := by simp; omega
              have he3 : (((a % 2 : Nat) : Int) == 0) = false := by simp; omega
              have he4 : ¬ (a : Int) % 2 = 0 := by omega
              clear hev
              go_upto_if 86 with fail
              go_wp2_with fail
              (with_reducible refine (trier_new (a : Int) _).mono ?_)
              rintro e w8 ⟨x, rfl, hv, hx, hb⟩
              have W8 := Lib.hid ((W0.out.below hb).more (K := 2) HA.out hv (HNEW.out x hx) (Nat.le_trans HSZ.out hx))
              have R8 := Lib.hid (R0.out.below hb)
              have c2 := rowA_at R8.out.x HA.out
              have f2 := R8.out.x.free a
              clear hv hb hx W0 R0 c1
              go_wp2_with fail
              have R9 := Lib.hid (R8.out.putX HA.out (lmv x 2))
              have hf1 : Fr [bx] w8 (w8.setCell ⟨bx, a, none⟩ (lmv x 2)) := (Fr.refl _ _).setCell (by simp) _
              have W9 := Lib.hid (W8.out.off R8.out.x R8.out.lo.1 (.inl rfl) hf1)
              clear hf1 W8 R8 c2 f2
              go_meet
              case rel =>
                refine ⟨_, _, h, s, W9.out, R9.out.congr (fun b hb => ?_) (fun b hb => rfl) (fun b hb => ?_), I0.out.begin HA.out (.inr (.inl rfl)) ⟨fun e => (by cases e), fun e => absurd e HH.out⟩, by simp⟩
                · by_cases e : b = a <;> simp [e]
                · by_cases e : b = a
                  · simp [e, HNO.out]
                  · simp [e]
    case rest =>
    clear W0 R0 I0 HV cx
    obtain ⟨q, M, h, s, hW, hR, hI, hne⟩ := hcut
    have W0 := Lib.hid hW
    have R0 := Lib.hid hR
    have I0 := Lib.hid hI
    have HNE := Lib.hid hne
    have cx := rowA_at hR.x HA.out
    obtain ⟨ty0, hty0⟩ := lmv_live (q a) hne
    simp only [hty0] at cx
    clear hty0 hne hW hR hI
    go_upto_region 20 with fail
    clear cx
    go_cut [105] from 52 to 165 (fun v wx => ∃ bv : Bool, v = .bool bv ∧ (bv = false → LXF w p m k g cap c hd rv bx bh bl n wx) ∧ (bv = true → ∃ (h2 : Option Nat) (s2 : St) (cd : Int) (ty : TypeId) (post : List Value) (f2 : Fra), LB wx (q a) ty post { f2 with ln := 0 } cd 0 ∧ LXW w p m k g cap c hd rv n q (fun b => if b = a then 0 else M b) s2 wx ∧ LXR w bx bh bl n (fun a => lmv (q a) (M a)) (fun a => decide (h = some a)) (fun a => decide (M a = 3)) wx ∧ LXI n (fun b => if b = a then 0 else M b) h2 s2 ∧ LXD M h h2 a cd))
    case first =>
      as_aux_lemma =>
        have ht := I0.out.t a HA.out
        have cx := rowA_at R0.out.x HA.out
        have hmo := W0.out.mo a HA.out
        obtain hM | hM | hM : M a = 1 ∨ M a = 2 ∨ M a = 3 := by have := HNE.out; omega
        · simp only [hM] at cx hmo
          have HM := Lib.hid hM
          have HMO := Lib.hid hmo
          have CX := Lib.hid cx
          have km := meth_step_acquirer (q a)
          have ka := ahead_step_acquirer (q a)
          have cx0 : wc.cell? ⟨bx, a, none⟩ = some (.iface 72 (.pointer (some ⟨q a, 0, none⟩))) := CX.out
          clear hM hmo cx ht
          cases hh : h with
          | none =>
            subst hh
            have HS := Lib.hid (acquirer_hit (f := fra1 7 0 0 0 0 a) W0.out.e.e W0.out.e.l HMO.out rfl ((show LK s 0 from I0.out.k).got a).1)
            go_wp2_with fail
            (with_reducible refine HS.out.mono ?_)
            rintro e w8 ⟨rfl, hp, hb, hf⟩
            clear HS
            have J := Lib.hid (I0.out.get HA.out (by have := HN.out; omega) (.inl HM.out))
            have W8 := Lib.hid (W0.out.step (K := 0) HA.out HNE.out hp hf J.out.1.k.u trivial)
            have R8 := Lib.hid (R0.out.step W0.out HA.out HNE.out hf)
            have V8 := Lib.hid hb
            clear hp hb hf W0 R0
            go_wp2_with fail
            go_meet
            case rel => exact ⟨true, rfl, fun e => (by cases e), fun _ => ⟨some a, _, 1, _, _, fra1 7 0 0 0 0 a, V8.out, W8.out, R8.out, J.out.1, J.out.2⟩⟩
          | some d =>
            have HD := Lib.hid hh
            have J := Lib.hid (I0.out.miss HA.out (.inl HM.out) (K := 1) (by rw [hh]; simp) (.inl HM.out.symm))
            have HS := Lib.hid (acquirer_miss (f := fra1 7 0 0 0 0 a) W0.out.e.e W0.out.e.l HMO.out rfl J.out.1)
            go_wp2_with fail
            (with_reducible refine HS.out.mono ?_)
            rintro e w8 ⟨rfl, hp, hb, hf⟩
            clear HS
            have W8 := Lib.hid (W0.out.step (K := 1) HA.out HNE.out hp hf J.out.2.1.k.u hb)
            have R8 := Lib.hid (R0.out.step W0.out HA.out HNE.out hf)
            clear hp hb hf W0 R0
            go_wp2_with fail
            go_meet
            case rel =>
              refine ⟨false, rfl, fun _ => ⟨q, _, h, _, W8.out, R8.out.congr (fun b hb => ?_) (fun b hb => rfl) (fun b hb => ?_), J.out.2.1⟩, fun e => (by cases e)⟩
              · by_cases e : b = a
                · simp [e, HM.out]
                · simp [e]
              · by_cases e : b = a
                · simp [e, HM.out]
                · simp [e]
        · simp only [hM] at cx hmo
          have HM := Lib.hid hM
          have HMO := Lib.hid hmo
          have CX := Lib.hid cx
          have km := meth_step_trier (q a)
          have ka := ahead_step_trier (q a)
          have cx0 : wc.cell? ⟨bx, a, none⟩ = some (.iface 77 (.pointer (some ⟨q a, 0, none⟩))) := CX.out
          clear hM hmo cx ht
          cases hh : h with
          | none =>
            subst hh
            have HS := Lib.hid (trier_hit (f := fra1 8 0 0 0 0 a) W0.out.e.e W0.out.e.l HMO.out rfl ((show LK s 0 from I0.out.k).got a).1)
            go_wp2_with fail
            (with_reducible refine HS.out.mono ?_)
            rintro e w8 ⟨rfl, hp, hb, hf⟩
            clear HS
            have J := Lib.hid (I0.out.get HA.out (by have := HN.out; omega) (.inr HM.out))
            have W8 := Lib.hid (W0.out.step (K := 0) HA.out HNE.out hp hf J.out.1.k.u trivial)
            have R8 := Lib.hid (R0.out.step W0.out HA.out HNE.out hf)
            have V8 := Lib.hid hb
            clear hp hb hf W0 R0
            go_wp2_with fail
            go_meet
            case rel => exact ⟨true, rfl, fun e => (by cases e), fun _ => ⟨some a, _, 1, _, _, fra1 8 0 0 0 0 a, V8.out, W8.out, R8.out, J.out.1, J.out.2⟩⟩
          | some d =>
            have HD := Lib.hid hh
            have J := Lib.hid (I0.out.miss HA.out (.inr HM.out) (K := 0) (by rw [hh]; simp) (.inr rfl))
            have HS := Lib.hid (trier_miss (f := fra1 8 0 0 0 0 a) W0.out.e.e W0.out.e.l HMO.out rfl J.out.1)
            go_wp2_with fail
            (with_reducible refine HS.out.mono ?_)
            rintro e w8 ⟨rfl, hp, hb, hf⟩
            clear HS
            have W8 := Lib.hid (W0.out.step (K := 0) HA.out HNE.out hp hf J.out.2.1.k.u trivial)
            have R8 := Lib.hid (R0.out.step W0.out HA.out HNE.out hf)
            have V8 := Lib.hid hb
            clear hp hb hf W0 R0
            go_wp2_with fail
            go_meet
            case rel => exact ⟨true, rfl, fun e => (by cases e), fun _ => ⟨h, _, 5, _, _, fra1 8 0 0 0 0 a, V8.out, W8.out, R8.out, J.out.2.1, J.out.2.2⟩⟩
        · simp only [hM] at cx hmo
          have HM := Lib.hid hM
          have HMO := Lib.hid hmo
          have CX := Lib.hid cx
          have km := meth_step_releaser (q a)
          have ka := ahead_step_releaser (q a)
          have cx0 : wc.cell? ⟨bx, a, none⟩ = some (.iface 66 (.pointer (some ⟨q a, 0, none⟩))) := CX.out
          clear hM hmo cx ht
          have HS := Lib.hid (releaser_any (f := fra1 9 0 0 0 0 0) W0.out.e.e W0.out.e.l HMO.out rfl)
          go_wp2_with fail
          (with_reducible refine HS.out.mono ?_)
          rintro e w8 ⟨rfl, hp, hb, hf⟩
          clear HS
          have J := Lib.hid (I0.out.rel HA.out HM.out (fra1 9 0 0 0 0 0))
          have W8 := Lib.hid (W0.out.step (K := 0) HA.out HNE.out hp hf J.out.1.k.u trivial)
          have R8 := Lib.hid (R0.out.step W0.out HA.out HNE.out hf)
          have V8 := Lib.hid hb
          clear hp hb hf W0 R0
          go_wp2_with fail
          go_meet
          case rel => exact ⟨true, rfl, fun e => (by cases e), fun _ => ⟨none, _, 0, _, _, fra1 9 0 0 0 0 0, V8.out, W8.out, R8.out, J.out.1, J.out.2⟩⟩
    case rest =>
    obtain ⟨bv, rfl, hno, hyes⟩ := hcut
    have HNY := Lib.hid (And.intro hno hyes)
    clear hno hyes W0 R0 I0
    go_upto_if 105 with fail
    go_cut [] from 52 to 165 (fun wx => LXF w p m k g cap c hd rv bx bh bl n wx)
    case first =>
      as_aux_lemma =>
        cases bv with
        | false =>
          have FF := Lib.hid (HNY.out.1 rfl)
          clear HNY
          go_wp2_with fail
          go_meet
          case rel => exact FF.out
        | true =>
          obtain ⟨h2, s2, cd, ty, post, f2, hb, hW, hR, hI, hD⟩ := HNY.out.2 rfl
          have V1 := Lib.hid hb
          have W1 := Lib.hid hW
          have R1 := Lib.hid hR
          have I1 := Lib.hid (And.intro hI hD)
          clear hb hW hR hI hD HNY
          go_upto_region 21 with fail
          go_cut [13] from 52 to 165 (fun v wx => v = .int .i64 cd ∧ ∃ nd, wx = wc.drewN nd)
          case first =>
            as_aux_lemma =>
              have cx := rowA_at R1.out.x HA.out
              generalize q a = qa at *
              generalize hMa : M a = Ma at *
              rcases Ma with _ | _ | _ | Ma
              · exact absurd rfl HNE.out
              · have cx0 : wc.cell? ⟨bx, a, none⟩ = some (.iface 72 (.pointer (some ⟨qa, 0, none⟩))) := cx
                have kr := meth_result_acquirer qa
                have ks := ahead_result_acquirer qa
                clear cx hMa W1 R1 I1 HNE
                go_wp2_with fail
                (with_reducible refine (lresult_any V1.out).mono ?_)
                rintro e w2 ⟨rfl, nd, rfl⟩
                go_wp2_with fail
                go_meet
                case rel => exact ⟨rfl, nd, rfl⟩
              · have cx0 : wc.cell? ⟨bx, a, none⟩ = some (.iface 77 (.pointer (some ⟨qa, 0, none⟩))) := cx
                have kr := meth_result_trier qa
                have ks := ahead_result_trier qa
                clear cx hMa W1 R1 I1 HNE
                go_wp2_with fail
                (with_reducible refine (lresult_any V1.out).mono ?_)
                rintro e w2 ⟨rfl, nd, rfl⟩
                go_wp2_with fail
                go_meet
                case rel => exact ⟨rfl, nd, rfl⟩
              · have cx0 : wc.cell? ⟨bx, a, none⟩ = some (.iface 66 (.pointer (some ⟨qa, 0, none⟩))) := cx
                have kr := meth_result_releaser qa
                have ks := ahead_result_releaser qa
                clear cx hMa W1 R1 I1 HNE
                go_wp2_with fail
                (with_reducible refine (lresult_any V1.out).mono ?_)
                rintro e w2 ⟨rfl, nd, rfl⟩
                go_wp2_with fail
                go_meet
                case rel => exact ⟨rfl, nd, rfl⟩
          case rest =>
          obtain ⟨rfl, nd, rfl⟩ := hcut
          have W2 := Lib.hid (W1.out.below (below_drewN _ nd))
          have R2 := Lib.hid (R1.out.below (below_drewN _ nd))
          clear W1 R1 V1
          have c1 := rowA_at R2.out.h HA.out
          have c2 := rowA_at R2.out.l HA.out
          have f1 := R2.out.h.free a
          obtain ⟨vb, hvb⟩ : ∃ vb : Bool, (!(decide (M a = 3)) && cd == 1) = vb := ⟨_, rfl⟩
          have HVB := Lib.hid hvb
          generalize wc.drewN nd = V at *
          go_upto_region 22 with fail
          go_cut [] from 52 to 165 (fun wx => wx = V.setCell ⟨bh, a, none⟩ (.bool vb))
          case first =>
            as_aux_lemma =>
              cases h3 : decide (M a = 3) with
              | true =>
                rw [h3] at c2 hvb
                have e : vb = false := by rw [← hvb]; rfl
                subst e
                clear hvb
                go_wp2_with fail
                go_meet
                case rel => rfl
              | false =>
                rw [h3] at c2 hvb
                have e : (cd == 1) = vb := by rw [← hvb]; rfl
                clear hvb
                go_wp2_with fail
                go_meet
                case rel => rfl
          case rest =>
          subst hcut
          have R3 := Lib.hid (R2.out.putH HA.out vb)
          have W3 := Lib.hid (W2.out.off R2.out.h R2.out.lo.2.1 (.inr rfl) ((Fr.refl [bh] V).setCell (p := ⟨bh, a, none⟩) (by simp) (.bool vb)))
          clear W2 R2 c1 c2 f1 hvb
          generalize V.setCell ⟨bh, a, none⟩ (.bool vb) = V3 at *
          have c1 := rowA_at R3.out.x HA.out
          have c2 := rowA_at R3.out.l HA.out
          have f1 := R3.out.x.free a
          have R3b := R3.out.putX HA.out .nilIface
          have c2b : (V3.setCell ⟨bx, a, none⟩ .nilIface).cell? ⟨bl, a, none⟩ = some (.bool (decide (M a = 3))) := rowA_at R3b.l HA.out
          have f2b : (V3.setCell ⟨bx, a, none⟩ .nilIface).frozen? ⟨bl, a, none⟩ = false := R3b.l.free a
          clear c2 R3b
          go_wp2_with fail
          have R4 := Lib.hid ((R3.out.putX HA.out .nilIface).putL HA.out false)
          have hf1 : Fr [bx] V3 (V3.setCell ⟨bx, a, none⟩ .nilIface) := (Fr.refl _ _).setCell (by simp) _
          have hl1 := (R3.out.putX HA.out .nilIface).l
          have hf2 : Fr [bl] (V3.setCell ⟨bx, a, none⟩ .nilIface) ((V3.setCell ⟨bx, a, none⟩ .nilIface).setCell ⟨bl, a, none⟩ (.bool false)) := (Fr.refl _ _).setCell (by simp) _
          have W4 := Lib.hid ((W3.out.off R3.out.x R3.out.lo.1 (.inl rfl) hf1).off hl1 R3.out.lo.2.2 (.inr rfl) hf2)
          clear hf1 hl1 hf2 W3 R3 c1 c2b f1 f2b
          go_meet
          case rel =>
            refine ⟨q, _, h2, s2, W4.out, R4.out.congr (fun b hb => ?_) (fun b hb => ?_) (fun b hb => ?_), I1.out.1⟩
            · by_cases e : b = a
              · simp [e, lmv]
              · simp [e]
            · rw [I1.out.2 b, HVB.out]
            · by_cases e : b = a
              · simp [e]
              · simp [e]
    case rest =>
    obtain ⟨q, M, h, s, hW, hR, hI⟩ := hcut
    have W0 := Lib.hid hW
    have R0 := Lib.hid hR
    have I0 := Lib.hid hI
    have e20 := hW.e.e.at20
    clear hW hR hI HNE
    go_wp2_with fail
    go_loopw [16, 15] (fun i v wr2 => ∃ j2 : Nat, j2 ≤ n ∧ i = .int .i64 j2 ∧ v = .int .i64 (heldC h j2 : Nat) ∧ wr2 = wc) (fun i _ _ => n - (intOf i).toNat)
    case atStart => exact ⟨0, by omega, rfl, by cases h <;> rfl, rfl⟩
    case round =>
      obtain ⟨j2, hj2, rfl, rfl, rfl⟩ := hrel
      by_cases hlt3 : j2 < n
      · have c1 := rowA_at R0.out.h hlt3
        have hj3 : (j2 : Int) < (n : Int) := by omega
        have hj4 : (0 : Int) ≤ (j2 : Int) := by omega
        have HJ2 := Lib.hid (And.intro hlt3 (show j2 ≤ 6 by have := HN.out; omega))
        by_cases hh : h = some j2
        · have hd1 : decide (h = some j2) = true := by simpa using hh
          simp only [hd1] at c1
          have e0 : heldC h j2 = 0 := by rw [hh]; simp [heldC]
          have HE1 := Lib.hid (show heldC h (j2 + 1) = 1 by rw [hh]; simp [heldC])
          have HO := Lib.hid (show s.old 1 = (j2 : Int) + 1 by rw [I0.out.k.o, hh]; rfl)
          rw [e0]
          clear hh hd1 e0
          go_wp2_with fail
          (with_reducible refine (peek_any W0.out.e.e.mem _).mono ?_)
          rintro e w8 ⟨rfl, rfl⟩
          rw [HO.out]
          go_wp2_with fail
          go_roundw
          case rel => exact ⟨j2 + 1, by have := HJ2.out; omega, by go_num, by rw [HE1.out]; rfl, trivial⟩
          case measure => simp [intOf]; omega
        · have hd1 : decide (h = some j2) = false := by simpa using hh
          simp only [hd1] at c1
          have HE1 := Lib.hid (show heldC h (j2 + 1) = heldC h j2 by
            cases h with
            | none => rfl
            | some d =>
              have : d ≠ j2 := fun e => hh (by rw [e])
              show (if d < j2 + 1 then 1 else 0) = if d < j2 then 1 else 0
              by_cases hd : d < j2
              · rw [if_pos hd, if_pos (by omega)]
              · rw [if_neg hd, if_neg (by omega)])
          clear hh hd1
          generalize hgc : heldC h j2 = hc at *
          go_wp2_with fail
          go_roundw
          case rel => exact ⟨j2 + 1, by have := HJ2.out; omega, by go_num, by rw [HE1.out], trivial⟩
          case measure => simp [intOf]; omega
      · obtain rfl : j2 = n := by omega
        cases hh : h with
        | none =>
          have HO := Lib.hid (show s.old 1 = 0 by rw [I0.out.k.o, hh]; rfl)
          have e0 : heldC none j2 = 0 := rfl
          rw [e0]
          go_wp2_with fail
          (with_reducible refine (peek_any W0.out.e.e.mem _).mono ?_)
          rintro e w8 ⟨rfl, rfl⟩
          rw [HO.out]
          go_wp2_with fail
          go_roundw
          case rel => exact ⟨j + 1, by have := HJ.out; omega, by go_num, q, M, h, s, W0.out, R0.out, I0.out⟩
          case measure => simp [intOf]; omega
        | some d =>
          have e0 : heldC (some d) j2 = 1 := by simp [heldC, I0.out.l d hh]
          rw [e0]
          go_wp2_with fail
          go_roundw
          case rel => exact ⟨j + 1, by have := HJ.out; omega, by go_num, q, M, h, s, W0.out, R0.out, I0.out⟩
          case measure => simp [intOf]; omega
end Go.Proofs.Ytclbkmhlgopcaaa
