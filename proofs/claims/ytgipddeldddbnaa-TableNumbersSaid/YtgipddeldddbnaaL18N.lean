/-
  The walk of the statement TableNumbers: it returns true.
-/
import Derived.Test.YtgipddeldddbnaaAw18
namespace Go.Proofs.Ytgipddeldddbnaa
open Go Go.RowKit Go.Shelf
set_option linter.unusedSimpArgs false
set_option linter.unusedVariables false

/-- The configuration of no bytes with so many tasks. -/
def tasC (n : Nat) : Cfg := { decC (strm []) with ta := n }
theorem tas_ok : ∀ n : Fin 256, chk (tasC (n.val + 1)) = 0 := by decide +kernel
/-- The counter contains i. -/
structure NX (s : St) (i : Nat) : Prop where
  h : s.has 0
  o : s.old 0 = (i : Int)
theorem NX.next {c : Cfg} {s : St} {i : Nat} (h : NX s i) (hi : i ≤ 1000) : NX (alcS c s).1 (i + 1) := by
  refine ⟨(go_has ..).2 h.h, ?_⟩
  show (s.go 6 0 (fun x => IntKind.u64.wrap (x + 1))).old 0 = _
  rw [go_old _ _ _ _ h.h, h.o, IntKind.wrap_u64]
  omega
theorem NX.got {c : Cfg} {s : St} {i n : Nat} (h : NX s i) (hi : i ≤ 1000) (hc : c.ta = n) : (i < n → (alcS c s).2 = ⟨true, 1, i⟩) ∧ (¬ i < n → (alcS c s).2 = ⟨true, 3, 0⟩) := by
  have e : wrap64 (s.old 0) = (i : Int) := by rw [h.o]; unfold wrap64; omega
  unfold alcS
  rw [e]
  refine ⟨fun hl => ?_, fun hl => ?_⟩
  · show (if isT c i = true then (⟨true, 1, (i : Int)⟩ : Res) else ⟨true, 3, 0⟩) = _
    rw [if_pos (isT_iff.2 ⟨by omega, by omega⟩)]
  · show (if isT c i = true then (⟨true, 1, (i : Int)⟩ : Res) else ⟨true, 3, 0⟩) = _
    rw [if_neg (fun hh => by have := isT_iff.1 hh; omega)]
/-- What the loop keeps. -/
def NumR18 (w0 : World) (p m k g cap : Nat) (c : Cfg) (hd : List Value) (rv : Value) (v : Value) (wr : World) : Prop :=
  ∃ (i N : Nat) (x : St × List Rec × List Ev), v = .int .i64 i ∧ i ≤ 276 ∧ ER w0 p m k g cap c hd rv N x wr ∧ NX x.1 i

set_option maxRecDepth 100000 in
set_option maxHeartbeats 16000000 in
theorem numbers18_law (W : World) (T A : Int) (hT : 0 ≤ T ∧ T ≤ 255) (hA : 0 ≤ A ∧ A ≤ 255) :
    Calls Try.prog 3 #[.int .u8 T, .int .u8 A] W fun e w' => e = .returned (.bool true) ∧ Below W.heap.size W w' := by
  obtain ⟨t, rfl⟩ : ∃ t : Nat, T = t := ⟨T.toNat, by omega⟩
  obtain ⟨a, rfl⟩ : ∃ a : Nat, A = a := ⟨A.toNat, by omega⟩
  have HTA := Lib.hid (And.intro hT hA)
  have ht1 : wrap64 (1 + (t : Int)) = 1 + (t : Int) := by unfold wrap64; omega
  have ht2 : IntKind.i64.wrap (t : Int) = (t : Int) := IntWalk.i64_in _ (by omega)
  have ha1 : wrap64 ((a : Int) + 20) = (a : Int) + 20 := by unfold wrap64; omega
  have ha2 : IntKind.i64.wrap (a : Int) = (a : Int) := IntWalk.i64_in _ (by omega)
  clear hT hA
  go_enter Try.func3, Try.ntmps3
  go_wp2_with fail
  (with_reducible refine (config_any (inB_nil W W.heap.size none) 0).mono ?_)
  rintro e w1 ⟨u, rfl, hcfg, hb1⟩
  obtain ⟨d, hcd⟩ : ∃ c, decC (strm []) = c := ⟨_, rfl⟩
  rw [hcd] at hcfg
  obtain ⟨pa, pn, pc, sa, sn, sc, rfl, hl⟩ := hcfg.isCfg
  have HL := Lib.hid hl
  have B1 := Lib.hid hb1
  have HCD := Lib.hid hcd
  clear hcfg hl hb1 hcd
  go_upto_region 2 with fail
  have X2 := Blk.made w1 25 (cc d pa pn pc sa sn sc)
  have L2 := Lib.hid (below_one w1 (.cells (cc d pa pn pc sa sn sc) 25))
  generalize w1.alloc (.cells (cc d pa pn pc sa sn sc) 25) = w2 at *
  generalize hz : w1.heap.size = z at *
  have HZ := Lib.hid hz
  clear hz
  have c3 : w2.cell? ⟨z, 3, none⟩ = some (.int .i64 d.ta) := X2.at_ 3
  have k3 := X2.free 3
  have hX3 := X2.put 3 (.int .i64 (1 + (t : Int)))
  simp only [List.setIfInBounds_toArray, List.set_cons_zero, List.set_cons_succ] at hX3
  have hf3 : Fr [z] w2 (w2.setCell ⟨z, 3, none⟩ (.int .i64 (1 + (t : Int)))) := (Fr.refl _ _).setCell (by simp) _
  have X3 := Lib.hid (show Blk (w2.setCell ⟨z, 3, none⟩ (.int .i64 (1 + (t : Int)))) z 25 (cc { d with ta := ((1 + t : Nat) : Int) } pa pn pc sa sn sc) from by
    have e : ((1 + t : Nat) : Int) = 1 + (t : Int) := by omega
    rw [e]
    exact hX3)
  have HF3 := Lib.hid hf3
  clear X2 hX3 hf3
  go_upto_region 3 with fail
  clear c3 k3 ht1 ht2
  generalize w2.setCell ⟨z, 3, none⟩ (.int .i64 (1 + (t : Int))) = w3 at *
  have hb3z : Below z w1 w3 := L2.out.trans (HF3.out.below (by have := L2.out.size; have := HZ.out; omega) (fun y hy => by simp at hy; omega))
  have hb3 : Below w1.heap.size w1 w3 := by rw [HZ.out]; exact hb3z
  have H3 := Lib.hid (show Lists w3 0 { d with ta := ((1 + t : Nat) : Int) } pa pn sa sn from by
    have := HL.out.below hb3
    exact ⟨this.pr.mono (Nat.zero_le _), this.su.mono (Nat.zero_le _)⟩)
  have B3 := Lib.hid (show Below W.heap.size W w3 from B1.out.trans (hb3.mono B1.out.size))
  have HCK := Lib.hid (show chk ({ d with ta := ((1 + t : Nat) : Int) } : Cfg) = 0 from by
    have := tas_ok ⟨t, by have := HTA.out; omega⟩
    unfold tasC at this
    rw [HCD.out] at this
    rw [show (1 + t : Nat) = t + 1 by omega]
    exact this)
  clear hb3 hb3z HL L2 HF3
  obtain ⟨c, hc⟩ : ∃ c : Cfg, ({ d with ta := ((1 + t : Nat) : Int) } : Cfg) = c := ⟨_, rfl⟩
  have hct : c.ta = ((1 + t : Nat) : Int) := by rw [← hc]
  rw [hc] at X3 H3 HCK
  have HCT := Lib.hid hct
  clear hc hct HCD
  obtain ⟨d0, d1, d2, d3, d4, d5, d6, d7, d8, d9, d10⟩ := eleven X3.out
  go_wp2_with fail
  (with_reducible refine (rnewed_any H3.out _ _ HCK.out).mono ?_)
  rintro e w4 ⟨p, m, k, g, hd, rv, rfl, hE⟩
  have E4 := Lib.hid hE
  clear hE d0 d1 d2 d3 d4 d5 d6 d7 d8 d9 d10
  have N4 := Lib.hid (show NX (St.new (rCells c).toNat) 0 from ⟨⟨Int.le_refl _, by have := (cfgIn_chk HCK.out).cells; show (0 : Int) < ((List.replicate (rCells c).toNat (0 : Int)).length : Int); rw [List.length_replicate]; omega⟩, by rw [new_old]; rfl⟩)
  generalize (rCells c).toNat = cap at *
  have X4 := Lib.hid (X3.out.of_same (E4.out.b.block z X3.out.lt))
  go_wp2_with fail
  (with_reducible refine (awake18_any _).mono ?_)
  rintro e w5 ⟨rfl, hb5⟩
  have E5 := Lib.hid (E4.out.below hb5)
  have e20 := E5.out.at20
  clear hb5 E4 X4
  go_upto_region 6 with fail
  clear e20
  have HST := Lib.hid (show NumR18 w3 p m k g cap c hd rv (.int .i64 0) w5 from ⟨0, 0, _, rfl, by omega, E5.out, N4.out⟩)
  clear E5 N4
  go_wp2_with fail
  go_loopw [8] (fun v wr => NumR18 w3 p m k g cap c hd rv v wr) (fun i _ => 300 - (intOf i).toNat)
  case atStart => exact HST.out
  case round =>
    clear HST
    obtain ⟨i, N, x, rfl, hi, hE, hN⟩ := hrel
    have EI := Lib.hid hE
    have NI := Lib.hid hN
    have HI := Lib.hid hi
    have ei : wrap64 ((i : Int) + 1) = ((i + 1 : Nat) : Int) := by unfold wrap64; omega
    clear hE hN
    by_cases hlt : i < a + 20
    · have hlt1 : decide ((i : Int) < (a : Int) + 20) = true := by simp; omega
      have HLT := Lib.hid hlt
      clear hlt
      go_wp2_with fail
      (with_reducible refine (allocator_new _).mono ?_)
      rintro e u2 ⟨q2, rfl, hv, hbl, hb⟩
      have hA := alc_alone (most := 5) (EI.out.below hb) hv (Nat.le_trans EI.out.size hbl) (by decide)
      rw [show ((5 : Nat) : Int) = 5 from rfl] at hA
      have HA := Lib.hid hA
      have HN := Lib.hid (NI.out.next (c := c) (by have := HI.out; omega))
      have HG := Lib.hid (NI.out.got (c := c) (by have := HI.out; omega) HCT.out)
      clear hA hv hbl hb EI NI
      have fin : ∀ (N' : Nat) (w' : World), ER w3 p m k g cap c hd rv N' ((alcS c x.1).1, x.2) w' → w'.cell? ⟨z, 3, none⟩ = some (.int .i64 (1 + (t : Int))) ∧ NumR18 w3 p m k g cap c hd rv (.int .i64 ((i + 1 : Nat) : Int)) w' := by
        intro N' w' hE
        refine ⟨?_, i + 1, N', _, rfl, by have := HLT.out; have := HTA.out; omega, hE, HN.out⟩
        have := (X3.out.of_same (hE.b.block z X3.out.lt)).at_ 3
        rw [this]
        show some (Value.int .i64 c.ta) = _
        rw [HCT.out, show ((1 + t : Nat) : Int) = 1 + (t : Int) by omega]
      have FN := Lib.hid fin
      clear fin
      by_cases hit : i < 1 + t
      · have hr := HG.out.1 hit
        have HA2 := HA.out
        rw [hr] at HA2
        have HA3 := Lib.hid HA2
        have h1 : decide ((i : Int) < 1 + (t : Int)) = true := by simp; omega
        have h2 : decide (1 + (t : Int) ≤ (i : Int)) = false := by simp; omega
        have h3 : decide ((i : Int) ≥ 1 + (t : Int)) = false := by simp; omega
        clear hit hr HA2 HA
        go_wp2_with fail
        (with_reducible refine HA3.out.mono ?_)
        rintro e u3 ⟨rfl, hE⟩
        obtain ⟨c3, hR⟩ := FN.out _ _ hE
        have HR := Lib.hid hR
        clear hE hR
        go_wp2_with fail
        go_roundw
        case rel => exact HR.out
        case measure => simp only [intOf]; have := HLT.out; have := HTA.out; omega
      · have hr := HG.out.2 hit
        have HA2 := HA.out
        rw [hr] at HA2
        have HA3 := Lib.hid HA2
        have h1 : decide ((i : Int) < 1 + (t : Int)) = false := by simp; omega
        have h2 : decide (1 + (t : Int) ≤ (i : Int)) = true := by simp; omega
        have h3 : decide ((i : Int) ≥ 1 + (t : Int)) = true := by simp; omega
        clear hit hr HA2 HA
        go_wp2_with fail
        (with_reducible refine HA3.out.mono ?_)
        rintro e u3 ⟨rfl, hE⟩
        obtain ⟨c3, hR⟩ := FN.out _ _ hE
        have HR := Lib.hid hR
        clear hE hR
        go_wp2_with fail
        go_roundw
        case rel => exact HR.out
        case measure => simp only [intOf]; have := HLT.out; have := HTA.out; omega
    · have hlt1 : decide ((i : Int) < (a : Int) + 20) = false := by simp; omega
      clear hlt
      go_wp2
      go_ret
      exact ⟨rfl, B3.out.trans (EI.out.b.mono B3.out.size)⟩
end Go.Proofs.Ytgipddeldddbnaa
