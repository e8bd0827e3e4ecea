/-
  Stage 11: the reference's act: a player goes on.
-/
import Derived.Test.YtjehiekmlbeaeaaGreatMgBR
import Derived.BigRegion
namespace Go.Proofs.YtjehiekmlbeaeaaGreat
open Go Go.RowKit Go.Shelf
set_option linter.unusedSimpArgs false
set_option linter.unusedVariables false
theorem setR_self (P : List Plr) (i : Nat) : P.set i (P.getD i .no) = P := by
  by_cases h : i < P.length
  · rw [List.getD_eq_getElem?_getD, List.getElem?_eq_getElem h]
    exact List.set_getElem_self h
  · exact List.set_eq_of_length_le (by omega)
theorem can_kindR {i : Nat} {a : ActR} (h : canR i a = true) : a.k = 0 ∨ a.k = 1 ∨ a.k = 2 := by
  unfold canR at h
  split at h
  · simp at h; omega
  · simp at h; omega
/-- A step, its pick not counted. -/
def stpR (i : Nat) (p : Plr) (S : PlS) : PlS :=
  if (stepM S.s p.x.m).2.2.dn = true then ⟨(stepM S.s p.x.m).1, S.P.set i ⟨p.acts, ⟨.no, p.x.sn, p.x.vl⟩⟩, S.now, S.out ++ [recP i p.x S.now (stepM S.s p.x.m).2.2]⟩
  else ⟨(stepM S.s p.x.m).1, S.P.set i ⟨p.acts, ⟨(stepM S.s p.x.m).2.1, p.x.sn, p.x.vl⟩⟩, S.now, S.out⟩
/-- The game, whatever its places. -/
def GRX (w0 : World) (p bp K : Nat) (s : St) (P : List Plr) (w : World) : Prop := ∃ a q row, GR w0 w p bp K a q row s P
/-- A block of another kind changes. -/
theorem GR.off {w0 w w' : World} {p bp K : Nat} {a : EnvA} {q : Nat → Nat × Nat × Nat} {row : Nat → Nat → Value} {s : St} {P : List Plr} (h : GR w0 w p bp K a q row s P) {b : Nat} {cs : Array Value} (hb : Blk w b 80 cs) (hl : w0.heap.size ≤ b) (hf : Fr [b] w w') : GR w0 w' p bp K a q row s P := by
  obtain ⟨cs0, hb0, hc0⟩ := h.pb
  refine ⟨h.e.other hb hl (by decide) (by decide) (by decide) (by decide) (by decide) hf, h.n, h.pb.fr hf (by simpa using hb0.apart hb (by decide)), h.len, fun i hi => (h.pl i hi).fr hf (fun g cur hg => by simpa using hg.apart hb (by decide)), fun i hi => (h.mo i hi).fr hf (fun cs _ hc => by simpa using hc.apart hb (by decide)) (fun cs _ hc => by simpa using hc.apart hb (by decide)), h.ap, h.lb, below_of_fr h.b hf (fun y hy => by simp at hy; rw [hy]; exact hl)⟩
/-- A player begins. -/
abbrev rowZ (row : Nat → Nat → Value) (i : Nat) (k v : Int) (v0 : Value) (now : Int) : Nat → Nat → Value := rowS (rowS (rowS (rowS row i 2 (.int .i64 k)) i 3 (.int .i64 v)) i 0 v0) i 4 (.int .i64 now)
theorem rowZ_at (row : Nat → Nat → Value) (i : Nat) (k v : Int) (v0 : Value) (now : Int) : rowZ row i k v v0 now i 0 = v0 ∧ rowZ row i k v v0 now i 1 = row i 1 ∧ rowZ row i k v v0 now i 2 = .int .i64 k ∧ rowZ row i k v v0 now i 3 = .int .i64 v ∧ rowZ row i k v v0 now i 4 = .int .i64 now ∧ ∀ b c, b ≠ i → rowZ row i k v v0 now b c = row b c := by
  refine ⟨?_, ?_, ?_, ?_, ?_, fun b c hb => ?_⟩
  · simp [rowZ, rowS]
  · simp [rowZ, rowS]
  · simp [rowZ, rowS]
  · simp [rowZ, rowS]
  · simp [rowZ, rowS]
  · simp [rowZ, rowS, hb]
theorem actM_MF {C : Int} (hC : C ≤ 100) (t : ActR) : MF (actM C t) ∧ actM C t ≠ .no := by
  unfold actM
  split
  · exact ⟨⟨pushOkP C hC _, rfl⟩, (by intro e; cases e)⟩
  · split
    · exact ⟨⟨popOkP C hC, rfl⟩, (by intro e; cases e)⟩
    · exact ⟨⟨stealOkP C hC, rfl⟩, (by intro e; cases e)⟩
theorem actM_kindR {C : Int} {t : ActR} (hk : t.k = 0 ∨ t.k = 1 ∨ t.k = 2) : (actM C t).kind = t.k := by
  unfold actM
  split
  · rename_i h; exact h.symm
  split
  · rename_i h; exact h.symm
  · show (2 : Int) = t.k
    omega
theorem GR.beg {w0 W u1 u2 : World} {p bp K i m g cap z : Nat} {a : EnvA} {q : Nat → Nat × Nat × Nat} {row : Nat → Nat → Value} {s : St} {P : List Plr} {C : Int} {now : Nat} {t : ActR} {r : List ActR} {v0 : Value} (h : GR w0 W p bp K a q row s P) (hi : i < K) (hC : C ≤ 100)
    (har : begP C now (P.getD i .no) = ⟨r, ⟨actM C t, now, actV t⟩⟩) (hk : t.k = 0 ∨ t.k = 1 ∨ t.k = 2) (hac : AcR W w0.heap.size v0 r) (hf : Fr [bp] W u1) (hm : Mach1 z u1 m g cap [] (actM C t).fra) (hz : W.heap.size ≤ z)
    (hf2 : Fr [bp] u1 u2) (hp : PR u2 bp K (rowS (rowZ row i t.k t.v v0 now) i 1 (.pointer (some ⟨m, 0, none⟩)))) :
    GR w0 u2 p bp K a (fun b => if b = i then (m, g, cap) else q b) (rowS (rowZ row i t.k t.v v0 now) i 1 (.pointer (some ⟨m, 0, none⟩))) s (P.set i (begP C now (P.getD i .no))) := by
  obtain ⟨cs0, hb0, hc0⟩ := h.pb
  have hF := hf.trans hf2
  have hb1 : Blk u1 bp 149 cs0 ∨ True := .inr trivial
  have hbpz : bp < z := by have := hb0.lt; omega
  have hB : w0.heap.size ≤ W.heap.size := h.b.size
  obtain ⟨hMF, hlive⟩ := actM_MF hC t
  have hm2 : Mach1 w0.heap.size u2 m g cap [] (actM C t).fra := by
    have h1 := hm.bm
    have h2 := hm.bg
    have := hm.off hf2 (by simp; omega) (by simp; omega)
    exact ⟨this.blk, this.fr, by omega, by omega, this.hc⟩
  rw [har]
  obtain ⟨z0, z1, z2, z3, z4, z5⟩ := rowZ_at row i t.k t.v v0 now
  refine h.one hi hF hp (fun b c hb => ?_) ?_ (fun _ => ⟨hm2, hMF⟩) (fun _ j hj hne hl => ?_)
  · rw [rowS_ne _ _ _ _ (.inl hb)]
    exact z5 b c hb
  · refine ⟨?_, ?_, fun e => absurd e hlive, fun _ => ?_⟩
    · rw [rowS_ne _ _ _ _ (.inr (by decide)), z0]
      exact hac.fr hF (fun g cur hg => by simpa using hg.apart hb0 (by decide))
    · refine ⟨⟨_, rowS_at _ _ _ _⟩, ⟨t.k, ?_⟩, ⟨t.v, ?_⟩, ⟨now, ?_⟩⟩
      · rw [rowS_ne _ _ _ _ (.inr (by decide)), z2]
      · rw [rowS_ne _ _ _ _ (.inr (by decide)), z3]
      · rw [rowS_ne _ _ _ _ (.inr (by decide)), z4]
    · refine ⟨rowS_at _ _ _ _, ?_, fun hz0 => ?_, ?_, ?_⟩
      · show _ = Value.int .i64 (actM C t).kind
        rw [actM_kindR hk, rowS_ne _ _ _ _ (.inr (by decide)), z2]
      · replace hz0 : (actM C t).kind = 0 := hz0
        rw [actM_kindR hk] at hz0
        show _ = Value.int .i64 (actV t)
        rw [show actV t = t.v from if_pos hz0, rowS_ne _ _ _ _ (.inr (by decide)), z3]
      · show _ = Value.int .i64 (now : Int)
        rw [rowS_ne _ _ _ _ (.inr (by decide)), z4]
      · show (0 : Int) ≤ (now : Int)
        omega
  · obtain ⟨hm3, _⟩ := h.mo j hj hl
    have l1 := hm3.blk.lt
    have l2 := hm3.fr.blk.lt
    have h1 := hm.bm
    have h2 := hm.bg
    exact ⟨by show (q j).1 ≠ m; omega, by show (q j).2.1 ≠ g; omega⟩
/-- What the first region of an act's machine reads. -/
structure NrS (bp o qb : Nat) (C v : Int) (u : World) : Prop where
  q : Blk u qb 91 (qcells 0 1 2 C)
  c : u.cell? ⟨bp, o + 3, none⟩ = some (.int .i64 v)
/-- Blocks below n of types that are no player's, no machine's and no environment's stay. -/
def KeepN (n : Nat) (w w' : World) : Prop := ∀ (b : Nat) (t : TypeId) (cs : Array Value), b < n → Blk w b t cs → t ≠ 149 → t ≠ 56 → t ≠ 50 → t ≠ 24 → t ≠ 62 → t ≠ 177 → t ≠ 93 → Blk w' b t cs
theorem KeepN.trans {n : Nat} {w1 w2 w3 : World} (h : KeepN n w1 w2) (k : KeepN n w2 w3) : KeepN n w1 w3 := fun b t cs hb hk h1 h2 h3 h4 h5 h6 h7 => k b t cs hb (h b t cs hb hk h1 h2 h3 h4 h5 h6 h7) h1 h2 h3 h4 h5 h6 h7
theorem KeepN.of_below {n : Nat} {w w' : World} (h : Below w.heap.size w w') : KeepN n w w' := fun b t cs hb hk _ _ _ _ _ _ _ => hk.below h
theorem KeepN.bp {n bp K : Nat} {row : Nat → Nat → Value} {w w' : World} (hp : PR w bp K row) (hf : Fr [bp] w w') : KeepN n w w' := fun b t cs hb hk h1 _ _ _ _ _ _ => hk.of_same (hf.block b hk.lt (by simpa using (hp.apart hk (fun e => h1 e.symm)).symm))
theorem KeepN.new {n x : Nat} {w w' : World} (hx : n ≤ x) (hf : Fr [x] w w') : KeepN n w w' := fun b t cs hb hk _ _ _ _ _ _ _ => hk.of_same (hf.block b hk.lt (by simp; omega))
theorem KeepN.step {n p bp K i : Nat} {w0 w w' : World} {a : EnvA} {q : Nat → Nat × Nat × Nat} {row : Nat → Nat → Value} {s : St} {P : List Plr} (h : GR w0 w p bp K a q row s P) (hi : i < K) (hn : (P.getD i .no).x.m ≠ .no) (hf : Fr ((q i).1 :: (q i).2.1 :: a.S p) w w') : KeepN n w w' :=
  fun b t cs hb hk h1 h2 h3 h4 h5 h6 h7 => hk.of_same (hf.block b hk.lt (h.keep hi hn hk h2 h3 h4 h5 (.inl h6) (.inl h7)))
/-- What Act gives: a record, if its operation is done. -/
def ActP (w0 w : World) (p bp K i : Nat) (y : Plr) (S : PlS) (e : Ending) (w' : World) : Prop :=
  ∃ b r, e = .returned (.tuple #[.agg (opC r), .bool b]) ∧ GRX w0 p bp K (stpR i y S).s (stpR i y S).P w' ∧ (stpR i y S).out = S.out ++ (if b = true then [r] else []) ∧ KeepN w.heap.size w w'
/-- The frame with which a machine is made. -/
abbrev fraZ (kd C a : Int) : Fra := ⟨kd, 0, 0, 1, 2, C, a, 0, 0, 0, 0, 0, 0, 0, 0, 0, 0, .slice none 0 0⟩
set_option maxRecDepth 100000 in
set_option maxHeartbeats 16000000 in
theorem ract_go {w0 w : World} {p bp K i : Nat} {a : EnvA} {q : Nat → Nat × Nat × Nat} {row : Nat → Nat → Value} {C : Int} {S : PlS} (h : GR w0 w p bp K a q row S.s S.P) (hi : i < K) (ok : PlOk i (S.P.getD i .no)) (hC : C ≤ 100) (hbz : (begP C S.now (S.P.getD i .no)).x.m.idle = false) :
    Calls Tryz.prog 68 #[.pointer (some ⟨p, 0, none⟩), qv 0 1 2 C, .pointer (some ⟨bp, i * 5, none⟩), .int .i64 i, .int .i64 S.now] w (ActP w0 w p bp K i (begP C S.now (S.P.getD i .no)) S) := by
  have HS0 := Lib.hid h.b.size
  have HB := (below_one w (.cells (qcells 0 1 2 C) 91)).trans ((below_one (w.alloc (.cells (qcells 0 1 2 C) 91)) (.cells op0 80)).mono (by simp))
  have HG := Lib.hid (h.below HB)
  have hK0 : KeepN w.heap.size w ((w.alloc (.cells (qcells 0 1 2 C) 91)).alloc (.cells op0 80)) := .of_below HB
  have HO2 := Lib.hid (Blk.made (w.alloc (.cells (qcells 0 1 2 C) 91)) 80 op0)
  have HQ := Lib.hid ((Blk.made w 91 (qcells 0 1 2 C)).alloc (.cells op0 80))
  rw [show (w.alloc (.cells (qcells 0 1 2 C) 91)).heap.size = w.heap.size + 1 from by simp] at HO2
  have HC := Lib.hid (And.intro hC (And.intro ok (And.intro hi hbz)))
  have hpl := HG.out.pl i hi
  clear h HB hC ok hbz
  go_enter Tryz.func68, Tryz.ntmps68
  go_upto_region 1 with fail
  obtain ⟨rb, hrb⟩ : ∃ rb, w.heap.size + 1 = rb := ⟨_, rfl⟩
  obtain ⟨qb, hqb⟩ : ∃ qb, w.heap.size = qb := ⟨_, rfl⟩
  have HLO := Lib.hid (show w0.heap.size ≤ rb by have := HS0.out; omega)
  have HLN := Lib.hid (And.intro (show qb ≤ rb by omega) hqb)
  rw [hqb] at hK0
  have HK0 := Lib.hid hK0
  rw [hrb] at HO2 ⊢
  rw [hqb] at HQ ⊢
  clear hrb hqb HS0 hK0
  generalize (w.alloc (.cells (qcells 0 1 2 C) 91)).alloc (.cells op0 80) = W2 at *
  obtain ⟨o, ho⟩ : ∃ o, i * 5 = o := ⟨_, rfl⟩
  have HO := Lib.hid ho
  obtain ⟨X, hX⟩ : ∃ X, (S.P.getD i .no).x.m = X := ⟨_, rfl⟩
  have HX := Lib.hid hX
  have c4 := HG.out.pb.cell hi 4 (by omega)
  obtain ⟨z4, hz4⟩ := hpl.nt.2.2.2
  rw [hz4, ho] at c4
  have HZ := Lib.hid (show (X = .no → z4 = -1) ∧ (X ≠ .no → z4 = (S.P.getD i .no).x.sn ∧ 0 ≤ z4) from by
    subst hX
    refine ⟨fun e => ?_, fun e => ?_⟩
    · have := hpl.off e
      rw [hz4] at this
      simpa using this
    · obtain ⟨_, _, _, h4, h5⟩ := hpl.on e
      rw [hz4] at h4
      simp only [Value.int.injEq, true_and] at h4
      exact ⟨h4, by omega⟩)
  rw [ho]
  clear hz4 ho hX
  go_upto_if 17 with fail
  clear c4
  go_cut [] from 18 to 77 (fun wx => (∃ q1 row1, GR w0 wx p bp K a q1 row1 S.s (S.P.set i (begP C S.now (S.P.getD i .no)))) ∧ Blk wx rb 80 op0 ∧ KeepN qb W2 wx)
  case first =>
    by_cases hno : X = .no
    · have hz := HZ.out.1 hno
      subst hz
      have hid : (S.P.getD i .no).x.m.idle = true := Mach.idle_iff.2 (HX.out.trans hno)
      obtain ⟨t, r, har⟩ : ∃ t r, (S.P.getD i .no).acts = t :: r := by
        cases ha : (S.P.getD i .no).acts with
        | nil =>
          have := HC.out.2.2.2
          rw [begP_rest hid ha, hid] at this
          cases this
        | cons t r => exact ⟨t, r, rfl⟩
      have HY := Lib.hid (begP_next (C := C) (now := S.now) hid har)
      have hac := hpl.ac
      rw [har] at hac
      obtain ⟨g, oa, c, cur, hv0, hc, hBg, hg, e0, e1, hml, hone, hrest⟩ := hac.next
      have HK := Lib.hid (can_kindR (HC.out.2.1.can t (by rw [har]; simp)).1)
      have p0 := HG.out.pb.cell hi 0 (by omega)
      rw [hv0, Nat.add_zero] at p0
      obtain ⟨z2, hz2⟩ := hpl.nt.2.1
      obtain ⟨z3, hz3⟩ := hpl.nt.2.2.1
      have p2 := HG.out.pb.cell hi 2 (by omega)
      have p3 := HG.out.pb.cell hi 3 (by omega)
      have p4 := HG.out.pb.cell hi 4 (by omega)
      rw [hz2] at p2
      rw [hz3] at p3
      rw [HO.out] at p0 p2 p3 p4
      have f0 := HG.out.pb.free o
      have f2 := HG.out.pb.free (o + 2)
      have f3 := HG.out.pb.free (o + 3)
      have f4 := HG.out.pb.free (o + 4)
      obtain ⟨n, hn⟩ : ∃ n, r.length = n := ⟨_, rfl⟩
      obtain ⟨n1, hn1⟩ : ∃ n1, r.length + 1 = n1 := ⟨_, rfl⟩
      rw [hn1] at p0 hc
      have hn2 : n1 - 1 = n := by omega
      have HR := Lib.hid (And.intro hone (And.intro hrest (And.intro hn hn2)))
      have hnb : (1 : Int) ≤ (n1 : Int) ∧ (n1 : Int) ≤ 9223372036854775807 := by unfold maxLen at hml; omega
      have hnc : (n1 : Int) ≤ (c : Int) := by omega
      clear hone hrest hn hn1 hn2 hml hv0 hg hBg hac hz2 hz3 hid har hpl
      obtain ⟨k, v⟩ := t
      replace e0 : W2.cell? ⟨g, oa, none⟩ = some (.int .i64 k) := e0
      replace e1 : W2.cell? ⟨g, oa + 1, none⟩ = some (.int .i64 v) := e1
      have hn0 : decide ((n1 : Int) = 0) = false := by simp; omega
      go_upto_region 4 with fail
      go_cut [] from 18 to 45 (fun wx => ∃ v0, wx = ((((W2.setCell ⟨bp, o + 2, none⟩ (.int .i64 k)).setCell ⟨bp, o + 2 + 1, none⟩ (.int .i64 v)).setCell ⟨bp, o, none⟩ v0).setCell ⟨bp, o + 4, none⟩ (.int .i64 S.now)).drew ∧ AcR W2 w0.heap.size v0 r)
      case first =>
        by_cases hc1 : c = 1
        · subst hc1
          have hn1 : n1 = 1 := by omega
          subst hn1
          have hn0 : n = 0 := by have := HR.out.2.2.2; omega
          have HE := Lib.hid (HR.out.1 rfl)
          go_region
          go_wp2_with fail
          go_meet
          case rel =>
            refine ⟨_, rfl, ?_⟩
            have := HE.out
            rw [HR.out.2.2.1, hn0] at this
            exact this
        · have hc2 : (2 : Int) ≤ (c : Int) := by omega
          have HE := Lib.hid HR.out.2.1
          have hac5 : AcR W2 w0.heap.size (.slice (some ⟨g, oa + 2, none⟩) n (c - 1)) r := by
            have := HE.out
            rw [HR.out.2.2.1] at this
            exact this
          have hn3 : n1 - 1 = n := HR.out.2.2.2
          obtain ⟨c3, hc3⟩ : ∃ c3, c - 1 = c3 := ⟨_, rfl⟩
          rw [hc3] at hac5
          go_region
          go_wp2_with fail
          clear hn3 hc3 HE
          go_meet
          case rel => exact ⟨_, rfl, hac5⟩
      case rest =>
      obtain ⟨v0, hwc, hac4⟩ := hcut
      have HP4 := Lib.hid (show PR wc bp K (rowZ row i k v v0 S.now) from by
        have hp := (((HG.out.pb.put i 2 (by omega) (.int .i64 k)).put i 3 (by omega) (.int .i64 v)).put i 0 (by omega) v0).put i 4 (by omega) (.int .i64 S.now)
        rw [HO.out] at hp
        rw [hwc]
        exact hp)
      have HF4 := Lib.hid (show Fr [bp] W2 wc from by
        rw [hwc]
        exact (((((Fr.refl [bp] W2).setCell (p := ⟨bp, o + 2, none⟩) (.inl (by simp)) _).setCell (p := ⟨bp, o + 2 + 1, none⟩) (.inl (by simp)) _).setCell (p := ⟨bp, o, none⟩) (.inl (by simp)) _).setCell (p := ⟨bp, o + 4, none⟩) (.inl (by simp)) _).drew)
      have HQ4 := Lib.hid (HQ.out.of_same (HF4.out.block qb HQ.out.lt (by simpa using (HG.out.pb.apart HQ.out (by decide)).symm)))
      have HO4 := Lib.hid (HO2.out.of_same (HF4.out.block rb HO2.out.lt (by simpa using (HG.out.pb.apart HO2.out (by decide)).symm)))
      have HZ4 := Lib.hid HF4.out.size
      obtain ⟨pt, hpt⟩ := (HG.out.pl i hi).nt.1
      obtain ⟨_, hr1, hr2, hr3, _, _⟩ := rowZ_at row i k v v0 S.now
      clear hwc p0 p2 p3 p4 f0 f2 f3 f4 e0 e1 HR hnb hnc hc hn0
      have q2 := HP4.out.cell hi 2 (by omega)
      rw [HO.out, hr2] at q2
      have hkk := HK.out
      replace hkk : k = 0 ∨ k = 1 ∨ k = 2 := hkk
      rcases hkk with hk | hk | hk
      · subst hk
        go_upto_region 8 with fail
        clear q2
        have q3 := HP4.out.cell hi 3 (by omega)
        rw [HO.out, hr3] at q3
        have HD := Lib.hid (show NrS bp o qb C v wc.drew from ⟨HQ4.out, q3⟩)
        have HP5 := Lib.hid (HP4.out.below (below_drew (Below.refl _ _)))
        have HF5 := Lib.hid (show Fr [bp] W2 wc.drew from HF4.out.drew)
        have HO5 := Lib.hid (HO4.out.below (below_drew (Below.refl _ _)))
        have HZ5 := Lib.hid (show W2.heap.size ≤ wc.drew.heap.size from HZ4.out)
        clear HP4 HF4 HO4 HZ4 HQ4 q3
        refine wp_region_held_drew (S := NrS bp o qb C v) (by kernel_rfl) HD.out (fun _ => ?_)
        change wpAnyH _ _ _ _ _ 12 #[false, false, false, false, false, false, false, false, false, false, false, false] _ (World.drew _)
        generalize wc.drew = V at *
        refine wpAnyH_take (i := 0) (v := .pointer (some ⟨bp, o, none⟩)) rfl (by kernel_rfl) (by kernel_rfl) (by kernel_rfl) (fun _ _ _ h => h) (Or.inl ⟨by rfl, fun u hu => by (go_simp)⟩) HD.out ?_
        simp only [List.getElem_toArray, List.getElem_cons_succ, List.getElem_cons_zero, Act.put, List.setIfInBounds_toArray, List.set_cons_zero, List.set_cons_succ]
        refine wpAnyH_take (i := 1) (v := qv 0 1 2 C) rfl (by kernel_rfl) (by kernel_rfl) (by kernel_rfl) (fun _ _ _ h => h) (yields_row (by kernel_rfl) _ _ rfl qb (by kernel_rfl) 91 (qcells 0 1 2 C) (fun u hu => hu.q) _ Tryz.underlying91 rfl (by kernel_rfl)) HD.out ?_
        simp only [List.getElem_toArray, List.getElem_cons_succ, List.getElem_cons_zero, Act.put, List.setIfInBounds_toArray, List.set_cons_zero, List.set_cons_succ]
        refine wpAnyH_take (i := 2) (v := .pointer (some ⟨bp, o, none⟩)) rfl (by kernel_rfl) (by kernel_rfl) (by kernel_rfl) (fun _ _ _ h => h) (Or.inl ⟨by rfl, fun u hu => by (go_simp)⟩) HD.out ?_
        simp only [List.getElem_toArray, List.getElem_cons_succ, List.getElem_cons_zero, Act.put, List.setIfInBounds_toArray, List.set_cons_zero, List.set_cons_succ]
        refine wpAnyH_take (i := 3) (v := .pointer (some ⟨bp, o, none⟩)) rfl (by kernel_rfl) (by kernel_rfl) (by kernel_rfl) (fun _ _ _ h => h) (Or.inl ⟨by rfl, fun u hu => by (go_simp)⟩) HD.out ?_
        simp only [List.getElem_toArray, List.getElem_cons_succ, List.getElem_cons_zero, Act.put, List.setIfInBounds_toArray, List.set_cons_zero, List.set_cons_succ]
        refine wpAnyH_take (i := 4) (v := .pointer (some ⟨bp, o + 2, none⟩)) rfl (by kernel_rfl) (by kernel_rfl) (by kernel_rfl) (fun _ _ _ h => h) (Or.inl ⟨by rfl, fun u hu => by (go_simp)⟩) HD.out ?_
        simp only [List.getElem_toArray, List.getElem_cons_succ, List.getElem_cons_zero, Act.put, List.setIfInBounds_toArray, List.set_cons_zero, List.set_cons_succ]
        refine wpAnyH_take (i := 5) (v := .pointer (some ⟨bp, o + 3, none⟩)) rfl (by kernel_rfl) (by kernel_rfl) (by kernel_rfl) (fun _ _ _ h => h) (Or.inl ⟨by rfl, fun u hu => by (go_simp)⟩) HD.out ?_
        simp only [List.getElem_toArray, List.getElem_cons_succ, List.getElem_cons_zero, Act.put, List.setIfInBounds_toArray, List.set_cons_zero, List.set_cons_succ]
        refine wpAnyH_take (i := 6) (v := .int .i64 v) rfl (by kernel_rfl) (by kernel_rfl) (by kernel_rfl) (fun _ _ _ h => h) (Or.inl ⟨by rfl, fun u hu => by (have z : u.cell? ⟨bp, o + 3, none⟩ = some (.int .i64 v) := hu.c; go_simp)⟩) HD.out ?_
        simp only [List.getElem_toArray, List.getElem_cons_succ, List.getElem_cons_zero, Act.put, List.setIfInBounds_toArray, List.set_cons_zero, List.set_cons_succ]
        refine wpAnyH_take (i := 7) (v := .agg (fcells (fraZ 0 C v)).toArray) rfl (by kernel_rfl) (by kernel_rfl) (by kernel_rfl) (fun _ _ _ h => h) (Or.inl ⟨by rfl, fun u hu => by (go_simp)⟩) HD.out ?_
        simp only [List.getElem_toArray, List.getElem_cons_succ, List.getElem_cons_zero, Act.put, List.setIfInBounds_toArray, List.set_cons_zero, List.set_cons_succ]
        refine wpAnyH_ready (rs := [8]) (by kernel_rfl) (by simp) ?_
        refine AllReadyH.cons rfl (fun KK hK => ?_) AllReadyH.nil
        go_simp
        go_at_call 35
        (with_reducible refine (make_any (fraZ 0 C v) _ rfl).mono ?_)
        rintro e u1 ⟨mm, mg, mc, rfl, hmm, hb1⟩
        have P5 := Lib.hid (HP5.out.below hb1)
        have F5 := Lib.hid (HF5.out.trans (Fr.old (S := [bp]) hb1))
        have O5 := Lib.hid (HO5.out.below hb1)
        have HD1 := Lib.hid (show NrS bp o qb C v u1 from ⟨HD.out.q.below hb1, by
          have := P5.out.cell hi 3 (by omega)
          rw [HO.out, hr3] at this
          exact this⟩)
        have q1 := P5.out.cell hi 1 (by omega)
        rw [HO.out, hr1, hpt] at q1
        have f1 := P5.out.free (o + 1)
        clear HD
        refine hK.out _ _ HD1.out (fun _ => ?_)
        clear hK KK
        simp only [List.setIfInBounds_toArray, List.set_cons_zero, List.set_cons_succ]
        refine wpAnyH_take (i := 9) (v := .pointer (some ⟨bp, o, none⟩)) rfl (by kernel_rfl) (by kernel_rfl) (by kernel_rfl) (fun _ _ _ h => h) (Or.inl ⟨by rfl, fun u hu => by (go_simp)⟩) HD1.out ?_
        simp only [List.getElem_toArray, List.getElem_cons_succ, List.getElem_cons_zero, Act.put, List.setIfInBounds_toArray, List.set_cons_zero, List.set_cons_succ]
        refine wpAnyH_take (i := 10) (v := .pointer (some ⟨bp, o + 1, none⟩)) rfl (by kernel_rfl) (by kernel_rfl) (by kernel_rfl) (fun _ _ _ h => h) (Or.inl ⟨by rfl, fun u hu => by (go_simp)⟩) HD1.out ?_
        simp only [List.getElem_toArray, List.getElem_cons_succ, List.getElem_cons_zero, Act.put, List.setIfInBounds_toArray, List.set_cons_zero, List.set_cons_succ]
        refine wpAnyH_ready (rs := [11]) (by kernel_rfl) (by simp) ?_
        refine AllReadyH.cons rfl (fun KK hK => ?_) AllReadyH.nil
        go_simp
        have HP6 := Lib.hid (HO.out ▸ P5.out.put i 1 (by omega) (.pointer (some ⟨mm, 0, none⟩)) : PR (u1.setCell ⟨bp, o + 1, none⟩ (.pointer (some ⟨mm, 0, none⟩))) bp K (rowS (rowZ row i 0 v v0 S.now) i 1 (.pointer (some ⟨mm, 0, none⟩))))
        have HD6 := Lib.hid (show NrS bp o qb C v (u1.setCell ⟨bp, o + 1, none⟩ (.pointer (some ⟨mm, 0, none⟩))) from ⟨HD1.out.q.of_same (((Fr.refl [bp] _).setCell (by simp) _).block qb HD1.out.q.lt (by simpa using (P5.out.apart HD1.out.q (by decide)).symm)), by
          have := HP6.out.cell hi 3 (by omega)
          rw [HO.out, rowS_ne _ _ _ _ (.inr (by decide)), hr3] at this
          exact this⟩)
        refine hK.out _ _ HD6.out (fun _ => ?_)
        clear hK KK
        simp only [List.setIfInBounds_toArray, List.set_cons_zero, List.set_cons_succ]
        have HF6 := Lib.hid (show Fr [bp] u1 (u1.setCell ⟨bp, o + 1, none⟩ (.pointer (some ⟨mm, 0, none⟩))) from (Fr.refl [bp] _).setCell (by simp) _)
        have HO6 := Lib.hid (O5.out.of_same (HF6.out.block rb O5.out.lt (by simpa using (P5.out.apart O5.out (by decide)).symm)))
        clear q1 f1
        generalize u1.setCell ⟨bp, o + 1, none⟩ (.pointer (some ⟨mm, 0, none⟩)) = u2 at *
        refine wpAnyH_done (by kernel_rfl) ?_ _
        go_wp2_with fail
        go_meet
        case rel => exact ⟨⟨_, _, HG.out.beg hi HC.out.1 HY.out (by simp) hac4 F5.out hmm HZ5.out HF6.out HP6.out⟩, HO6.out, .bp HG.out.pb (F5.out.trans HF6.out)⟩
      · subst hk
        go_upto_region 10 with fail
        clear q2
        go_wp2_with (refine wpList_load_row rfl 91 (.tmp 6) rfl qb rfl 91 (qcells 0 1 2 C) (0, 0) _ HQ4.out Tryz.underlying91 rfl (by kernel_rfl) ?_)
        (with_reducible refine (make_any (fraZ 1 C 0) _ rfl).mono ?_)
        rintro e u1 ⟨mm, mg, mc, rfl, hmm, hb1⟩
        have P5 := Lib.hid (HP4.out.below hb1)
        have F5 := Lib.hid (HF4.out.trans (Fr.old (S := [bp]) hb1))
        have O5 := Lib.hid (HO4.out.below hb1)
        have q1 := P5.out.cell hi 1 (by omega)
        rw [HO.out, hr1, hpt] at q1
        have f1 := P5.out.free (o + 1)
        go_wp2_with fail
        go_meet
        case rel =>
          refine ⟨⟨_, _, HG.out.beg hi HC.out.1 HY.out (by simp) hac4 F5.out hmm HZ4.out ((Fr.refl [bp] _).setCell (by simp) _) (HO.out ▸ P5.out.put i 1 (by omega) _)⟩, O5.out.of_same (((Fr.refl [bp] _).setCell (by simp) _).block rb O5.out.lt ?_), .bp HG.out.pb (F5.out.trans ((Fr.refl [bp] _).setCell (by simp) _))⟩
          simpa using (P5.out.apart O5.out (by decide)).symm
      · subst hk
        go_upto_region 6 with fail
        clear q2
        go_wp2_with (refine wpList_load_row rfl 91 (.tmp 6) rfl qb rfl 91 (qcells 0 1 2 C) (0, 0) _ HQ4.out Tryz.underlying91 rfl (by kernel_rfl) ?_)
        (with_reducible refine (make_any (fraZ 2 C 0) _ rfl).mono ?_)
        rintro e u1 ⟨mm, mg, mc, rfl, hmm, hb1⟩
        have P5 := Lib.hid (HP4.out.below hb1)
        have F5 := Lib.hid (HF4.out.trans (Fr.old (S := [bp]) hb1))
        have O5 := Lib.hid (HO4.out.below hb1)
        have q1 := P5.out.cell hi 1 (by omega)
        rw [HO.out, hr1, hpt] at q1
        have f1 := P5.out.free (o + 1)
        go_wp2_with fail
        go_meet
        case rel =>
          refine ⟨⟨_, _, HG.out.beg hi HC.out.1 HY.out (by simp) hac4 F5.out hmm HZ4.out ((Fr.refl [bp] _).setCell (by simp) _) (HO.out ▸ P5.out.put i 1 (by omega) _)⟩, O5.out.of_same (((Fr.refl [bp] _).setCell (by simp) _).block rb O5.out.lt ?_), .bp HG.out.pb (F5.out.trans ((Fr.refl [bp] _).setCell (by simp) _))⟩
          simpa using (P5.out.apart O5.out (by decide)).symm
    · have hz := (HZ.out.2 hno).2
      have hd : decide (z4 < 0) = false := by simpa using hz
      go_wp2_with fail
      go_meet
      case rel =>
        have : begP C S.now (S.P.getD i .no) = S.P.getD i .no := begP_on (by
          cases hm : (S.P.getD i .no).x.m.idle with
          | false => rfl
          | true => exact absurd (HX.out ▸ Mach.idle_iff.1 hm) hno)
        rw [this, setR_self]
        exact ⟨⟨q, row, HG.out⟩, HO2.out, .of_below (Below.refl _ _)⟩
  case rest =>
  obtain ⟨⟨q1, row1, hg1⟩, ho1, hk1⟩ := hcut
  have KK1 := Lib.hid (HK0.out.trans hk1)
  clear hk1 HK0
  have G1 := Lib.hid hg1
  have O1 := Lib.hid ho1
  have HIDL := Lib.hid HC.out.2.2.2
  clear hg1 ho1 HG HO2 HQ HX HZ hpl
  generalize wc = wa at *
  generalize begP C S.now (S.P.getD i .no) = y at *
  have hyl : y.x.m ≠ .no := Mach.idle_not HIDL.out
  have hgd : (S.P.set i y).getD i .no = y := set_at _ _ _ _ (by have := G1.out.len; rw [List.length_set] at this; omega)
  have hn1 : ((S.P.set i y).getD i .no).x.m ≠ .no := by rw [hgd]; exact hyl
  have hpl1 := G1.out.pl i hi
  rw [hgd] at hpl1
  obtain ⟨h1, h2, h3, h4, h5⟩ := hpl1.on hyl
  have hm1 := G1.out.mo i hi
  rw [hgd] at hm1
  obtain ⟨hM, hF⟩ := hm1 hyl
  obtain ⟨b1, b2, b3, b4⟩ := hF.num hyl
  have hst := step_any (post := []) G1.out.e hM b1 b2 b3 b4
  rw [hF.leaf hyl] at hst
  have HST := Lib.hid hst
  have HMF := Lib.hid (And.intro hM (And.intro hF (And.intro hyl (And.intro hgd hn1))))
  have HON := Lib.hid (And.intro h1 (And.intro h2 (And.intro h3 (And.intro h4 h5))))
  have r1 := G1.out.pb.cell hi 1 (by omega)
  rw [h1, HO.out] at r1
  clear hst hM hF b1 b2 b3 b4 h1 h2 h3 h4 h5 hm1 hpl1 hyl hgd hn1 HIDL
  obtain ⟨x, hx⟩ : ∃ x, (q1 i).1 = x := ⟨_, rfl⟩
  have HXX := Lib.hid hx
  rw [hx] at r1 HST
  clear hx
  by_cases hd : (stepM S.s y.x.m).2.2.dn = true
  · have HD := Lib.hid hd
    go_wp2_with fail
    (with_reducible refine HST.out.mono ?_)
    rintro e w1 ⟨ev, rfl, he, hfr, hblk, hf, hv⟩
    rw [hd] at hblk ⊢
    rw [if_pos rfl] at hblk
    clear r1 hd
    have hk1 := fun {b : Nat} {t : TypeId} {cs : Array Value} (hb : Blk wa b t cs) (n1 : t ≠ 56) (n2 : t ≠ 50) (n3 : t ≠ 24) (n4 : t ≠ 62) (n5 : t ≠ 177) (n6 : t ≠ 93) => G1.out.keep hi HMF.out.2.2.2.2 hb n1 n2 n3 n4 (.inl n5) (.inl n6)
    rw [HXX.out] at hk1
    have O2 := Lib.hid (O1.out.of_same (hf.block rb O1.out.lt (hk1 O1.out (by decide) (by decide) (by decide) (by decide) (by decide) (by decide))))
    have P2 := Lib.hid (show PR w1 bp K row1 from by
      obtain ⟨cs0, hb0, hc0⟩ := G1.out.pb
      exact ⟨cs0, hb0.of_same (hf.block bp hb0.lt (hk1 hb0 (by decide) (by decide) (by decide) (by decide) (by decide) (by decide))), hc0⟩)
    have PKD := Lib.hid P2.out
    have HE := Lib.hid (And.intro he (And.intro hfr (And.intro hblk (And.intro hf hv))))
    have HON3 := Lib.hid (G1.out.pl i hi).nt.2.2.1
    obtain ⟨z3, hz3⟩ := HON3.out
    have d1 := P2.out.cell hi 1 (by omega)
    have d2 := P2.out.cell hi 2 (by omega)
    have d3 := P2.out.cell hi 3 (by omega)
    have d4 := P2.out.cell hi 4 (by omega)
    have f4 := P2.out.free (o + 4)
    rw [HON.out.1, HO.out, HXX.out] at d1
    rw [HON.out.2.1, HO.out] at d2
    rw [hz3, HO.out] at d3
    rw [HON.out.2.2.2.1, HO.out] at d4
    obtain ⟨cd, hcd⟩ : ∃ cd, (stepM S.s y.x.m).2.2.cd = cd := ⟨_, rfl⟩
    obtain ⟨vl, hvl⟩ : ∃ vl, (stepM S.s y.x.m).2.2.vl = vl := ⟨_, rfl⟩
    rw [hcd, hvl] at hblk
    have m2 : w1.cell? ⟨x, 2, none⟩ = some (.int .i64 cd) := hblk.at_ 2
    have m3 : w1.cell? ⟨x, 3, none⟩ = some (.int .i64 vl) := hblk.at_ 3
    have hal := below_one w1 (.cells op0 80)
    have a1 : (w1.alloc (.cells op0 80)).cell? ⟨bp, o + 1, none⟩ = some (.pointer (some ⟨x, 0, none⟩)) := by
      have := (P2.out.below hal).cell hi 1 (by omega)
      rw [HON.out.1, HO.out, HXX.out] at this
      exact this
    have a2 : (w1.alloc (.cells op0 80)).cell? ⟨bp, o + 2, none⟩ = some (.int .i64 y.x.m.kind) := by
      have := (P2.out.below hal).cell hi 2 (by omega)
      rw [HON.out.2.1, HO.out] at this
      exact this
    have a4 : (w1.alloc (.cells op0 80)).cell? ⟨bp, o + 4, none⟩ = some (.int .i64 y.x.sn) := by
      have := (P2.out.below hal).cell hi 4 (by omega)
      rw [HON.out.2.2.2.1, HO.out] at this
      exact this
    have a5 : (w1.alloc (.cells op0 80)).cell? ⟨x, 2, none⟩ = some (.int .i64 cd) := (hblk.below hal).at_ 2
    have a6 : (w1.alloc (.cells op0 80)).cell? ⟨x, 3, none⟩ = some (.int .i64 vl) := (hblk.below hal).at_ 3
    have HCV := Lib.hid (And.intro hcd hvl)
    have HZ3 := Lib.hid hz3
    clear he hfr hblk hf hv hcd hvl hk1 hz3 hal
    go_upto_region 13 with fail
    obtain ⟨kd, hkd⟩ : ∃ kd, y.x.m.kind = kd := ⟨_, rfl⟩
    obtain ⟨sn, hsn⟩ : ∃ sn, y.x.sn = sn := ⟨_, rfl⟩
    have HKS := Lib.hid (And.intro hkd hsn)
    rw [hkd] at d2 a2
    rw [hsn] at d4 a4
    clear hkd hsn
    go_cut [12] from 86 to 111 (fun tv wx => tv = .pointer (some ⟨w1.heap.size, 0, none⟩) ∧ wx = (w1.alloc (.cells (opC ⟨kd, i, sn, S.now, cd, vl⟩) 80)).drew)
    case first =>
      go_region
      go_wp2_with fail
      go_meet
      case rel => exact ⟨rfl, rfl⟩
    case rest =>
    clear a1 a2 a4 a5 a6 d1 d2 d4 m2 m3
    obtain ⟨rfl, hw3⟩ := hcut
    generalize wc = wb at *
    have hal : Below w1.heap.size w1 wb := by
      rw [hw3]
      exact below_drew (below_one w1 _)
    have T3 := Lib.hid (show Blk wb w1.heap.size 80 (opC ⟨kd, i, sn, S.now, cd, vl⟩) from by
      rw [hw3]
      exact Blk.made w1 _ _)
    have P3 := Lib.hid (P2.out.below hal)
    have O3 := Lib.hid (O2.out.below hal)
    have F3 := Lib.hid (show Fr [bp] w1 wb from Fr.old hal)
    have hlt := O2.out.lt
    have hne : rb ≠ w1.heap.size := by omega
    have HLT := Lib.hid (show bp < w1.heap.size from by
      obtain ⟨cs0, hb0, _⟩ := P2.out
      exact hb0.lt)
    clear hw3 hal hlt P2 O2 d3 f4
    generalize htb : w1.heap.size = tb at *
    have HTB := Lib.hid htb
    clear htb
    have t0 : wb.cell? ⟨tb, 0, none⟩ = some (.int .i64 kd) := T3.out.at_ 0
    go_upto_if 114 with fail
    clear t0
    go_cut [] from 115 to 120 (fun wx => Blk wx tb 80 (opC ⟨kd, i, sn, S.now, cd, if kd = 0 then z3 else vl⟩) ∧ PR wx bp K row1 ∧ Blk wx rb 80 op0 ∧ Fr [tb] wb wx)
    case first =>
      by_cases hk0 : kd = 0
      · have g3 := P3.out.cell hi 3 (by omega)
        rw [HZ3.out, HO.out] at g3
        have t5 : wb.cell? ⟨tb, 5, none⟩ = some (.int .i64 vl) := T3.out.at_ 5
        have u5 : wb.frozen? ⟨tb, 5, none⟩ = false := T3.out.free 5
        have HK0 := Lib.hid hk0
        subst hk0
        go_wp2_with fail
        go_meet
        case rel =>
          have hF : Fr [tb] wb (wb.setCell ⟨tb, 5, none⟩ (.int .i64 z3)) := (Fr.refl [tb] _).setCell (by simp) _
          exact ⟨T3.out.put 5 _, P3.out.fr hF (by simpa using P3.out.apart T3.out (by decide)), O3.out.of_same (hF.block rb O3.out.lt (by simpa using hne)), hF⟩
      · have hkb : (kd == 0) = false := by simpa using hk0
        go_wp2_with fail
        go_meet
        case rel =>
          rw [if_neg hk0]
          exact ⟨T3.out, P3.out, O3.out, Fr.refl _ _⟩
    case rest =>
    obtain ⟨hT4, hP4, hO4, hF4⟩ := hcut
    have T4 := Lib.hid hT4
    have P4 := Lib.hid hP4
    have O4 := Lib.hid hO4
    have F4 := Lib.hid hF4
    clear hT4 hP4 hO4 hF4 T3 P3 O3
    have d4 := P4.out.cell hi 4 (by omega)
    have f4 := P4.out.free (o + 4)
    rw [HON.out.2.2.2.1, HO.out] at d4
    go_upto_region 17 with fail
    clear d4 f4
    have P5 := Lib.hid (HO.out ▸ P4.out.put i 4 (by omega) (.int .i64 (-1)) : PR (wc.setCell ⟨bp, o + 4, none⟩ (.int .i64 (-1))) bp K (rowS row1 i 4 (.int .i64 (-1))))
    have F5 := Lib.hid (show Fr [bp] wc (wc.setCell ⟨bp, o + 4, none⟩ (.int .i64 (-1))) from (Fr.refl _ _).setCell (by simp) _)
    have T5 := Lib.hid (T4.out.of_same (F5.out.block tb T4.out.lt (by simpa using (P4.out.apart T4.out (by decide)).symm)))
    have O5 := Lib.hid (O4.out.of_same (F5.out.block rb O4.out.lt (by simpa using (P4.out.apart O4.out (by decide)).symm)))
    generalize wc.setCell ⟨bp, o + 4, none⟩ (.int .i64 (-1)) = W5 at *
    obtain ⟨vv, hvv⟩ : ∃ vv, (if kd = 0 then z3 else vl) = vv := ⟨_, rfl⟩
    rw [hvv] at T5
    have HVV := Lib.hid hvv
    clear hvv
    go_wp2_with (first | (refine wpList_load_row rfl 80 (.tmp 12) rfl tb rfl 80 (opC ⟨kd, i, sn, S.now, cd, vv⟩) (0, 0) _ T5.out Tryz.underlying80 rfl (by kernel_rfl) ?_) | (refine wpList_store_rowTo rfl 80 (.tmp 10) (.tmp 124) rfl rfl rb (opC ⟨kd, i, sn, S.now, cd, vv⟩) (by kernel_rfl) (by kernel_rfl) 80 op0 O5.out (by kernel_rfl) rfl (by kernel_rfl) ?_))
    have hX : Blk (W5.setRow rb (opC ⟨kd, i, sn, S.now, cd, vv⟩)) rb 80 (opC ⟨kd, i, sn, S.now, cd, vv⟩) := setRow_heap W5 rb op0 _ 80 (0, 0) O5.out
    refine bodyPost_ret (results_cell_tmp (P := Tryz.prog) Tryz.results68 _ _ rb 80 _ (0, 0) _ _ rfl rfl hX Tryz.underlying80 rfl (by kernel_rfl)) rfl ?_
    obtain ⟨he, hfr, hblk, hf, hv⟩ := HE.out
    obtain ⟨hM, hF, hyl, hgd, hn1⟩ := HMF.out
    obtain ⟨hN, _⟩ := hF.step (s := S.s) G1.out.n
    have hF15 : Fr [bp] w1 W5 := (Fr.drop F3.out F4.out (fun y hy => .inr (by simp at hy; have := HTB.out; omega))).trans F5.out
    have hgr := G1.out.fin hi hn1 he hN (by rw [HXX.out]; exact hf) hF15 P5.out
    rw [hgd, List.set_set] at hgr
    refine ⟨true, ⟨kd, i, sn, S.now, cd, vv⟩, rfl, ?_, ?_, ?_⟩
    · unfold stpR
      rw [if_pos HD.out]
      exact ⟨_, _, _, hgr.off O5.out HLO.out (fr_row8 _ _ _)⟩
    · unfold stpR
      rw [if_pos HD.out, if_pos rfl]
      show S.out ++ [recP i y.x S.now _] = S.out ++ [_]
      unfold recP
      rw [HKS.out.1, HKS.out.2, HCV.out.1, HCV.out.2]
      have hvv : (if kd = 0 then y.x.vl else vl) = vv := by
        rw [← HVV.out]
        by_cases hk0 : kd = 0
        · rw [if_pos hk0, if_pos hk0]
          have h3 := HON.out.2.2.1 (HKS.out.1.trans hk0)
          rw [HZ3.out] at h3
          simp only [Value.int.injEq, true_and] at h3
          exact h3.symm
        · rw [if_neg hk0, if_neg hk0]
      rw [hvv]
    · rw [HLN.out.2]
      exact KK1.out.trans ((KeepN.step G1.out hi hn1 (by rw [HXX.out]; exact hf)).trans ((KeepN.bp PKD.out hF15).trans (.new HLN.out.1 (fr_row8 _ _ _))))
  · have hd2 : (stepM S.s y.x.m).2.2.dn = false := by simpa using hd
    have HD := Lib.hid hd2
    go_wp2_with fail
    (with_reducible refine HST.out.mono ?_)
    rintro e w1 ⟨ev, rfl, he, hfr, hblk, hf, hv⟩
    rw [hd2] at hblk ⊢
    clear r1 hd hd2
    have HE := Lib.hid (And.intro he (And.intro hfr (And.intro hblk (And.intro hf hv))))
    have O2 := Lib.hid (O1.out.of_same (hf.block rb O1.out.lt (by rw [← HXX.out]; exact G1.out.keep hi HMF.out.2.2.2.2 O1.out (by decide) (by decide) (by decide) (by decide) (.inl (by decide)) (.inl (by decide)))))
    clear he hfr hblk hf hv
    go_wp2_with (refine wpList_store_rowTo rfl 80 (.tmp 10) (.tmp 85) rfl rfl rb op0 (by kernel_rfl) (by kernel_rfl) 80 op0 O2.out (by kernel_rfl) rfl (by kernel_rfl) ?_)
    have hX : Blk (w1.setRow rb op0) rb 80 op0 := setRow_heap w1 rb op0 _ 80 (0, 0) O2.out
    refine bodyPost_ret (results_cell_tmp (P := Tryz.prog) Tryz.results68 _ _ rb 80 _ (0, 0) _ _ rfl rfl hX Tryz.underlying80 rfl (by kernel_rfl)) rfl ?_
    obtain ⟨he, hfr, hblk, hf, hv⟩ := HE.out
    obtain ⟨hM, hF, hyl, hgd, hn1⟩ := HMF.out
    obtain ⟨hN, hM2⟩ := hF.step G1.out.n
    obtain ⟨hl2, hk2⟩ := stepM_live (s := S.s) hyl
    rw [HXX.out] at hM
    have hgr := G1.out.step (X := (stepM S.s y.x.m).2.1) hi hn1 he hN (by rw [HXX.out]; exact hf) hl2 (fun _ => ⟨⟨by rw [HXX.out]; exact hblk, hfr, by rw [HXX.out]; exact hM.bm, hM.bg, hM.hc⟩, hM2 HD.out⟩) (by rw [hgd]; exact hk2)
    rw [hgd, List.set_set] at hgr
    refine ⟨false, ⟨0, 0, 0, 0, 0, 0⟩, rfl, ?_, ?_, ?_⟩
    · unfold stpR
      rw [if_neg (by rw [HD.out]; decide)]
      exact ⟨_, _, _, hgr.off O2.out HLO.out (fr_row8 _ _ _)⟩
    · unfold stpR
      rw [if_neg (by rw [HD.out]; decide)]
      simp
    · rw [HLN.out.2]
      exact KK1.out.trans ((KeepN.step G1.out hi hn1 (by rw [HXX.out]; exact hf)).trans (.new HLN.out.1 (fr_row8 _ _ _)))
end Go.Proofs.YtjehiekmlbeaeaaGreat
