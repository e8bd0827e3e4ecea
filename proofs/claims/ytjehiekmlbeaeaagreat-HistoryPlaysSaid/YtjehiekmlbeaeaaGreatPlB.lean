/-
  Stage 11: a game begins.
-/
import Derived.Test.YtjehiekmlbeaeaaGreatPlP
namespace Go.Proofs.YtjehiekmlbeaeaaGreat
open Go Go.RowKit Go.Shelf
set_option linter.unusedSimpArgs false
set_option linter.unusedVariables false

/-- A plan that is handed in. -/
def InPl (w : World) (a : Option Addr) (plan : List (List ActR)) : Prop :=
  ∀ i, i < plan.length → ∃ (x : Addr) (va : Option Addr) (vc : Nat), a = some x ∧ x.block < w.heap.size ∧ w.cell? (x.add i) = some (.slice va (plan.getD i []).length vc) ∧ InG w 2 va ((plan.getD i []).map actL) ∧ (plan.getD i []).length ≤ 900000
/-- A new player. -/
abbrev rowP (va : Value) : List Value := [va, .nilIface, .int .i64 0, .int .i64 0, .int .i64 0, .int .i64 0, .int .i64 0, .int .i64 0]
/-- The game while its players are made. -/
structure BG (w0 w : World) (gb p m k g C n i : Nat) (plan : List (List ActR)) (V : List Value) (pv : Value) : Prop where
  gm : Blk w gb 143 #[.pointer (some ⟨p, 0, none⟩), .int .i64 0, .int .i64 1, .int .i64 2, .int .i64 C, pv, .int .i64 0, .slice none 0 0]
  pe : PE w p m k g n (St.new n) 0 0 hd0 (.slice none 0 0) (.slice none 0 0)
  pl : OwnG w w0.heap.size 145 8 pv (V.map rowP)
  len : V.length = i
  ac : ∀ j, j < i → AcR w w0.heap.size (V.getD j undef) ((plan.getD j []).filter (canR j))
  lb : w0.heap.size ≤ gb ∧ w0.heap.size ≤ p ∧ w0.heap.size ≤ m ∧ w0.heap.size ≤ k ∧ w0.heap.size ≤ g
  b : Below w0.heap.size w0 w
theorem BG.below {w0 w w' : World} {gb p m k g C n i : Nat} {plan : List (List ActR)} {V : List Value} {pv : Value} (h : BG w0 w gb p m k g C n i plan V pv) (hb : Below w.heap.size w w') : BG w0 w' gb p m k g C n i plan V pv :=
  ⟨h.gm.below hb, h.pe.below hb, h.pl.below hb, h.len, fun j hj => (h.ac j hj).below hb, h.lb, h.b.trans (hb.mono h.b.size)⟩
theorem rowP_ok (a : Option Addr) (l c : Nat) : (rowP (.slice a l c)).length = 8 ∧ ∀ u, u ∈ rowP (.slice a l c) → u.oneCell' = true := ⟨rfl, fun u hu => by
  simp only [rowP, List.mem_cons, List.not_mem_nil, or_false] at hu
  rcases hu with rfl | rfl | rfl | rfl | rfl | rfl | rfl | rfl <;> rfl⟩
theorem info_player : (Tryz.prog.info? 145).map (fun i => (i.zero, i.size, i.bytes)) = some (some (.agg #[.slice none 0 0, .nilIface, .int .i64 0, .int .i64 0, .int .i64 0, .int .i64 0, .int .i64 0, .int .i64 0]), 8, 88) := by kernel_rfl
theorem BG.next {w0 w w' : World} {gb p m k g C n i : Nat} {plan : List (List ActR)} {V : List Value} {pv pv' u : Value} (h : BG w0 w gb p m k g C n i plan V pv) (hu : AcR w w0.heap.size u ((plan.getD i []).filter (canR i))) (hg : w.grownBy w' pv.ownBlock) (ho : OwnG w' w0.heap.size 145 8 pv' (V.map rowP ++ [rowP u])) :
    BG w0 (w'.setCell ⟨gb, 5, none⟩ pv') gb p m k g C n (i + 1) plan (V ++ [u]) pv' := by
  have hob : ∀ {b : Nat} {t : TypeId} {cs : Array Value}, Blk w b t cs → t ≠ 145 → b ∉ pv.ownBlock.toList := fun {b t cs} hb ht hm => by
    rw [Option.mem_toList] at hm
    obtain ⟨cur, hc⟩ := h.pl.ty b hm
    exact absurd rfl (hb.apart hc ht)
  have hf1 : Fr pv.ownBlock.toList w w' := ⟨hg.os, hg.tape, hg.output, hg.size, fun k hk hn => hg.block k hk (fun e => hn (by simp [← e]))⟩
  have hf2 : Fr (gb :: pv.ownBlock.toList) w (w'.setCell ⟨gb, 5, none⟩ pv') := (hf1.mono (fun k hk => List.mem_cons_of_mem _ hk)).setCell (.inl (by simp)) pv'
  have hgm : Blk w' gb _ _ := h.gm.of_same (hf1.block gb h.gm.lt (hob h.gm (by decide)))
  obtain ⟨cs2, hgb, _⟩ := h.pe.mem.row.blk
  have no : ∀ {b : Nat}, b ≠ gb → b ∉ pv.ownBlock.toList → b ∉ gb :: pv.ownBlock.toList := fun {b} h1 h2 hm => by
    rcases List.mem_cons.1 hm with e | e
    · exact h1 e
    · exact h2 e
  have hac : ∀ {x : Value} {l : List ActR}, AcR w w0.heap.size x l → AcR (w'.setCell ⟨gb, 5, none⟩ pv') w0.heap.size x l := fun hx => hx.fr hf2 (fun g0 cur hg0 => no (hg0.apart h.gm (by decide)) (hob hg0 (by decide)))
  refine ⟨hgm.put 5 pv', h.pe.fr hf2 (no (h.pe.blk.apart h.gm (by decide)) (hob h.pe.blk (by decide))) (no (h.pe.mem.blk.apart h.gm (by decide)) (hob h.pe.mem.blk (by decide))) (no (h.pe.clk.apart h.gm (by decide)) (hob h.pe.clk (by decide))) (no (hgb.apart h.gm (by decide)) (hob hgb (by decide))), ?_, by rw [List.length_append, h.len]; rfl, fun j hj => ?_, h.lb, below_of_fr h.b hf2 (fun y hy => ?_)⟩
  · rw [List.map_append]
    refine ho.same (fun b hb => Below.heap_setCell _ _ _ _ (fun e => ?_))
    subst e
    obtain ⟨cur, hc⟩ := ho.ty b hb
    exact absurd rfl (hgm.apart hc (by decide))
  · rw [List.getD_eq_getElem?_getD]
    by_cases e : j < i
    · rw [List.getElem?_append_left (by rw [h.len]; exact e), ← List.getD_eq_getElem?_getD]
      exact hac (h.ac j e)
    · obtain rfl : j = i := by omega
      rw [List.getElem?_append_right (by rw [h.len]; exact Nat.le_refl _), h.len, Nat.sub_self]
      exact hac hu
  · rcases List.mem_cons.1 hy with e | e
    · rw [e]; exact h.lb.1
    · rw [Option.mem_toList] at e
      exact (h.pl.lt y e).1
abbrev BQ (q C : Nat) (u : World) : Prop := Blk u q 91 #[.int .i64 0, .int .i64 1, .int .i64 2, .int .i64 C]
theorem BQ.range {q C : Nat} {u : World} (h : BQ q C u) : u.rangeAt q 0 [.int .i64 0, .int .i64 1, .int .i64 2, .int .i64 C] := fun j v hv => by
  have hj : j < 4 := (List.getElem?_eq_some_iff.1 hv).1
  match j, hj with
  | 0, _ => have := h.at_ 0; rw [← hv]; exact this
  | 1, _ => have := h.at_ 1; rw [← hv]; exact this
  | 2, _ => have := h.at_ 2; rw [← hv]; exact this
  | 3, _ => have := h.at_ 3; rw [← hv]; exact this
set_option maxRecDepth 100000 in
set_option maxHeartbeats 8000000 in
theorem begin_any {w : World} {a : Option Addr} {N c C : Nat} {plan : List (List ActR)} (h : InPl w a plan) (hN : plan.length = N) (hs : N ≤ 900000) (hC : (C : Int) ≤ 100) :
    Calls Tryz.prog 62 #[.int .i64 C, .slice a N c] w fun e w' => ∃ gb p m k g V pv, e = .returned (.pointer (some ⟨gb, 0, none⟩)) ∧ BG w w' gb p m k g C (sizeS (2 + C)) N plan V pv := by
  have HO := Lib.hid (And.intro h (And.intro hN hs))
  have hNi : (N : Int) ≤ 900000 := by omega
  clear h hN hs
  go_enter Tryz.func62, Tryz.ntmps62
  go_upto_region 2 with fail
  have HQ := Lib.hid (show BQ w.heap.size C (w.alloc (.cells #[.int .i64 0, .int .i64 1, .int .i64 2, .int .i64 C] 91)) from Blk.made ..)
  have HB := Lib.hid (below_one w (.cells #[.int .i64 0, .int .i64 1, .int .i64 2, .int .i64 C] 91))
  generalize w.alloc (.cells #[.int .i64 0, .int .i64 1, .int .i64 2, .int .i64 C] 91) = w1 at *
  obtain ⟨q, hq⟩ : ∃ q, w.heap.size = q := ⟨_, rfl⟩
  rw [hq] at HQ ⊢
  go_cut [6] from 9 to 19 (fun v wx => ∃ gb p m k g pv, v = .pointer (some ⟨gb, 0, none⟩) ∧ BG w wx gb p m k g C (sizeS (2 + C)) 0 plan [] pv)
  case first =>
    refine wp_region_held_drew (S := (BQ q C)) (by kernel_rfl) (HQ.out.below (below_drew (Below.refl _ _))) (fun _ => ?_)
    change wpAnyH _ _ _ _ _ 10 #[false, false, false, false, false, false, false, false, false, false] _ (World.drew _)
    have HWR := Lib.hid (show IntKind.i64.wrap (2 + (C : Int)) = 2 + C from by rw [IntKind.wrap_i64]; omega)
    have HB1 := Lib.hid (HB.out.trans (below_drew (Below.refl _ _)))
    have HQW := Lib.hid (HQ.out.below (below_drew (Below.refl _ _)) : BQ q C w1.drew)
    clear HQ HB
    generalize w1.drew = W at *
    refine wpAnyH_take (i := 0) (v := .pointer (some ⟨q, 2, none⟩)) rfl (by kernel_rfl) (by kernel_rfl) (by kernel_rfl) (fun _ _ _ h => h) (Or.inl ⟨by rfl, fun u hu => by (go_simp)⟩) HQW.out ?_
    simp only [List.getElem_toArray, List.getElem_cons_succ, List.getElem_cons_zero, Act.put, List.setIfInBounds_toArray, List.set_cons_zero, List.set_cons_succ]
    refine wpAnyH_take (i := 1) (v := .int .i64 2) rfl (by kernel_rfl) (by kernel_rfl) (by kernel_rfl) (fun _ _ _ h => h) (Or.inl ⟨by rfl, fun u hu => by (have c2 := hu.at_ 2; have c3 := hu.at_ 3; go_simp)⟩) HQW.out ?_
    simp only [List.getElem_toArray, List.getElem_cons_succ, List.getElem_cons_zero, Act.put, List.setIfInBounds_toArray, List.set_cons_zero, List.set_cons_succ]
    refine wpAnyH_take (i := 2) (v := .pointer (some ⟨q, 3, none⟩)) rfl (by kernel_rfl) (by kernel_rfl) (by kernel_rfl) (fun _ _ _ h => h) (Or.inl ⟨by rfl, fun u hu => by (go_simp)⟩) HQW.out ?_
    simp only [List.getElem_toArray, List.getElem_cons_succ, List.getElem_cons_zero, Act.put, List.setIfInBounds_toArray, List.set_cons_zero, List.set_cons_succ]
    refine wpAnyH_take (i := 3) (v := .int .i64 C) rfl (by kernel_rfl) (by kernel_rfl) (by kernel_rfl) (fun _ _ _ h => h) (Or.inl ⟨by rfl, fun u hu => by (have c2 := hu.at_ 2; have c3 := hu.at_ 3; go_simp)⟩) HQW.out ?_
    simp only [List.getElem_toArray, List.getElem_cons_succ, List.getElem_cons_zero, Act.put, List.setIfInBounds_toArray, List.set_cons_zero, List.set_cons_succ]
    refine wpAnyH_take (i := 4) (v := .int .i64 (2 + C)) rfl (by kernel_rfl) (by kernel_rfl) (by kernel_rfl) (fun _ _ _ h => h) (Or.inl ⟨by rfl, fun u hu => by (have hw := HWR.out; go_simp)⟩) HQW.out ?_
    simp only [List.getElem_toArray, List.getElem_cons_succ, List.getElem_cons_zero, Act.put, List.setIfInBounds_toArray, List.set_cons_zero, List.set_cons_succ]
    refine wpAnyH_take (i := 6) (v := .agg #[.int .i64 0, .int .i64 1, .int .i64 2, .int .i64 C]) rfl (by kernel_rfl) (by kernel_rfl) (by kernel_rfl) (fun _ _ _ h => h) (yieldsIf_load_mid (by kernel_rfl) _ _ rfl q 0 (by kernel_rfl) [.int .i64 0, .int .i64 1, .int .i64 2, .int .i64 C] _ (fun u hu => BQ.range hu) Tryz.underlying91 rfl (by kernel_rfl)) HQW.out ?_
    simp only [List.getElem_toArray, List.getElem_cons_succ, List.getElem_cons_zero, Act.put, List.setIfInBounds_toArray, List.set_cons_zero, List.set_cons_succ]
    refine wpAnyH_ready (rs := [5]) (by kernel_rfl) (by simp) ?_
    refine AllReadyH.cons rfl (fun KK hK => ?_) AllReadyH.nil
    go_simp
    go_at_call 49
    (with_reducible refine (pbare_any (2 + C) W).mono ?_)
    rintro e w2 ⟨p, m, k, g, rfl, hpe, hb2, hl⟩
    have HQX := Lib.hid (HQW.out.below hb2 : BQ q C w2)
    have HB2 := Lib.hid (HB1.out.trans (hb2.mono HB1.out.size))
    have HE := Lib.hid (And.intro hpe hl)
    have HLW := Lib.hid (HB1.out.size)
    clear hpe hb2 hl HB1 HQW
    refine hK.out _ _ HQX.out (fun _ => ?_)
    clear hK KK
    simp only [List.setIfInBounds_toArray, List.set_cons_zero, List.set_cons_succ]
    refine wpAnyH_take (i := 7) (v := .agg #[.pointer (some ⟨p, 0, none⟩), .int .i64 0, .int .i64 1, .int .i64 2, .int .i64 C, .slice none 0 0, .int .i64 0, .slice none 0 0]) rfl (by kernel_rfl) (by kernel_rfl) (by kernel_rfl) (fun _ _ _ h => h) (Or.inl ⟨by rfl, fun u hu => by (go_simp)⟩) HQX.out ?_
    simp only [List.getElem_toArray, List.getElem_cons_succ, List.getElem_cons_zero, Act.put, List.setIfInBounds_toArray, List.set_cons_zero, List.set_cons_succ]
    refine wpAnyH_ready (rs := [8]) (by kernel_rfl) (by simp) ?_
    refine AllReadyH.cons rfl (fun KK hK => ?_) AllReadyH.nil
    go_simp
    have HBG := Lib.hid (show BG w (w2.alloc (.cells #[.pointer (some ⟨p, 0, none⟩), .int .i64 0, .int .i64 1, .int .i64 2, .int .i64 C, .slice none 0 0, .int .i64 0, .slice none 0 0] 143)) w2.heap.size p m k g C (sizeS (2 + C)) 0 plan [] (.slice none 0 0) from
      ⟨Blk.made .., HE.out.1.below (below_one ..), OwnG.nil .., rfl, fun j hj => absurd hj (by omega), ⟨HB2.out.size, Nat.le_trans HLW.out HE.out.2.1, Nat.le_trans HLW.out HE.out.2.2.1, Nat.le_trans HLW.out HE.out.2.2.2.1, Nat.le_trans HLW.out HE.out.2.2.2.2⟩, HB2.out.trans ((below_one ..).mono HB2.out.size)⟩)
    have HQY := Lib.hid (HQX.out.below (below_one ..) : BQ q C (w2.alloc (.cells #[.pointer (some ⟨p, 0, none⟩), .int .i64 0, .int .i64 1, .int .i64 2, .int .i64 C, .slice none 0 0, .int .i64 0, .slice none 0 0] 143)))
    clear HE HB2 HLW HQX
    refine hK.out _ _ HQY.out (fun _ => ?_)
    clear hK KK
    simp only [List.setIfInBounds_toArray, List.set_cons_zero, List.set_cons_succ]
    generalize w2.alloc (.cells #[.pointer (some ⟨p, 0, none⟩), .int .i64 0, .int .i64 1, .int .i64 2, .int .i64 C, .slice none 0 0, .int .i64 0, .slice none 0 0] 143) = w3 at *
    generalize w2.heap.size = gb at *
    refine wpAnyH_take (i := 9) (v := .pointer (some ⟨gb, 0, none⟩)) rfl (by kernel_rfl) (by kernel_rfl) (by kernel_rfl) (fun _ _ _ h => h) (Or.inl ⟨by rfl, fun u hu => by (go_simp)⟩) HQY.out ?_
    simp only [List.getElem_toArray, List.getElem_cons_succ, List.getElem_cons_zero, Act.put, List.setIfInBounds_toArray, List.set_cons_zero, List.set_cons_succ]
    refine wpAnyH_done (by kernel_rfl) ?_ _
    go_wp2_with fail
    go_meet
    case rel => exact ⟨gb, p, m, k, g, _, rfl, HBG.out⟩
  case rest =>
  obtain ⟨gb, p, m, k, g, pv0, rfl, hG⟩ := hcut
  have HG := Lib.hid hG
  clear hG HQ HB hq w1
  go_wp2_with fail
  go_loopw [22] (fun x wr => ∃ (j : Nat) (V : List Value) (pv : Value), x = .int .i64 j ∧ j ≤ N ∧ BG w wr gb p m k g C (sizeS (2 + C)) j plan V pv) (fun x _ => N - (intOf x).toNat)
  case atStart => exact ⟨0, [], pv0, rfl, by omega, HG.out⟩
  case round =>
    obtain ⟨j, V, pv, rfl, hj, hG⟩ := hrel
    by_cases hlt : j < N
    case neg =>
      have hjN : j = N := by omega
      subst hjN
      have HR := Lib.hid hG
      clear hG
      have hf2 : decide ((j : Int) < (j : Int)) = false := by simp
      go_wp2
      go_ret
      exact ⟨gb, p, m, k, g, V, pv, rfl, HR.out⟩
    obtain ⟨x, va, vc, hax, hxb, hcx, hin, hnl⟩ := HO.out.1 j (by rw [HO.out.2.1]; exact hlt)
    subst hax
    have hlt2 : (j : Int) < (N : Int) := by omega
    have hj0 : (0 : Int) ≤ (j : Int) := by omega
    obtain ⟨n, hn⟩ : ∃ n, (plan.getD j []).length = n := ⟨_, rfl⟩
    rw [hn] at hcx hnl
    have HX := Lib.hid (And.intro hin (And.intro hn (And.intro hnl hlt)))
    have e0 : wr.cell? (x.add j) = some (.slice va n vc) := by rw [hG.b.cell (p := x.add j) (by unfold Addr.add; split <;> exact hxb)]; exact hcx
    have HG := Lib.hid hG
    clear hG hin hn hcx hxb hnl
    go_upto_region 6 with fail
    obtain ⟨pa, la, pc, hpv, hpc⟩ : ∃ pa la pc, pv = .slice pa la pc ∧ la ≤ pc := by
      obtain ⟨pa, pc, e, hc⟩ := HG.out.pl.form
      exact ⟨pa, _, pc, e, hc⟩
    subst hpv
    refine wp_region_held_drew (S := (fun _ => True)) (by kernel_rfl) trivial (fun _ => ?_)
    change wpAnyH _ _ _ _ _ 14 #[false, false, false, false, false, false, false, false, false, false, false, false, false, false] _ (World.drew _)
    have HG1 := Lib.hid (HG.out.below (below_drew (Below.refl _ _)))
    have HX1 := Lib.hid (HX.out.1.below (HG.out.b.trans ((below_drew (Below.refl _ _)).mono HG.out.b.size)))
    clear e0 HG
    generalize wr.drew = W1 at *
    refine wpAnyH_take (i := 0) (v := .pointer (some ⟨gb, 0, none⟩)) rfl (by kernel_rfl) (by kernel_rfl) (by kernel_rfl) (fun _ _ _ h => h) (Or.inl ⟨by rfl, fun u hu => by (go_simp)⟩) trivial ?_
    simp only [List.getElem_toArray, List.getElem_cons_succ, List.getElem_cons_zero, Act.put, List.setIfInBounds_toArray, List.set_cons_zero, List.set_cons_succ]
    refine wpAnyH_take (i := 1) (v := .pointer (some ⟨gb, 0, none⟩)) rfl (by kernel_rfl) (by kernel_rfl) (by kernel_rfl) (fun _ _ _ h => h) (Or.inl ⟨by rfl, fun u hu => by (go_simp)⟩) trivial ?_
    simp only [List.getElem_toArray, List.getElem_cons_succ, List.getElem_cons_zero, Act.put, List.setIfInBounds_toArray, List.set_cons_zero, List.set_cons_succ]
    refine wpAnyH_take (i := 2) (v := .pointer (some ⟨gb, 0, none⟩)) rfl (by kernel_rfl) (by kernel_rfl) (by kernel_rfl) (fun _ _ _ h => h) (Or.inl ⟨by rfl, fun u hu => by (go_simp)⟩) trivial ?_
    simp only [List.getElem_toArray, List.getElem_cons_succ, List.getElem_cons_zero, Act.put, List.setIfInBounds_toArray, List.set_cons_zero, List.set_cons_succ]
    refine wpAnyH_take (i := 3) (v := .pointer (some ⟨gb, 5, none⟩)) rfl (by kernel_rfl) (by kernel_rfl) (by kernel_rfl) (fun _ _ _ h => h) (Or.inl ⟨by rfl, fun u hu => by (go_simp)⟩) trivial ?_
    simp only [List.getElem_toArray, List.getElem_cons_succ, List.getElem_cons_zero, Act.put, List.setIfInBounds_toArray, List.set_cons_zero, List.set_cons_succ]
    refine wpAnyH_take (i := 5) (v := .int .i64 j) rfl (by kernel_rfl) (by kernel_rfl) (by kernel_rfl) (fun _ _ _ h => h) (Or.inl ⟨by rfl, fun u hu => by (go_simp)⟩) trivial ?_
    simp only [List.getElem_toArray, List.getElem_cons_succ, List.getElem_cons_zero, Act.put, List.setIfInBounds_toArray, List.set_cons_zero, List.set_cons_succ]
    refine wpAnyH_take (i := 6) (v := .slice va n vc) rfl (by kernel_rfl) (by kernel_rfl) (by kernel_rfl) (fun _ _ _ h => h) (Or.inl ⟨by rfl, fun u hu => by (go_simp)⟩) trivial ?_
    simp only [List.getElem_toArray, List.getElem_cons_succ, List.getElem_cons_zero, Act.put, List.setIfInBounds_toArray, List.set_cons_zero, List.set_cons_succ]
    refine wpAnyH_ready (rs := [4, 7]) (by kernel_rfl) (by simp) ?_
    refine AllReadyH.cons rfl (fun KK hK => ?_) (AllReadyH.cons rfl (fun KK hK => ?_) AllReadyH.nil)
    · have c5 : W1.cell? ⟨gb, 5, none⟩ = some (.slice pa la pc) := HG1.out.gm.at_ 5
      go_simp
      refine hK.out _ _ trivial (fun _ => ?_)
      clear hK KK
      simp only [List.setIfInBounds_toArray, List.set_cons_zero, List.set_cons_succ]
      clear c5
      refine wpAnyH_ready (rs := [7]) (by kernel_rfl) (by simp) ?_
      refine AllReadyH.cons rfl (fun KK hK => ?_) AllReadyH.nil
      go_simp
      go_at_call 98
      (with_reducible refine (able_any j HX1.out (by rw [HX.out.2.1]) HX.out.2.2.1).mono ?_)
      rintro e W2 ⟨v2, rfl, hown, hb2⟩
      have HG2 := Lib.hid (HG1.out.below hb2)
      obtain ⟨a2, l2, c2, hv2, hc2⟩ : ∃ a2 l2 c2, v2 = .slice a2 l2 c2 ∧ l2 ≤ c2 := by
        obtain ⟨pa, pc, e, hc⟩ := hown.form
        exact ⟨pa, _, pc, e, hc⟩
      have HAC := Lib.hid (show AcR W2 w.heap.size v2 ((plan.getD j []).filter (canR j)) from AcR.of_own (hown.mono HG1.out.b.size))
      subst hv2
      clear hown hb2 hc2
      refine hK.out _ _ trivial (fun _ => ?_)
      clear hK KK
      simp only [List.setIfInBounds_toArray, List.set_cons_zero, List.set_cons_succ]
      refine wpAnyH_take (i := 8) (v := .agg #[.slice a2 l2 c2, .nilIface, .int .i64 0, .int .i64 0, .int .i64 0, .int .i64 0, .int .i64 0, .int .i64 0]) rfl (by kernel_rfl) (by kernel_rfl) (by kernel_rfl) (fun _ _ _ h => h) (Or.inl ⟨by rfl, fun u hu => by (go_simp)⟩) trivial ?_
      simp only [List.getElem_toArray, List.getElem_cons_succ, List.getElem_cons_zero, Act.put, List.setIfInBounds_toArray, List.set_cons_zero, List.set_cons_succ]
      refine wpAnyH_ready (rs := [9]) (by kernel_rfl) (by simp) ?_
      refine AllReadyH.cons rfl (fun KK hK => ?_) AllReadyH.nil
      go_simp
      have HG3 := Lib.hid (HG2.out.below (below_one W2 (.cells #[.slice a2 l2 c2, .nilIface, .int .i64 0, .int .i64 0, .int .i64 0, .int .i64 0, .int .i64 0, .int .i64 0] 145)))
      have HAC3 := Lib.hid (HAC.out.below (below_one W2 (.cells #[.slice a2 l2 c2, .nilIface, .int .i64 0, .int .i64 0, .int .i64 0, .int .i64 0, .int .i64 0, .int .i64 0] 145)))
      have HBK := Lib.hid (Blk.made W2 145 #[.slice a2 l2 c2, .nilIface, .int .i64 0, .int .i64 0, .int .i64 0, .int .i64 0, .int .i64 0, .int .i64 0])
      refine hK.out _ _ trivial (fun _ => ?_)
      clear hK KK
      simp only [List.setIfInBounds_toArray, List.set_cons_zero, List.set_cons_succ]
      generalize W2.alloc (.cells #[.slice a2 l2 c2, .nilIface, .int .i64 0, .int .i64 0, .int .i64 0, .int .i64 0, .int .i64 0, .int .i64 0] 145) = W3 at *
      generalize W2.heap.size = nb at *
      have HLEN := Lib.hid (show (V.map rowP).length + 1 ≤ 1000000 by rw [List.length_map, HG3.out.len]; have := HX.out.2.2.2; omega)
      refine wpAnyH_ready (rs := [10]) (by kernel_rfl) (by simp) ?_
      refine AllReadyH.cons rfl (fun KK hK => ?_) AllReadyH.nil
      refine wp_appG (v := .slice pa la pc) (R := V.map rowP) (r := rowP (.slice a2 l2 c2)) (base := w.heap.size) info_player rfl (by omega) (by omega) Tryz.underlying141 (.tmp 31) (.tmp 36) rfl rfl HG3.out.pl rfl (rowP_ok a2 l2 c2) (made_row1 HBK.out) HLEN.out HG3.out.b.size ?_
      intro v9 w9 hown hgr hv9
      obtain ⟨va9, l9, vc9, hv9e⟩ : ∃ a l c, v9 = .slice a l c := by
        obtain ⟨a, c, e, hc⟩ := hown.form
        exact ⟨a, _, c, e⟩
      have HR := Lib.hid (show BG w (w9.setCell ⟨gb, 5, none⟩ v9) gb p m k g C (sizeS (2 + C)) (j + 1) plan (V ++ [.slice a2 l2 c2]) v9 from HG3.out.next HAC3.out hgr hown)
      have HG9 := Lib.hid (show Blk w9 gb 143 _ from HG3.out.gm.of_same (hgr.block gb HG3.out.gm.lt (fun e => by obtain ⟨cur, hc⟩ := HG3.out.pl.ty gb e.symm; exact absurd rfl (HG3.out.gm.apart hc (by decide)))))
      subst hv9e
      clear hown hgr hv9
      refine hK.out _ _ trivial (fun _ => ?_)
      clear hK KK
      simp only [List.getElem_toArray, List.getElem_cons_succ, List.getElem_cons_zero, Act.put, List.setIfInBounds_toArray, List.set_cons_zero, List.set_cons_succ]
      refine wpAnyH_take (i := 11) (v := .pointer (some ⟨gb, 0, none⟩)) rfl (by kernel_rfl) (by kernel_rfl) (by kernel_rfl) (fun _ _ _ h => h) (Or.inl ⟨by rfl, fun u hu => by (go_simp)⟩) trivial ?_
      simp only [List.getElem_toArray, List.getElem_cons_succ, List.getElem_cons_zero, Act.put, List.setIfInBounds_toArray, List.set_cons_zero, List.set_cons_succ]
      refine wpAnyH_take (i := 12) (v := .pointer (some ⟨gb, 5, none⟩)) rfl (by kernel_rfl) (by kernel_rfl) (by kernel_rfl) (fun _ _ _ h => h) (Or.inl ⟨by rfl, fun u hu => by (go_simp)⟩) trivial ?_
      simp only [List.getElem_toArray, List.getElem_cons_succ, List.getElem_cons_zero, Act.put, List.setIfInBounds_toArray, List.set_cons_zero, List.set_cons_succ]
      refine wpAnyH_ready (rs := [13]) (by kernel_rfl) (by simp) ?_
      refine AllReadyH.cons rfl (fun KK hK => ?_) AllReadyH.nil
      have c5 : w9.cell? ⟨gb, 5, none⟩ = some (.slice pa la pc) := HG9.out.at_ 5
      have f5 := HG9.out.free 5
      go_simp
      refine hK.out _ _ trivial (fun _ => ?_)
      clear hK KK
      simp only [List.setIfInBounds_toArray, List.set_cons_zero, List.set_cons_succ]
      refine wpAnyH_done (by kernel_rfl) ?_ _
      go_wp2_with fail
      go_roundw
      case rel => exact ⟨j + 1, _, _, by rfl, by have := HX.out.2.2.2; omega, HR.out⟩
      case measure => simp only [intOf]; omega
    · go_simp
      go_at_call 98
      (with_reducible refine (able_any j HX1.out (by rw [HX.out.2.1]) HX.out.2.2.1).mono ?_)
      rintro e W2 ⟨v2, rfl, hown, hb2⟩
      have HG2 := Lib.hid (HG1.out.below hb2)
      obtain ⟨a2, l2, c2, hv2, hc2⟩ : ∃ a2 l2 c2, v2 = .slice a2 l2 c2 ∧ l2 ≤ c2 := by
        obtain ⟨pa, pc, e, hc⟩ := hown.form
        exact ⟨pa, _, pc, e, hc⟩
      have HAC := Lib.hid (show AcR W2 w.heap.size v2 ((plan.getD j []).filter (canR j)) from AcR.of_own (hown.mono HG1.out.b.size))
      subst hv2
      clear hown hb2 hc2
      refine hK.out _ _ trivial (fun _ => ?_)
      clear hK KK
      simp only [List.setIfInBounds_toArray, List.set_cons_zero, List.set_cons_succ]
      refine wpAnyH_take (i := 8) (v := .agg #[.slice a2 l2 c2, .nilIface, .int .i64 0, .int .i64 0, .int .i64 0, .int .i64 0, .int .i64 0, .int .i64 0]) rfl (by kernel_rfl) (by kernel_rfl) (by kernel_rfl) (fun _ _ _ h => h) (Or.inl ⟨by rfl, fun u hu => by (go_simp)⟩) trivial ?_
      simp only [List.getElem_toArray, List.getElem_cons_succ, List.getElem_cons_zero, Act.put, List.setIfInBounds_toArray, List.set_cons_zero, List.set_cons_succ]
      refine wpAnyH_ready (rs := [4, 9]) (by kernel_rfl) (by simp) ?_
      refine AllReadyH.cons rfl (fun KK hK => ?_) (AllReadyH.cons rfl (fun KK hK => ?_) AllReadyH.nil)
      · have c5 : W2.cell? ⟨gb, 5, none⟩ = some (.slice pa la pc) := HG2.out.gm.at_ 5
        go_simp
        refine hK.out _ _ trivial (fun _ => ?_)
        clear hK KK
        simp only [List.setIfInBounds_toArray, List.set_cons_zero, List.set_cons_succ]
        clear c5
        refine wpAnyH_ready (rs := [9]) (by kernel_rfl) (by simp) ?_
        refine AllReadyH.cons rfl (fun KK hK => ?_) AllReadyH.nil
        go_simp
        have HG3 := Lib.hid (HG2.out.below (below_one W2 (.cells #[.slice a2 l2 c2, .nilIface, .int .i64 0, .int .i64 0, .int .i64 0, .int .i64 0, .int .i64 0, .int .i64 0] 145)))
        have HAC3 := Lib.hid (HAC.out.below (below_one W2 (.cells #[.slice a2 l2 c2, .nilIface, .int .i64 0, .int .i64 0, .int .i64 0, .int .i64 0, .int .i64 0, .int .i64 0] 145)))
        have HBK := Lib.hid (Blk.made W2 145 #[.slice a2 l2 c2, .nilIface, .int .i64 0, .int .i64 0, .int .i64 0, .int .i64 0, .int .i64 0, .int .i64 0])
        refine hK.out _ _ trivial (fun _ => ?_)
        clear hK KK
        simp only [List.setIfInBounds_toArray, List.set_cons_zero, List.set_cons_succ]
        generalize W2.alloc (.cells #[.slice a2 l2 c2, .nilIface, .int .i64 0, .int .i64 0, .int .i64 0, .int .i64 0, .int .i64 0, .int .i64 0] 145) = W3 at *
        generalize W2.heap.size = nb at *
        have HLEN := Lib.hid (show (V.map rowP).length + 1 ≤ 1000000 by rw [List.length_map, HG3.out.len]; have := HX.out.2.2.2; omega)
        refine wpAnyH_ready (rs := [10]) (by kernel_rfl) (by simp) ?_
        refine AllReadyH.cons rfl (fun KK hK => ?_) AllReadyH.nil
        refine wp_appG (v := .slice pa la pc) (R := V.map rowP) (r := rowP (.slice a2 l2 c2)) (base := w.heap.size) info_player rfl (by omega) (by omega) Tryz.underlying141 (.tmp 31) (.tmp 36) rfl rfl HG3.out.pl rfl (rowP_ok a2 l2 c2) (made_row1 HBK.out) HLEN.out HG3.out.b.size ?_
        intro v9 w9 hown hgr hv9
        obtain ⟨va9, l9, vc9, hv9e⟩ : ∃ a l c, v9 = .slice a l c := by
          obtain ⟨a, c, e, hc⟩ := hown.form
          exact ⟨a, _, c, e⟩
        have HR := Lib.hid (show BG w (w9.setCell ⟨gb, 5, none⟩ v9) gb p m k g C (sizeS (2 + C)) (j + 1) plan (V ++ [.slice a2 l2 c2]) v9 from HG3.out.next HAC3.out hgr hown)
        have HG9 := Lib.hid (show Blk w9 gb 143 _ from HG3.out.gm.of_same (hgr.block gb HG3.out.gm.lt (fun e => by obtain ⟨cur, hc⟩ := HG3.out.pl.ty gb e.symm; exact absurd rfl (HG3.out.gm.apart hc (by decide)))))
        subst hv9e
        clear hown hgr hv9
        refine hK.out _ _ trivial (fun _ => ?_)
        clear hK KK
        simp only [List.getElem_toArray, List.getElem_cons_succ, List.getElem_cons_zero, Act.put, List.setIfInBounds_toArray, List.set_cons_zero, List.set_cons_succ]
        refine wpAnyH_take (i := 11) (v := .pointer (some ⟨gb, 0, none⟩)) rfl (by kernel_rfl) (by kernel_rfl) (by kernel_rfl) (fun _ _ _ h => h) (Or.inl ⟨by rfl, fun u hu => by (go_simp)⟩) trivial ?_
        simp only [List.getElem_toArray, List.getElem_cons_succ, List.getElem_cons_zero, Act.put, List.setIfInBounds_toArray, List.set_cons_zero, List.set_cons_succ]
        refine wpAnyH_take (i := 12) (v := .pointer (some ⟨gb, 5, none⟩)) rfl (by kernel_rfl) (by kernel_rfl) (by kernel_rfl) (fun _ _ _ h => h) (Or.inl ⟨by rfl, fun u hu => by (go_simp)⟩) trivial ?_
        simp only [List.getElem_toArray, List.getElem_cons_succ, List.getElem_cons_zero, Act.put, List.setIfInBounds_toArray, List.set_cons_zero, List.set_cons_succ]
        refine wpAnyH_ready (rs := [13]) (by kernel_rfl) (by simp) ?_
        refine AllReadyH.cons rfl (fun KK hK => ?_) AllReadyH.nil
        have c5 : w9.cell? ⟨gb, 5, none⟩ = some (.slice pa la pc) := HG9.out.at_ 5
        have f5 := HG9.out.free 5
        go_simp
        refine hK.out _ _ trivial (fun _ => ?_)
        clear hK KK
        simp only [List.setIfInBounds_toArray, List.set_cons_zero, List.set_cons_succ]
        refine wpAnyH_done (by kernel_rfl) ?_ _
        go_wp2_with fail
        go_roundw
        case rel => exact ⟨j + 1, _, _, by rfl, by have := HX.out.2.2.2; omega, HR.out⟩
        case measure => simp only [intOf]; omega
      · go_simp
        have HG3 := Lib.hid (HG2.out.below (below_one W2 (.cells #[.slice a2 l2 c2, .nilIface, .int .i64 0, .int .i64 0, .int .i64 0, .int .i64 0, .int .i64 0, .int .i64 0] 145)))
        have HAC3 := Lib.hid (HAC.out.below (below_one W2 (.cells #[.slice a2 l2 c2, .nilIface, .int .i64 0, .int .i64 0, .int .i64 0, .int .i64 0, .int .i64 0, .int .i64 0] 145)))
        have HBK := Lib.hid (Blk.made W2 145 #[.slice a2 l2 c2, .nilIface, .int .i64 0, .int .i64 0, .int .i64 0, .int .i64 0, .int .i64 0, .int .i64 0])
        refine hK.out _ _ trivial (fun _ => ?_)
        clear hK KK
        simp only [List.setIfInBounds_toArray, List.set_cons_zero, List.set_cons_succ]
        generalize W2.alloc (.cells #[.slice a2 l2 c2, .nilIface, .int .i64 0, .int .i64 0, .int .i64 0, .int .i64 0, .int .i64 0, .int .i64 0] 145) = W3 at *
        generalize W2.heap.size = nb at *
        refine wpAnyH_ready (rs := [4]) (by kernel_rfl) (by simp) ?_
        refine AllReadyH.cons rfl (fun KK hK => ?_) AllReadyH.nil
        have c5 : W3.cell? ⟨gb, 5, none⟩ = some (.slice pa la pc) := HG3.out.gm.at_ 5
        go_simp
        refine hK.out _ _ trivial (fun _ => ?_)
        clear hK KK
        simp only [List.setIfInBounds_toArray, List.set_cons_zero, List.set_cons_succ]
        clear c5
        have HLEN := Lib.hid (show (V.map rowP).length + 1 ≤ 1000000 by rw [List.length_map, HG3.out.len]; have := HX.out.2.2.2; omega)
        refine wpAnyH_ready (rs := [10]) (by kernel_rfl) (by simp) ?_
        refine AllReadyH.cons rfl (fun KK hK => ?_) AllReadyH.nil
        refine wp_appG (v := .slice pa la pc) (R := V.map rowP) (r := rowP (.slice a2 l2 c2)) (base := w.heap.size) info_player rfl (by omega) (by omega) Tryz.underlying141 (.tmp 31) (.tmp 36) rfl rfl HG3.out.pl rfl (rowP_ok a2 l2 c2) (made_row1 HBK.out) HLEN.out HG3.out.b.size ?_
        intro v9 w9 hown hgr hv9
        obtain ⟨va9, l9, vc9, hv9e⟩ : ∃ a l c, v9 = .slice a l c := by
          obtain ⟨a, c, e, hc⟩ := hown.form
          exact ⟨a, _, c, e⟩
        have HR := Lib.hid (show BG w (w9.setCell ⟨gb, 5, none⟩ v9) gb p m k g C (sizeS (2 + C)) (j + 1) plan (V ++ [.slice a2 l2 c2]) v9 from HG3.out.next HAC3.out hgr hown)
        have HG9 := Lib.hid (show Blk w9 gb 143 _ from HG3.out.gm.of_same (hgr.block gb HG3.out.gm.lt (fun e => by obtain ⟨cur, hc⟩ := HG3.out.pl.ty gb e.symm; exact absurd rfl (HG3.out.gm.apart hc (by decide)))))
        subst hv9e
        clear hown hgr hv9
        refine hK.out _ _ trivial (fun _ => ?_)
        clear hK KK
        simp only [List.getElem_toArray, List.getElem_cons_succ, List.getElem_cons_zero, Act.put, List.setIfInBounds_toArray, List.set_cons_zero, List.set_cons_succ]
        refine wpAnyH_take (i := 11) (v := .pointer (some ⟨gb, 0, none⟩)) rfl (by kernel_rfl) (by kernel_rfl) (by kernel_rfl) (fun _ _ _ h => h) (Or.inl ⟨by rfl, fun u hu => by (go_simp)⟩) trivial ?_
        simp only [List.getElem_toArray, List.getElem_cons_succ, List.getElem_cons_zero, Act.put, List.setIfInBounds_toArray, List.set_cons_zero, List.set_cons_succ]
        refine wpAnyH_take (i := 12) (v := .pointer (some ⟨gb, 5, none⟩)) rfl (by kernel_rfl) (by kernel_rfl) (by kernel_rfl) (fun _ _ _ h => h) (Or.inl ⟨by rfl, fun u hu => by (go_simp)⟩) trivial ?_
        simp only [List.getElem_toArray, List.getElem_cons_succ, List.getElem_cons_zero, Act.put, List.setIfInBounds_toArray, List.set_cons_zero, List.set_cons_succ]
        refine wpAnyH_ready (rs := [13]) (by kernel_rfl) (by simp) ?_
        refine AllReadyH.cons rfl (fun KK hK => ?_) AllReadyH.nil
        have c5 : w9.cell? ⟨gb, 5, none⟩ = some (.slice pa la pc) := HG9.out.at_ 5
        have f5 := HG9.out.free 5
        go_simp
        refine hK.out _ _ trivial (fun _ => ?_)
        clear hK KK
        simp only [List.setIfInBounds_toArray, List.set_cons_zero, List.set_cons_succ]
        refine wpAnyH_done (by kernel_rfl) ?_ _
        go_wp2_with fail
        go_roundw
        case rel => exact ⟨j + 1, _, _, by rfl, by have := HX.out.2.2.2; omega, HR.out⟩
        case measure => simp only [intOf]; omega
end Go.Proofs.YtjehiekmlbeaeaaGreat
