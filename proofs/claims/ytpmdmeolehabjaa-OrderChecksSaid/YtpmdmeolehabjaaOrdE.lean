/-
  The program's package order: tasks and Left.
-/
import Derived.Test.YtpmdmeolehabjaaOrdD
import Derived.Test.YtpmdmeolehabjaaOwnI
namespace Go.Proofs.Ytpmdmeolehabjaa
open Go Go.RowKit
set_option linter.unusedSimpArgs false
set_option linter.unusedVariables false

theorem own_apart {w : World} {base : Nat} {t : TypeId} {s : Nat} {v : Value} {n : Nat} {vs : List Value} (h : w.ownsRow base t s v n vs) {g : Nat} {cs : Array Value} {t' : TypeId} {fr : Nat × Nat} (hg : w.heap[g]? = some (Obj.cells cs t' fr)) (hne : t ≠ t') : ∀ k, v.ownBlock = some k → k ≠ g := by
  intro k hk e
  subst e
  rcases h.2 with ⟨rfl, _⟩ | ⟨g2, cap, cur, rfl, _, hg2, _⟩
  · simp [Value.ownBlock] at hk
  · simp [Value.ownBlock] at hk
    subst hk
    rw [hg2] at hg
    simp only [Option.some.injEq, Obj.cells.injEq] at hg
    exact hne hg.2.1
theorem own_keep {w w' : World} {base : Nat} {t : TypeId} {s : Nat} {v : Value} {n : Nat} {vs : List Value} (h : w.ownsRow base t s v n vs) (hk : ∀ k, v.ownBlock = some k → w'.heap[k]? = w.heap[k]?) : w'.ownsRow base t s v n vs := by
  refine ⟨h.1, ?_⟩
  rcases h.2 with h4 | ⟨g, cap, cur, rfl, h4, hg, rest⟩
  · exact .inl h4
  · exact .inr ⟨g, cap, cur, rfl, h4, (hk g rfl).trans hg, rest⟩
theorem own_low {w : World} {base b : Nat} {t : TypeId} {s : Nat} {v : Value} {n : Nat} {vs : List Value} (h : w.ownsRow base t s v n vs) (hb : b ≤ base) : w.ownsRow b t s v n vs := by
  refine ⟨h.1, ?_⟩
  rcases h.2 with h4 | ⟨g, cap, cur, rfl, h4, rest⟩
  · exact .inl h4
  · exact .inr ⟨g, cap, cur, rfl, Nat.le_trans hb h4, rest⟩
theorem tskO_len (l : List KO) : tskO l.length l = if l = [] then [] else (l.getD (lstO l) zk).t :: tskO (l.eraseIdx (lstO l)).length (l.eraseIdx (lstO l)) := by
  cases l with
  | nil => rfl
  | cons x l =>
    rw [if_neg (by simp)]
    show tskO (l.length + 1) (x :: l) = _
    have h : ((x :: l).eraseIdx (lstO (x :: l))).length = l.length := by
      rw [List.length_eraseIdx_of_lt (lstO_lt (by simp))]
      simp
    rw [h]
    rfl
set_option maxHeartbeats 4000000 in
theorem tasks_any {w : World} {B x : Nat} {v : Value} {k : Con} (h : CT w B x v k) (hm : k.ks.length ≤ 1000) :
    Calls Try.prog 22 #[.pointer (some ⟨x, 0, none⟩)] w fun e w' => ∃ u, e = .returned u ∧ OwnI w' w.heap.size u (tskO k.ks.length k.ks) ∧ Fr (x :: v.ownBlock.toList) w w' := by
  have H := Lib.hid h
  have HM := Lib.hid hm
  clear h hm
  go_enter Try.func22, Try.ntmps22
  go_wp2_with fail
  go_loopw [3] (fun u wr => ∃ (v' : Value) (q : Con) (out : List Int), CT wr B x v' q ∧ OwnI wr w.heap.size u out ∧ out ++ tskO q.ks.length q.ks = tskO k.ks.length k.ks ∧ q.ks.length + out.length ≤ 1000 ∧ Fr (x :: v.ownBlock.toList) w wr ∧ (∀ b, v'.ownBlock = some b → v.ownBlock = some b ∨ w.heap.size ≤ b)) (fun _ wr => match wr.cell? ⟨x, 0, none⟩ with | some (.slice _ n _) => n | _ => 0)
  case atStart => exact ⟨v, k, [], H.out, OwnI.nil _ _, rfl, by simpa using HM.out, Fr.refl _ _, fun b hb => .inl hb⟩
  case round =>
    obtain ⟨v', q, out, hct, hown, htk, hlen, hfr, hv⟩ := hrel
    have HC := Lib.hid hct
    have HO := Lib.hid hown
    have HT := Lib.hid htk
    have HL := Lib.hid hlen
    have HF := Lib.hid hfr
    have HV := Lib.hid hv
    obtain ⟨ua, uc, rfl, _⟩ := hown.form
    obtain ⟨a, cap, hv', hc, hcell⟩ := hct.form
    have HVF := Lib.hid hv'
    have x0 : wr.cell? ⟨x, 0, none⟩ = some (.slice a q.ks.length cap) := by rw [← hv']; exact hct.blk.at_ 0
    clear hct hown htk hlen hfr hv hv'
    by_cases hq : 0 < q.ks.length
    · have d0 : decide (0 < (q.ks.length : Int)) = true := decide_eq_true (by omega)
      have d1 : decide (0 < q.ks.length) = true := decide_eq_true hq
      have hls := Lib.hid (lstO_any HC.out (by have := HL.out; omega))
      have hlt := lstO_lt hq
      obtain ⟨g, rfl, c0, c1, c2⟩ := hcell _ hlt
      have hgl : g < wr.heap.size := World.block_lt_of_cell? _ _ c0
      have HTS := Lib.hid (show tskO q.ks.length q.ks = (q.ks.getD (lstO q.ks) zk).t :: tskO (q.ks.eraseIdx (lstO q.ks)).length (q.ks.eraseIdx (lstO q.ks)) by rw [tskO_len, if_neg (by intro e; rw [e] at hq; exact absurd hq (by decide))])
      obtain ⟨J, hJ⟩ : ∃ J, lstO q.ks = J := ⟨_, rfl⟩
      rw [hJ] at hls hlt c0 c1 c2 HTS
      obtain ⟨U, hU⟩ : ∃ U, q.ks.getD J zk = U := ⟨_, rfl⟩
      rw [hU] at c0 c1 c2 HTS
      obtain ⟨n, hN⟩ : ∃ n, q.ks.length = n := ⟨_, rfl⟩
      have HN := Lib.hid hN
      have HLT := Lib.hid hlt
      rw [hN] at hlt x0 hq d0 d1 hc
      have HX := Lib.hid x0
      have HC2 := Lib.hid c2
      have hxl : x < wr.heap.size := HC.out.blk.lt
      have hn1000 : n ≤ 1000 := by have := HL.out; omega
      have hJ1000 : J ≤ 1000 := by omega
      have j0 : (0 : Int) ≤ (J : Int) := by omega
      have j1 : (J : Int) < (n : Int) := by omega
      clear hcell c0 c1 hJ hU hN
      go_wp2_with fail
      (with_reducible refine hls.out.mono ?_)
      rintro e w1 ⟨rfl, hb⟩
      have HB := Lib.hid hb
      have O1 := Lib.hid (show OwnI (w1.alloc (.cells #[.int .i64 U.t] 3)) w.heap.size (.slice ua out.length uc) out from (HO.out.below hb).alloc _)
      have hn9 : out.length + 1 ≤ 1000000 := by have := HL.out; omega
      have hbw : w.heap.size ≤ (w1.alloc (.cells #[.int .i64 U.t] 3)).heap.size := by have := HF.out.size; have := hb.size; have := (below_one w1 (.cells #[.int .i64 U.t] 3)).size; omega
      clear x0 c2 hb hls
      have x0 := (HB.out.cell (p := ⟨x, 0, none⟩) hxl).trans HX.out
      have c2 := (HB.out.cell (p := ⟨g, J * 3 + 2, none⟩) hgl).trans HC2.out
      go_wp2_with
        (at_builtin
         refine wpList_appI rfl _ _ rfl rfl O1.out (ns := [U.t]) rfl rfl (ints_new w1 [U.t]) hn9 hbw ?_
         intro v8 w8 hown hgr
         have hb8 := below_one w1 (.cells #[.int .i64 U.t] 3)
         have hf8 : Fr (Value.slice ua out.length uc).ownBlock.toList w1 w8 := ((Fr.refl _ w1).alloc _).trans ⟨hgr.os, hgr.tape, hgr.output, hgr.size, fun b hb hn => hgr.block b hb (fun e => hn (by rw [Option.mem_toList]; exact e.symm))⟩
         have hct1 := HC.out.below HB.out
         have hct8 : CT w8 B x v' q := hct1.fr hf8 (fun hm => by
           rw [Option.mem_toList] at hm
           exact own_apart (HO.out.below HB.out) hct1.blk (by decide) x hm rfl) (fun b hb hm => by
           rw [Option.mem_toList] at hm
           obtain ⟨cur, hc⟩ := hct1.own.ty b hb
           exact own_apart (HO.out.below HB.out) hc (by decide) b hm rfl)
         have HF8 := Lib.hid hf8
         have HC8 := Lib.hid hct8
         have HO8 := Lib.hid hown
         obtain ⟨u8, uc8, rfl, _⟩ := hown.form
         have y0 : w8.cell? ⟨x, 0, none⟩ = some (.slice (some ⟨g, 0, none⟩) n cap) := by have := hct8.blk.at_ 0; rw [HVF.out, HN.out] at this; exact this
         have y0f := hct8.blk.free 0
         clear hb8 hf8 hct1 hct8 hown hgr x0 c2)
      have hD := delete_any (i := J) HC8.out.own (by rw [List.length_map]; exact HLT.out) (by rw [List.length_map]; have := HL.out; omega) (j := (J : Int) + 1) rfl
      rw [List.length_map, HVF.out, HN.out] at hD
      (with_reducible refine hD.mono ?_)
      rintro e w9 ⟨g', cap', e', rfl, hown9, hf9⟩
      simp only [Value.slice.injEq, Option.some.injEq, Addr.mk.injEq, and_true, true_and] at e'
      obtain ⟨eg, ec⟩ := e'
      subst eg
      subst ec
      have hfb : Fr v'.ownBlock.toList w8 w9 := by rw [HVF.out]; exact hf9
      obtain ⟨hchg, k0, k0f, k1⟩ := HC8.out.put (ks' := q.ks.eraseIdx J) hfb (by rw [erase_map] at hown9; exact hown9) (fun b hb => .inl (by rw [HVF.out]; exact hb))
      rw [HVF.out, HN.out] at k0
      have HCH := Lib.hid hchg
      have HFB := Lib.hid hfb
      clear hD hown9 hf9 hfb hchg y0 y0f
      go_wp2
      go_roundw
      case rel =>
        obtain ⟨v2, q1, q2, q3⟩ := HCH.out
        have hS : ∀ b, b ∈ x :: v'.ownBlock.toList → b ∈ x :: v.ownBlock.toList ∨ w.heap.size ≤ b := fun b hb => by
          simp only [List.mem_cons, Option.mem_toList] at hb ⊢
          rcases hb with hb | hb
          · exact .inl (.inl hb)
          · exact (HV.out b hb).imp .inr id
        have hw8 : Fr (x :: v.ownBlock.toList) w w8 := Fr.drop (HF.out.trans (Fr.old HB.out)) HF8.out (fun b hb => .inr (by
          rw [Option.mem_toList] at hb
          exact ((HO.out.below HB.out).lt b hb).1))
        refine ⟨v2, ⟨q.ks.eraseIdx J, q.n⟩, out ++ [U.t], q1, ?_, ?_, ?_, Fr.drop hw8 q2 hS, fun b hb => ?_⟩
        · have := own_keep HO8.out (fun b hb => q2.block b (HO8.out.lt b hb).2 (fun hm => by
            simp only [List.mem_cons, Option.mem_toList] at hm
            rcases hm with hm | hm
            · exact own_apart HO8.out HC8.out.blk (by decide) b hb hm
            · obtain ⟨cur, hc⟩ := HC8.out.own.ty b hm
              exact own_apart HO8.out hc (by decide) b hb rfl))
          unfold OwnI
          simp only [List.length_append, List.length_singleton] at this ⊢
          exact this
        · rw [← HT.out, HTS.out, List.append_assoc]
          rfl
        · have := HL.out
          have hle : (q.ks.eraseIdx J).length = q.ks.length - 1 := List.length_eraseIdx_of_lt HLT.out
          show (q.ks.eraseIdx J).length + (out ++ [U.t]).length ≤ 1000
          rw [hle, List.length_append, List.length_singleton]
          have := HLT.out
          omega
        · rcases q3 b hb with h | h
          · exact HV.out b h
          · exact .inr (Nat.le_trans hw8.size h)
      case measure =>
        have e1 : (w9.setCell ⟨x, 0, none⟩ (.slice (some ⟨g, 0, none⟩) (n - 1) cap)).cell? ⟨x, 0, none⟩ = some (.slice (some ⟨g, 0, none⟩) (n - 1) cap) := World.cell?_setCell_same _ _ _ k0
        have e2 := HX.out
        simp only [e1, e2]
        omega
    · have d0 : decide (0 < (q.ks.length : Int)) = false := decide_eq_false (by omega)
      have d1 : decide (0 < q.ks.length) = false := decide_eq_false hq
      have hz : q.ks = [] := List.eq_nil_of_length_eq_zero (by omega)
      go_wp2
      go_ret
      have ht := HT.out
      rw [hz] at ht
      rw [← ht]
      exact ⟨_, rfl, by simpa [tskO] using HO.out, HF.out⟩
/-- What Left returns. -/
def LefO (c : Cfg) (es : List Ev) (l : List Int) : Prop := (chk c ≠ 0 ∧ l = []) ∨ (chk c = 0 ∧ ∃ (i : Nat) (k : Con), Fol c es i k ∧ l = tskO k.ks.length k.ks)
theorem LefO.one {c : Cfg} {es : List Ev} {l l' : List Int} (h : LefO c es l) (h' : LefO c es l') : l = l' := by
  rcases h with ⟨h0, rfl⟩ | ⟨h0, i, k, hf, rfl⟩
  · rcases h' with ⟨_, rfl⟩ | ⟨h1, _⟩
    · rfl
    · exact absurd h1 h0
  · rcases h' with ⟨h1, _⟩ | ⟨_, j, k', hf', rfl⟩
    · exact absurd h0 h1
    · obtain ⟨_, rfl⟩ := hf.one hf'
      rfl
set_option maxHeartbeats 2000000 in
theorem oleft_any {w : World} {c : Cfg} {pa : Option Addr} {pn : Nat} (pc : Nat) {sa : Option Addr} {sn : Nat} (sc : Nat) {la : Option Addr} {es : List Ev} (lc : Nat) (hl : Lists w 0 c pa pn sa sn) (he : InE w la es) (hle : es.length ≤ 1000) :
    Calls Try.prog 14 #[cv c pa pn pc sa sn sc, .slice la es.length lc] w fun e w' => ∃ u l, e = .returned u ∧ OwnI w' w.heap.size u l ∧ LefO c es l ∧ Below w.heap.size w w' := by
  have hX := Blk.made w 25 (cc c pa pn pc sa sn sc)
  have HB := Lib.hid (below_one w (.cells (cc c pa pn pc sa sn sc) 25))
  obtain ⟨e0, e1, e2, e3, e4, e5, e6, e7, e8, e9, e10⟩ := eleven hX
  have HX := Lib.hid hX
  have HL := Lib.hid hl
  have HE := Lib.hid he
  obtain ⟨L, hL⟩ : ∃ L, es.length = L := ⟨_, rfl⟩
  have HLL := Lib.hid hL
  rw [hL] at hle ⊢
  clear hX hl he hL
  by_cases h0 : chk c = 0
  · have hc0 := check_any (HL.out.below HB.out) pc sc
    rw [h0] at hc0
    have HC0 := Lib.hid hc0
    have H0 := Lib.hid h0
    clear hc0 h0
    go_enter Try.func14, Try.ntmps14
    go_wp2_with (with_reducible refine HC0.out.mono ?_)
    rintro e w1 ⟨rfl, hb1⟩
    have HB1 := Lib.hid (HB.out.trans (hb1.mono HB.out.size))
    obtain ⟨c0, c1, c2, c3, c4, c5, c6, c7, c8, c9, c10⟩ := eleven (HX.out.below hb1)
    clear e0 e1 e2 e3 e4 e5 e6 e7 e8 e9 e10 hb1 HC0
    have hl1 := HL.out.below HB1.out
    have hfo := follow_any (w := w1) pa pn pc sc (es := es) lc ⟨hl1.su, tris_ys hl1.su, HE.out.below HB1.out, chk_he H0.out, by rw [HLL.out]; exact hle⟩
    rw [HLL.out] at hfo
    have HFO := Lib.hid hfo
    clear hfo hl1
    go_wp2_with fail
    (with_reducible refine HFO.out.mono ?_)
    rintro e w2 ⟨i, v, k, rfl, hfol, hown, hb2⟩
    have HB2 := Lib.hid (HB1.out.trans (hb2.mono HB1.out.size))
    have HF := Lib.hid hfol
    have hin := preO_in (c := c) (chk_he H0.out).1 hfol.le hfol.pre
    have HH := Lib.hid (chk_he H0.out)
    obtain ⟨va, vc, hv, _⟩ := hown.form
    rw [List.length_map] at hv
    subst hv
    have HO := Lib.hid hown
    have hS2 := hb2.size
    clear hown hfol hb2 HFO c0 c1 c2 c3 c4 c5 c6 c7 c8 c9 c10
    have hb3 := below_one w2 (.cells #[.slice va k.ks.length vc, .int .i64 k.n] 58)
    have HB3 := Lib.hid (HB2.out.trans (hb3.mono HB2.out.size))
    have hct : CT (w2.alloc (.cells #[.slice va k.ks.length vc, .int .i64 k.n] 58)) w1.heap.size w2.heap.size (.slice va k.ks.length vc) k := ⟨Blk.made _ _ _, HO.out.below hb3, hS2⟩
    have HT := Lib.hid (tasks_any hct (by have := hin.he; have := HH.out; omega))
    have HCT := Lib.hid hct
    clear hb3 hct hin
    go_wp2_with fail
    (with_reducible refine HT.out.mono ?_)
    rintro e w3 ⟨u, rfl, hu, hf⟩
    have hB3 := HB3.out.size
    have HU := Lib.hid (own_low hu hB3)
    have HB4 := Lib.hid (HB3.out.trans (hf.below HB3.out.size (fun b hb => by
      simp only [List.mem_cons, Option.mem_toList] at hb
      rcases hb with hb | hb
      · have := HB2.out.size; omega
      · have := (HCT.out.own.lt b hb).1; have := HB1.out.size; omega)))
    obtain ⟨ua, uc, rfl, _⟩ := OwnI.form hu
    clear hu hf
    go_wp2
    go_ret
    exact ⟨_, _, rfl, HU.out, .inr ⟨H0.out, i, k, HF.out, rfl⟩, HB4.out⟩
  · have hc0 := check_any (HL.out.below HB.out) pc sc
    obtain ⟨R, hR⟩ : ∃ R, chk c = R := ⟨_, rfl⟩
    rw [hR] at hc0
    have hne : (R != 0) = true := bne_iff_ne.2 (by rw [← hR]; exact h0)
    have HC0 := Lib.hid hc0
    have H0 := Lib.hid h0
    have HR := Lib.hid hR
    clear hc0 h0 hR
    go_enter Try.func14, Try.ntmps14
    go_wp2_with (with_reducible refine HC0.out.mono ?_)
    rintro e w1 ⟨rfl, hb1⟩
    have HB1 := Lib.hid (HB.out.trans (hb1.mono HB.out.size))
    clear hb1 HC0 e0 e1 e2 e3 e4 e5 e6 e7 e8 e9 e10
    go_wp2
    go_ret
    exact ⟨_, [], rfl, OwnI.nil _ _, .inl ⟨H0.out, rfl⟩, HB1.out⟩
end Go.Proofs.Ytpmdmeolehabjaa
