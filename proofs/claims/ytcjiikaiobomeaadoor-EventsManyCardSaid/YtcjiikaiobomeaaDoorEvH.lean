/-
  Package event: Parse.
-/
import Derived.Test.YtcjiikaiobomeaaDoorEvG
namespace Go.Proofs.YtcjiikaiobomeaaDoor
open Go Go.RowKit
set_option linter.unusedSimpArgs false

theorem info_event : (Tryd.prog.info? 23).map (fun i => (i.zero, i.size, i.bytes)) = some (some (.agg #[.int .i64 0, .int .i64 0, .int .i64 0, .int .i64 0, .int .i64 0]), 5, 40) := by kernel_rfl
/-- The five cells of an event. -/
def FiveV (w : World) (x : Addr) (e : Ev) : Prop := ∀ j u, (cellsV [e])[j]? = some u → w.cell? (x.add j) = some u
theorem fiveV_new (w : World) (kd wk tk ot lv : Int) : FiveV (w.alloc (.cells #[.int .i64 kd, .int .i64 wk, .int .i64 tk, .int .i64 ot, .int .i64 lv] 23)) ⟨w.heap.size, 0, none⟩ ⟨kd, wk, tk, ot, lv⟩ := by
  have hB := Blk.made w 23 #[.int .i64 kd, .int .i64 wk, .int .i64 tk, .int .i64 ot, .int .i64 lv]
  intro j u hu
  match j, hu with
  | 0, hu => exact (hB.at_ 0).trans hu
  | 1, hu => exact (hB.at_ 1).trans hu
  | 2, hu => exact (hB.at_ 2).trans hu
  | 3, hu => exact (hB.at_ 3).trans hu
  | 4, hu => exact (hB.at_ 4).trans hu
  | j + 5, hu => simp [cellsV] at hu
theorem OwnE.below {w w' : World} {B : Nat} {v : Value} {es : List Ev} (h : OwnE w B v es) (hb : Below w.heap.size w w') : OwnE w' B v es := by
  refine ⟨h.1, ?_⟩
  rcases h.2 with h2 | ⟨g, cap, cur, rfl, h2, hg, rest⟩
  · exact .inl h2
  · exact .inr ⟨g, cap, cur, rfl, h2, (hb.block g (Array.getElem?_eq_some_iff.1 hg).1).trans hg, rest⟩
theorem OwnE.lt {w : World} {B : Nat} {v : Value} {es : List Ev} (h : OwnE w B v es) : ∀ k, v.ownBlock = some k → B ≤ k ∧ k < w.heap.size := World.ownsRow.lt h
theorem OwnE.form {w : World} {B : Nat} {v : Value} {es : List Ev} (h : OwnE w B v es) : ∃ a c, v = .slice a es.length c := by
  rcases h.2 with ⟨rfl, h2⟩ | ⟨g, cap, cur, rfl, _⟩
  · rw [h2]
    exact ⟨_, _, rfl⟩
  · exact ⟨_, _, rfl⟩
theorem OwnE.nil (w : World) (B : Nat) : OwnE w B (.slice none 0 0) [] := World.ownsRow_nil w B _ _
theorem wpList_appV {w : World} {ops : Array Oper} {rest : List Oper} {o : Oper} {a : Act} {Q : Exit → Act → World → Prop} (hgd : o.guard = none) (s x : Operand)
    (ho : o.op = .call { callee := .builtin .append, args := #[s, x], argTypes := #[29, 29] })
    {base : Nat} {v : Value} {l : List Ev} (hs : a.eval s = v) (hown : OwnE w base v l) {ad : Addr} {c : Nat} {e : Ev} (hx : a.eval x = .slice (some ad) 1 c) (h5 : FiveV w ad e) (hn : l.length + 1 ≤ 1000000) (hb : base ≤ w.heap.size)
    (h : ∀ v' w', OwnE w' base v' (l ++ [e]) → w.grownBy w' v.ownBlock → (v'.ownBlock = v.ownBlock ∨ v'.ownBlock = some w.heap.size) → wpList Tryd.prog ops Q rest (a.put o.dst v') w') :
    wpList Tryd.prog ops Q (o :: rest) a w := by
  obtain ⟨i0, hi, hz0, hz1, hz2⟩ := info_parts info_event
  refine wpList_append_own_at w hgd s x 29 ho base 23 i0 _ 5 40 Tryd.underlying29 hi hz0 hz1 hz2 rfl (by omega) v l.length (cellsV l) hs hown ad 1 c (cellsV [e]) hx rfl h5 (cellsV_one [e]) (by unfold maxLen; omega) (by omega) hb ?_
  intro v' w' h1 h2 _ h4
  refine h v' w' ?_ h2 h4
  unfold OwnE
  rw [cellsV_append, List.length_append]
  exact h1
theorem below_appV {B : Nat} {w w' : World} {v : Value} {l : List Ev} (hB : B ≤ w.heap.size) (h : OwnE w B v l) (hg : w.grownBy w' v.ownBlock) : Below B w w' :=
  ⟨hg.os, hg.tape, hg.output, hg.size, fun k hk => hg.block k (by omega) (fun e => by
    have := (h.lt k e.symm).1
    omega)⟩
def ParsedP (t : List UInt8) (w : World) (e : Ending) (w' : World) : Prop :=
  ∃ v, e = .returned (.tuple #[v, .int .i64 (parseR t).2.1, .int .i64 (parseR t).2.2]) ∧ OwnE w' w.heap.size v (parseR t).1 ∧ Below w.heap.size w w'
def PaR (w : World) (t : List UInt8) (s l : Value) (u : World) : Prop :=
  ∃ (n : Nat) (es : List Ev) (r : List UInt8), s = .string ⟨r.toArray⟩ ∧ OwnE u w.heap.size l es ∧ parseG n es r = parseR t ∧ r.length < n ∧ r.length ≤ t.length ∧ es.length ≤ mxE ∧ Below w.heap.size w u
/-- What is left of a text, as a measure. -/
def lenS : Value → Nat
  | .string s => s.size
  | _ => 0
theorem lenS_str (r : List UInt8) : lenS (.string ⟨r.toArray⟩) = r.length := by simp [lenS, ByteArray.size]
theorem readV_some {t : List UInt8} (h : (readV t).2 = true) : readB t = some (readV t).1 := by
  unfold readV at *
  split at h
  · rename_i e he
    rw [he]
  · cases h
theorem readV_none {t : List UInt8} (h : (readV t).2 = false) : readB t = none := by
  unfold readV at h
  split at h
  · cases h
  · assumption
theorem parse_long {w : World} {t : List UInt8} (h : mxS < t.length) : Calls Tryd.prog 10 #[.string ⟨t.toArray⟩] w (ParsedP t w) := by
  have HR := Lib.hid (show parseR t = ([], 0, 2) by unfold parseR; rw [if_pos h])
  have hd : decide ((4194304 : Int) < (t.length : Int)) = true := decide_eq_true (by rw [mxS_eq] at h; omega)
  clear h
  go_enter Tryd.func10, Tryd.ntmps10
  go_wp2
  go_ret3
  exact ⟨.slice none 0 0, by rw [HR.out]; rfl, by rw [HR.out]; exact OwnE.nil _ _, Below.refl _ _⟩
set_option maxRecDepth 100000 in
set_option maxHeartbeats 8000000 in
theorem parse_short {w : World} (hlib : Libs w.heap.size w) {t : List UInt8} (h : ¬ mxS < t.length) : Calls Tryd.prog 10 #[.string ⟨t.toArray⟩] w (ParsedP t w) := by
  have HR := Lib.hid (show parseG (t.length + 1) [] t = parseR t by unfold parseR; rw [if_neg h])
  have hd : decide ((4194304 : Int) < (t.length : Int)) = false := decide_eq_false (by rw [mxS_eq] at h; omega)
  have HT := Lib.hid (show t.length < 4294967281 by rw [mxS_eq] at h; omega)
  have HLib := Lib.hid hlib
  clear h hlib
  go_enter Tryd.func10, Tryd.ntmps10
  go_wp2_with fail
  go_loopw [0, 5] (fun s l u => PaR w t s l u) (fun s _ _ => lenS s)
  case atStart => exact ⟨t.length + 1, [], t, rfl, OwnE.nil _ _, HR.out, by omega, Nat.le_refl _, Nat.zero_le _, Below.refl _ _⟩
  case round =>
    obtain ⟨n, es, r, rfl, hown, hpar, hfu, hle, hes, hbel⟩ := hrel
    obtain ⟨ea, ec, rfl⟩ := hown.form
    have HO := Lib.hid hown
    have HP := Lib.hid hpar
    have HBe := Lib.hid hbel
    have HE := Lib.hid hes
    have HLe := Lib.hid hle
    have HFu := Lib.hid hfu
    clear hown hpar hbel hes hle hfu hd HR
    cases r with
    | nil =>
      have HF := Lib.hid (show parseR t = (es, 0, 0) by rw [← HP.out, parseG_nil])
      go_wp2_with fail
      go_ret3
      exact ⟨_, by rw [HF.out]; rfl, by rw [HF.out]; exact HO.out, HBe.out⟩
    | cons c r =>
      have HNe := Lib.hid (show c :: r ≠ [] by simp)
      obtain ⟨m, rfl⟩ : ∃ m, n = m + 1 := ⟨n - 1, by have := HFu.out; simp at this; omega⟩
      have HLen := Lib.hid (cutB_len 10 (c :: r))
      go_upto_region 5 with fail
      go_wp2_with fail
      (with_reducible refine (cut_any (HLib.out.on HBe.out) (c :: r) [10] (by have := HLe.out; have := HT.out; omega)).mono ?_)
      rintro en W1 ⟨rfl, n1, rfl⟩
      rw [cut_one]
      have hB1 := Lib.hid (HBe.out.trans ((below_drewN wr n1).mono HBe.out.size))
      have hO1 := Lib.hid (HO.out.below (below_drewN wr n1))
      clear HBe HO
      generalize wr.drewN n1 = W1 at *
      obtain ⟨N, hN⟩ : ∃ N : Nat, es.length = N := ⟨_, rfl⟩
      rw [hN]
      have HNN := Lib.hid hN
      have hNb : N ≤ 1000000 := by have := HE.out; rw [mxE_eq] at this; omega
      clear hN
      go_wp2_with fail
      (with_reducible refine (read_any ((HLib.out.on hB1.out).up hB1.out.size) (cutB 10 (c :: r)).1 (by have := HLen.out.1; have := HLe.out; have := HT.out; omega)).mono ?_)
      rintro en W2 ⟨rfl, hb⟩
      have hB2 := Lib.hid (hB1.out.trans (hb.mono hB1.out.size))
      have hO2 := Lib.hid (hO1.out.below hb)
      clear hB1 hO1 hb
      have hb := below_one W2 (.cells (evV (readV (cutB 10 (c :: r)).1).1) 23)
      have hG := Lib.hid (Blk.made W2 23 (evV (readV (cutB 10 (c :: r)).1).1))
      have hB3 := Lib.hid (hB2.out.trans (hb.mono hB2.out.size))
      have hO3 := Lib.hid (hO2.out.below hb)
      clear hB2 hO2 hb
      have HSo := Lib.hid (readV_some (t := (cutB 10 (c :: r)).1))
      have HNo := Lib.hid (readV_none (t := (cutB 10 (c :: r)).1))
      go_upto_region 8 with fail
      change Code.wp _ _ _ _ (W2.alloc (.cells (evV (readV (cutB 10 (c :: r)).1).1) 23))
      generalize (W2.alloc (.cells (evV (readV (cutB 10 (c :: r)).1).1) 23)) = W3 at *
      generalize W2.heap.size = q at *
      generalize (readV (cutB 10 (c :: r)).1).1 = e at *
      generalize (readV (cutB 10 (c :: r)).1).2 = ok at *
      have hbad := Lib.hid (fun h => parseG_bad (n := m) (l := es) HNe.out h)
      have hmany := Lib.hid (fun (h1 : (cutB 10 (c :: r)).2.2 = true) h2 h3 => parseG_many (n := m) (l := es) (e := e) HNe.out h1 h2 h3)
      have hstep := Lib.hid (fun (h1 : (cutB 10 (c :: r)).2.2 = true) h2 h3 => parseG_step (n := m) (l := es) (e := e) HNe.out h1 h2 h3)
      cases ok with
      | false =>
        have HF := Lib.hid (show parseR t = ([], (N : Int) + 1, 4) by rw [← HP.out, hbad.out (.inr (HNo.out rfl)), HNN.out])
        go_wp2_with fail
        go_ret3
        exact ⟨.slice none 0 0, by rw [HF.out]; rfl, by rw [HF.out]; exact OwnE.nil _ _, hB3.out⟩
      | true =>
        cases hen : (cutB 10 (c :: r)).2.2 with
        | false =>
          have HF := Lib.hid (show parseR t = ([], (N : Int) + 1, 4) by rw [← HP.out, hbad.out (.inl hen), HNN.out])
          go_wp2_with fail
          go_ret3
          exact ⟨.slice none 0 0, by rw [HF.out]; rfl, by rw [HF.out]; exact OwnE.nil _ _, hB3.out⟩
        | true =>
          have HEn := Lib.hid hen
          by_cases hm : mxE < N + 1
          · have hd : decide ((65536 : Int) < (N : Int) + 1) = true := decide_eq_true (by rw [mxE_eq] at hm; omega)
            have HF := Lib.hid (show parseR t = ([], (N : Int) + 1, 2) by rw [← HP.out, hmany.out HEn.out (HSo.out rfl) (by rw [HNN.out]; exact hm), HNN.out])
            clear hm
            go_wp2_with fail
            go_ret3
            exact ⟨.slice none 0 0, by rw [HF.out]; rfl, by rw [HF.out]; exact OwnE.nil _ _, hB3.out⟩
          · have hd : decide ((65536 : Int) < (N : Int) + 1) = false := decide_eq_false (by rw [mxE_eq] at hm; omega)
            have HF := Lib.hid (hstep.out HEn.out (HSo.out rfl) (by rw [HNN.out]; exact hm))
            have HM := Lib.hid hm
            have HN1 := Lib.hid (show N + 1 ≤ 1000000 by rw [mxE_eq] at hm; omega)
            clear hm
            have e0 := hG.out.at_ 0
            have e1 := hG.out.at_ 1
            have e2 := hG.out.at_ 2
            have e3 := hG.out.at_ 3
            have e4 := hG.out.at_ 4
            go_wp2_with
              (at_builtin
               refine wpList_appV rfl (.tmp 41) (.tmp 43) rfl (by rw [HNN.out]; rfl) (hO3.out.below (below_one _ _)) rfl (fiveV_new _ e.kd e.wk e.tk e.ot e.lv) (by rw [HNN.out]; exact HN1.out) (by have := hB3.out.size; simp; omega) ?_
               intro v4 W4 hown4 hg4 _
               have HO4 := Lib.hid hown4
               have HB4 := Lib.hid (hB3.out.trans (((below_one W3 (.cells (evV e) 23)).mono hB3.out.size).trans (below_appV (by have := hB3.out.size; simp; omega) (hO3.out.below (below_one _ _)) hg4)))
               clear hown4 hg4 hO3)
            go_roundw
            case rel => exact ⟨m, es ++ [e], (cutB 10 (c :: r)).2.1, rfl, HO4.out, by rw [← HF.out]; exact HP.out, by have := HLen.out.2.2 HNe.out; have := HFu.out; omega, by have := HLen.out.2.1; have := HLe.out; omega, by have := HM.out; have := HNN.out; simp; omega, HB4.out⟩
            case measure => simp only [lenS_str]; exact HLen.out.2.2 HNe.out
theorem parse_any {w : World} (hlib : Libs w.heap.size w) (t : List UInt8) : Calls Tryd.prog 10 #[.string ⟨t.toArray⟩] w (ParsedP t w) := by
  by_cases h : mxS < t.length
  · exact parse_long h
  · exact parse_short hlib h
end Go.Proofs.YtcjiikaiobomeaaDoor
