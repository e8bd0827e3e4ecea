/-
  Package table: the step of Claim: the record and the event.
-/
import Derived.Test.YtgipddeldddbnaaGreatTbB
namespace Go.Proofs.YtgipddeldddbnaaGreat
open Go Go.RowKit Go.Shelf
set_option linter.unusedSimpArgs false
set_option linter.unusedVariables false

/-- Blocks that are no records' and no lists' are all that an access of a machine changes. -/
theorem OwnR.accs {w w' : World} {B : Nat} {v : Value} {rs : List Rec} (h : OwnR w B v rs) {S : List Nat} (hf : Fr S w w') (hS : ∀ j, j ∈ S → ∃ t cs, Blk w j t cs ∧ t ≠ 51 ∧ t ≠ 3) : OwnR w' B v rs :=
  h.same (fun k cs t hk ht => hf.block k (Array.getElem?_eq_some_iff.1 hk).1 (fun hm => by
    obtain ⟨t2, c2, hb, h1, h2⟩ := hS k hm
    unfold Blk at hb
    rw [hk] at hb
    simp only [Option.some.injEq, Obj.cells.injEq] at hb
    rcases ht with ht | ht
    · exact h1 (hb.2.1.symm.trans ht)
    · exact h2 (hb.2.1.symm.trans ht)))
theorem OwnR.below {w w' : World} {B : Nat} {v : Value} {rs : List Rec} (h : OwnR w B v rs) (hb : Below w.heap.size w w') : OwnR w' B v rs :=
  h.same (fun k cs t hk _ => hb.block k (Array.getElem?_eq_some_iff.1 hk).1)
theorem OwnR.mk6 {w : World} {B : Nat} {v : Value} {rs : List Rec} (h : OwnR w B v rs) {x : Addr} {n c : Nat} (hv : v = .slice (some x) n c) {i : Nat} (hi : i < rs.length) :
    w.cell? ⟨(x.add (i * 7)).block, (x.add (i * 7)).off + 6, none⟩ = some (.bool (rs.getD i zrec).st) ∧ w.frozen? ⟨(x.add (i * 7)).block, (x.add (i * 7)).off + 6, none⟩ = false := by
  obtain ⟨x', c', k, e, hx, _, _, hat, hfz, _⟩ := h.at_ hi
  rw [hv] at e
  simp only [Value.slice.injEq, Option.some.injEq] at e
  obtain ⟨rfl, _, _⟩ := e
  rw [add_cell x hx]
  exact ⟨hat 6 (by omega), hfz _⟩
theorem rec_same {rs : List Rec} {i : Nat} (h : (rs.getD i zrec).st = true) (hi : i < rs.length) : rs.set i { rs.getD i zrec with st := true } = rs := by
  have e : ({ rs.getD i zrec with st := true } : Rec) = rs.getD i zrec := by
    cases hr : rs.getD i zrec
    rw [hr] at h
    simp only at h
    rw [h]
  rw [e]
  apply List.ext_getElem?
  intro j
  rw [List.getElem?_set]
  by_cases hj : i = j
  · subst hj
    rw [List.getD_eq_getElem?_getD, List.getElem?_eq_getElem hi]
    simp [hi]
  · simp [hj]
abbrev cpost (f : Fra) : List Value := [.int .i64 f.fb, .int .i64 f.fa]
section
variable {w w' : World} {p m k g cap : Nat} {s : St} {t d : Int} {hd : List Value} {rv ev : Value} {q B : Nat} {f : Fra} {c : Cfg} {es : List Ev} {rs : List Rec}
/-- What begin gives. -/
def Begun (B : Nat) (w : World) (p m k g cap : Nat) (s : St) (t d : Int) (hd : List Value) (rv ev : Value) (rs : List Rec) (q : Nat) (f : Fra) (r : Int) (e : Ending) (w' : World) : Prop :=
  e = .returned (.int .i64 r) ∧ PE w' p m k g cap s t d hd rv ev ∧ OwnR w' B rv rs ∧ LB w' q 76 (cpost f) f 0 0 ∧ Fr rv.ownBlock.toList w w'
set_option maxRecDepth 100000 in
set_option maxHeartbeats 2000000 in
theorem begin_any (hp : PE w p m k g cap s t d hd rv ev) (h : LB w q 76 (cpost f) f 0 0) (hr : OwnR w B rv rs) (h0 : 0 ≤ f.fb) (hlt : f.fb.toNat < rs.length) (hmax : rs.length ≤ 100000) :
    Calls Tryz.prog 86 #[.pointer (some ⟨q, 0, none⟩), .pointer (some ⟨p, 0, none⟩)] w (Begun B w p m k g cap s t d hd rv ev (rs.set f.fb.toNat { rs.getD f.fb.toNat zrec with st := true }) q f (if (rs.getD f.fb.toNat zrec).st = true then 9 else 5)) := by
  obtain ⟨i, hi⟩ : ∃ i : Nat, f.fb = i := ⟨f.fb.toNat, by omega⟩
  have hti : f.fb.toNat = i := by omega
  rw [hti] at hlt ⊢
  obtain ⟨x, c', kk, hv, hx, hB, hk, hat, hfz, cs, hblk⟩ := hr.at_ hlt
  subst hv
  have c22 := hp.at22
  have c3 : w.cell? ⟨q, 3, none⟩ = some (.int .i64 i) := by rw [h.blk.at_, ← hi]; rfl
  obtain ⟨c6, k6⟩ := hr.mk6 rfl hlt
  have hlt2 : (i : Int) < (rs.length : Int) := by omega
  have hge : ((rs.length : Int) ≤ (i : Int)) = False := by simp; omega
  have h0' : (0 : Int) ≤ (i : Int) := by omega
  have P0 := Lib.hid hp
  have B0 := Lib.hid h
  have R0 := Lib.hid hr
  have HX := Lib.hid hx
  have HBK := Lib.hid hblk
  have HLT := Lib.hid hlt
  have HMX := Lib.hid hmax
  clear hp h hr hat hfz hk hblk hx hB h0
  have hrs0 : OwnR w B (.slice (some x) rs.length c') rs := R0.out
  generalize hlen : rs.length = n at *
  obtain ⟨r', hr'⟩ : ∃ r', rs.set i { rs.getD i zrec with st := true } = r' := ⟨_, rfl⟩
  rw [hr']
  have HR := Lib.hid hr'
  have HI := Lib.hid hi
  clear hr' hrs0 hi hti
  have KF := Lib.hid (fun (u : World) (hf : Fr [x.block] w u) => (show PE u p m k g cap s t d hd (.slice (some x) n c') ev ∧ LB u q 76 (cpost f) f 0 0 from by
    obtain ⟨cur, hgb, _⟩ := P0.out.mem.row.blk
    have a1 := HBK.out.apart P0.out.blk (by decide)
    have a2 := HBK.out.apart P0.out.mem.blk (by decide)
    have a3 := HBK.out.apart P0.out.clk (by decide)
    have a4 := HBK.out.apart hgb (by decide)
    have a5 := HBK.out.apart B0.out.blk (by decide)
    exact ⟨P0.out.fr hf (by simpa using a1.symm) (by simpa using a2.symm) (by simpa using a3.symm) (by simpa using a4.symm), B0.out.fr hf (by simpa using a5.symm)⟩))
  cases hst : (rs.getD i zrec).st with
  | true =>
    have HS := Lib.hid hst
    rw [hst] at c6
    clear hst
    go_enter Tryz.func86, Tryz.ntmps86
    go_upto_region 1 with fail
    go_quiet (fail)
    go_upto_region 3 with fail
    go_quiet (fail)
    go_wp2
    go_ret
    rw [← HR.out, rec_same HS.out (by rw [hlen]; exact HLT.out)]
    exact ⟨rfl, P0.out.drewN _, R0.out.below (below_drewN _ _), B0.out.drewN _, (Fr.refl _ _).drewN _⟩
  | false =>
    have HS := Lib.hid hst
    rw [hst] at c6
    clear hst
    go_enter Tryz.func86, Tryz.ntmps86
    go_upto_region 1 with fail
    go_quiet (fail)
    go_upto_region 3 with fail
    go_quiet (fail)
    go_wp2
    go_ret
    rw [add_cell x HX.out]
    refine ⟨rfl, (KF.out _ ?hf).1, ?h3, (KF.out _ ?hf).2, ?hf⟩
    case hf => exact ((Fr.refl _ _).drewN _).setCell (by simp) _
    case h3 =>
      rw [← HR.out]
      exact ((R0.out.below (below_drewN _ _)).put (by rw [hlen]; exact HLT.out) (by omega) _ _ (fun k => rfl) rfl)
/-- What emit gives. -/
def CEmitted (B : Nat) (w : World) (p m k g cap : Nat) (s : St) (t d : Int) (hd : List Value) (rv ev : Value) (es : List Ev) (e : Ending) (w' : World) : Prop := PEmitted2 B w p m k g cap s t d hd rv ev es e w'
set_option maxRecDepth 100000 in
set_option maxHeartbeats 2000000 in
theorem cemit_any (hp : PE w p m k g cap s t d hd rv ev) (h : LB w q 76 (cpost f) f 0 0) (hev : OwnE w B ev es) (hn : es.length ≤ 900000) (hB : B ≤ w.heap.size) (kd : Int) :
    Calls Tryz.prog 85 #[.pointer (some ⟨q, 0, none⟩), .pointer (some ⟨p, 0, none⟩), .int .i64 kd] w (PEmitted2 B w p m k g cap s t d hd rv ev (es ++ [⟨kd, f.fa, f.fb, 0, 0⟩])) := by
  have HE := Lib.hid (pemit2_any (w := w.drew) (show PE w.drew p m k g cap s t d hd rv ev from hp.drewN 1) (show OwnE w.drew B ev es from hev.below (below_drewN w 1)) hn hB kd f.fa f.fb 0 0)
  have d3 : w.drew.cell? ⟨q, 3, none⟩ = some (.int .i64 f.fb) := by rw [show w.drew.cell? ⟨q, 3, none⟩ = w.cell? ⟨q, 3, none⟩ from rfl, h.blk.at_]; rfl
  have d4 : w.drew.cell? ⟨q, 4, none⟩ = some (.int .i64 f.fa) := by rw [show w.drew.cell? ⟨q, 4, none⟩ = w.cell? ⟨q, 4, none⟩ from rfl, h.blk.at_]; rfl
  clear hp h hev
  go_enter Tryz.func85, Tryz.ntmps85
  go_upto_region 0 with fail
  go_still_tail 12, (by kernel_rfl)
  go_wp2_with fail
  (with_reducible refine HE.out.mono ?_)
  rintro e w1 ⟨ev', rfl, a, b, hc, hf⟩
  go_wp2
  go_end0
  exact ⟨ev', rfl, a, b, hc, (Fr.refl _ _).drew.trans hf⟩
end
end Go.Proofs.YtgipddeldddbnaaGreat
