/-
  Stage 11: a pick.
-/
import Derived.Test.YtjehiekmlbeaeaaGreatPlV
import Derived.Test.YtjehiekmlbeaeaaGreatSeq
namespace Go.Proofs.YtjehiekmlbeaeaaGreat
open Go Go.RowKit Go.Shelf
set_option linter.unusedSimpArgs false
set_option linter.unusedVariables false

/-- The game, whatever its lists' places. -/
def GX (w0 : World) (gb p m k g cap bp K pc C : Nat) (S : PlS) (w : World) : Prop := ∃ (q : Nat → Nat) (row : Nat → Nat → Value) (ov : Value), GW w0 w gb p m k g cap bp K pc C q row ov S
theorem begP_kind {C : Int} {now : Nat} {p : Plr} {a : ActR} {r : List ActR} (hk : a.k = 0 ∨ a.k = 1 ∨ a.k = 2) : (actM C a).kind = a.k := by
  unfold actM
  split
  · rename_i h; exact h.symm
  split
  · rename_i h; exact h.symm
  · show (2 : Int) = a.k
    omega
theorem can_kind {i : Nat} {a : ActR} (h : canR i a = true) : a.k = 0 ∨ a.k = 1 ∨ a.k = 2 := by
  unfold canR at h
  split at h
  · simp at h; omega
  · simp at h; omega
theorem set_self (P : List Plr) (i : Nat) : P.set i (P.getD i .no) = P := by
  by_cases h : i < P.length
  · rw [List.getD_eq_getElem?_getD, List.getElem?_eq_getElem h]
    exact List.set_getElem_self h
  · exact List.set_eq_of_length_le (by omega)
/-- The row of a player that begins: its operation's record is new. -/
abbrev rowB (row : Nat → Nat → Value) (i : Nat) (now : Int) : Nat → Nat → Value := rowS (rowS (rowS (rowS (rowS (rowS row i 2 (.int .i64 0)) i 3 (.int .i64 i)) i 4 (.int .i64 now)) i 5 (.int .i64 0)) i 6 (.int .i64 0)) i 7 (.int .i64 0)
/-- A step of player i, its pick not counted yet. -/
def stpN (i : Nat) (p : Plr) (S : PlS) : PlS :=
  if (stepM S.s p.x.m).2.2.dn = true then ⟨(stepM S.s p.x.m).1, S.P.set i ⟨p.acts, ⟨.no, p.x.sn, p.x.vl⟩⟩, S.now, S.out ++ [recP i p.x S.now (stepM S.s p.x.m).2.2]⟩
  else ⟨(stepM S.s p.x.m).1, S.P.set i ⟨p.acts, ⟨(stepM S.s p.x.m).2.1, p.x.sn, p.x.vl⟩⟩, S.now, S.out⟩
def pickN (C : Int) (i : Nat) (S : PlS) : PlS :=
  if (begP C S.now (S.P.getD i .no)).x.m.idle = true then ⟨S.s, S.P.set i (begP C S.now (S.P.getD i .no)), S.now, S.out⟩
  else stpN i (begP C S.now (S.P.getD i .no)) S
theorem pickN_pick {C : Int} {i : Nat} {S : PlS} (ok : PlOk i (S.P.getD i .no)) : pickP C i S = ⟨(pickN C i S).s, (pickN C i S).P, S.now + 1, (pickN C i S).out⟩ ∧ (pickN C i S).now = S.now := by
  obtain ⟨b1, b2, b3, b4⟩ := begP_ok (C := C) (now := S.now) ok
  unfold pickP pickN
  split
  · rename_i hl
    have hb : (S.P.getD i .no).busy = false := by
      cases hb : (S.P.getD i .no).busy with
      | false => rfl
      | true => rw [b3 hb] at hl; cases hl
    rw [(b4 hb).1, set_self]
    exact ⟨rfl, rfl⟩
  · unfold stpP stpN
    split
    · exact ⟨rfl, rfl⟩
    · exact ⟨rfl, rfl⟩
/-- The type of a machine's block. -/
def tyOf : Mach → TypeId
  | .push _ => 264
  | .pop _ => 267
  | _ => 270
/-- What holds where the step is made. -/
structure PkS (gb p bp K pc C : Nat) (now : Int) (ov : Value) (i x : Nat) (X : Mach) (row : Nat → Nat → Value) (u : World) : Prop where
  pb : PB u bp K row
  g : Blk u gb 143 (gmC p C bp K pc now ov)
  v : row i 1 = mval x X
/-- The machine is done, its player does not know yet. -/
structure PkD (w0 wd : World) (gb p m k g cap bp K pc C i x : Nat) (q1 : Nat → Nat) (row1 : Nat → Nat → Value) (ov : Value) (S : PlS) (p1 : Plr) (wx : World) : Prop where
  gw : GW w0 wd gb p m k g cap bp K pc C q1 row1 ov ⟨S.s, S.P.set i p1, S.now, S.out⟩
  don : ∃ X : Mach, p1.x.m = X ∧ X ≠ .no ∧ PE wx p m k g cap (stepM S.s X).1 0 0 hd0 (.slice none 0 0) (.slice none 0 0) ∧ (stepM S.s X).1.N ∧ (stepM S.s X).2.2.dn = true ∧ Fr [m, g, q1 i] wd wx ∧ ∃ ty post f, OB wx x ty post f (stepM S.s X).2.2.cd (stepM S.s X).2.2.vl ∧ ty = tyOf X
/-- A pick whose machine is done, without its record. -/
def pickB (i : Nat) (p1 : Plr) (X : Mach) (S : PlS) : PlS := ⟨(stepM S.s X).1, S.P.set i ⟨p1.acts, ⟨.no, p1.x.sn, p1.x.vl⟩⟩, S.now, S.out⟩
def GX9 (w0 w : World) (gb p m k g cap bp K pc C : Nat) (q : Nat → Nat) (ov : Value) (S : PlS) : Prop := ∃ row, GW w0 w gb p m k g cap bp K pc C q row ov S
theorem tyOf_ne (X : Mach) : 145 ≠ tyOf X := by
  cases X with
  | no => exact (by decide : 145 ≠ 270)
  | push _ => exact (by decide : 145 ≠ 264)
  | pop _ => exact (by decide : 145 ≠ 267)
  | steal _ => exact (by decide : 145 ≠ 270)
/-- A machine that is done has been taken away from its player. -/
theorem GW.fin {w0 w w1 w' : World} {gb p m k g cap bp K pc C i : Nat} {q : Nat → Nat} {row row' : Nat → Nat → Value} {ov : Value} {S : PlS} {s' : St} {ty : TypeId} {post : List Value} {f : Fra} (h : GW w0 w gb p m k g cap bp K pc C q row ov S) (hi : i < K) (hn : (S.P.getD i .no).x.m ≠ .no)
    (ho : OB w (q i) ty post f 0 0) (ht : ty = 264 ∨ ty = 267 ∨ ty = 270) (hf : Fr [m, g, q i] w w1) (hp : PE w1 p m k g cap s' 0 0 hd0 (.slice none 0 0) (.slice none 0 0)) (hN : s'.N) (hf2 : Fr [bp] w1 w') (hpb : PB w' bp K row') (h1 : row' i 1 = .nilIface)
    (hrow : ∀ b c, b ≠ i ∨ c = 0 → row' b c = row b c) (hnt : ∀ j, 2 ≤ j → j < 8 → ∃ z : Int, row' i j = .int .i64 z) : GW w0 w' gb p m k g cap bp K pc C q row' ov ⟨s', S.P.set i ⟨(S.P.getD i .no).acts, ⟨.no, (S.P.getD i .no).x.sn, (S.P.getD i .no).x.vl⟩⟩, S.now, S.out⟩ := by
  obtain ⟨cs2, hgb⟩ := h.hg
  have hl := h.len
  have e1 : ∀ P : Plr, (S.P.set i P).getD i .no = P := fun P => set_at _ _ _ _ (by omega)
  have e2 : ∀ (P : Plr) b, b ≠ i → (S.P.set i P).getD b .no = S.P.getD b .no := fun P b hb => set_off _ _ _ _ _ (fun e => hb e.symm)
  obtain ⟨cs0, hb0, hc0⟩ := h.pb
  have keep : ∀ {b : Nat} {t : TypeId} {cs : Array Value}, Blk w b t cs → t ≠ 133 → t ≠ 50 → (t ≠ 264 ∧ t ≠ 267 ∧ t ≠ 270) → b ∉ [m, g, q i] := fun {b t cs} hb n1 n2 n3 => by
    simp only [List.mem_cons, List.not_mem_nil, or_false, not_or]
    refine ⟨hb.apart h.pe.mem.blk n1, hb.apart hgb n2, hb.apart ho.blk ?_⟩
    rcases ht with rfl | rfl | rfl
    · exact n3.1
    · exact n3.2.1
    · exact n3.2.2
  have F : Fr [m, g, q i, bp] w w' := (hf.mono (fun k hk => by simp only [List.mem_cons, List.not_mem_nil, or_false] at hk ⊢; rcases hk with e | e | e <;> simp [e])).trans (hf2.mono (fun k hk => by simp only [List.mem_singleton] at hk; simp [hk]))
  have keep2 : ∀ {b : Nat} {t : TypeId} {cs : Array Value}, Blk w b t cs → t ≠ 133 → t ≠ 50 → (t ≠ 264 ∧ t ≠ 267 ∧ t ≠ 270) → t ≠ 145 → b ∉ [m, g, q i, bp] := fun {b t cs} hb n1 n2 n3 n4 hm => by
    have := keep hb n1 n2 n3
    have n5 := hb.apart hb0 n4
    simp only [List.mem_cons, List.not_mem_nil, or_false, not_or] at hm this
    rcases hm with e | e | e | e
    · exact this.1 e
    · exact this.2.1 e
    · exact this.2.2 e
    · exact n5 e
  have hact : ∀ g0 cur, Blk w g0 138 cur → g0 ∉ [m, g, q i, bp] := fun g0 cur hg => keep2 hg (by decide) (by decide) (by decide) (by decide)
  obtain ⟨n1, n2, n3, n4⟩ := h.env hb0 (by decide) (by decide) (by decide) (by decide)
  refine ⟨h.gm.of_same (F.block gb h.gm.lt (keep2 h.gm (by decide) (by decide) (by decide) (by decide))), hp.fr hf2 (by simpa using n1) (by simpa using n2) (by simpa using n3) (by simpa using n4), hN, hpb, h.out.same (fun b hb => ?_), by show (S.P.set i _).length = K; rw [List.length_set]; exact hl, fun b hb => ?_, fun b hb => ?_, fun b c hb hc hbc m1 m2 => ?_, fun b hb m1 => ?_, h.lb, below_of_fr h.b F (fun y hy => ?_)⟩
  · obtain ⟨cur, hc⟩ := h.out.ty b hb
    exact F.block b hc.lt (keep2 hc (by decide) (by decide) (by decide) (by decide))
  · have h0 := (h.pl b hb).fr F hact
    by_cases e : b = i
    · subst e
      show PlC w' _ (row' b) b (q b) ((S.P.set b _).getD b .no)
      rw [e1]
      exact ⟨by rw [hrow b 0 (.inr rfl)]; exact h0.ac, h1, hnt, fun hx => absurd rfl hx⟩
    · show PlC w' _ (row' b) b (q b) ((S.P.set i _).getD b .no)
      rw [e2 _ b e, show row' b = row b from funext fun c => hrow b c (.inl e)]
      exact h0
  · by_cases e : b = i
    · subst e
      show MO w' (q b) ((S.P.set b _).getD b .no).x.m
      rw [e1]
      trivial
    · show MO w' (q b) ((S.P.set i _).getD b .no).x.m
      rw [e2 _ b e]
      refine (h.mo b hb).fr F (fun n1 hob => ?_)
      obtain ⟨ty2, post2, f2, ho2, hty2⟩ := (h.mo b hb).ob n1
      obtain ⟨m1, m2, m3, m4⟩ := ho2.ne h.pe
      have m5 : q b ≠ bp := ho2.blk.apart hb0 (by rcases hty2 with rfl | rfl | rfl <;> decide)
      simp only [List.mem_cons, List.not_mem_nil, or_false, not_or]
      exact ⟨m2, m4, h.ap b i hb hi e n1 hn, m5⟩
  · refine h.ap b c hb hc hbc ?_ ?_
    · by_cases e : b = i
      · rw [e]; exact hn
      · replace m1 : ((S.P.set i _).getD b .no).x.m ≠ .no := m1
        rw [e2 _ b e] at m1; exact m1
    · by_cases e : c = i
      · rw [e]; exact hn
      · replace m2 : ((S.P.set i _).getD c .no).x.m ≠ .no := m2
        rw [e2 _ c e] at m2; exact m2
  · refine h.lo b hb ?_
    by_cases e : b = i
    · rw [e]; exact hn
    · replace m1 : ((S.P.set i _).getD b .no).x.m ≠ .no := m1
      rw [e2 _ b e] at m1; exact m1
  · simp only [List.mem_cons, List.not_mem_nil, or_false] at hy
    rcases hy with rfl | rfl | rfl | rfl
    · exact h.lb.2.2.1
    · exact h.lb.2.2.2.2.1
    · exact h.lo i hi hn
    · exact h.lb.2.2.2.2.2
/-- end, whatever the machine. -/
theorem pend_any {w : World} {bp K i x : Nat} {row : Nat → Nat → Value} {X : Mach} {ty : TypeId} {post : List Value} {f : Fra} {cd vl m a b c0 v : Int} (hX : X ≠ .no) (hty : ty = tyOf X) (h : PB w bp K row) (hi : i < K) (hob : OB w x ty post f cd vl) (h1 : row i 1 = mval x X)
    (h2 : row i 2 = .int .i64 X.kind) (h3 : row i 3 = .int .i64 m) (h4 : row i 4 = .int .i64 a) (h5 : row i 5 = .int .i64 b) (h6 : row i 6 = .int .i64 c0) (h7 : row i 7 = .int .i64 v) :
    Calls Tryz.prog 100 #[.pointer (some ⟨bp, i * 8, none⟩)] w (EndP w bp K i row ⟨X.kind, m, a, b, cd, if X.kind = 0 then v else vl⟩) := by
  subst hty
  cases X with
  | no => exact absurd rfl hX
  | push f => exact pend_pusher h hi hob h1 h2 h3 h4 h5 h6 h7
  | pop f => exact pend_popper h hi hob h1 h2 h3 h4 h5 h6 h7
  | steal f => exact pend_stealer h hi hob h1 h2 h3 h4 h5 h6 h7
/-- An append as an operation of a drawn region. -/
theorem wp_appG {w : World} {o : Oper} {a : Act} {K : Act → World → Prop} {Q : Exit → Act → World → Prop} {ts t : TypeId} {z : Value} {k b : Nat} (hinfo : (Tryz.prog.info? t).map (fun i => (i.zero, i.size, i.bytes)) = some (some z, k, b))
    (hz : z.cells.size = k) (hk : 0 < k) (hb1 : b ≤ 1000) (hu : Tryz.prog.underlying ts = some (.slice t)) (s x : Operand)
    (ho : o.op = .call { callee := .builtin .append, args := #[s, x], argTypes := #[ts, ts] })
    {base : Nat} {v : Value} {R : List (List Value)} (hs : a.eval s = v) (hown : OwnG w base t k v R) {ad : Addr} {c : Nat} {r : List Value} (hx : a.eval x = .slice (some ad) 1 c) (hr : r.length = k ∧ ∀ u, u ∈ r → u.oneCell' = true) (hc : ∀ j u, r[j]? = some u → w.cell? (ad.add j) = some u)
    (hn : R.length + 1 ≤ 1000000) (hb : base ≤ w.heap.size)
    (h : ∀ v' w', OwnG w' base t k v' (R ++ [r]) → w.grownBy w' v.ownBlock → (v'.ownBlock = v.ownBlock ∨ v'.ownBlock = some w.heap.size) → K (a.put o.dst v') w') :
    o.wp Tryz.prog a w K Q := by
  obtain ⟨i0, hi, hz0, hz1, hz2⟩ := info_partsG hinfo
  obtain ⟨v', w', hr2, h2, h3, _, h5⟩ := run_append_own_at (P := Tryz.prog) w base ts o.type t i0 _ k b hu hi hz0 hz1 hz2 hz hk v R.length R.flatten hown.2 ad 1 c r (by rw [hr.1]; omega) hc hr.2 (by unfold maxLen; omega) (by
    have : (R.length + 1) * b ≤ 1000000 * 1000 := Nat.mul_le_mul hn hb1
    omega) hb
  unfold Oper.wp execOp
  simp only [ho, resolve, invoke, builtin, Sem.run_bind, Sem.run_pure, Result.andThen_ok, List.map_toArray, List.map_cons, List.map_nil, hs, hx, hr2]
  refine h v' w' ⟨hown.1.append (RowsK.nil k |>.cons hr), ?_⟩ h3 h5
  rw [List.flatten_append, List.length_append]
  simpa using h2
theorem neq_no (W : World) : (binOp .neq 86 .nilIface .nilIface).run Tryz.prog W = .ok (.bool false) W := by kernel_rfl
theorem neq_push (x : Nat) (W : World) : (binOp .neq 86 (.iface 259 (.pointer (some ⟨x, 0, none⟩))) .nilIface).run Tryz.prog W = .ok (.bool true) W := by kernel_rfl
theorem neq_pop (x : Nat) (W : World) : (binOp .neq 86 (.iface 265 (.pointer (some ⟨x, 0, none⟩))) .nilIface).run Tryz.prog W = .ok (.bool true) W := by kernel_rfl
theorem neq_steal (x : Nat) (W : World) : (binOp .neq 86 (.iface 268 (.pointer (some ⟨x, 0, none⟩))) .nilIface).run Tryz.prog W = .ok (.bool true) W := by kernel_rfl
theorem neqg_no (W : World) (y : Operand) : (eqGuard .neq 86 y (.const .nilIface) .nilIface .nilIface).run Tryz.prog W = .ok () W := by cases y <;> rfl
theorem neqg_push (x : Nat) (W : World) (y : Operand) : (eqGuard .neq 86 y (.const .nilIface) (.iface 259 (.pointer (some ⟨x, 0, none⟩))) .nilIface).run Tryz.prog W = .ok () W := rfl
theorem neqg_pop (x : Nat) (W : World) (y : Operand) : (eqGuard .neq 86 y (.const .nilIface) (.iface 265 (.pointer (some ⟨x, 0, none⟩))) .nilIface).run Tryz.prog W = .ok () W := rfl
theorem neqg_steal (x : Nat) (W : World) (y : Operand) : (eqGuard .neq 86 y (.const .nilIface) (.iface 268 (.pointer (some ⟨x, 0, none⟩))) .nilIface).run Tryz.prog W = .ok () W := rfl
theorem PkS.step {w0 w w' : World} {gb p m k g cap bp K pc C i x : Nat} {now : Int} {ov : Value} {q : Nat → Nat} {X : Mach} {row : Nat → Nat → Value} {S : PlS} {ty : TypeId} {post : List Value} {f : Fra} (h : PkS gb p bp K pc C now ov i x X row w) (hG : GW w0 w gb p m k g cap bp K pc C q row ov S) (ho : OB w x ty post f 0 0)
    (ht : 145 ≠ ty ∧ 143 ≠ ty) (hf : Fr [m, g, x] w w') : PkS gb p bp K pc C now ov i x X row w' := by
  obtain ⟨cs2, hgb⟩ := hG.hg
  obtain ⟨cs0, hb0, hc0⟩ := h.pb
  refine ⟨⟨cs0, hb0.of_same (hf.block bp hb0.lt ?_), hc0⟩, h.g.of_same (hf.block gb h.g.lt ?_), h.v⟩
  · simp only [List.mem_cons, List.not_mem_nil, or_false, not_or]
    exact ⟨hb0.apart hG.pe.mem.blk (by decide), hb0.apart hgb (by decide), hb0.apart ho.blk ht.1⟩
  · simp only [List.mem_cons, List.not_mem_nil, or_false, not_or]
    exact ⟨h.g.apart hG.pe.mem.blk (by decide), h.g.apart hgb (by decide), h.g.apart ho.blk ht.2⟩
section
variable {w0 w : World} {gb p m k g cap bp K pc C : Nat} {q : Nat → Nat} {row : Nat → Nat → Value} {ov : Value} {S : PlS}
set_option maxRecDepth 100000 in
set_option maxHeartbeats 16000000 in
theorem pick_any {i : Nat} (h : GW w0 w gb p m k g cap bp K pc C q row ov S) (hi : i < K) (ok : AllOk S) (hC : (C : Int) ≤ 100) (hnow : S.now ≤ 1000000) (hout : S.out.length ≤ 900000) :
    Calls Tryz.prog 63 #[.pointer (some ⟨gb, 0, none⟩), .int .i64 i] w fun e w' => e = .returned (.tuple #[]) ∧ GX w0 gb p m k g cap bp K pc C (pickP C i S) w' := by
  have HG := Lib.hid h
  have HC := Lib.hid (And.intro hC (And.intro hnow (And.intro hout (And.intro (ok i (by rw [h.len]; exact hi)) hi))))
  have hpl := h.pl i hi
  obtain ⟨va, vc, hv0, hvc⟩ := hpl.ac.form
  obtain ⟨X, hX⟩ : ∃ X, (S.P.getD i .no).x.m = X := ⟨_, rfl⟩
  obtain ⟨V, hV⟩ : ∃ V, mval (q i) X = V := ⟨_, rfl⟩
  obtain ⟨bn, hbn, heq, hneq, hgu, hgn⟩ := eql_machP hV
  obtain ⟨n, hn⟩ : ∃ n, (S.P.getD i .no).acts.length = n := ⟨_, rfl⟩
  have c5 : w.cell? ⟨gb, 5, none⟩ = some (.slice (some ⟨bp, 0, none⟩) K pc) := h.gm.at_ 5
  obtain ⟨o, ho⟩ : ∃ o, i * 8 = o := ⟨_, rfl⟩
  have HO := Lib.hid ho
  have p0 := h.pb.cell hi 0 (by omega)
  have p1 := h.pb.cell hi 1 (by omega)
  rw [hv0, ho, Nat.add_zero, hn] at p0
  rw [hpl.mv, hX, hV, ho] at p1
  have HX := Lib.hid (And.intro hX (And.intro hbn hn))
  have hi0 : (0 : Int) ≤ (i : Int) ∧ (i : Int) < (K : Int) := by omega
  have hq0 := heq w
  have hg0 := hgu w
  have hon : ((⟨bp, 0, none⟩ : Addr).add (i * 8)) = ⟨bp, o, none⟩ := by
    rw [ho]
    unfold Addr.add
    split
    · rename_i h0
      rw [h0]
    · simp
  clear h hpl hC hnow hout ok heq hneq hgu hgn hV hX hbn hn hv0 hvc
  go_enter Tryz.func63, Tryz.ntmps63
  go_upto_region 1 with fail
  clear c5 hon ho
  go_cut [23] from 11 to 22 (fun v wx => v = .bool (bn && decide (0 < n)) ∧ wx = w)
  case first =>
    as_aux_lemma =>
    cases bn with
    | true =>
      go_wp2_with fail
      go_meet
      case rel => exact ⟨by simp, rfl⟩
    | false =>
      go_wp2_with fail
      go_meet
      case rel => exact ⟨rfl, rfl⟩
  case rest =>
  obtain ⟨rfl, hw⟩ := hcut
  rw [hw]
  clear hw
  clear p0 p1 hq0 hg0
  obtain ⟨bz, hbz⟩ : ∃ bz, (bn && decide (0 < n)) = bz := ⟨_, rfl⟩
  rw [hbz]
  have HBZ := Lib.hid hbz
  clear hbz
  go_upto_if 23 with fail
  go_cut [] from 24 to 38 (fun wx => ∃ q row, GW w0 wx gb p m k g cap bp K pc C q row ov ⟨S.s, S.P.set i (begP C S.now (S.P.getD i .no)), S.now, S.out⟩)
  case first =>
    as_aux_lemma =>
    cases bz with
    | false =>
      have HE := Lib.hid (show begP C S.now (S.P.getD i .no) = S.P.getD i .no from by
        cases hb : bn with
        | false => exact begP_on (by
            cases hm : (S.P.getD i .no).x.m.idle with
            | false => rfl
            | true =>
              have := HX.out.2.1.2 (HX.out.1 ▸ Mach.idle_iff.1 hm)
              rw [hb] at this
              cases this)
        | true =>
          refine begP_rest (Mach.idle_iff.2 (HX.out.1.trans (HX.out.2.1.1 hb))) (List.eq_nil_of_length_eq_zero ?_)
          have h0 := HBZ.out
          rw [hb] at h0
          simp at h0
          have := HX.out.2.2
          omega)
      go_wp2_with fail
      go_meet
      case rel =>
        rw [HE.out, set_self]
        exact ⟨q, row, HG.out⟩
    | true =>
      have hno : X = .no := HX.out.2.1.1 (by have := HBZ.out; cases bn <;> simp_all)
      have hn0 : 0 < n := by
        have := HBZ.out
        cases bn
        · simp at this
        · simpa using this
      obtain ⟨a, r, har⟩ : ∃ a r, (S.P.getD i .no).acts = a :: r := by
        cases ha : (S.P.getD i .no).acts with
        | nil =>
          have := HX.out.2.2
          rw [ha] at this
          simp at this
          omega
        | cons a r => exact ⟨a, r, rfl⟩
      have HA := Lib.hid (And.intro har (show (S.P.getD i .no).x.m.idle = true from Mach.idle_iff.2 (HX.out.1.trans hno)))
      clear hno hn0 har
      have c6 : w.cell? ⟨gb, 6, none⟩ = some (.int .i64 S.now) := HG.out.gm.at_ 6
      have cell := fun j hj => HG.out.pb.cell HC.out.2.2.2.2 (i := i) j hj
      rw [HO.out] at cell
      have d2 := cell 2 (by omega)
      have d3 := cell 3 (by omega)
      have d4 := cell 4 (by omega)
      have d5 := cell 5 (by omega)
      have d6 := cell 6 (by omega)
      have d7 := cell 7 (by omega)
      have free := fun j => HG.out.pb.free (o + j)
      have f2 := free 2
      have f3 := free 3
      have f4 := free 4
      have f5 := free 5
      have f6 := free 6
      have f7 := free 7
      clear cell free
      go_upto_region 3 with fail
      clear c6 d2 d3 d4 d5 d6 d7 f2 f3 f4 f5 f6 f7
      have HP2 : Hid (PB ((((((w.setCell ⟨bp, o + 2, none⟩ (.int .i64 0)).setCell ⟨bp, o + 2 + 1, none⟩ (.int .i64 i)).setCell ⟨bp, o + 2 + 2, none⟩ (.int .i64 S.now)).setCell ⟨bp, o + 2 + 3, none⟩ (.int .i64 0)).setCell ⟨bp, o + 2 + 4, none⟩ (.int .i64 0)).setCell ⟨bp, o + 2 + 5, none⟩ (.int .i64 0)) bp K (rowB row i S.now)) := Lib.hid (by
        have hp := ((((((HG.out.pb.put i 2 (by omega) (.int .i64 0)).put i 3 (by omega) (.int .i64 i)).put i 4 (by omega) (.int .i64 S.now)).put i 5 (by omega) (.int .i64 0)).put i 6 (by omega) (.int .i64 0)).put i 7 (by omega) (.int .i64 0))
        rw [HO.out] at hp
        exact hp)
      have HF2 := Lib.hid (show Fr [bp] w ((((((w.setCell ⟨bp, o + 2, none⟩ (.int .i64 0)).setCell ⟨bp, o + 2 + 1, none⟩ (.int .i64 i)).setCell ⟨bp, o + 2 + 2, none⟩ (.int .i64 S.now)).setCell ⟨bp, o + 2 + 3, none⟩ (.int .i64 0)).setCell ⟨bp, o + 2 + 4, none⟩ (.int .i64 0)).setCell ⟨bp, o + 2 + 5, none⟩ (.int .i64 0)) from (((((((Fr.refl [bp] w).setCell (p := ⟨bp, o + 2, none⟩) (.inl (by simp)) (.int .i64 0)).setCell (p := ⟨bp, o + 2 + 1, none⟩) (.inl (by simp)) (.int .i64 i)).setCell (p := ⟨bp, o + 2 + 2, none⟩) (.inl (by simp)) (.int .i64 S.now)).setCell (p := ⟨bp, o + 2 + 3, none⟩) (.inl (by simp)) (.int .i64 0)).setCell (p := ⟨bp, o + 2 + 4, none⟩) (.inl (by simp)) (.int .i64 0)).setCell (p := ⟨bp, o + 2 + 5, none⟩) (.inl (by simp)) (.int .i64 0)))
      generalize ((((((w.setCell ⟨bp, o + 2, none⟩ (.int .i64 0)).setCell ⟨bp, o + 2 + 1, none⟩ (.int .i64 i)).setCell ⟨bp, o + 2 + 2, none⟩ (.int .i64 S.now)).setCell ⟨bp, o + 2 + 3, none⟩ (.int .i64 0)).setCell ⟨bp, o + 2 + 4, none⟩ (.int .i64 0)).setCell ⟨bp, o + 2 + 5, none⟩ (.int .i64 0)) = W2 at *
      have hgb : gb ∉ [bp] := by
        obtain ⟨cs0, hb0, _⟩ := HG.out.pb
        simpa using HG.out.gm.apart hb0 (by decide)
      have HGM := Lib.hid (HG.out.gm.of_same (HF2.out.block gb HG.out.gm.lt hgb))
      have HRG := Lib.hid (show W2.rangeAt gb 1 [.int .i64 0, .int .i64 1, .int .i64 2, .int .i64 C] from fun j v hv => by
        have hj : j < 4 := (List.getElem?_eq_some_iff.1 hv).1
        rw [HGM.out.at_, ← hv]
        match j, hj with
        | 0, _ => rfl
        | 1, _ => rfl
        | 2, _ => rfl
        | 3, _ => rfl)
      have HAC := Lib.hid (show AcR W2 w0.heap.size (rowB row i S.now i 0) (a :: r) from by
        have h0 := (HG.out.pl i hi).ac
        rw [HA.out.1] at h0
        rw [show rowB row i S.now i 0 = row i 0 by unfold rowB; rw [rowS_ne _ _ _ _ (by omega), rowS_ne _ _ _ _ (by omega), rowS_ne _ _ _ _ (by omega), rowS_ne _ _ _ _ (by omega), rowS_ne _ _ _ _ (by omega), rowS_ne _ _ _ _ (by omega)]]
        exact h0.fr HF2.out (fun g0 cur hg0 => by
          obtain ⟨cs0, hb0, _⟩ := HG.out.pb
          simpa using hg0.apart hb0 (by decide)))
      have HKK := Lib.hid (can_kind (HC.out.2.2.2.1.can a (by rw [HA.out.1]; exact List.mem_cons_self ..)).1)
      clear hgb
      go_wp2_with (refine wpList_load_mid rfl 91 (.tmp 36) rfl gb 1 rfl [.int .i64 0, .int .i64 1, .int .i64 2, .int .i64 C] _ HRG.out Tryz.underlying91 rfl (by kernel_rfl) ?_)
      have hcall := pnext_any HC.out.1 HP2.out hi HAC.out HKK.out (by unfold rowB; exact rowS_at ..)
      rw [HO.out] at hcall
      (with_reducible refine hcall.mono ?_)
      clear hcall
      rintro e w3 ⟨x, v0, row', rfl, hac, hmo, hx, hf, hp', h0, h1, h2, h7, hne⟩
      have HR := Lib.hid (show GW w0 w3 gb p m k g cap bp K pc C (fun b => if b = i then x else q b) row' ov ⟨S.s, S.P.set i (begP C S.now (S.P.getD i .no)), S.now, S.out⟩ from by
        rw [begP_next HA.out.2 HA.out.1]
        have hb : ∀ c, c ≠ 0 → c ≠ 1 → c ≠ 2 → c ≠ 7 → row' i c = rowB row i S.now i c := fun c c0 c1 c2 c7 => hne i c (.inr ⟨c0, c1, c2, c7⟩)
        have r3 : row' i 3 = .int .i64 i := by rw [hb 3 (by omega) (by omega) (by omega) (by omega)]; unfold rowB; rw [rowS_ne _ _ _ _ (by omega), rowS_ne _ _ _ _ (by omega), rowS_ne _ _ _ _ (by omega), rowS_ne _ _ _ _ (by omega)]; exact rowS_at ..
        have r4 : row' i 4 = .int .i64 S.now := by rw [hb 4 (by omega) (by omega) (by omega) (by omega)]; unfold rowB; rw [rowS_ne _ _ _ _ (by omega), rowS_ne _ _ _ _ (by omega), rowS_ne _ _ _ _ (by omega)]; exact rowS_at ..
        have r5 : row' i 5 = .int .i64 0 := by rw [hb 5 (by omega) (by omega) (by omega) (by omega)]; unfold rowB; rw [rowS_ne _ _ _ _ (by omega), rowS_ne _ _ _ _ (by omega)]; exact rowS_at ..
        have r6 : row' i 6 = .int .i64 0 := by rw [hb 6 (by omega) (by omega) (by omega) (by omega)]; unfold rowB; rw [rowS_ne _ _ _ _ (by omega)]; exact rowS_at ..
        refine HG.out.one hi (HF2.out.trans hf) hp' (fun b c hb => ?_) ⟨h0 ▸ hac, h1, fun j j2 j8 => ?_, fun _ => ⟨?_, r3, r4, h7⟩⟩ hmo (fun _ => ⟨?_, fun j hj hji hm => ?_⟩)
        · rw [hne b c (.inl hb)]
          unfold rowB
          rw [rowS_ne _ _ _ _ (by omega), rowS_ne _ _ _ _ (by omega), rowS_ne _ _ _ _ (by omega), rowS_ne _ _ _ _ (by omega), rowS_ne _ _ _ _ (by omega), rowS_ne _ _ _ _ (by omega)]
        · match j, j2, j8 with
          | 2, _, _ => exact ⟨_, h2⟩
          | 3, _, _ => exact ⟨_, r3⟩
          | 4, _, _ => exact ⟨_, r4⟩
          | 5, _, _ => exact ⟨_, r5⟩
          | 6, _, _ => exact ⟨_, r6⟩
          | 7, _, _ => exact ⟨_, h7⟩
        · rw [h2]
          show _ = Value.int .i64 (actM (C : Int) a).kind
          rw [begP_kind (now := 0) (p := .no) (r := r) HKK.out]
        · have := HG.out.b.size
          have := HF2.out.size
          omega
        · obtain ⟨ty, post, f, ho, _⟩ := (HG.out.mo j hj).ob hm
          have := ho.blk.lt
          have := HF2.out.size
          omega)
      clear hac hmo hx hf hp' h0 h1 h2 h7 hne HP2 HF2 HGM HRG HAC
      go_wp2_with fail
      go_meet
      case rel => exact ⟨_, _, HR.out⟩
  case rest =>
  obtain ⟨q1, row1, hG1⟩ := hcut
  obtain ⟨p1, hp1⟩ : ∃ p1, begP C S.now (S.P.getD i .no) = p1 := ⟨_, rfl⟩
  rw [hp1] at hG1
  have HB := Lib.hid hp1
  have HG1 := Lib.hid hG1
  have HP1 := Lib.hid (show (S.P.set i p1).getD i .no = p1 from set_at _ _ _ _ (by rw [HG.out.len]; exact hi))
  clear hG1 hp1 HX HBZ
  obtain ⟨X1, hX1⟩ : ∃ X1, p1.x.m = X1 := ⟨_, rfl⟩
  have HX1 := Lib.hid hX1
  obtain ⟨x, hx⟩ : ∃ x, q1 i = x := ⟨_, rfl⟩
  have HQ1 := Lib.hid hx
  clear hX1 hx
  go_upto_region 4 with fail
  go_cut [56] from 39 to 55 (fun v wx => (v = .bool false ∧ ∃ q row, GW w0 wx gb p m k g cap bp K pc C q row ov (pickN C i S)) ∨ (v = .bool true ∧ X1 ≠ .no ∧ ∃ wd, PkD w0 wd gb p m k g cap bp K pc C i x q1 row1 ov S p1 wx))
  case first =>
    as_aux_lemma =>
    have HD := Lib.hid (show PkS gb p bp K pc C S.now ov i x X1 row1 wc.drew from ⟨(HG1.out.same (below_drewN wc 1)).pb, (HG1.out.same (below_drewN wc 1)).gm, by
      have := (HG1.out.pl i hi).mv
      rw [HP1.out, HX1.out, HQ1.out] at this
      exact this⟩)
    have HG2 := Lib.hid (show GW w0 wc.drew gb p m k g cap bp K pc C q1 row1 ov ⟨S.s, S.P.set i p1, S.now, S.out⟩ from HG1.out.same (below_drewN wc 1))
    have HMO := Lib.hid (show MO wc.drew x X1 from by
      have := HG2.out.mo i hi
      rw [show (PlS.mk S.s (S.P.set i p1) S.now S.out).P.getD i .no = p1 from HP1.out, HX1.out, HQ1.out] at this
      exact this)
    clear HG HG1
    cases X1 with
    | no =>
      refine wp_region_held_drew (S := PkS gb p bp K pc C S.now ov i x (.no) row1) (by kernel_rfl) HD.out (fun _ => ?_)
      change wpAnyH _ _ _ _ _ 18 #[false, false, false, false, false, false, false, false, false, false, false, false, false, false, false, false, false, false] _ (World.drew _)
      generalize wc.drew = W at *
      refine wpAnyH_take (i := 0) (v := .pointer (some ⟨bp, o, none⟩)) rfl (by kernel_rfl) (by kernel_rfl) (by kernel_rfl) (fun _ _ _ h => h) (Or.inl ⟨by rfl, fun u hu => by (go_simp)⟩) HD.out ?_
      simp only [List.getElem_toArray, List.getElem_cons_succ, List.getElem_cons_zero, Act.put, List.setIfInBounds_toArray, List.set_cons_zero, List.set_cons_succ]
      refine wpAnyH_take (i := 1) (v := .pointer (some ⟨bp, o, none⟩)) rfl (by kernel_rfl) (by kernel_rfl) (by kernel_rfl) (fun _ _ _ h => h) (Or.inl ⟨by rfl, fun u hu => by (go_simp)⟩) HD.out ?_
      simp only [List.getElem_toArray, List.getElem_cons_succ, List.getElem_cons_zero, Act.put, List.setIfInBounds_toArray, List.set_cons_zero, List.set_cons_succ]
      refine wpAnyH_take (i := 2) (v := .pointer (some ⟨bp, o + 1, none⟩)) rfl (by kernel_rfl) (by kernel_rfl) (by kernel_rfl) (fun _ _ _ h => h) (Or.inl ⟨by rfl, fun u hu => by (go_simp)⟩) HD.out ?_
      simp only [List.getElem_toArray, List.getElem_cons_succ, List.getElem_cons_zero, Act.put, List.setIfInBounds_toArray, List.set_cons_zero, List.set_cons_succ]
      refine wpAnyH_take (i := 3) (v := .nilIface) rfl (by kernel_rfl) (by kernel_rfl) (by kernel_rfl) (fun _ _ _ h => h) (Or.inl ⟨by rfl, fun u hu => by (have z := hu.pb.cell hi 1 (by omega); rw [HO.out, hu.v] at z; replace z : u.cell? ⟨bp, o + 1, none⟩ = some (.nilIface) := z; go_simp)⟩) HD.out ?_
      simp only [List.getElem_toArray, List.getElem_cons_succ, List.getElem_cons_zero, Act.put, List.setIfInBounds_toArray, List.set_cons_zero, List.set_cons_succ]
      refine wpAnyH_take (i := 4) (v := .bool false) rfl (by kernel_rfl) (by kernel_rfl) (by kernel_rfl) (fun _ _ _ h => h) (Or.inl ⟨by rfl, fun u hu => by (have hq := neq_no; have hg := neqg_no; go_simp)⟩) HD.out ?_
      simp only [List.getElem_toArray, List.getElem_cons_succ, List.getElem_cons_zero, Act.put, List.setIfInBounds_toArray, List.set_cons_zero, List.set_cons_succ]
      refine wpAnyH_take (i := 5) (v := .bool false) rfl (by kernel_rfl) (by kernel_rfl) (by kernel_rfl) (fun _ _ _ h => h) (Or.inl ⟨by rfl, fun u hu => by (go_simp)⟩) HD.out ?_
      simp only [List.getElem_toArray, List.getElem_cons_succ, List.getElem_cons_zero, Act.put, List.setIfInBounds_toArray, List.set_cons_zero, List.set_cons_succ]
      refine wpAnyH_take (i := 6) (v := undef) rfl (by kernel_rfl) (by kernel_rfl) (by kernel_rfl) (fun _ _ _ h => h) (Or.inr ⟨by rfl, rfl⟩) HD.out ?_
      simp only [List.getElem_toArray, List.getElem_cons_succ, List.getElem_cons_zero, Act.put, List.setIfInBounds_toArray, List.set_cons_zero, List.set_cons_succ]
      refine wpAnyH_take (i := 7) (v := undef) rfl (by kernel_rfl) (by kernel_rfl) (by kernel_rfl) (fun _ _ _ h => h) (Or.inr ⟨by rfl, rfl⟩) HD.out ?_
      simp only [List.getElem_toArray, List.getElem_cons_succ, List.getElem_cons_zero, Act.put, List.setIfInBounds_toArray, List.set_cons_zero, List.set_cons_succ]
      refine wpAnyH_take (i := 8) (v := undef) rfl (by kernel_rfl) (by kernel_rfl) (by kernel_rfl) (fun _ _ _ h => h) (Or.inr ⟨by rfl, rfl⟩) HD.out ?_
      simp only [List.getElem_toArray, List.getElem_cons_succ, List.getElem_cons_zero, Act.put, List.setIfInBounds_toArray, List.set_cons_zero, List.set_cons_succ]
      refine wpAnyH_take (i := 9) (v := undef) rfl (by kernel_rfl) (by kernel_rfl) (by kernel_rfl) (fun _ _ _ h => h) (Or.inr ⟨by rfl, rfl⟩) HD.out ?_
      simp only [List.getElem_toArray, List.getElem_cons_succ, List.getElem_cons_zero, Act.put, List.setIfInBounds_toArray, List.set_cons_zero, List.set_cons_succ]
      refine wpAnyH_take (i := 10) (v := undef) rfl (by kernel_rfl) (by kernel_rfl) (by kernel_rfl) (fun _ _ _ h => h) (Or.inr ⟨by rfl, rfl⟩) HD.out ?_
      simp only [List.getElem_toArray, List.getElem_cons_succ, List.getElem_cons_zero, Act.put, List.setIfInBounds_toArray, List.set_cons_zero, List.set_cons_succ]
      refine wpAnyH_take (i := 11) (v := undef) rfl (by kernel_rfl) (by kernel_rfl) (by kernel_rfl) (fun _ _ _ h => h) (Or.inr ⟨by rfl, rfl⟩) HD.out ?_
      simp only [List.getElem_toArray, List.getElem_cons_succ, List.getElem_cons_zero, Act.put, List.setIfInBounds_toArray, List.set_cons_zero, List.set_cons_succ]
      refine wpAnyH_take (i := 12) (v := undef) rfl (by kernel_rfl) (by kernel_rfl) (by kernel_rfl) (fun _ _ _ h => h) (Or.inr ⟨by rfl, rfl⟩) HD.out ?_
      simp only [List.getElem_toArray, List.getElem_cons_succ, List.getElem_cons_zero, Act.put, List.setIfInBounds_toArray, List.set_cons_zero, List.set_cons_succ]
      refine wpAnyH_take (i := 13) (v := undef) rfl (by kernel_rfl) (by kernel_rfl) (by kernel_rfl) (fun _ _ _ h => h) (Or.inr ⟨by rfl, rfl⟩) HD.out ?_
      simp only [List.getElem_toArray, List.getElem_cons_succ, List.getElem_cons_zero, Act.put, List.setIfInBounds_toArray, List.set_cons_zero, List.set_cons_succ]
      refine wpAnyH_take (i := 14) (v := undef) rfl (by kernel_rfl) (by kernel_rfl) (by kernel_rfl) (fun _ _ _ h => h) (Or.inr ⟨by rfl, rfl⟩) HD.out ?_
      simp only [List.getElem_toArray, List.getElem_cons_succ, List.getElem_cons_zero, Act.put, List.setIfInBounds_toArray, List.set_cons_zero, List.set_cons_succ]
      refine wpAnyH_take (i := 15) (v := undef) rfl (by kernel_rfl) (by kernel_rfl) (by kernel_rfl) (fun _ _ _ h => h) (Or.inr ⟨by rfl, rfl⟩) HD.out ?_
      simp only [List.getElem_toArray, List.getElem_cons_succ, List.getElem_cons_zero, Act.put, List.setIfInBounds_toArray, List.set_cons_zero, List.set_cons_succ]
      refine wpAnyH_take (i := 16) (v := undef) rfl (by kernel_rfl) (by kernel_rfl) (by kernel_rfl) (fun _ _ _ h => h) (Or.inr ⟨by rfl, rfl⟩) HD.out ?_
      simp only [List.getElem_toArray, List.getElem_cons_succ, List.getElem_cons_zero, Act.put, List.setIfInBounds_toArray, List.set_cons_zero, List.set_cons_succ]
      refine wpAnyH_take (i := 17) (v := .bool false) rfl (by kernel_rfl) (by kernel_rfl) (by kernel_rfl) (fun _ _ _ h => h) (Or.inl ⟨by rfl, fun u hu => by (go_simp)⟩) HD.out ?_
      simp only [List.getElem_toArray, List.getElem_cons_succ, List.getElem_cons_zero, Act.put, List.setIfInBounds_toArray, List.set_cons_zero, List.set_cons_succ]
      refine wpAnyH_done (by kernel_rfl) ?_ _
      have HR := Lib.hid (show ∃ q row, GW w0 W gb p m k g cap bp K pc C q row ov (pickN C i S) from ⟨q1, row1, by
        unfold pickN
        rw [HB.out, if_pos (show p1.x.m.idle = true by rw [HX1.out]; rfl)]
        exact HG2.out⟩)
      clear HG2 HMO HD
      go_wp2_with fail
      go_meet
      case rel => exact .inl ⟨rfl, HR.out⟩
    | push f =>
      refine wp_region_held_drew (S := PkS gb p bp K pc C S.now ov i x (.push f) row1) (by kernel_rfl) HD.out (fun _ => ?_)
      change wpAnyH _ _ _ _ _ 18 #[false, false, false, false, false, false, false, false, false, false, false, false, false, false, false, false, false, false] _ (World.drew _)
      generalize wc.drew = W at *
      refine wpAnyH_take (i := 0) (v := .pointer (some ⟨bp, o, none⟩)) rfl (by kernel_rfl) (by kernel_rfl) (by kernel_rfl) (fun _ _ _ h => h) (Or.inl ⟨by rfl, fun u hu => by (go_simp)⟩) HD.out ?_
      simp only [List.getElem_toArray, List.getElem_cons_succ, List.getElem_cons_zero, Act.put, List.setIfInBounds_toArray, List.set_cons_zero, List.set_cons_succ]
      refine wpAnyH_take (i := 1) (v := .pointer (some ⟨bp, o, none⟩)) rfl (by kernel_rfl) (by kernel_rfl) (by kernel_rfl) (fun _ _ _ h => h) (Or.inl ⟨by rfl, fun u hu => by (go_simp)⟩) HD.out ?_
      simp only [List.getElem_toArray, List.getElem_cons_succ, List.getElem_cons_zero, Act.put, List.setIfInBounds_toArray, List.set_cons_zero, List.set_cons_succ]
      refine wpAnyH_take (i := 2) (v := .pointer (some ⟨bp, o + 1, none⟩)) rfl (by kernel_rfl) (by kernel_rfl) (by kernel_rfl) (fun _ _ _ h => h) (Or.inl ⟨by rfl, fun u hu => by (go_simp)⟩) HD.out ?_
      simp only [List.getElem_toArray, List.getElem_cons_succ, List.getElem_cons_zero, Act.put, List.setIfInBounds_toArray, List.set_cons_zero, List.set_cons_succ]
      refine wpAnyH_take (i := 3) (v := .iface 259 (.pointer (some ⟨x, 0, none⟩))) rfl (by kernel_rfl) (by kernel_rfl) (by kernel_rfl) (fun _ _ _ h => h) (Or.inl ⟨by rfl, fun u hu => by (have z := hu.pb.cell hi 1 (by omega); rw [HO.out, hu.v] at z; replace z : u.cell? ⟨bp, o + 1, none⟩ = some (.iface 259 (.pointer (some ⟨x, 0, none⟩))) := z; go_simp)⟩) HD.out ?_
      simp only [List.getElem_toArray, List.getElem_cons_succ, List.getElem_cons_zero, Act.put, List.setIfInBounds_toArray, List.set_cons_zero, List.set_cons_succ]
      refine wpAnyH_take (i := 4) (v := .bool true) rfl (by kernel_rfl) (by kernel_rfl) (by kernel_rfl) (fun _ _ _ h => h) (Or.inl ⟨by rfl, fun u hu => by (have hq := neq_push x; have hg := neqg_push x; go_simp)⟩) HD.out ?_
      simp only [List.getElem_toArray, List.getElem_cons_succ, List.getElem_cons_zero, Act.put, List.setIfInBounds_toArray, List.set_cons_zero, List.set_cons_succ]
      refine wpAnyH_take (i := 5) (v := .bool true) rfl (by kernel_rfl) (by kernel_rfl) (by kernel_rfl) (fun _ _ _ h => h) (Or.inl ⟨by rfl, fun u hu => by (go_simp)⟩) HD.out ?_
      simp only [List.getElem_toArray, List.getElem_cons_succ, List.getElem_cons_zero, Act.put, List.setIfInBounds_toArray, List.set_cons_zero, List.set_cons_succ]
      refine wpAnyH_take (i := 6) (v := .pointer (some ⟨bp, o, none⟩)) rfl (by kernel_rfl) (by kernel_rfl) (by kernel_rfl) (fun _ _ _ h => h) (Or.inl ⟨by rfl, fun u hu => by (go_simp)⟩) HD.out ?_
      simp only [List.getElem_toArray, List.getElem_cons_succ, List.getElem_cons_zero, Act.put, List.setIfInBounds_toArray, List.set_cons_zero, List.set_cons_succ]
      refine wpAnyH_take (i := 7) (v := .pointer (some ⟨bp, o, none⟩)) rfl (by kernel_rfl) (by kernel_rfl) (by kernel_rfl) (fun _ _ _ h => h) (Or.inl ⟨by rfl, fun u hu => by (go_simp)⟩) HD.out ?_
      simp only [List.getElem_toArray, List.getElem_cons_succ, List.getElem_cons_zero, Act.put, List.setIfInBounds_toArray, List.set_cons_zero, List.set_cons_succ]
      refine wpAnyH_take (i := 8) (v := .pointer (some ⟨bp, o + 1, none⟩)) rfl (by kernel_rfl) (by kernel_rfl) (by kernel_rfl) (fun _ _ _ h => h) (Or.inl ⟨by rfl, fun u hu => by (go_simp)⟩) HD.out ?_
      simp only [List.getElem_toArray, List.getElem_cons_succ, List.getElem_cons_zero, Act.put, List.setIfInBounds_toArray, List.set_cons_zero, List.set_cons_succ]
      refine wpAnyH_take (i := 9) (v := .iface 259 (.pointer (some ⟨x, 0, none⟩))) rfl (by kernel_rfl) (by kernel_rfl) (by kernel_rfl) (fun _ _ _ h => h) (Or.inl ⟨by rfl, fun u hu => by (have z := hu.pb.cell hi 1 (by omega); rw [HO.out, hu.v] at z; replace z : u.cell? ⟨bp, o + 1, none⟩ = some (.iface 259 (.pointer (some ⟨x, 0, none⟩))) := z; go_simp)⟩) HD.out ?_
      simp only [List.getElem_toArray, List.getElem_cons_succ, List.getElem_cons_zero, Act.put, List.setIfInBounds_toArray, List.set_cons_zero, List.set_cons_succ]
      refine wpAnyH_take (i := 10) (v := .pointer (some ⟨gb, 0, none⟩)) rfl (by kernel_rfl) (by kernel_rfl) (by kernel_rfl) (fun _ _ _ h => h) (Or.inl ⟨by rfl, fun u hu => by (go_simp)⟩) HD.out ?_
      simp only [List.getElem_toArray, List.getElem_cons_succ, List.getElem_cons_zero, Act.put, List.setIfInBounds_toArray, List.set_cons_zero, List.set_cons_succ]
      refine wpAnyH_take (i := 11) (v := .pointer (some ⟨gb, 0, none⟩)) rfl (by kernel_rfl) (by kernel_rfl) (by kernel_rfl) (fun _ _ _ h => h) (Or.inl ⟨by rfl, fun u hu => by (go_simp)⟩) HD.out ?_
      simp only [List.getElem_toArray, List.getElem_cons_succ, List.getElem_cons_zero, Act.put, List.setIfInBounds_toArray, List.set_cons_zero, List.set_cons_succ]
      refine wpAnyH_take (i := 12) (v := .pointer (some ⟨gb, 0, none⟩)) rfl (by kernel_rfl) (by kernel_rfl) (by kernel_rfl) (fun _ _ _ h => h) (Or.inl ⟨by rfl, fun u hu => by (go_simp)⟩) HD.out ?_
      simp only [List.getElem_toArray, List.getElem_cons_succ, List.getElem_cons_zero, Act.put, List.setIfInBounds_toArray, List.set_cons_zero, List.set_cons_succ]
      refine wpAnyH_take (i := 13) (v := .pointer (some ⟨p, 0, none⟩)) rfl (by kernel_rfl) (by kernel_rfl) (by kernel_rfl) (fun _ _ _ h => h) (Or.inl ⟨by rfl, fun u hu => by (have z : u.cell? ⟨gb, 0, none⟩ = some (.pointer (some ⟨p, 0, none⟩)) := hu.g.at_ 0; go_simp)⟩) HD.out ?_
      simp only [List.getElem_toArray, List.getElem_cons_succ, List.getElem_cons_zero, Act.put, List.setIfInBounds_toArray, List.set_cons_zero, List.set_cons_succ]
      refine wpAnyH_take (i := 14) (v := .iface 259 (.pointer (some ⟨x, 0, none⟩))) rfl (by kernel_rfl) (by kernel_rfl) (by kernel_rfl) (fun _ _ _ h => h) (Or.inl ⟨by rfl, fun u hu => by (go_simp)⟩) HD.out ?_
      simp only [List.getElem_toArray, List.getElem_cons_succ, List.getElem_cons_zero, Act.put, List.setIfInBounds_toArray, List.set_cons_zero, List.set_cons_succ]
      refine wpAnyH_take (i := 15) (v := .iface 259 (.pointer (some ⟨x, 0, none⟩))) rfl (by kernel_rfl) (by kernel_rfl) (by kernel_rfl) (fun _ _ _ h => h) (Or.inl ⟨by rfl, fun u hu => by (go_simp)⟩) HD.out ?_
      simp only [List.getElem_toArray, List.getElem_cons_succ, List.getElem_cons_zero, Act.put, List.setIfInBounds_toArray, List.set_cons_zero, List.set_cons_succ]
      have km := meth_step_pusher x
      have kn := ahead_step_pusher x
      obtain ⟨ho, hok⟩ := HMO.out
      have hcall := pusher_any HG2.out.pe ho hok.1 hok.2.1 hok.2.2.2
      have HN := Lib.hid (push_keeps.n S.s f HG2.out.n hok)
      have HOK := Lib.hid hok
      have HOB := Lib.hid ho
      have HCALL := Lib.hid hcall
      clear hok hcall ho HMO
      refine wpAnyH_ready (rs := [16]) (by kernel_rfl) (by simp) ?_
      refine AllReadyH.cons rfl (fun KK hK => ?_) AllReadyH.nil
      go_simp
      go_at_call 250
      (with_reducible refine HCALL.out.mono ?_)
      rintro e w6 ⟨rfl, hpe, hob, hfr⟩
      have HPE := Lib.hid (And.intro hpe (And.intro hob hfr))
      have HS6 := Lib.hid (show PkS gb p bp K pc C S.now ov i x (.push f) row1 w6 from HD.out.step HG2.out HOB.out (by decide) hfr)
      clear hpe hob hfr km kn HD HCALL
      refine hK.out _ _ HS6.out (fun _ => ?_)
      clear hK KK
      simp only [List.setIfInBounds_toArray, List.set_cons_zero, List.set_cons_succ]
      obtain ⟨dn, hdn⟩ : ∃ dn, (pushS S.s f).2.2.dn = dn := ⟨_, rfl⟩
      rw [hdn]
      have HDN := Lib.hid hdn
      clear hdn
      refine wpAnyH_take (i := 17) (v := .bool dn) rfl (by kernel_rfl) (by kernel_rfl) (by kernel_rfl) (fun _ _ _ h => h) (Or.inl ⟨by rfl, fun u hu => by (go_simp)⟩) HS6.out ?_
      simp only [List.getElem_toArray, List.getElem_cons_succ, List.getElem_cons_zero, Act.put, List.setIfInBounds_toArray, List.set_cons_zero, List.set_cons_succ]
      refine wpAnyH_done (by kernel_rfl) ?_ _
      cases dn with
      | false =>
        have HR := Lib.hid (show ∃ q row, GW w0 w6 gb p m k g cap bp K pc C q row ov (pickN C i S) from ⟨q1, row1, by
          have hd := HDN.out
          obtain ⟨hpe, hob, hfr⟩ := HPE.out
          obtain ⟨z1, z2⟩ := push_keeps.z S.s f hd
          have ok' := push_keeps.o S.s f HG2.out.n HOK.out hd
          rw [hd, z1, z2] at hob
          simp only [Bool.false_eq_true, if_false] at hob
          rw [← (push_keeps.q S.s f).1] at hob
          unfold pickN
          rw [HB.out, if_neg (show ¬ p1.x.m.idle = true by rw [HX1.out]; intro e; cases e)]
          unfold stpN
          rw [HX1.out, if_neg (show ¬ (stepM S.s (.push f)).2.2.dn = true by rw [show (stepM S.s (.push f)).2.2.dn = false from hd]; decide)]
          have h0 := HG2.out
          have e1 : (PlS.mk S.s (S.P.set i p1) S.now S.out).P.getD i .no = p1 := HP1.out
          have hst := h0.step (i := i) (X := .push (pushS S.s f).2.1) hi (by rw [e1, HX1.out]; intro e; cases e) (HQ1.out ▸ HOB.out) (by simp) hpe (HQ1.out ▸ hfr) HN.out (HQ1.out ▸ ⟨hob, ok'⟩) (by rw [e1, HX1.out]; rfl) (by rw [e1, HX1.out]; rfl)
          rw [e1] at hst
          rw [show (PlS.mk S.s (S.P.set i p1) S.now S.out).P.set i _ = S.P.set i _ from List.set_set ..] at hst
          exact hst⟩)
        clear HG2 HOB HN HOK HPE HS6
        go_wp2_with fail
        go_meet
        case rel => exact .inl ⟨rfl, HR.out⟩
      | true =>
        have HR := Lib.hid (show PkD w0 W gb p m k g cap bp K pc C i x q1 row1 ov S p1 w6 from ⟨HG2.out, .push f, HX1.out, (by intro e; cases e), HPE.out.1, HN.out, HDN.out, HQ1.out ▸ HPE.out.2.2, _, _, _, HDN.out ▸ HPE.out.2.1, by simp [tyOf]⟩)
        clear HG2 HOB HN HOK HPE HS6
        go_wp2_with fail
        go_meet
        case rel => exact .inr ⟨rfl, (by intro e; cases e), W, HR.out⟩
    | pop f =>
      refine wp_region_held_drew (S := PkS gb p bp K pc C S.now ov i x (.pop f) row1) (by kernel_rfl) HD.out (fun _ => ?_)
      change wpAnyH _ _ _ _ _ 18 #[false, false, false, false, false, false, false, false, false, false, false, false, false, false, false, false, false, false] _ (World.drew _)
      generalize wc.drew = W at *
      refine wpAnyH_take (i := 0) (v := .pointer (some ⟨bp, o, none⟩)) rfl (by kernel_rfl) (by kernel_rfl) (by kernel_rfl) (fun _ _ _ h => h) (Or.inl ⟨by rfl, fun u hu => by (go_simp)⟩) HD.out ?_
      simp only [List.getElem_toArray, List.getElem_cons_succ, List.getElem_cons_zero, Act.put, List.setIfInBounds_toArray, List.set_cons_zero, List.set_cons_succ]
      refine wpAnyH_take (i := 1) (v := .pointer (some ⟨bp, o, none⟩)) rfl (by kernel_rfl) (by kernel_rfl) (by kernel_rfl) (fun _ _ _ h => h) (Or.inl ⟨by rfl, fun u hu => by (go_simp)⟩) HD.out ?_
      simp only [List.getElem_toArray, List.getElem_cons_succ, List.getElem_cons_zero, Act.put, List.setIfInBounds_toArray, List.set_cons_zero, List.set_cons_succ]
      refine wpAnyH_take (i := 2) (v := .pointer (some ⟨bp, o + 1, none⟩)) rfl (by kernel_rfl) (by kernel_rfl) (by kernel_rfl) (fun _ _ _ h => h) (Or.inl ⟨by rfl, fun u hu => by (go_simp)⟩) HD.out ?_
      simp only [List.getElem_toArray, List.getElem_cons_succ, List.getElem_cons_zero, Act.put, List.setIfInBounds_toArray, List.set_cons_zero, List.set_cons_succ]
      refine wpAnyH_take (i := 3) (v := .iface 265 (.pointer (some ⟨x, 0, none⟩))) rfl (by kernel_rfl) (by kernel_rfl) (by kernel_rfl) (fun _ _ _ h => h) (Or.inl ⟨by rfl, fun u hu => by (have z := hu.pb.cell hi 1 (by omega); rw [HO.out, hu.v] at z; replace z : u.cell? ⟨bp, o + 1, none⟩ = some (.iface 265 (.pointer (some ⟨x, 0, none⟩))) := z; go_simp)⟩) HD.out ?_
      simp only [List.getElem_toArray, List.getElem_cons_succ, List.getElem_cons_zero, Act.put, List.setIfInBounds_toArray, List.set_cons_zero, List.set_cons_succ]
      refine wpAnyH_take (i := 4) (v := .bool true) rfl (by kernel_rfl) (by kernel_rfl) (by kernel_rfl) (fun _ _ _ h => h) (Or.inl ⟨by rfl, fun u hu => by (have hq := neq_pop x; have hg := neqg_pop x; go_simp)⟩) HD.out ?_
      simp only [List.getElem_toArray, List.getElem_cons_succ, List.getElem_cons_zero, Act.put, List.setIfInBounds_toArray, List.set_cons_zero, List.set_cons_succ]
      refine wpAnyH_take (i := 5) (v := .bool true) rfl (by kernel_rfl) (by kernel_rfl) (by kernel_rfl) (fun _ _ _ h => h) (Or.inl ⟨by rfl, fun u hu => by (go_simp)⟩) HD.out ?_
      simp only [List.getElem_toArray, List.getElem_cons_succ, List.getElem_cons_zero, Act.put, List.setIfInBounds_toArray, List.set_cons_zero, List.set_cons_succ]
      refine wpAnyH_take (i := 6) (v := .pointer (some ⟨bp, o, none⟩)) rfl (by kernel_rfl) (by kernel_rfl) (by kernel_rfl) (fun _ _ _ h => h) (Or.inl ⟨by rfl, fun u hu => by (go_simp)⟩) HD.out ?_
      simp only [List.getElem_toArray, List.getElem_cons_succ, List.getElem_cons_zero, Act.put, List.setIfInBounds_toArray, List.set_cons_zero, List.set_cons_succ]
      refine wpAnyH_take (i := 7) (v := .pointer (some ⟨bp, o, none⟩)) rfl (by kernel_rfl) (by kernel_rfl) (by kernel_rfl) (fun _ _ _ h => h) (Or.inl ⟨by rfl, fun u hu => by (go_simp)⟩) HD.out ?_
      simp only [List.getElem_toArray, List.getElem_cons_succ, List.getElem_cons_zero, Act.put, List.setIfInBounds_toArray, List.set_cons_zero, List.set_cons_succ]
      refine wpAnyH_take (i := 8) (v := .pointer (some ⟨bp, o + 1, none⟩)) rfl (by kernel_rfl) (by kernel_rfl) (by kernel_rfl) (fun _ _ _ h => h) (Or.inl ⟨by rfl, fun u hu => by (go_simp)⟩) HD.out ?_
      simp only [List.getElem_toArray, List.getElem_cons_succ, List.getElem_cons_zero, Act.put, List.setIfInBounds_toArray, List.set_cons_zero, List.set_cons_succ]
      refine wpAnyH_take (i := 9) (v := .iface 265 (.pointer (some ⟨x, 0, none⟩))) rfl (by kernel_rfl) (by kernel_rfl) (by kernel_rfl) (fun _ _ _ h => h) (Or.inl ⟨by rfl, fun u hu => by (have z := hu.pb.cell hi 1 (by omega); rw [HO.out, hu.v] at z; replace z : u.cell? ⟨bp, o + 1, none⟩ = some (.iface 265 (.pointer (some ⟨x, 0, none⟩))) := z; go_simp)⟩) HD.out ?_
      simp only [List.getElem_toArray, List.getElem_cons_succ, List.getElem_cons_zero, Act.put, List.setIfInBounds_toArray, List.set_cons_zero, List.set_cons_succ]
      refine wpAnyH_take (i := 10) (v := .pointer (some ⟨gb, 0, none⟩)) rfl (by kernel_rfl) (by kernel_rfl) (by kernel_rfl) (fun _ _ _ h => h) (Or.inl ⟨by rfl, fun u hu => by (go_simp)⟩) HD.out ?_
      simp only [List.getElem_toArray, List.getElem_cons_succ, List.getElem_cons_zero, Act.put, List.setIfInBounds_toArray, List.set_cons_zero, List.set_cons_succ]
      refine wpAnyH_take (i := 11) (v := .pointer (some ⟨gb, 0, none⟩)) rfl (by kernel_rfl) (by kernel_rfl) (by kernel_rfl) (fun _ _ _ h => h) (Or.inl ⟨by rfl, fun u hu => by (go_simp)⟩) HD.out ?_
      simp only [List.getElem_toArray, List.getElem_cons_succ, List.getElem_cons_zero, Act.put, List.setIfInBounds_toArray, List.set_cons_zero, List.set_cons_succ]
      refine wpAnyH_take (i := 12) (v := .pointer (some ⟨gb, 0, none⟩)) rfl (by kernel_rfl) (by kernel_rfl) (by kernel_rfl) (fun _ _ _ h => h) (Or.inl ⟨by rfl, fun u hu => by (go_simp)⟩) HD.out ?_
      simp only [List.getElem_toArray, List.getElem_cons_succ, List.getElem_cons_zero, Act.put, List.setIfInBounds_toArray, List.set_cons_zero, List.set_cons_succ]
      refine wpAnyH_take (i := 13) (v := .pointer (some ⟨p, 0, none⟩)) rfl (by kernel_rfl) (by kernel_rfl) (by kernel_rfl) (fun _ _ _ h => h) (Or.inl ⟨by rfl, fun u hu => by (have z : u.cell? ⟨gb, 0, none⟩ = some (.pointer (some ⟨p, 0, none⟩)) := hu.g.at_ 0; go_simp)⟩) HD.out ?_
      simp only [List.getElem_toArray, List.getElem_cons_succ, List.getElem_cons_zero, Act.put, List.setIfInBounds_toArray, List.set_cons_zero, List.set_cons_succ]
      refine wpAnyH_take (i := 14) (v := .iface 265 (.pointer (some ⟨x, 0, none⟩))) rfl (by kernel_rfl) (by kernel_rfl) (by kernel_rfl) (fun _ _ _ h => h) (Or.inl ⟨by rfl, fun u hu => by (go_simp)⟩) HD.out ?_
      simp only [List.getElem_toArray, List.getElem_cons_succ, List.getElem_cons_zero, Act.put, List.setIfInBounds_toArray, List.set_cons_zero, List.set_cons_succ]
      refine wpAnyH_take (i := 15) (v := .iface 265 (.pointer (some ⟨x, 0, none⟩))) rfl (by kernel_rfl) (by kernel_rfl) (by kernel_rfl) (fun _ _ _ h => h) (Or.inl ⟨by rfl, fun u hu => by (go_simp)⟩) HD.out ?_
      simp only [List.getElem_toArray, List.getElem_cons_succ, List.getElem_cons_zero, Act.put, List.setIfInBounds_toArray, List.set_cons_zero, List.set_cons_succ]
      have km := meth_step_popper x
      have kn := ahead_step_popper x
      obtain ⟨ho, hok⟩ := HMO.out
      have hcall := popper_any HG2.out.pe ho hok.1 hok.2.2.2
      have HN := Lib.hid (pop_keeps.n S.s f HG2.out.n hok)
      have HOK := Lib.hid hok
      have HOB := Lib.hid ho
      have HCALL := Lib.hid hcall
      clear hok hcall ho HMO
      refine wpAnyH_ready (rs := [16]) (by kernel_rfl) (by simp) ?_
      refine AllReadyH.cons rfl (fun KK hK => ?_) AllReadyH.nil
      go_simp
      go_at_call 256
      (with_reducible refine HCALL.out.mono ?_)
      rintro e w6 ⟨rfl, hpe, hob, hfr⟩
      have HPE := Lib.hid (And.intro hpe (And.intro hob hfr))
      have HS6 := Lib.hid (show PkS gb p bp K pc C S.now ov i x (.pop f) row1 w6 from HD.out.step HG2.out HOB.out (by decide) hfr)
      clear hpe hob hfr km kn HD HCALL
      refine hK.out _ _ HS6.out (fun _ => ?_)
      clear hK KK
      simp only [List.setIfInBounds_toArray, List.set_cons_zero, List.set_cons_succ]
      obtain ⟨dn, hdn⟩ : ∃ dn, (popS S.s f).2.2.dn = dn := ⟨_, rfl⟩
      rw [hdn]
      have HDN := Lib.hid hdn
      clear hdn
      refine wpAnyH_take (i := 17) (v := .bool dn) rfl (by kernel_rfl) (by kernel_rfl) (by kernel_rfl) (fun _ _ _ h => h) (Or.inl ⟨by rfl, fun u hu => by (go_simp)⟩) HS6.out ?_
      simp only [List.getElem_toArray, List.getElem_cons_succ, List.getElem_cons_zero, Act.put, List.setIfInBounds_toArray, List.set_cons_zero, List.set_cons_succ]
      refine wpAnyH_done (by kernel_rfl) ?_ _
      cases dn with
      | false =>
        have HR := Lib.hid (show ∃ q row, GW w0 w6 gb p m k g cap bp K pc C q row ov (pickN C i S) from ⟨q1, row1, by
          have hd := HDN.out
          obtain ⟨hpe, hob, hfr⟩ := HPE.out
          obtain ⟨z1, z2⟩ := pop_keeps.z S.s f hd
          have ok' := pop_keeps.o S.s f HG2.out.n HOK.out hd
          rw [hd, z1, z2] at hob
          simp only [Bool.false_eq_true, if_false] at hob
          unfold pickN
          rw [HB.out, if_neg (show ¬ p1.x.m.idle = true by rw [HX1.out]; intro e; cases e)]
          unfold stpN
          rw [HX1.out, if_neg (show ¬ (stepM S.s (.pop f)).2.2.dn = true by rw [show (stepM S.s (.pop f)).2.2.dn = false from hd]; decide)]
          have h0 := HG2.out
          have e1 : (PlS.mk S.s (S.P.set i p1) S.now S.out).P.getD i .no = p1 := HP1.out
          have hst := h0.step (i := i) (X := .pop (popS S.s f).2.1) hi (by rw [e1, HX1.out]; intro e; cases e) (HQ1.out ▸ HOB.out) (by simp) hpe (HQ1.out ▸ hfr) HN.out (HQ1.out ▸ ⟨hob, ok'⟩) (by rw [e1, HX1.out]; rfl) (by rw [e1, HX1.out]; rfl)
          rw [e1] at hst
          rw [show (PlS.mk S.s (S.P.set i p1) S.now S.out).P.set i _ = S.P.set i _ from List.set_set ..] at hst
          exact hst⟩)
        clear HG2 HOB HN HOK HPE HS6
        go_wp2_with fail
        go_meet
        case rel => exact .inl ⟨rfl, HR.out⟩
      | true =>
        have HR := Lib.hid (show PkD w0 W gb p m k g cap bp K pc C i x q1 row1 ov S p1 w6 from ⟨HG2.out, .pop f, HX1.out, (by intro e; cases e), HPE.out.1, HN.out, HDN.out, HQ1.out ▸ HPE.out.2.2, _, _, _, HDN.out ▸ HPE.out.2.1, by simp [tyOf]⟩)
        clear HG2 HOB HN HOK HPE HS6
        go_wp2_with fail
        go_meet
        case rel => exact .inr ⟨rfl, (by intro e; cases e), W, HR.out⟩
    | steal f =>
      refine wp_region_held_drew (S := PkS gb p bp K pc C S.now ov i x (.steal f) row1) (by kernel_rfl) HD.out (fun _ => ?_)
      change wpAnyH _ _ _ _ _ 18 #[false, false, false, false, false, false, false, false, false, false, false, false, false, false, false, false, false, false] _ (World.drew _)
      generalize wc.drew = W at *
      refine wpAnyH_take (i := 0) (v := .pointer (some ⟨bp, o, none⟩)) rfl (by kernel_rfl) (by kernel_rfl) (by kernel_rfl) (fun _ _ _ h => h) (Or.inl ⟨by rfl, fun u hu => by (go_simp)⟩) HD.out ?_
      simp only [List.getElem_toArray, List.getElem_cons_succ, List.getElem_cons_zero, Act.put, List.setIfInBounds_toArray, List.set_cons_zero, List.set_cons_succ]
      refine wpAnyH_take (i := 1) (v := .pointer (some ⟨bp, o, none⟩)) rfl (by kernel_rfl) (by kernel_rfl) (by kernel_rfl) (fun _ _ _ h => h) (Or.inl ⟨by rfl, fun u hu => by (go_simp)⟩) HD.out ?_
      simp only [List.getElem_toArray, List.getElem_cons_succ, List.getElem_cons_zero, Act.put, List.setIfInBounds_toArray, List.set_cons_zero, List.set_cons_succ]
      refine wpAnyH_take (i := 2) (v := .pointer (some ⟨bp, o + 1, none⟩)) rfl (by kernel_rfl) (by kernel_rfl) (by kernel_rfl) (fun _ _ _ h => h) (Or.inl ⟨by rfl, fun u hu => by (go_simp)⟩) HD.out ?_
      simp only [List.getElem_toArray, List.getElem_cons_succ, List.getElem_cons_zero, Act.put, List.setIfInBounds_toArray, List.set_cons_zero, List.set_cons_succ]
      refine wpAnyH_take (i := 3) (v := .iface 268 (.pointer (some ⟨x, 0, none⟩))) rfl (by kernel_rfl) (by kernel_rfl) (by kernel_rfl) (fun _ _ _ h => h) (Or.inl ⟨by rfl, fun u hu => by (have z := hu.pb.cell hi 1 (by omega); rw [HO.out, hu.v] at z; replace z : u.cell? ⟨bp, o + 1, none⟩ = some (.iface 268 (.pointer (some ⟨x, 0, none⟩))) := z; go_simp)⟩) HD.out ?_
      simp only [List.getElem_toArray, List.getElem_cons_succ, List.getElem_cons_zero, Act.put, List.setIfInBounds_toArray, List.set_cons_zero, List.set_cons_succ]
      refine wpAnyH_take (i := 4) (v := .bool true) rfl (by kernel_rfl) (by kernel_rfl) (by kernel_rfl) (fun _ _ _ h => h) (Or.inl ⟨by rfl, fun u hu => by (have hq := neq_steal x; have hg := neqg_steal x; go_simp)⟩) HD.out ?_
      simp only [List.getElem_toArray, List.getElem_cons_succ, List.getElem_cons_zero, Act.put, List.setIfInBounds_toArray, List.set_cons_zero, List.set_cons_succ]
      refine wpAnyH_take (i := 5) (v := .bool true) rfl (by kernel_rfl) (by kernel_rfl) (by kernel_rfl) (fun _ _ _ h => h) (Or.inl ⟨by rfl, fun u hu => by (go_simp)⟩) HD.out ?_
      simp only [List.getElem_toArray, List.getElem_cons_succ, List.getElem_cons_zero, Act.put, List.setIfInBounds_toArray, List.set_cons_zero, List.set_cons_succ]
      refine wpAnyH_take (i := 6) (v := .pointer (some ⟨bp, o, none⟩)) rfl (by kernel_rfl) (by kernel_rfl) (by kernel_rfl) (fun _ _ _ h => h) (Or.inl ⟨by rfl, fun u hu => by (go_simp)⟩) HD.out ?_
      simp only [List.getElem_toArray, List.getElem_cons_succ, List.getElem_cons_zero, Act.put, List.setIfInBounds_toArray, List.set_cons_zero, List.set_cons_succ]
      refine wpAnyH_take (i := 7) (v := .pointer (some ⟨bp, o, none⟩)) rfl (by kernel_rfl) (by kernel_rfl) (by kernel_rfl) (fun _ _ _ h => h) (Or.inl ⟨by rfl, fun u hu => by (go_simp)⟩) HD.out ?_
      simp only [List.getElem_toArray, List.getElem_cons_succ, List.getElem_cons_zero, Act.put, List.setIfInBounds_toArray, List.set_cons_zero, List.set_cons_succ]
      refine wpAnyH_take (i := 8) (v := .pointer (some ⟨bp, o + 1, none⟩)) rfl (by kernel_rfl) (by kernel_rfl) (by kernel_rfl) (fun _ _ _ h => h) (Or.inl ⟨by rfl, fun u hu => by (go_simp)⟩) HD.out ?_
      simp only [List.getElem_toArray, List.getElem_cons_succ, List.getElem_cons_zero, Act.put, List.setIfInBounds_toArray, List.set_cons_zero, List.set_cons_succ]
      refine wpAnyH_take (i := 9) (v := .iface 268 (.pointer (some ⟨x, 0, none⟩))) rfl (by kernel_rfl) (by kernel_rfl) (by kernel_rfl) (fun _ _ _ h => h) (Or.inl ⟨by rfl, fun u hu => by (have z := hu.pb.cell hi 1 (by omega); rw [HO.out, hu.v] at z; replace z : u.cell? ⟨bp, o + 1, none⟩ = some (.iface 268 (.pointer (some ⟨x, 0, none⟩))) := z; go_simp)⟩) HD.out ?_
      simp only [List.getElem_toArray, List.getElem_cons_succ, List.getElem_cons_zero, Act.put, List.setIfInBounds_toArray, List.set_cons_zero, List.set_cons_succ]
      refine wpAnyH_take (i := 10) (v := .pointer (some ⟨gb, 0, none⟩)) rfl (by kernel_rfl) (by kernel_rfl) (by kernel_rfl) (fun _ _ _ h => h) (Or.inl ⟨by rfl, fun u hu => by (go_simp)⟩) HD.out ?_
      simp only [List.getElem_toArray, List.getElem_cons_succ, List.getElem_cons_zero, Act.put, List.setIfInBounds_toArray, List.set_cons_zero, List.set_cons_succ]
      refine wpAnyH_take (i := 11) (v := .pointer (some ⟨gb, 0, none⟩)) rfl (by kernel_rfl) (by kernel_rfl) (by kernel_rfl) (fun _ _ _ h => h) (Or.inl ⟨by rfl, fun u hu => by (go_simp)⟩) HD.out ?_
      simp only [List.getElem_toArray, List.getElem_cons_succ, List.getElem_cons_zero, Act.put, List.setIfInBounds_toArray, List.set_cons_zero, List.set_cons_succ]
      refine wpAnyH_take (i := 12) (v := .pointer (some ⟨gb, 0, none⟩)) rfl (by kernel_rfl) (by kernel_rfl) (by kernel_rfl) (fun _ _ _ h => h) (Or.inl ⟨by rfl, fun u hu => by (go_simp)⟩) HD.out ?_
      simp only [List.getElem_toArray, List.getElem_cons_succ, List.getElem_cons_zero, Act.put, List.setIfInBounds_toArray, List.set_cons_zero, List.set_cons_succ]
      refine wpAnyH_take (i := 13) (v := .pointer (some ⟨p, 0, none⟩)) rfl (by kernel_rfl) (by kernel_rfl) (by kernel_rfl) (fun _ _ _ h => h) (Or.inl ⟨by rfl, fun u hu => by (have z : u.cell? ⟨gb, 0, none⟩ = some (.pointer (some ⟨p, 0, none⟩)) := hu.g.at_ 0; go_simp)⟩) HD.out ?_
      simp only [List.getElem_toArray, List.getElem_cons_succ, List.getElem_cons_zero, Act.put, List.setIfInBounds_toArray, List.set_cons_zero, List.set_cons_succ]
      refine wpAnyH_take (i := 14) (v := .iface 268 (.pointer (some ⟨x, 0, none⟩))) rfl (by kernel_rfl) (by kernel_rfl) (by kernel_rfl) (fun _ _ _ h => h) (Or.inl ⟨by rfl, fun u hu => by (go_simp)⟩) HD.out ?_
      simp only [List.getElem_toArray, List.getElem_cons_succ, List.getElem_cons_zero, Act.put, List.setIfInBounds_toArray, List.set_cons_zero, List.set_cons_succ]
      refine wpAnyH_take (i := 15) (v := .iface 268 (.pointer (some ⟨x, 0, none⟩))) rfl (by kernel_rfl) (by kernel_rfl) (by kernel_rfl) (fun _ _ _ h => h) (Or.inl ⟨by rfl, fun u hu => by (go_simp)⟩) HD.out ?_
      simp only [List.getElem_toArray, List.getElem_cons_succ, List.getElem_cons_zero, Act.put, List.setIfInBounds_toArray, List.set_cons_zero, List.set_cons_succ]
      have km := meth_step_stealer x
      have kn := ahead_step_stealer x
      obtain ⟨ho, hok⟩ := HMO.out
      have hcall := stealer_any HG2.out.pe ho hok.1 hok.2.2.1 hok.2.2.2
      have HN := Lib.hid (steal_keeps.n S.s f HG2.out.n hok)
      have HOK := Lib.hid hok
      have HOB := Lib.hid ho
      have HCALL := Lib.hid hcall
      clear hok hcall ho HMO
      refine wpAnyH_ready (rs := [16]) (by kernel_rfl) (by simp) ?_
      refine AllReadyH.cons rfl (fun KK hK => ?_) AllReadyH.nil
      go_simp
      go_at_call 261
      (with_reducible refine HCALL.out.mono ?_)
      rintro e w6 ⟨rfl, hpe, hob, hfr⟩
      have HPE := Lib.hid (And.intro hpe (And.intro hob hfr))
      have HS6 := Lib.hid (show PkS gb p bp K pc C S.now ov i x (.steal f) row1 w6 from HD.out.step HG2.out HOB.out (by decide) hfr)
      clear hpe hob hfr km kn HD HCALL
      refine hK.out _ _ HS6.out (fun _ => ?_)
      clear hK KK
      simp only [List.setIfInBounds_toArray, List.set_cons_zero, List.set_cons_succ]
      obtain ⟨dn, hdn⟩ : ∃ dn, (stealS S.s f).2.2.dn = dn := ⟨_, rfl⟩
      rw [hdn]
      have HDN := Lib.hid hdn
      clear hdn
      refine wpAnyH_take (i := 17) (v := .bool dn) rfl (by kernel_rfl) (by kernel_rfl) (by kernel_rfl) (fun _ _ _ h => h) (Or.inl ⟨by rfl, fun u hu => by (go_simp)⟩) HS6.out ?_
      simp only [List.getElem_toArray, List.getElem_cons_succ, List.getElem_cons_zero, Act.put, List.setIfInBounds_toArray, List.set_cons_zero, List.set_cons_succ]
      refine wpAnyH_done (by kernel_rfl) ?_ _
      cases dn with
      | false =>
        have HR := Lib.hid (show ∃ q row, GW w0 w6 gb p m k g cap bp K pc C q row ov (pickN C i S) from ⟨q1, row1, by
          have hd := HDN.out
          obtain ⟨hpe, hob, hfr⟩ := HPE.out
          obtain ⟨z1, z2⟩ := steal_keeps.z S.s f hd
          have ok' := steal_keeps.o S.s f HG2.out.n HOK.out hd
          rw [hd, z1, z2] at hob
          simp only [Bool.false_eq_true, if_false] at hob
          unfold pickN
          rw [HB.out, if_neg (show ¬ p1.x.m.idle = true by rw [HX1.out]; intro e; cases e)]
          unfold stpN
          rw [HX1.out, if_neg (show ¬ (stepM S.s (.steal f)).2.2.dn = true by rw [show (stepM S.s (.steal f)).2.2.dn = false from hd]; decide)]
          have h0 := HG2.out
          have e1 : (PlS.mk S.s (S.P.set i p1) S.now S.out).P.getD i .no = p1 := HP1.out
          have hst := h0.step (i := i) (X := .steal (stealS S.s f).2.1) hi (by rw [e1, HX1.out]; intro e; cases e) (HQ1.out ▸ HOB.out) (by simp) hpe (HQ1.out ▸ hfr) HN.out (HQ1.out ▸ ⟨hob, ok'⟩) (by rw [e1, HX1.out]; rfl) (by rw [e1, HX1.out]; rfl)
          rw [e1] at hst
          rw [show (PlS.mk S.s (S.P.set i p1) S.now S.out).P.set i _ = S.P.set i _ from List.set_set ..] at hst
          exact hst⟩)
        clear HG2 HOB HN HOK HPE HS6
        go_wp2_with fail
        go_meet
        case rel => exact .inl ⟨rfl, HR.out⟩
      | true =>
        have HR := Lib.hid (show PkD w0 W gb p m k g cap bp K pc C i x q1 row1 ov S p1 w6 from ⟨HG2.out, .steal f, HX1.out, (by intro e; cases e), HPE.out.1, HN.out, HDN.out, HQ1.out ▸ HPE.out.2.2, _, _, _, HDN.out ▸ HPE.out.2.1, by simp [tyOf]⟩)
        clear HG2 HOB HN HOK HPE HS6
        go_wp2_with fail
        go_meet
        case rel => exact .inr ⟨rfl, (by intro e; cases e), W, HR.out⟩
  case rest =>
  go_upto_if 56 with fail
  go_cut [] from 57 to 75 (fun wx => ∃ q row ov, GW w0 wx gb p m k g cap bp K pc C q row ov (pickN C i S))
  case first =>
    rcases hcut with ⟨rfl, q2, row2, hG2⟩ | ⟨rfl, hXn, wd, hd⟩
    · have HR := Lib.hid (show ∃ q row ov, GW w0 wc gb p m k g cap bp K pc C q row ov (pickN C i S) from ⟨q2, row2, ov, hG2⟩)
      clear hG2
      go_wp2_with fail
      go_meet
      case rel => exact HR.out
    · have hx := HQ1.out
      subst hx
      obtain ⟨hgw, X, hX, hXn2, hpe, hN, hdn, hfr, ty, post, f, hob, hty⟩ := hd
      obtain ⟨oa, oc, hov, hoc⟩ := hgw.out.form
      replace hov : ov = .slice oa (List.map opL S.out).length oc := hov
      obtain ⟨lo, hlo⟩ : ∃ lo, (List.map opL S.out).length = lo := ⟨_, rfl⟩
      rw [hlo] at hov
      subst hov
      clear hlo
      have e1 : (PlS.mk S.s (S.P.set i p1) S.now S.out).P.getD i .no = p1 := HP1.out
      have hpl := hgw.pl i hi
      rw [e1] at hpl
      obtain ⟨ty0, post0, f0, ho0, hty0⟩ := (hgw.mo i hi).ob (by rw [e1, hX]; exact hXn2)
      have hS := PkS.step (X := X) (x := q1 i) ⟨hgw.pb, hgw.gm, by rw [hpl.mv, hX]⟩ hgw ho0 (by rcases hty0 with rfl | rfl | rfl <;> decide) hfr
      obtain ⟨k2, k3, k4, k7⟩ := hpl.on (by rw [hX]; exact hXn2)
      obtain ⟨c0, hc0⟩ := hpl.nt 6 (by omega) (by omega)
      have HNT := Lib.hid hpl.nt
      have c6 : wc.cell? ⟨gb, 6, none⟩ = some (.int .i64 S.now) := hS.g.at_ 6
      have p5 := hS.pb.cell hi 5 (by omega)
      rw [HO.out] at p5
      have f5 := hS.pb.free (o + 5)
      have HST := Lib.hid hS
      have HD := Lib.hid (And.intro hgw (And.intro hfr (And.intro hpe (And.intro hN (And.intro ho0 hty0)))))
      have HK := Lib.hid (And.intro hX (And.intro hXn2 (And.intro hdn (And.intro hty (And.intro (hX ▸ k2) (And.intro k3 (And.intro k4 k7)))))))
      have HC0 := Lib.hid hc0
      have HOB := Lib.hid hob
      have E1 := Lib.hid e1
      clear hgw hX hXn2 hpe hN hdn hfr hob hty hpl ho0 hty0 hS k2 k3 k4 k7 hc0 e1 hoc
      go_upto_region 6 with fail
      clear c6 p5 f5
      have HPB5 := Lib.hid (HO.out ▸ HST.out.pb.put i 5 (by omega) (.int .i64 S.now) : PB (wc.setCell ⟨bp, o + 5, none⟩ (.int .i64 S.now)) bp K (rowS row1 i 5 (.int .i64 S.now)))
      have HF5 := Lib.hid (show Fr [bp] wc (wc.setCell ⟨bp, o + 5, none⟩ (.int .i64 S.now)) from (Fr.refl _ _).setCell (by simp) _)
      have HOB5 := Lib.hid (HOB.out.fr HF5.out (by simpa using (HST.out.pb.apart HOB.out.blk (by rw [HK.out.2.2.2.1]; exact tyOf_ne X)).symm))
      have HGM5 := Lib.hid (HST.out.g.away (p := ⟨bp, o + 5, none⟩) (by obtain ⟨cs0, hb0, _⟩ := HST.out.pb; exact HST.out.g.apart hb0 (by decide)) (.int .i64 S.now))
      clear HOB HST
      generalize wc.setCell ⟨bp, o + 5, none⟩ (.int .i64 S.now) = wy at *
      have HPB6 := Lib.hid (HPB5.out.below (w' := wy.drew) (below_drew (Below.refl _ _)))
      have HGM6 := Lib.hid (HGM5.out.below (w' := wy.drew) (below_drew (Below.refl _ _)))
      have HOB6 := Lib.hid (HOB5.out.below (w' := wy.drew) (below_drew (Below.refl _ _)))
      have HF6 := Lib.hid (show Fr [bp] wc wy.drew from HF5.out.trans (Fr.old (below_drew (Below.refl _ _))))
      have hcall := pend_any (m := i) (a := p1.x.sn) (b := S.now) HK.out.2.1 HK.out.2.2.2.1 HPB6.out hi HOB6.out (by rw [rowS_ne _ _ _ _ (by omega), (HD.out.1.pl i hi).mv, E1.out, HK.out.1]) (by rw [rowS_ne _ _ _ _ (by omega)]; exact HK.out.2.2.2.2.1) (by rw [rowS_ne _ _ _ _ (by omega)]; exact HK.out.2.2.2.2.2.1) (by rw [rowS_ne _ _ _ _ (by omega)]; exact HK.out.2.2.2.2.2.2.1) (rowS_at ..) (by rw [rowS_ne _ _ _ _ (by omega)]; exact HC0.out) (by rw [rowS_ne _ _ _ _ (by omega)]; exact HK.out.2.2.2.2.2.2.2)
      rw [HO.out] at hcall
      have hnx : ∀ w7 : World, EndP wy.drew bp K i (rowS row1 i 5 (.int .i64 S.now)) ⟨X.kind, i, p1.x.sn, S.now, (stepM S.s X).2.2.cd, if X.kind = 0 then p1.x.vl else (stepM S.s X).2.2.vl⟩ (.returned (.agg (opC ⟨X.kind, i, p1.x.sn, S.now, (stepM S.s X).2.2.cd, if X.kind = 0 then p1.x.vl else (stepM S.s X).2.2.vl⟩))) w7 → GX9 w0 w7 gb p m k g cap bp K pc C q1 (.slice oa lo oc) (pickB i p1 X S) := fun w7 h7 => by
        obtain ⟨_, hf7, row7, hpb7, h71, hrow7, hint7⟩ := h7
        have hn : ((PlS.mk S.s (S.P.set i p1) S.now S.out).P.getD i .no).x.m ≠ .no := by rw [E1.out, HK.out.1]; exact HK.out.2.1
        have hg7 := HD.out.1.fin hi hn HD.out.2.2.2.2.1 HD.out.2.2.2.2.2 HD.out.2.1 HD.out.2.2.1 HD.out.2.2.2.1 (HF6.out.trans hf7) hpb7 h71 (fun b c h => by
          rw [hrow7 b c h, rowS_ne _ _ _ _ (by omega)]) (fun j j2 j8 => hint7 j j2 j8 (rowS_int (HNT.out j j2 j8) 5 S.now))
        rw [E1.out] at hg7
        refine ⟨row7, ?_⟩
        unfold pickB
        rw [show (PlS.mk S.s (S.P.set i p1) S.now S.out).P.set i _ = S.P.set i _ from List.set_set ..] at hg7
        exact hg7
      have hfin : pickN C i S = ⟨(pickB i p1 X S).s, (pickB i p1 X S).P, S.now, S.out ++ [⟨X.kind, i, p1.x.sn, S.now, (stepM S.s X).2.2.cd, if X.kind = 0 then p1.x.vl else (stepM S.s X).2.2.vl⟩]⟩ := by
        unfold pickN
        rw [HB.out, if_neg (show ¬ p1.x.m.idle = true by rw [HK.out.1]; exact fun e => HK.out.2.1 (Mach.idle_iff.1 e))]
        unfold stpN
        rw [HK.out.1, if_pos HK.out.2.2.1]
        unfold recP pickB
        rw [HK.out.1]
      obtain ⟨VV, hRC⟩ : ∃ VV : Int, (if X.kind = 0 then p1.x.vl else (stepM S.s X).2.2.vl) = VV := ⟨_, rfl⟩
      rw [hRC] at hcall hnx hfin
      clear hRC
      have HCALL := Lib.hid hcall
      have HNX := Lib.hid hnx
      have HFIN := Lib.hid hfin
      have HLEN := Lib.hid (show (List.map opL S.out).length + 1 ≤ 1000000 by rw [List.length_map]; have := HC.out.2.2.1; omega)
      clear hcall hnx hfin HPB5 HGM5 HOB5 HF5 HD HOB6 HPB6 HF6 HNT HC0
      refine wp_region_held_drew (S := (fun _ => True)) (by kernel_rfl) trivial (fun _ => ?_)
      change wpAnyH _ _ _ _ _ 12 #[false, false, false, false, false, false, false, false, false, false, false, false] _ (World.drew _)
      generalize wy.drew = V at *
      refine wpAnyH_take (i := 0) (v := .pointer (some ⟨gb, 0, none⟩)) rfl (by kernel_rfl) (by kernel_rfl) (by kernel_rfl) (fun _ _ _ h => h) (Or.inl ⟨by rfl, fun u hu => by (go_simp)⟩) trivial ?_
      simp only [List.getElem_toArray, List.getElem_cons_succ, List.getElem_cons_zero, Act.put, List.setIfInBounds_toArray, List.set_cons_zero, List.set_cons_succ]
      refine wpAnyH_take (i := 1) (v := .pointer (some ⟨gb, 0, none⟩)) rfl (by kernel_rfl) (by kernel_rfl) (by kernel_rfl) (fun _ _ _ h => h) (Or.inl ⟨by rfl, fun u hu => by (go_simp)⟩) trivial ?_
      simp only [List.getElem_toArray, List.getElem_cons_succ, List.getElem_cons_zero, Act.put, List.setIfInBounds_toArray, List.set_cons_zero, List.set_cons_succ]
      refine wpAnyH_take (i := 2) (v := .pointer (some ⟨gb, 0, none⟩)) rfl (by kernel_rfl) (by kernel_rfl) (by kernel_rfl) (fun _ _ _ h => h) (Or.inl ⟨by rfl, fun u hu => by (go_simp)⟩) trivial ?_
      simp only [List.getElem_toArray, List.getElem_cons_succ, List.getElem_cons_zero, Act.put, List.setIfInBounds_toArray, List.set_cons_zero, List.set_cons_succ]
      refine wpAnyH_take (i := 3) (v := .pointer (some ⟨gb, 7, none⟩)) rfl (by kernel_rfl) (by kernel_rfl) (by kernel_rfl) (fun _ _ _ h => h) (Or.inl ⟨by rfl, fun u hu => by (go_simp)⟩) trivial ?_
      simp only [List.getElem_toArray, List.getElem_cons_succ, List.getElem_cons_zero, Act.put, List.setIfInBounds_toArray, List.set_cons_zero, List.set_cons_succ]
      refine wpAnyH_take (i := 5) (v := .pointer (some ⟨bp, o, none⟩)) rfl (by kernel_rfl) (by kernel_rfl) (by kernel_rfl) (fun _ _ _ h => h) (Or.inl ⟨by rfl, fun u hu => by (go_simp)⟩) trivial ?_
      simp only [List.getElem_toArray, List.getElem_cons_succ, List.getElem_cons_zero, Act.put, List.setIfInBounds_toArray, List.set_cons_zero, List.set_cons_succ]
      refine wpAnyH_ready (rs := [4, 6]) (by kernel_rfl) (by simp) ?_
      refine AllReadyH.cons rfl (fun KK hK => ?_) (AllReadyH.cons rfl (fun KK hK => ?_) AllReadyH.nil)
      · have c7 : V.cell? ⟨gb, 7, none⟩ = some (.slice oa lo oc) := HGM6.out.at_ 7
        go_simp
        refine hK.out _ _ trivial (fun _ => ?_)
        clear hK KK
        simp only [List.setIfInBounds_toArray, List.set_cons_zero, List.set_cons_succ]
        clear c7
        refine wpAnyH_ready (rs := [6]) (by kernel_rfl) (by simp) ?_
        refine AllReadyH.cons rfl (fun KK hK => ?_) AllReadyH.nil
        go_simp
        go_at_call 100
        (with_reducible refine HCALL.out.mono ?_)
        rintro e w7 h7
        obtain rfl := h7.1
        have HE := Lib.hid (HNX.out w7 h7)
        clear h7 HNX HCALL
        refine hK.out _ _ trivial (fun _ => ?_)
        clear hK KK
        simp only [List.setIfInBounds_toArray, List.set_cons_zero, List.set_cons_succ]
        refine wpAnyH_ready (rs := [7]) (by kernel_rfl) (by simp) ?_
        refine AllReadyH.cons rfl (fun KK hK => ?_) AllReadyH.nil
        go_simp
        have HE2 := Lib.hid (show GX9 w0 (w7.alloc (.cells (opC ⟨X.kind, i, p1.x.sn, S.now, (stepM S.s X).2.2.cd, VV⟩) 80)) gb p m k g cap bp K pc C q1 (.slice oa lo oc) (pickB i p1 X S) from by obtain ⟨row7, h7⟩ := HE.out; exact ⟨row7, h7.same (below_one _ _)⟩)
        have HBK := Lib.hid (Blk.made w7 80 (opC ⟨X.kind, i, p1.x.sn, S.now, (stepM S.s X).2.2.cd, VV⟩))
        refine hK.out _ _ trivial (fun _ => ?_)
        clear hK KK
        simp only [List.setIfInBounds_toArray, List.set_cons_zero, List.set_cons_succ]
        generalize w7.alloc (.cells (opC ⟨X.kind, i, p1.x.sn, S.now, (stepM S.s X).2.2.cd, VV⟩) 80) = w8 at *
        generalize w7.heap.size = nb at *
        obtain ⟨row7, hg8⟩ := HE2.out
        have HG8 := Lib.hid hg8
        clear hg8
        refine wpAnyH_ready (rs := [8]) (by kernel_rfl) (by simp) ?_
        refine AllReadyH.cons rfl (fun KK hK => ?_) AllReadyH.nil
        refine wp_appG (v := .slice oa lo oc) (R := List.map opL S.out) (r := opL ⟨X.kind, i, p1.x.sn, S.now, (stepM S.s X).2.2.cd, VV⟩) (base := w0.heap.size) info_op rfl (by omega) (by omega) Tryz.underlying74 (.tmp 69) (.tmp 72) rfl rfl HG8.out.out rfl (opL_ok ⟨X.kind, i, p1.x.sn, S.now, (stepM S.s X).2.2.cd, VV⟩) (made_row1 HBK.out) HLEN.out HG8.out.b.size ?_
        intro v9 w9 hown hgr hv9
        obtain ⟨va9, vc9, hv9e, hvc9⟩ := hown.form
        obtain ⟨l9, hl9⟩ : ∃ l9, (List.map opL S.out ++ [opL ⟨X.kind, i, p1.x.sn, S.now, (stepM S.s X).2.2.cd, VV⟩]).length = l9 := ⟨_, rfl⟩
        rw [hl9] at hv9e
        subst hv9e
        clear hl9
        have HR := Lib.hid (show ∃ q row ov, GW w0 (w9.setCell ⟨gb, 7, none⟩ (.slice va9 l9 vc9)) gb p m k g cap bp K pc C q row ov (pickN C i S) from ⟨q1, row7, _, by rw [HFIN.out]; exact HG8.out.outs hgr hown⟩)
        have HG9 := Lib.hid (show Blk w9 gb 143 _ from HG8.out.gm.of_same (hgr.block gb HG8.out.gm.lt (fun e => by obtain ⟨cur, hc⟩ := HG8.out.out.ty gb e.symm; exact absurd rfl (HG8.out.gm.apart hc (by decide)))))
        clear hown hgr hv9 hvc9
        refine hK.out _ _ trivial (fun _ => ?_)
        clear hK KK
        simp only [List.getElem_toArray, List.getElem_cons_succ, List.getElem_cons_zero, Act.put, List.setIfInBounds_toArray, List.set_cons_zero, List.set_cons_succ]
        refine wpAnyH_take (i := 9) (v := .pointer (some ⟨gb, 0, none⟩)) rfl (by kernel_rfl) (by kernel_rfl) (by kernel_rfl) (fun _ _ _ h => h) (Or.inl ⟨by rfl, fun u hu => by (go_simp)⟩) trivial ?_
        simp only [List.getElem_toArray, List.getElem_cons_succ, List.getElem_cons_zero, Act.put, List.setIfInBounds_toArray, List.set_cons_zero, List.set_cons_succ]
        refine wpAnyH_take (i := 10) (v := .pointer (some ⟨gb, 7, none⟩)) rfl (by kernel_rfl) (by kernel_rfl) (by kernel_rfl) (fun _ _ _ h => h) (Or.inl ⟨by rfl, fun u hu => by (go_simp)⟩) trivial ?_
        simp only [List.getElem_toArray, List.getElem_cons_succ, List.getElem_cons_zero, Act.put, List.setIfInBounds_toArray, List.set_cons_zero, List.set_cons_succ]
        refine wpAnyH_ready (rs := [11]) (by kernel_rfl) (by simp) ?_
        refine AllReadyH.cons rfl (fun KK hK => ?_) AllReadyH.nil
        have c7 : w9.cell? ⟨gb, 7, none⟩ = some (.slice oa lo oc) := HG9.out.at_ 7
        have f7 := HG9.out.free 7
        go_simp
        refine hK.out _ _ trivial (fun _ => ?_)
        clear hK KK
        simp only [List.setIfInBounds_toArray, List.set_cons_zero, List.set_cons_succ]
        refine wpAnyH_done (by kernel_rfl) ?_ _
        go_wp2_with fail
        go_meet
        case rel => exact HR.out
      · go_simp
        go_at_call 100
        (with_reducible refine HCALL.out.mono ?_)
        rintro e w7 h7
        obtain rfl := h7.1
        have HE := Lib.hid (HNX.out w7 h7)
        clear h7 HNX HCALL
        refine hK.out _ _ trivial (fun _ => ?_)
        clear hK KK
        simp only [List.setIfInBounds_toArray, List.set_cons_zero, List.set_cons_succ]
        refine wpAnyH_ready (rs := [4, 7]) (by kernel_rfl) (by simp) ?_
        refine AllReadyH.cons rfl (fun KK hK => ?_) (AllReadyH.cons rfl (fun KK hK => ?_) AllReadyH.nil)
        · obtain ⟨row7, hg7⟩ := HE.out
          have c7 : w7.cell? ⟨gb, 7, none⟩ = some (.slice oa lo oc) := hg7.gm.at_ 7
          go_simp
          refine hK.out _ _ trivial (fun _ => ?_)
          clear hK KK
          simp only [List.setIfInBounds_toArray, List.set_cons_zero, List.set_cons_succ]
          clear c7
          refine wpAnyH_ready (rs := [7]) (by kernel_rfl) (by simp) ?_
          refine AllReadyH.cons rfl (fun KK hK => ?_) AllReadyH.nil
          go_simp
          have HE2 := Lib.hid (show GX9 w0 (w7.alloc (.cells (opC ⟨X.kind, i, p1.x.sn, S.now, (stepM S.s X).2.2.cd, VV⟩) 80)) gb p m k g cap bp K pc C q1 (.slice oa lo oc) (pickB i p1 X S) from by obtain ⟨row7, h7⟩ := HE.out; exact ⟨row7, h7.same (below_one _ _)⟩)
          have HBK := Lib.hid (Blk.made w7 80 (opC ⟨X.kind, i, p1.x.sn, S.now, (stepM S.s X).2.2.cd, VV⟩))
          refine hK.out _ _ trivial (fun _ => ?_)
          clear hK KK
          simp only [List.setIfInBounds_toArray, List.set_cons_zero, List.set_cons_succ]
          generalize w7.alloc (.cells (opC ⟨X.kind, i, p1.x.sn, S.now, (stepM S.s X).2.2.cd, VV⟩) 80) = w8 at *
          generalize w7.heap.size = nb at *
          obtain ⟨row7, hg8⟩ := HE2.out
          have HG8 := Lib.hid hg8
          clear hg8
          refine wpAnyH_ready (rs := [8]) (by kernel_rfl) (by simp) ?_
          refine AllReadyH.cons rfl (fun KK hK => ?_) AllReadyH.nil
          refine wp_appG (v := .slice oa lo oc) (R := List.map opL S.out) (r := opL ⟨X.kind, i, p1.x.sn, S.now, (stepM S.s X).2.2.cd, VV⟩) (base := w0.heap.size) info_op rfl (by omega) (by omega) Tryz.underlying74 (.tmp 69) (.tmp 72) rfl rfl HG8.out.out rfl (opL_ok ⟨X.kind, i, p1.x.sn, S.now, (stepM S.s X).2.2.cd, VV⟩) (made_row1 HBK.out) HLEN.out HG8.out.b.size ?_
          intro v9 w9 hown hgr hv9
          obtain ⟨va9, vc9, hv9e, hvc9⟩ := hown.form
          obtain ⟨l9, hl9⟩ : ∃ l9, (List.map opL S.out ++ [opL ⟨X.kind, i, p1.x.sn, S.now, (stepM S.s X).2.2.cd, VV⟩]).length = l9 := ⟨_, rfl⟩
          rw [hl9] at hv9e
          subst hv9e
          clear hl9
          have HR := Lib.hid (show ∃ q row ov, GW w0 (w9.setCell ⟨gb, 7, none⟩ (.slice va9 l9 vc9)) gb p m k g cap bp K pc C q row ov (pickN C i S) from ⟨q1, row7, _, by rw [HFIN.out]; exact HG8.out.outs hgr hown⟩)
          have HG9 := Lib.hid (show Blk w9 gb 143 _ from HG8.out.gm.of_same (hgr.block gb HG8.out.gm.lt (fun e => by obtain ⟨cur, hc⟩ := HG8.out.out.ty gb e.symm; exact absurd rfl (HG8.out.gm.apart hc (by decide)))))
          clear hown hgr hv9 hvc9
          refine hK.out _ _ trivial (fun _ => ?_)
          clear hK KK
          simp only [List.getElem_toArray, List.getElem_cons_succ, List.getElem_cons_zero, Act.put, List.setIfInBounds_toArray, List.set_cons_zero, List.set_cons_succ]
          refine wpAnyH_take (i := 9) (v := .pointer (some ⟨gb, 0, none⟩)) rfl (by kernel_rfl) (by kernel_rfl) (by kernel_rfl) (fun _ _ _ h => h) (Or.inl ⟨by rfl, fun u hu => by (go_simp)⟩) trivial ?_
          simp only [List.getElem_toArray, List.getElem_cons_succ, List.getElem_cons_zero, Act.put, List.setIfInBounds_toArray, List.set_cons_zero, List.set_cons_succ]
          refine wpAnyH_take (i := 10) (v := .pointer (some ⟨gb, 7, none⟩)) rfl (by kernel_rfl) (by kernel_rfl) (by kernel_rfl) (fun _ _ _ h => h) (Or.inl ⟨by rfl, fun u hu => by (go_simp)⟩) trivial ?_
          simp only [List.getElem_toArray, List.getElem_cons_succ, List.getElem_cons_zero, Act.put, List.setIfInBounds_toArray, List.set_cons_zero, List.set_cons_succ]
          refine wpAnyH_ready (rs := [11]) (by kernel_rfl) (by simp) ?_
          refine AllReadyH.cons rfl (fun KK hK => ?_) AllReadyH.nil
          have c7 : w9.cell? ⟨gb, 7, none⟩ = some (.slice oa lo oc) := HG9.out.at_ 7
          have f7 := HG9.out.free 7
          go_simp
          refine hK.out _ _ trivial (fun _ => ?_)
          clear hK KK
          simp only [List.setIfInBounds_toArray, List.set_cons_zero, List.set_cons_succ]
          refine wpAnyH_done (by kernel_rfl) ?_ _
          go_wp2_with fail
          go_meet
          case rel => exact HR.out
        · go_simp
          have HE2 := Lib.hid (show GX9 w0 (w7.alloc (.cells (opC ⟨X.kind, i, p1.x.sn, S.now, (stepM S.s X).2.2.cd, VV⟩) 80)) gb p m k g cap bp K pc C q1 (.slice oa lo oc) (pickB i p1 X S) from by obtain ⟨row7, h7⟩ := HE.out; exact ⟨row7, h7.same (below_one _ _)⟩)
          have HBK := Lib.hid (Blk.made w7 80 (opC ⟨X.kind, i, p1.x.sn, S.now, (stepM S.s X).2.2.cd, VV⟩))
          refine hK.out _ _ trivial (fun _ => ?_)
          clear hK KK
          simp only [List.setIfInBounds_toArray, List.set_cons_zero, List.set_cons_succ]
          generalize w7.alloc (.cells (opC ⟨X.kind, i, p1.x.sn, S.now, (stepM S.s X).2.2.cd, VV⟩) 80) = w8 at *
          generalize w7.heap.size = nb at *
          refine wpAnyH_ready (rs := [4]) (by kernel_rfl) (by simp) ?_
          refine AllReadyH.cons rfl (fun KK hK => ?_) AllReadyH.nil
          obtain ⟨row7, hg8⟩ := HE2.out
          have c7 : w8.cell? ⟨gb, 7, none⟩ = some (.slice oa lo oc) := hg8.gm.at_ 7
          go_simp
          refine hK.out _ _ trivial (fun _ => ?_)
          clear hK KK
          simp only [List.setIfInBounds_toArray, List.set_cons_zero, List.set_cons_succ]
          clear c7
          obtain ⟨row7, hg8⟩ := HE2.out
          have HG8 := Lib.hid hg8
          clear hg8
          refine wpAnyH_ready (rs := [8]) (by kernel_rfl) (by simp) ?_
          refine AllReadyH.cons rfl (fun KK hK => ?_) AllReadyH.nil
          refine wp_appG (v := .slice oa lo oc) (R := List.map opL S.out) (r := opL ⟨X.kind, i, p1.x.sn, S.now, (stepM S.s X).2.2.cd, VV⟩) (base := w0.heap.size) info_op rfl (by omega) (by omega) Tryz.underlying74 (.tmp 69) (.tmp 72) rfl rfl HG8.out.out rfl (opL_ok ⟨X.kind, i, p1.x.sn, S.now, (stepM S.s X).2.2.cd, VV⟩) (made_row1 HBK.out) HLEN.out HG8.out.b.size ?_
          intro v9 w9 hown hgr hv9
          obtain ⟨va9, vc9, hv9e, hvc9⟩ := hown.form
          obtain ⟨l9, hl9⟩ : ∃ l9, (List.map opL S.out ++ [opL ⟨X.kind, i, p1.x.sn, S.now, (stepM S.s X).2.2.cd, VV⟩]).length = l9 := ⟨_, rfl⟩
          rw [hl9] at hv9e
          subst hv9e
          clear hl9
          have HR := Lib.hid (show ∃ q row ov, GW w0 (w9.setCell ⟨gb, 7, none⟩ (.slice va9 l9 vc9)) gb p m k g cap bp K pc C q row ov (pickN C i S) from ⟨q1, row7, _, by rw [HFIN.out]; exact HG8.out.outs hgr hown⟩)
          have HG9 := Lib.hid (show Blk w9 gb 143 _ from HG8.out.gm.of_same (hgr.block gb HG8.out.gm.lt (fun e => by obtain ⟨cur, hc⟩ := HG8.out.out.ty gb e.symm; exact absurd rfl (HG8.out.gm.apart hc (by decide)))))
          clear hown hgr hv9 hvc9
          refine hK.out _ _ trivial (fun _ => ?_)
          clear hK KK
          simp only [List.getElem_toArray, List.getElem_cons_succ, List.getElem_cons_zero, Act.put, List.setIfInBounds_toArray, List.set_cons_zero, List.set_cons_succ]
          refine wpAnyH_take (i := 9) (v := .pointer (some ⟨gb, 0, none⟩)) rfl (by kernel_rfl) (by kernel_rfl) (by kernel_rfl) (fun _ _ _ h => h) (Or.inl ⟨by rfl, fun u hu => by (go_simp)⟩) trivial ?_
          simp only [List.getElem_toArray, List.getElem_cons_succ, List.getElem_cons_zero, Act.put, List.setIfInBounds_toArray, List.set_cons_zero, List.set_cons_succ]
          refine wpAnyH_take (i := 10) (v := .pointer (some ⟨gb, 7, none⟩)) rfl (by kernel_rfl) (by kernel_rfl) (by kernel_rfl) (fun _ _ _ h => h) (Or.inl ⟨by rfl, fun u hu => by (go_simp)⟩) trivial ?_
          simp only [List.getElem_toArray, List.getElem_cons_succ, List.getElem_cons_zero, Act.put, List.setIfInBounds_toArray, List.set_cons_zero, List.set_cons_succ]
          refine wpAnyH_ready (rs := [11]) (by kernel_rfl) (by simp) ?_
          refine AllReadyH.cons rfl (fun KK hK => ?_) AllReadyH.nil
          have c7 : w9.cell? ⟨gb, 7, none⟩ = some (.slice oa lo oc) := HG9.out.at_ 7
          have f7 := HG9.out.free 7
          go_simp
          refine hK.out _ _ trivial (fun _ => ?_)
          clear hK KK
          simp only [List.setIfInBounds_toArray, List.set_cons_zero, List.set_cons_succ]
          refine wpAnyH_done (by kernel_rfl) ?_ _
          go_wp2_with fail
          go_meet
          case rel => exact HR.out
  case rest =>
  obtain ⟨q3, row3, ov3, hG3⟩ := hcut
  obtain ⟨hpk, hnw⟩ := pickN_pick (C := (C : Int)) HC.out.2.2.2.1
  have c6 : wc.cell? ⟨gb, 6, none⟩ = some (.int .i64 S.now) := by rw [← hnw]; exact hG3.gm.at_ 6
  have f6 := hG3.gm.free 6
  have hnb : (S.now : Int) ≤ 1000000 := by have := HC.out.2.1; omega
  have HR := Lib.hid (show GX w0 gb p m k g cap bp K pc C (pickP C i S) (wc.setCell ⟨gb, 6, none⟩ (.int .i64 ((S.now : Int) + 1))) from ⟨q3, row3, ov3, by
    rw [hpk]
    have := hG3.count (S.now + 1)
    rw [show ((S.now + 1 : Nat) : Int) = (S.now : Int) + 1 by omega] at this
    exact this⟩)
  clear hG3 hpk hnw
  go_wp2_with fail
  go_end0
  exact ⟨rfl, HR.out⟩
end
end Go.Proofs.YtjehiekmlbeaeaaGreat
