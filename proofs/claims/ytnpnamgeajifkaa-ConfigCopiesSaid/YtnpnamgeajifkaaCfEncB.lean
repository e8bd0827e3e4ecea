/-
  What both Encodes give; where the numbers lie in the list of what is written.
-/
import Derived.Test.YtnpnamgeajifkaaCfPut
namespace Go.Proofs.Ytnpnamgeajifkaa
open Go Go.RowKit

/-- The bytes and the error of an encoding. -/
def EncOut (c : Cfg) (zs : List Int) (er : Int) : Prop :=
  (chk c ≠ 0 ∧ er = chk c ∧ zs = []) ∨ (chk c = 0 ∧ fits c = false ∧ er = 1 ∧ zs = []) ∨ (chk c = 0 ∧ fits c = true ∧ er = 0 ∧ Trimmed (vals c) zs)
theorem EncOut.same {c : Cfg} {zs zs' : List Int} {er er' : Int} (h : EncOut c zs er) (h' : EncOut c zs' er') : zs = zs' ∧ er = er' := by
  rcases h with ⟨a, rfl, rfl⟩ | ⟨a, b, rfl, rfl⟩ | ⟨a, b, rfl, t⟩
  · rcases h' with ⟨a', rfl, rfl⟩ | ⟨a', b', rfl, rfl⟩ | ⟨a', b', rfl, t'⟩
    · exact ⟨rfl, rfl⟩
    · exact absurd a' a
    · exact absurd a' a
  · rcases h' with ⟨a', rfl, rfl⟩ | ⟨a', b', rfl, rfl⟩ | ⟨a', b', rfl, t'⟩
    · exact absurd a a'
    · exact ⟨rfl, rfl⟩
    · rw [b] at b'
      cases b'
  · rcases h' with ⟨a', rfl, rfl⟩ | ⟨a', b', rfl, rfl⟩ | ⟨a', b', rfl, t'⟩
    · exact absurd a a'
    · rw [b] at b'
      cases b'
    · exact ⟨t.same t', rfl⟩
def Encoded (c : Cfg) (w : World) (e : Ending) (w' : World) : Prop :=
  ∃ v zs er, e = .returned (.tuple #[v, .int .i64 er]) ∧ OwnB w' w.heap.size v zs ∧ EncOut c zs er ∧ Below w.heap.size w w'

/-- The numbers up to the programs, up to the submissions. -/
def pre0 (c : Cfg) : List (Int × Int) := puN c ++ [((c.pr.length : Int) - 1, 4)]
def pre1 (c : Cfg) (k : Nat) : List (Int × Int) := pre0 c ++ (c.pr.take k).flatMap (puP c.pr.length c.le)
def pre2 (c : Cfg) (k : Nat) : List (Int × Int) := pre1 c c.pr.length ++ [((c.su.length : Int), 6)] ++ (c.su.take k).flatMap (puS c.pr.length c.le)
theorem pre2_all (c : Cfg) : pre2 c c.su.length = puts c := by
  unfold pre2 pre1 pre0 puts
  rw [List.take_length, List.take_length]
theorem pre1_step {c : Cfg} {k : Nat} {p : List T3} (h : c.pr[k]? = some p) : pre1 c (k + 1) = pre1 c k ++ [((p.length : Int), 6)] ++ p.flatMap (puI c.pr.length c.le) := by
  unfold pre1
  rw [List.take_add_one, h, List.flatMap_append]
  simp [puP]
theorem pre2_step {c : Cfg} {k : Nat} {s : T3} (h : c.su[k]? = some s) : pre2 c (k + 1) = pre2 c k ++ [(s.1, (c.pr.length : Int)), (s.2.1, c.le), (s.2.2, 16)] := by
  unfold pre2
  rw [List.take_add_one, h, List.flatMap_append]
  simp [puS]
theorem flat_step {n le : Int} {p : List T3} {j : Nat} {x : T3} (h : p[j]? = some x) : (p.take (j + 1)).flatMap (puI n le) = (p.take j).flatMap (puI n le) ++ puI n le x := by
  rw [List.take_add_one, h, List.flatMap_append]
  simp
theorem mem_len {c : Cfg} {k : Nat} {p : List T3} (h : c.pr[k]? = some p) : ((p.length : Int), (6 : Int)) ∈ puts c := by
  unfold puts
  have hp := List.mem_of_getElem? h
  simp only [List.mem_append, List.mem_flatMap]
  exact .inl (.inl (.inr ⟨p, hp, by simp [puP]⟩))
theorem mem_ins {c : Cfg} {k j : Nat} {p : List T3} {x : T3} {e : Int × Int} (h : c.pr[k]? = some p) (hx : p[j]? = some x) (he : e ∈ puI c.pr.length c.le x) : e ∈ puts c := by
  unfold puts
  have hp := List.mem_of_getElem? h
  have hxp := List.mem_of_getElem? hx
  simp only [List.mem_append, List.mem_flatMap]
  refine .inl (.inl (.inr ⟨p, hp, ?_⟩))
  unfold puP
  exact List.mem_cons_of_mem _ (List.mem_flatMap.2 ⟨x, hxp, he⟩)
theorem mem_sub {c : Cfg} {k : Nat} {s : T3} {e : Int × Int} (h : c.su[k]? = some s) (he : e ∈ puS c.pr.length c.le s) : e ∈ puts c := by
  unfold puts
  have hp := List.mem_of_getElem? h
  simp only [List.mem_append, List.mem_flatMap]
  exact .inr ⟨s, hp, he⟩
theorem mem_num {c : Cfg} {e : Int × Int} (h : e ∈ pre0 c) : e ∈ puts c := by
  unfold puts
  unfold pre0 at h
  rw [List.append_assoc, List.append_assoc, List.append_assoc]
  rw [List.mem_append] at h ⊢
  rcases h with h | h
  · exact .inl h
  · exact .inr (List.mem_append.2 (.inl h))
theorem mem_cnt (c : Cfg) : ((c.su.length : Int), (6 : Int)) ∈ puts c := by
  unfold puts
  simp

theorem puI_length (n le : Int) (x : T3) : (puI n le x).length ≤ 3 := by
  unfold puI
  split
  · simp
  · split <;> simp
theorem flatI_length (n le : Int) : ∀ p : List T3, (p.flatMap (puI n le)).length ≤ 3 * p.length
  | [] => by simp
  | x :: r => by
    have h1 := puI_length n le x
    have h2 := flatI_length n le r
    simp only [List.flatMap_cons, List.length_append, List.length_cons]
    omega
theorem flatP_length (n le : Int) : ∀ ps : List (List T3), (∀ p ∈ ps, p.length ≤ 32) → (ps.flatMap (puP n le)).length ≤ 97 * ps.length
  | [], _ => by simp
  | p :: r, h => by
    have h1 := flatI_length n le p
    have h2 := flatP_length n le r (fun q hq => h q (by simp [hq]))
    have h3 := h p (by simp)
    simp only [List.flatMap_cons, List.length_append, List.length_cons, puP]
    omega
theorem flatS_length (n le : Int) : ∀ ss : List T3, (ss.flatMap (puS n le)).length = 3 * ss.length
  | [] => by simp
  | s :: r => by
    have h2 := flatS_length n le r
    simp only [List.flatMap_cons, List.length_append, List.length_cons, puS, List.length_nil]
    omega
theorem puts_length {c : Cfg} (h : chk c = 0) : (puts c).length ≤ 4000 := by
  obtain ⟨_, h2, h3, h4⟩ := chk_ok h
  have hn := inB_iff.1 h2
  have h5 := flatP_length c.pr.length c.le c.pr (fun p hp => (chkPs_ok h3 p hp).1)
  have h6 := flatS_length c.pr.length c.le c.su
  unfold puts
  simp only [List.length_append, puN, List.length_cons, List.length_nil]
  omega
theorem pre1_le (c : Cfg) (k : Nat) : (pre1 c k).length ≤ (puts c).length := by
  unfold pre1 pre0 puts
  have : (c.pr.take k).flatMap (puP c.pr.length c.le) <+: c.pr.flatMap (puP c.pr.length c.le) := by
    refine ⟨(c.pr.drop k).flatMap (puP c.pr.length c.le), ?_⟩
    rw [← List.flatMap_append, List.take_append_drop]
  have := this.length_le
  simp only [List.length_append]
  omega
theorem pre2_le (c : Cfg) (k : Nat) : (pre2 c k).length ≤ (puts c).length := by
  unfold pre2 pre1 pre0 puts
  have : (c.su.take k).flatMap (puS c.pr.length c.le) <+: c.su.flatMap (puS c.pr.length c.le) := by
    refine ⟨(c.su.drop k).flatMap (puS c.pr.length c.le), ?_⟩
    rw [← List.flatMap_append, List.take_append_drop]
  have := this.length_le
  rw [List.take_length]
  simp only [List.length_append]
  omega

/-- Once a number does not fit, nothing more is asked of what is written. -/
theorem EncSt.bad {c : Cfg} {w : World} {B r : Nat} {pre pre' : List (Int × Int)} {bs : List Int} {v : Value}
    (hb : Blk w r 59 #[.slice none 0 0, v, .int .i64 0, .bool true]) (ho : OwnB w B v bs) (hl : bs.length ≤ pre.length) (hf : fits c = false) (hr : r < B) (hB : B ≤ w.heap.size) (hp : pre.length ≤ pre'.length) : EncSt c w B r pre' :=
  ⟨v, bs, true, hb, ho, by omega, (fun e => absurd e (by simp)), fun _ => hf, hr, hB⟩

/-- What is known on the way of the reference's Encode: the configuration lies in block cb, the Coder in block r. -/
structure EncW (c : Cfg) (w : World) (B r cb : Nat) (pa : Option Addr) (pn pc : Nat) (sa : Option Addr) (sn sc : Nat) (pre : List (Int × Int)) (u : World) : Prop where
  st : EncSt c u B r pre
  x : Blk u cb 25 (cc c pa pn pc sa sn sc)
  b : Below w.heap.size w u
  o1 : w.heap.size ≤ cb
  o2 : cb < r
section
variable {c : Cfg} {w u u' : World} {B r cb : Nat} {pa : Option Addr} {pn pc : Nat} {sa : Option Addr} {sn sc : Nat} {pre pre' : List (Int × Int)}
theorem EncSt.lt (h : EncSt c u B r pre) : r < B ∧ B ≤ u.heap.size := by
  obtain ⟨_, _, _, _, _, _, _, _, h6, h7⟩ := h
  exact ⟨h6, h7⟩
theorem EncW.put (h : EncW c w B r cb pa pn pc sa sn sc pre u) (hs : EncSt c u' B r pre') (hf : FrE B r u u') : EncW c w B r cb pa pn pc sa sn sc pre' u' := by
  have h1 := h.o1
  have h2 := h.o2
  have h3 := h.st.lt
  exact ⟨hs, hf.blk h.x (by omega) (by decide), hf.below h.b (by omega) (by omega), h1, h2⟩
theorem EncW.below (h : EncW c w B r cb pa pn pc sa sn sc pre u) (hb : Below u.heap.size u u') : EncW c w B r cb pa pn pc sa sn sc pre u' :=
  ⟨h.st.below hb, h.x.below hb, h.b.trans (hb.mono h.b.size), h.o1, h.o2⟩
theorem EncW.alloc (h : EncW c w B r cb pa pn pc sa sn sc pre u) (o : Obj) : EncW c w B r cb pa pn pc sa sn sc pre (u.alloc o) := h.below (below_one u o)
theorem EncW.drew (h : EncW c w B r cb pa pn pc sa sn sc pre u) : EncW c w B r cb pa pn pc sa sn sc pre u.drew := h.below (below_drew (Below.refl _ _))
theorem EncW.e (h : EncW c w B r cb pa pn pc sa sn sc pre u) : Eleven u cb c pa pn pc sa sn sc := eleven h.x
end
def EncP (c : Cfg) (w : World) (B r cb : Nat) (pa : Option Addr) (pn pc : Nat) (sa : Option Addr) (sn sc : Nat) (i : Value) (u : World) : Prop :=
  ∃ k : Nat, k ≤ pn ∧ i = .int .i64 k ∧ EncW c w B r cb pa pn pc sa sn sc (pre1 c k) u
def EncI (c : Cfg) (w : World) (B r cb : Nat) (pa : Option Addr) (pn pc : Nat) (sa : Option Addr) (sn sc : Nat) (pre : List (Int × Int)) (p : List T3) (i : Value) (u : World) : Prop :=
  ∃ j : Nat, j ≤ p.length ∧ i = .int .i64 j ∧ EncW c w B r cb pa pn pc sa sn sc (pre ++ (p.take j).flatMap (puI c.pr.length c.le)) u
def EncS (c : Cfg) (w : World) (B r cb : Nat) (pa : Option Addr) (pn pc : Nat) (sa : Option Addr) (sn sc : Nat) (i : Value) (u : World) : Prop :=
  ∃ k : Nat, k ≤ sn ∧ i = .int .i64 k ∧ EncW c w B r cb pa pn pc sa sn sc (pre2 c k) u

/-- The last byte of a row of the call's own, and the row without it. -/
theorem OwnB.pop {w : World} {B : Nat} {a : Option Addr} {k oc : Nat} {bs : List Int} (h : OwnB w B (.slice a (k + 1) oc) bs) (hl : bs.length = k + 1) :
    ∃ x : Addr, a = some x ∧ OwnB w B (.slice (some x) k oc) (bs.take k) ∧ w.cell? (x.add k) = some (.int .u8 (bs.getD k 0)) ∧ k + 1 ≤ oc ∧ B ≤ x.block := by
  have hc := h
  obtain ⟨_, h2⟩ := h
  rcases h2 with ⟨h0, _⟩ | ⟨g, cap, cur, hv, hg, hh, hn, hcap, hsz, htake⟩
  · cases h0
  · simp only [Value.slice.injEq] at hv
    obtain ⟨rfl, _, rfl⟩ := hv
    refine ⟨⟨g, 0, none⟩, rfl, ⟨by simp, .inr ⟨g, oc, cur, ?_, hg, hh, by simp; omega, hcap, hsz, ?_⟩⟩, ?_, by omega, hg⟩
    · rw [List.length_take, Nat.min_eq_left (by omega)]
    · rw [List.length_take, Nat.min_eq_left (by omega), List.map_take, ← htake, List.take_take, hl]
      congr 1
      omega
    · refine World.ownsRow.cells hc rfl k _ ?_
      rw [List.getElem?_map, List.getD_eq_getElem?_getD, List.getElem?_eq_getElem (by omega)]
      rfl
/-- What the loop keeps that takes zeros off the end. -/
def TrimR (w : World) (B r : Nat) (bs : List Int) (u : World) : Prop :=
  ∃ (k : Nat) (oa : Option Addr) (oc : Nat), k ≤ bs.length ∧ Blk u r 59 #[.slice none 0 0, .slice oa k oc, .int .i64 0, .bool false] ∧ OwnB u B (.slice oa k oc) (bs.take k) ∧ (∀ j, k ≤ j → bs.getD j 0 = 0) ∧ Below w.heap.size w u
/-- How long the row in the cell p is. -/
def lenAt (u : World) (p : Addr) : Nat := match u.cell? p with | some (.slice _ n _) => n | _ => 0
theorem trim_step {bs : List Int} {k : Nat} (h : ∀ j, k + 1 ≤ j → bs.getD j 0 = 0) (h0 : bs.getD k 0 = 0) : ∀ j, k ≤ j → bs.getD j 0 = 0 := by
  intro j hj
  by_cases e : j = k
  · subst e
    exact h0
  · exact h j (by omega)
theorem fits_all {c : Cfg} : fits c = (puts c).all fit := rfl
end Go.Proofs.Ytnpnamgeajifkaa
