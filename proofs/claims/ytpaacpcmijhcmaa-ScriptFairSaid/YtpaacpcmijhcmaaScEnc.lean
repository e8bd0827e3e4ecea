/-
  Contracts of both Encodes.
-/
import Derived.Test.YtpaacpcmijhcmaaScRDec
import Derived.Deep.RegionLaw
namespace Go.Proofs.Ytpaacpcmijhcmaa
open Go Go.RowKit

theorem info_u8 : (Try.prog.info? 5).map (fun i => (i.zero, i.size, i.bytes)) = some (some (.int .u8 0), 1, 1) := by kernel_rfl

/-- The slice v is the call's own and holds the bytes bs. -/
def OwnB (w : World) (base : Nat) (v : Value) (bs : List Int) : Prop := w.ownsRow base 5 1 v bs.length (bs.map (Value.int .u8))
theorem OwnB.nil (w : World) (base : Nat) : OwnB w base (.slice none 0 0) [] := World.ownsRow_nil w base _ _
theorem OwnB.below {w w' : World} {base : Nat} {v : Value} {bs : List Int} (h : OwnB w base v bs) (hb : Below w.heap.size w w') : OwnB w' base v bs := by
  refine ⟨h.1, ?_⟩
  rcases h.2 with h2 | ⟨g, cap, cur, rfl, h2, hg, rest⟩
  · exact .inl h2
  · exact .inr ⟨g, cap, cur, rfl, h2, (hb.block g (Array.getElem?_eq_some_iff.1 hg).1).trans hg, rest⟩
theorem OwnB.alloc {w : World} {base : Nat} {v : Value} {bs : List Int} (h : OwnB w base v bs) (o : Obj) : OwnB (w.alloc o) base v bs := h.below (below_one w o)
theorem OwnB.drew {w : World} {base : Nat} {v : Value} {bs : List Int} (h : OwnB w base v bs) : OwnB w.drew base v bs := h
theorem OwnB.lt {w : World} {base : Nat} {v : Value} {bs : List Int} (h : OwnB w base v bs) : ∀ k, v.ownBlock = some k → base ≤ k ∧ k < w.heap.size := World.ownsRow.lt h
theorem below_appB {w0 w w' : World} {v : Value} {bs : List Int} (hb : Below w0.heap.size w0 w) (h : OwnB w w0.heap.size v bs) (hg : w.grownBy w' v.ownBlock) : Below w0.heap.size w0 w' :=
  ⟨hg.os.trans hb.os, hg.tape.trans hb.tape, hg.output.trans hb.output, Nat.le_trans hb.size hg.size, fun k hk => (hg.block k (Nat.lt_of_lt_of_le hk hb.size) (fun e => by
    have := (h.lt k e.symm).1
    omega)).trans (hb.block k hk)⟩

theorem bytes_one (bs : List Int) : ∀ u ∈ bs.map (Value.int .u8), u.oneCell' = true := by
  intro u hu
  obtain ⟨x, _, rfl⟩ := List.mem_map.1 hu
  rfl

/-- An append of bytes at the operation, for the walk. -/
theorem wpList_appB {w : World} {ops : Array Oper} {rest : List Oper} {o : Oper} {a : Act} {Q : Exit → Act → World → Prop} (hgd : o.guard = none) (s x : Operand)
    (ho : o.op = .call { callee := .builtin .append, args := #[s, x], argTypes := #[22, 22] })
    {base : Nat} {v : Value} {bs : List Int} (hs : a.eval s = v) (hown : OwnB w base v bs) {ad : Addr} {m c : Nat} {ns : List Int} (hx : a.eval x = .slice (some ad) m c) (hl : ns.length = m)
    (hnews : ∀ j u, (ns.map (Value.int .u8))[j]? = some u → w.cell? (ad.add j) = some u) (hn : bs.length + m ≤ 1000000) (hb : base ≤ w.heap.size)
    (h : ∀ v' w', OwnB w' base v' (bs ++ ns) → w.grownBy w' v.ownBlock → wpList Try.prog ops Q rest (a.put o.dst v') w') :
    wpList Try.prog ops Q (o :: rest) a w := by
  obtain ⟨i0, hi, hz0, hz1, hz2⟩ := info_parts info_u8
  refine wpList_append_own_at w hgd s x 22 ho base 5 i0 _ 1 1 Try.underlying22 hi hz0 hz1 hz2 rfl (by omega) v bs.length (bs.map (Value.int .u8)) hs hown ad m c (ns.map (Value.int .u8)) hx (by simpa using hl) hnews (bytes_one ns) (by unfold maxLen; omega) (by omega) hb ?_
  intro v' w' h1 h2 _ _
  refine h v' w' ?_ h2
  unfold OwnB
  rw [List.map_append, List.length_append, hl]
  exact h1

/-- .. as one step of a region that draws its order. -/
theorem step_appB {w : World} {ops : Array Oper} {o : Oper} {a : Act} {K : Act → World → Prop} {Q : Exit → Act → World → Prop} {E : Prop} (hgd : o.guard = none) (s x : Operand)
    (ho : o.op = .call { callee := .builtin .append, args := #[s, x], argTypes := #[22, 22] })
    {base : Nat} {v : Value} {bs : List Int} (hs : a.eval s = v) (hown : OwnB w base v bs) {ad : Addr} {m c : Nat} {ns : List Int} (hx : a.eval x = .slice (some ad) m c) (hl : ns.length = m)
    (hnews : ∀ j u, (ns.map (Value.int .u8))[j]? = some u → w.cell? (ad.add j) = some u) (hn : bs.length + m ≤ 1000000) (hb : base ≤ w.heap.size)
    (h : ∀ v' w', OwnB w' base v' (bs ++ ns) → w.grownBy w' v.ownBlock → K (a.put o.dst v') w') :
    if Region.wanted o (yielded ops a.tmps) = true then Oper.wp Try.prog o a w K Q else E := by
  obtain ⟨i0, hi, hz0, hz1, hz2⟩ := info_parts info_u8
  have hw : Region.wanted o (yielded ops a.tmps) = true := by simp [Region.wanted, hgd]
  rw [if_pos hw]
  refine wp_append_own w s x 22 ho base 5 i0 _ 1 1 Try.underlying22 hi hz0 hz1 hz2 rfl (by omega) v bs.length (bs.map (Value.int .u8)) hs hown ad m c (ns.map (Value.int .u8)) hx (by simpa using hl) hnews (bytes_one ns) (by unfold maxLen; omega) (by omega) hb ?_
  intro v' w' h1 h2 _
  refine h v' w' ?_ h2
  unfold OwnB
  rw [List.map_append, List.length_append, hl]
  exact h1

/-- The two bytes of an entry in a row of their own. -/
theorem two_cells (w : World) (k v : Int) : ∀ j u, (([k, v] : List Int).map (Value.int .u8))[j]? = some u → (w.alloc (.cells #[.int .u8 k, .int .u8 v] 5)).cell? ((⟨w.heap.size, 0, none⟩ : Addr).add j) = some u := by
  intro j u hu
  have hB := Blk.made w 5 #[.int .u8 k, .int .u8 v]
  match j, hu with
  | 0, hu => exact (hB.at_ 0).trans hu
  | 1, hu => exact (hB.at_ 1).trans hu
  | j + 2, hu => simp at hu

theorem two_cells_drew (w : World) (k v : Int) : ∀ j u, (([k, v] : List Int).map (Value.int .u8))[j]? = some u → (w.alloc (.cells #[.int .u8 k, .int .u8 v] 5)).drew.cell? ((⟨w.heap.size, 0, none⟩ : Addr).add j) = some u := two_cells w k v

/-- The bytes of entries. -/
def bytesE : List (Int × Int) → List Int
  | [] => []
  | e :: r => e.1 :: e.2 :: bytesE r
theorem bytesE_append : ∀ a b : List (Int × Int), bytesE (a ++ b) = bytesE a ++ bytesE b
  | [], _ => rfl
  | e :: r, b => by simp [bytesE, bytesE_append r b]
theorem bytesE_length : ∀ a : List (Int × Int), (bytesE a).length = a.length * 2
  | [] => rfl
  | e :: r => by
    simp only [bytesE, List.length_cons, bytesE_length r]
    omega
theorem bytesE_step {es : List (Int × Int)} {k : Nat} {e : Int × Int} (he : es[k]? = some e) : bytesE (es.take (k + 1)) = bytesE (es.take k) ++ [e.1, e.2] := by
  rw [List.take_add_one, he]
  exact bytesE_append _ _

/-- What Encode gives. -/
def Encoded (es : List (Int × Int)) (w : World) (e : Ending) (w' : World) : Prop :=
  ∃ v bs er, e = .returned (.tuple #[v, .int .i64 er]) ∧ OwnB w' w.heap.size v bs ∧ ((es.all okE = true ∧ bs = bytesE es ∧ er = 0) ∨ (es.all okE = false ∧ bs = [] ∧ er = 1)) ∧ Below w.heap.size w w'
/-- What its loop keeps. -/
def EncodeR (w : World) (es : List (Int × Int)) (b i : Value) (wr : World) : Prop :=
  ∃ k : Nat, k ≤ es.length ∧ i = .int .i64 k ∧ OwnB wr w.heap.size b (bytesE (es.take k)) ∧ (es.take k).all okE = true ∧ Below w.heap.size w wr

theorem all_step {es : List (Int × Int)} {k : Nat} {e : Int × Int} (he : es[k]? = some e) (h : (es.take k).all okE = true) (ho : okE e = true) : (es.take (k + 1)).all okE = true := by
  rw [List.take_add_one, he]
  simp [ho] at h ⊢
  exact h
theorem all_not {es : List (Int × Int)} {k : Nat} {e : Int × Int} (he : es[k]? = some e) (ho : okE e = false) : es.all okE = false :=
  List.all_eq_false.2 ⟨e, List.mem_of_getElem? he, by simp [ho]⟩
theorem okE_in {k v : Int} (h : okE (k, v) = true) : 0 ≤ k ∧ k ≤ 3 ∧ 0 ≤ v ∧ v ≤ 255 := by
  unfold okE at h
  simp at h
  omega

set_option maxHeartbeats 2000000 in
theorem encode_any {w : World} {a : Option Addr} {L : Nat} {es : List (Int × Int)} (h : Ents w a L es) (c : Nat) (hL : L ≤ 4000) :
    Calls Try.prog 15 #[.slice a L c] w (Encoded es w) := by
  have hl := h.1
  subst hl
  have H := Lib.hid h
  clear h
  have hd : decide ((65536 : Int) < (es.length : Int)) = false := decide_eq_false (by omega)
  obtain ⟨i0, hi, hz0, hz1, hz2⟩ := info_parts info_u8
  go_enter Try.func15, Try.ntmps15
  go_wp2_with
    (at_make
     refine wpList_make_own _ rfl _ _ 22 rfl w.heap.size 5 i0 _ 1 Try.underlying22 hi hz0 hz1 .i64 .i64 _ (2 * es.length) rfl rfl (by simp) (by rw [hz2]; omega) (by unfold maxLen; omega) (Nat.le_refl _) ?_
     intro w1 hown1 hg1
     have hB1 : Below w.heap.size w w1 := ⟨hg1.os, hg1.tape, hg1.output, hg1.size, fun k hk => hg1.block k hk (by simp)⟩
     have HB1 := Lib.hid hB1
     have HO1 := Lib.hid (show OwnB w1 w.heap.size (.slice (some ⟨w.heap.size, 0, none⟩) 0 (2 * es.length)) [] from hown1)
     clear hg1 hown1 hB1 hd)
  go_loopw [4, 16] (fun b i wr => EncodeR w es b i wr) (fun _ i _ => es.length - (intOf i).toNat)
  case atStart => exact ⟨0, by omega, rfl, HO1.out, rfl, HB1.out⟩
  case round =>
    obtain ⟨k, hk, rfl, hown, hall, hb⟩ := hrel
    have HO := Lib.hid hown
    have HA := Lib.hid hall
    have HB := Lib.hid hb
    clear hown hall hb HO1 HB1 hi hz0 hz1 hz2
    by_cases hlt : k < es.length
    · obtain ⟨x, k1, v1, rfl, he, _, c0, c1⟩ := (H.out.below HB.out).at_ hlt
      have HE := Lib.hid he
      clear he
      have HB2 := Lib.hid (HB.out.alloc HB.out.size (.cells #[.int .i64 k1, .int .i64 v1] 43))
      have HO2 := Lib.hid (HO.out.alloc (.cells #[.int .i64 k1, .int .i64 v1] 43))
      have HX := Lib.hid (Blk.made wr 43 #[.int .i64 k1, .int .i64 v1])
      obtain ⟨t, ht⟩ : ∃ t, okE (k1, v1) = t := ⟨_, rfl⟩
      have HT := Lib.hid ht
      clear HB HO ht
      go_wp2_with fail
      refine (valid_any k1 v1 _).mono ?_
      rintro e w2 ⟨rfl, hb2⟩
      have HB3 := Lib.hid (HB2.out.trans (hb2.mono HB2.out.size))
      have HO3 := Lib.hid (HO2.out.below hb2)
      have hX := HX.out.of_same (hb2.block wr.heap.size (by simp))
      have d0 : w2.cell? ⟨wr.heap.size, 0, none⟩ = some (.int .i64 k1) := hX.at_ 0
      have d1 : w2.cell? ⟨wr.heap.size, 1, none⟩ = some (.int .i64 v1) := hX.at_ 1
      rw [HT.out]
      clear hb2 HB2 HO2 HX hX c0 c1
      cases t with
      | false =>
        go_wp2
        go_ret2
        exact ⟨_, [], _, rfl, OwnB.nil _ _, .inr ⟨all_not HE.out HT.out, rfl, rfl⟩, HB3.out⟩
      | true =>
        obtain ⟨h0, h1, h2, h3⟩ := okE_in HT.out
        have O1 := HO3.out.alloc (.cells #[.int .u8 k1, .int .u8 v1] 5)
        have B1 := HB3.out.alloc HB3.out.size (.cells #[.int .u8 k1, .int .u8 v1] 5)
        have hs1 := B1.size
        have hlen : (bytesE (es.take k)).length + 2 ≤ 1000000 := by
          rw [bytesE_length, List.length_take]
          omega
        have HL := Lib.hid hlen
        clear hlen
        go_wp2_with
          (at_builtin
           refine wpList_appB rfl _ _ rfl rfl O1 (ns := [k1, v1]) rfl rfl (two_cells w2 k1 v1) HL.out hs1 ?_
           intro v3 w3 hown3 hg3
           have HB4 := Lib.hid (below_appB B1 O1 hg3)
           have HO4 := Lib.hid hown3
           clear hown3 hg3 O1 B1 hs1)
        go_roundw
        case rel => exact ⟨k + 1, by omega, by go_num, by rw [bytesE_step HE.out]; exact HO4.out, all_step HE.out HA.out HT.out, HB4.out⟩
        case measure => simp [intOf]; omega
    · obtain rfl : k = es.length := by omega
      rw [List.take_length] at HO HA
      go_wp2
      go_ret2
      exact ⟨_, _, _, rfl, HO.out, .inl ⟨HA.out, rfl, rfl⟩, HB.out⟩
end Go.Proofs.Ytpaacpcmijhcmaa
