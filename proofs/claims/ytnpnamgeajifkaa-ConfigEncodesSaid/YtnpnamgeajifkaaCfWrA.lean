/-
  The program's writer of bytes: the contracts of write's closure and of instrNumbers.
-/
import Derived.Test.YtnpnamgeajifkaaCfEncB
import Derived.Test.YtnpnamgeajifkaaInts
namespace Go.Proofs.Ytnpnamgeajifkaa
open Go Go.RowKit

/-- The variable g holds the bytes bs, in a row of the call's own from B on. -/
def WrSt (w : World) (B g : Nat) (bs : List Int) : Prop :=
  ∃ v : Value, Blk w g 26 #[v] ∧ OwnB w B v bs ∧ g < B ∧ B ≤ w.heap.size
theorem WrSt.below {w w' : World} {B g : Nat} {bs : List Int} (h : WrSt w B g bs) (hb : Below w.heap.size w w') : WrSt w' B g bs := by
  obtain ⟨v, h1, h2, h3, h4⟩ := h
  exact ⟨v, h1.below hb, h2.below hb, h3, Nat.le_trans h4 hb.size⟩
theorem WrSt.lt {w : World} {B g : Nat} {bs : List Int} (h : WrSt w B g bs) : g < B ∧ B ≤ w.heap.size := by
  obtain ⟨_, _, _, h3, h4⟩ := h
  exact ⟨h3, h4⟩
theorem FrE.trans {B r : Nat} {a b c : World} (h : FrE B r a b) (k : FrE B r b c) : FrE B r a c :=
  ⟨k.os.trans h.os, k.tape.trans h.tape, k.output.trans h.output, Nat.le_trans h.size k.size, fun x hx hne hor => by
    have h1 := h.block x hx hne hor
    refine (k.block x (Nat.lt_of_lt_of_le hx h.size) hne ?_).trans h1
    rcases hor with h2 | ⟨t, cs, hb, ht⟩
    · exact .inl h2
    · exact .inr ⟨t, cs, hb.of_same h1, ht⟩⟩
theorem wr8 (v : Int) : IntKind.u8.wrap v = v % 256 := by
  simp [IntKind.wrap, IntKind.signed, IntKind.bits]

/-- One byte appended and stored. -/
theorem wr_grow {w w2 : World} {B g : Nat} {bs : List Int} {b : Int} {oa : Option Addr} {m oc : Nat} {v2 : Value}
    (hb : Blk w g 26 #[.slice oa m oc]) (ho : OwnB w B (.slice oa m oc) bs) (hg : g < B) (hB : B ≤ w.heap.size)
    (hown : OwnB w2 B v2 (bs ++ [b])) (hgr : (w.alloc (.cells #[.int .u8 b] 5)).grownBy w2 (Value.slice oa m oc).ownBlock) :
    ∃ pa m2 pc, v2 = .slice pa m2 pc ∧ w2.cell? ⟨g, 0, none⟩ = some (.slice oa m oc) ∧ w2.frozen? ⟨g, 0, none⟩ = false ∧
      WrSt (w2.setCell ⟨g, 0, none⟩ (.slice pa m2 pc)) B g (bs ++ [b]) ∧ FrE B g w (w2.setCell ⟨g, 0, none⟩ (.slice pa m2 pc)) := by
  have HO := ho.below (below_one w (.cells #[.int .u8 b] 5))
  have HB := hb.alloc (.cells #[.int .u8 b] 5)
  have hrow : ∀ x, (Value.slice oa m oc).ownBlock = some x → B ≤ x := fun x hx => (HO.lt x hx).1
  have hbl : Blk w2 g 26 #[.slice oa m oc] := HB.grown hgr (fun e => by have := hrow g e; omega)
  obtain ⟨pa, pc, rfl, _⟩ := hown.form rfl
  have hp := hbl.put 0 (.slice pa (bs ++ [b]).length pc)
  simp only [List.setIfInBounds_toArray, List.set_cons_zero] at hp
  have hs2 := hgr.size
  have hs1 : w.heap.size < (w.alloc (.cells #[.int .u8 b] 5)).heap.size := by simp
  refine ⟨pa, _, pc, rfl, hbl.at_ 0, hbl.free 0, ?_, ?_⟩
  · refine ⟨_, hp, hown.same fun x hx => Below.heap_setCell _ ⟨g, 0, none⟩ _ x (by have := (hown.lt x hx).1; show x ≠ g; omega), hg, ?_⟩
    rw [size_set]
    omega
  · refine ⟨hgr.os, hgr.tape, hgr.output, ?_, fun x hx hne hor => ?_⟩
    · rw [size_set]
      omega
    · refine (Below.heap_setCell _ ⟨g, 0, none⟩ _ x hne).trans ?_
      refine (hgr.block x (by omega) (fun e => ?_)).trans (Below.heap_alloc w _ x hx)
      have hxB := hrow x e.symm
      rcases hor with h1 | ⟨t, cs, hbx, ht⟩
      · omega
      · rcases HO.2 with ⟨e2, _⟩ | ⟨g2, cap2, cur2, e2, _, hg2, _⟩
        · rw [e2] at e
          simp [Value.ownBlock] at e
        · rw [e2] at e
          simp [Value.ownBlock] at e
          subst e
          have hb2 := hbx.alloc (.cells #[.int .u8 b] 5)
          unfold Blk at hb2
          rw [hb2] at hg2
          simp only [Option.some.injEq, Obj.cells.injEq] at hg2
          exact ht hg2.2.1

def WrN (B g : Nat) (bs : List Int) (w : World) (e : Ending) (w' : World) : Prop := e = .returned (.tuple #[]) ∧ WrSt w' B g bs ∧ FrE B g w w'
def WrR (w : World) (B g : Nat) (bs l : List Int) (i : Value) (u : World) : Prop :=
  ∃ k : Nat, k ≤ l.length ∧ i = .int .i64 k ∧ WrSt u B g (bs ++ (l.take k).map fun v => v % 256) ∧ FrE B g w u

/-- What the loop reads: the numbers lie below B, or in a block that is no row of bytes. -/
def Safe (w : World) (B g : Nat) (a : Option Addr) (n : Nat) : Prop := ∀ x, 0 < n → a = some x → x.block ≠ g ∧ x.block < w.heap.size ∧ (x.block < B ∨ ∃ t cs, Blk w x.block t cs ∧ t ≠ 5)

set_option maxRecDepth 20000 in
set_option maxHeartbeats 4000000 in
theorem writer_any {w : World} {B g : Nat} {bs : List Int} (h : WrSt w B g bs) {a : Option Addr} {n : Nat} {l : List Int} (hi : InInts w a n l) (hs : Safe w B g a n) (c : Nat) (hl : bs.length + n ≤ 100000) :
    Calls Try.prog 48 #[.slice a n c, .pointer (some ⟨g, 0, none⟩)] w (WrN B g (bs ++ l.map fun v => v % 256) w) := by
  have HL := Lib.hid hi.1
  have HI := Lib.hid hi
  have HS := Lib.hid hs
  have H0 := Lib.hid h
  clear hi hs h
  go_enter Try.func48, Try.ntmps48
  go_wp2_with fail
  go_loopw [7] (fun i wr => WrR w B g bs l i wr) (fun i _ => n - (intOf i).toNat)
  case atStart => exact ⟨0, by omega, rfl, by simpa using H0.out, FrE.refl _ _ _⟩
  case round =>
    obtain ⟨k, hk, rfl, hst, hf⟩ := hrel
    rw [HL.out] at hk
    by_cases hlt : k < n
    · obtain ⟨x, rfl, hx, hc⟩ := HI.out.2.2 k hlt
      obtain ⟨hxg, _, hor⟩ := HS.out x (by omega) rfl
      have hcw : wr.cell? (x.add k) = some (.int .i64 (l.getD k 0)) := by
        have hk2 := hf.block x.block hx hxg hor
        rw [World.cell?_of_block (w := w) (by rw [block_add]; exact hk2)]
        exact hc
      obtain ⟨v, hv⟩ : ∃ v, l.getD k 0 = v := ⟨_, rfl⟩
      rw [hv] at hcw
      have HV := Lib.hid hv
      obtain ⟨ov, hb, ho, hgB, hBs⟩ := hst
      obtain ⟨m, hm⟩ : ∃ m, (bs ++ (l.take k).map fun v => v % 256).length = m := ⟨_, rfl⟩
      have hml : (bs ++ (l.take k).map fun v => v % 256).length + 1 ≤ 1000000 := by
        simp only [List.length_append, List.length_map, List.length_take]
        omega
      obtain ⟨oa, oc, rfl, _⟩ := ho.form hm
      have t0 : wr.cell? ⟨g, 0, none⟩ = some (.slice oa m oc) := hb.at_ 0
      have ho1 : OwnB (wr.alloc (.cells #[.int .u8 (IntKind.u8.wrap v)] 5)) B (.slice oa m oc) (bs ++ (l.take k).map fun v => v % 256) := ho.below (below_one wr _)
      have HO := Lib.hid ho1
      have HU := Lib.hid (show (wr.alloc (.cells #[.int .u8 (IntKind.u8.wrap v)] 5)).cell? ((⟨wr.heap.size, 0, none⟩ : Addr).add 0) = some (.int .u8 (IntKind.u8.wrap v)) from (Blk.made wr 5 #[.int .u8 (IntKind.u8.wrap v)]).at_ 0)
      have hBs2 : B ≤ (wr.alloc (.cells #[.int .u8 (IntKind.u8.wrap v)] 5)).heap.size := by simp; omega
      have HML := Lib.hid hml
      have HG := Lib.hid (fun (v2 : Value) (w2 : World) => wr_grow (v2 := v2) (w2 := w2) (b := IntKind.u8.wrap v) hb ho hgB hBs)
      have HF := Lib.hid hf
      clear hv hb ho ho1 hm hml hf hc H0
      go_wp2_with
        (at_builtin
         refine wpList_appB rfl _ _ rfl rfl HO.out rfl HU.out HML.out hBs2 ?_
         intro v2 w2 hown hgr
         obtain ⟨pa, m2, pc, rfl, d1, f1, g1, g2⟩ := HG.out v2 w2 hown hgr
         have HW := Lib.hid g1
         have HF2 := Lib.hid (HF.out.trans g2)
         clear g1 g2 hown hgr)
      go_roundw
      case rel =>
        refine ⟨k + 1, by rw [HL.out]; omega, by go_num, ?_, HF2.out⟩
        have hkl : k < l.length := by rw [HL.out]; exact hlt
        have hg : l[k]? = some v := by
          rw [List.getElem?_eq_getElem hkl]
          have := HV.out
          rw [List.getD_eq_getElem?_getD, List.getElem?_eq_getElem hkl] at this
          simpa using this
        have hw := HW.out
        rw [wr8, List.append_assoc] at hw
        rw [List.take_add_one, hg]
        simpa using hw
      case measure => simp [intOf]; omega
    · obtain rfl : k = n := by omega
      have hst2 := hst
      rw [← HL.out, List.take_length] at hst2
      have HW := Lib.hid hst2
      have HF := Lib.hid hf
      clear hst hst2 hf
      go_wp2
      go_end0
      exact ⟨rfl, HW.out, HF.out⟩

/-- The numbers of an instruction, as the program writes them. -/
def insNs (x : T3) : List Int := if x.1 = 0 then [x.1, x.2.1 - 1] else if x.1 = 1 then [x.1, x.2.1, x.2.2] else [x.1, x.2.1]
theorem insNs_pu (n le : Int) (x : T3) : insNs x = (puI n le x).map (·.1) := by
  unfold insNs puI
  split
  · rfl
  · split <;> rfl
/-- What instrNumbers gives: the numbers in a new block. -/
def InsNs (x : T3) (w : World) (e : Ending) (w' : World) : Prop :=
  ∃ (g n : Nat), e = .returned (.slice (some ⟨g, 0, none⟩) n n) ∧ InInts w' (some ⟨g, 0, none⟩) n (insNs x) ∧ w.heap.size ≤ g ∧ (∃ cs, Blk w' g 3 cs) ∧ n ≤ 3 ∧ Below w.heap.size w w'
theorem ints_lit (w : World) (l : List Int) (hm : l.length ≤ maxLen) : InInts (w.alloc (.cells (l.map (Value.int .i64)).toArray 3)) (some ⟨w.heap.size, 0, none⟩) l.length l := by
  have hB := Blk.made w 3 (l.map (Value.int .i64)).toArray
  refine ⟨rfl, hm, fun i hi => ⟨_, rfl, hB.lt, ?_⟩⟩
  have e : (⟨w.heap.size, 0, none⟩ : Addr).add i = ⟨w.heap.size, i, none⟩ := by unfold Addr.add; split <;> simp_all
  rw [e, hB.at_, List.getElem?_toArray, List.getElem?_map, List.getD_eq_getElem?_getD, List.getElem?_eq_getElem hi]
  rfl
set_option maxHeartbeats 2000000 in
theorem insnums_any (o p q : Int) (hp : -1000 ≤ p) (hp' : p ≤ 1000) (w : World) :
    Calls Try.prog 49 #[.agg #[.int .i64 o, .int .i64 p, .int .i64 q]] w (InsNs (o, p, q) w) := by
  have hsz : (w.alloc (.cells #[.int .i64 o, .int .i64 p, .int .i64 q] 47)).heap.size = w.heap.size + 1 := by simp
  have B0 : ∀ ob, Below w.heap.size w ((w.alloc (.cells #[.int .i64 o, .int .i64 p, .int .i64 q] 47)).alloc ob) := fun ob => (below_one w _).alloc (by simp) ob
  have hlit : ∀ l : List Int, l.length ≤ 3 → InInts ((w.alloc (.cells #[.int .i64 o, .int .i64 p, .int .i64 q] 47)).alloc (.cells (l.map (Value.int .i64)).toArray 3)) (some ⟨w.heap.size + 1, 0, none⟩) l.length l := fun l hl => by
    have := ints_lit (w.alloc (.cells #[.int .i64 o, .int .i64 p, .int .i64 q] 47)) l (by unfold maxLen; omega)
    rwa [hsz] at this
  have hblk : ∀ l : List Int, ∃ cs, Blk ((w.alloc (.cells #[.int .i64 o, .int .i64 p, .int .i64 q] 47)).alloc (.cells (l.map (Value.int .i64)).toArray 3)) (w.heap.size + 1) 3 cs := fun l => by
    have := Blk.made (w.alloc (.cells #[.int .i64 o, .int .i64 p, .int .i64 q] 47)) 3 (l.map (Value.int .i64)).toArray
    rw [hsz] at this
    exact ⟨_, this⟩
  have HB := Lib.hid B0
  have HI := Lib.hid hlit
  have HK := Lib.hid hblk
  clear B0 hlit hblk hsz
  by_cases h0 : o = 0
  · subst h0
    go_enter Try.func49, Try.ntmps49
    go_wp2
    go_ret
    exact ⟨_, 2, rfl, HI.out [0, p - 1] (by simp), Nat.le_succ _, HK.out [0, p - 1], by omega, HB.out _⟩
  · have h0' : (o == 0) = false := by simpa using h0
    by_cases h1 : o = 1
    · subst h1
      go_enter Try.func49, Try.ntmps49
      go_wp2
      go_ret
      exact ⟨_, 3, rfl, HI.out [1, p, q] (by simp), Nat.le_succ _, HK.out [1, p, q], by omega, HB.out _⟩
    · have h1' : (o == 1) = false := by simpa using h1
      have hn := HI.out [o, p] (by simp)
      have e : insNs (o, p, q) = [o, p] := by
        unfold insNs
        rw [if_neg h0, if_neg h1]
      have HE := Lib.hid e
      clear hn e h0 h1
      go_enter Try.func49, Try.ntmps49
      go_wp2
      go_ret
      exact ⟨_, 2, rfl, by rw [HE.out]; exact HI.out [o, p] (by simp), Nat.le_succ _, HK.out [o, p], by omega, HB.out _⟩
end Go.Proofs.Ytnpnamgeajifkaa
