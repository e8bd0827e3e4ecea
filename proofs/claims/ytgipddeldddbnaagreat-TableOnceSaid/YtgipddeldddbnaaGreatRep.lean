/-
  slices.Repeat of one record.
-/
import Derived.Test.YtgipddeldddbnaaGreatMgBP
import Derived.Laws.CopyOwn
namespace Go.Proofs.YtgipddeldddbnaaGreat
open Go Go.RowKit
set_option linter.unusedSimpArgs false

/-- copy, of elements of s cells, into a row that is known whole. -/
theorem run_copy_many {P : Program} (w : World) (dT sT ty elem : TypeId) (sz g o dLen dCap : Nat) (a : Addr) (sLen sCap : Nat) (cur : Array Value) (t : TypeId) (cs : List Value)
    (hu : P.underlying dT = some (.slice elem)) (hs : (P.info? elem).map (·.size) = some sz)
    (hg : w.heap[g]? = some (.cells cur t (0, 0))) (hn : cs.length = Nat.min sLen dLen * sz)
    (hsrc : ∀ j v, cs[j]? = some v → w.cell? (a.add j) = some v) (hfit : o + cs.length ≤ cur.size) (h1 : ∀ v ∈ cs, v.oneCell' = true) :
    (Builtin.copy_ #[dT, sT] ty #[.slice (some ⟨g, o, none⟩) dLen dCap, .slice (some a) sLen sCap]).run P w =
      .ok (goInt (Nat.min sLen dLen)) (w.setRow g (cur.toList.take o ++ cs ++ cur.toList.drop (o + cs.length)).toArray) := by
  have hl := run_loadCells_list (P := P) w a cs hsrc
  have hst := run_storeCells_at P g o t cs 0 cur w hg (by simpa using hfit) h1
  cases hq : P.info? elem with
  | none => simp [hq] at hs
  | some i =>
    have hi : i.size = sz := by simpa [hq] using hs
    simp [Builtin.copy_, run_underlying hu, Builtin.lenOf, Builtin.firstCells, sizeOf, typeInfo, hq, hi, ← hn, hl, hst]

/-- n records r ahead of m zero records, as cells. -/
def repCells (r : List Value) (z : List Value) (n m : Nat) : List Value := (List.replicate n r).flatten ++ (List.replicate m z).flatten
theorem flat_length (r : List Value) (h : r.length = 7) : ∀ n, ((List.replicate n r).flatten).length = n * 7
  | 0 => by simp
  | n + 1 => by
    rw [List.replicate_succ, List.flatten_cons, List.length_append, flat_length r h n, h]
    omega
theorem repCells_length (r z : List Value) (hr : r.length = 7) (hz : z.length = 7) (n m : Nat) : (repCells r z n m).length = (n + m) * 7 := by
  unfold repCells
  rw [List.length_append, flat_length r hr, flat_length z hz]
  omega
theorem flat_take (r : List Value) (h : r.length = 7) (n k : Nat) (hk : k ≤ n) : ((List.replicate n r).flatten).take (k * 7) = (List.replicate k r).flatten := by
  obtain ⟨m, rfl⟩ : ∃ m, n = k + m := ⟨n - k, by omega⟩
  rw [← List.replicate_append_replicate, List.flatten_append, List.take_append_of_le_length (by rw [flat_length r h]; exact Nat.le_refl _), List.take_of_length_le (by rw [flat_length r h]; exact Nat.le_refl _)]
theorem flat_drop (r : List Value) (h : r.length = 7) (n k : Nat) (hk : k ≤ n) : ((List.replicate n r).flatten).drop (k * 7) = (List.replicate (n - k) r).flatten := by
  obtain ⟨m, rfl⟩ : ∃ m, n = k + m := ⟨n - k, by omega⟩
  rw [← List.replicate_append_replicate, List.flatten_append, List.drop_append_of_le_length (by rw [flat_length r h]; exact Nat.le_refl _), List.drop_of_length_le (by rw [flat_length r h]; exact Nat.le_refl _), List.nil_append]
  congr 2
  omega
/-- k records are copied behind the first n. -/
theorem repCells_copy (r z : List Value) (hr : r.length = 7) (hz : z.length = 7) (n m k : Nat) (hk : k ≤ m) :
    (repCells r z n m).take (n * 7) ++ (List.replicate k r).flatten ++ (repCells r z n m).drop (n * 7 + ((List.replicate k r).flatten).length) = repCells r z (n + k) (m - k) := by
  unfold repCells
  rw [List.take_append_of_le_length (by rw [flat_length r hr]; exact Nat.le_refl _), List.take_of_length_le (by rw [flat_length r hr]; exact Nat.le_refl _), flat_length r hr k,
    List.drop_append, List.drop_of_length_le (by rw [flat_length r hr]; omega), List.nil_append, flat_length r hr n, Nat.add_sub_cancel_left, flat_drop z hz m k hk, ← List.replicate_append_replicate, List.flatten_append]

/-- A copy of records, as one step of a region that draws its order. -/
theorem step_copyR {w : World} {ops : Array Oper} {o : Oper} {a : Act} {K : Act → World → Prop} {Q : Exit → Act → World → Prop} {E : Prop} (hgd : o.guard = none) (d s : Operand)
    (ho : o.op = .call { callee := .builtin .copy, args := #[d, s], argTypes := #[37, 37] })
    (g off dLen dCap : Nat) (ad : Addr) (sLen sCap : Nat) (hd : a.eval d = .slice (some ⟨g, off, none⟩) dLen dCap) (hs : a.eval s = .slice (some ad) sLen sCap)
    (cur : Array Value) (hg : Blk w g 51 cur) (cs : List Value) (hn : cs.length = Nat.min sLen dLen * 7) (hsrc : ∀ j v, cs[j]? = some v → w.cell? (ad.add j) = some v) (hfit : off + cs.length ≤ cur.size) (h1 : ∀ v ∈ cs, v.oneCell' = true)
    (h : K (a.put o.dst (goInt (Nat.min sLen dLen))) (w.setRow g (cur.toList.take off ++ cs ++ cur.toList.drop (off + cs.length)).toArray)) :
    if Region.wanted o (yielded ops a.tmps) = true then Oper.wp Tryz.prog o a w K Q else E := by
  have hw : Region.wanted o (yielded ops a.tmps) = true := by simp [Region.wanted, hgd]
  rw [if_pos hw]
  have hrun := run_copy_many (P := Tryz.prog) w 37 37 o.type 51 7 g off dLen dCap ad sLen sCap cur 51 cs Tryz.underlying37 (by kernel_rfl) hg hn hsrc hfit h1
  unfold Oper.wp execOp
  simp only [ho, resolve, invoke, builtin, Sem.run_bind, Sem.run_pure, Result.andThen_ok, List.map_toArray, List.map_cons, List.map_nil, hd, hs, hrun]
  exact h
/-- .. and at the operation, for the walk. -/
theorem wpList_copyR {w : World} {ops : Array Oper} {rest : List Oper} {o : Oper} {a : Act} {Q : Exit → Act → World → Prop} (hgd : o.guard = none) (d s : Operand)
    (ho : o.op = .call { callee := .builtin .copy, args := #[d, s], argTypes := #[37, 37] })
    (g off dLen dCap : Nat) (ad : Addr) (sLen sCap : Nat) (hd : a.eval d = .slice (some ⟨g, off, none⟩) dLen dCap) (hs : a.eval s = .slice (some ad) sLen sCap)
    (cur : Array Value) (hg : Blk w g 51 cur) (cs : List Value) (hn : cs.length = Nat.min sLen dLen * 7) (hsrc : ∀ j v, cs[j]? = some v → w.cell? (ad.add j) = some v) (hfit : off + cs.length ≤ cur.size) (h1 : ∀ v ∈ cs, v.oneCell' = true)
    (h : wpList Tryz.prog ops Q rest (a.put o.dst (goInt (Nat.min sLen dLen))) (w.setRow g (cur.toList.take off ++ cs ++ cur.toList.drop (off + cs.length)).toArray)) :
    wpList Tryz.prog ops Q (o :: rest) a w := by
  refine wpList_plain hgd fun K hK => ?_
  have hrun := run_copy_many (P := Tryz.prog) w 37 37 o.type 51 7 g off dLen dCap ad sLen sCap cur 51 cs Tryz.underlying37 (by kernel_rfl) hg hn hsrc hfit h1
  unfold Oper.wp execOp
  simp only [ho, resolve, invoke, builtin, Sem.run_bind, Sem.run_pure, Result.andThen_ok, List.map_toArray, List.map_cons, List.map_nil, hd, hs, hrun]
  exact hK _ _ h

theorem flat_get (r : List Value) (h : r.length = 7) : ∀ (n i : Nat), i < n * 7 → ((List.replicate n r).flatten)[i]? = r[i % 7]?
  | 0, i, hi => by omega
  | n + 1, i, hi => by
    rw [List.replicate_succ, List.flatten_cons]
    by_cases h7 : i < 7
    · rw [List.getElem?_append_left (by omega), Nat.mod_eq_of_lt h7]
    · rw [List.getElem?_append_right (by omega), h, flat_get r h n (i - 7) (by omega)]
      congr 1
      omega

/-- The cells of a zero record. -/
abbrev zeroV : List Value := [.int .i64 0, .int .i64 0, .int .i64 0, .int .i64 0, .int .i64 0, .slice none 0 0, .bool false]
theorem made_zero (r : List Value) (t : Nat) : madeCells zeroV.toArray (t * 7) = (repCells r zeroV 0 t).toArray := by
  apply Array.ext'
  apply List.ext_getElem?
  intro i
  have e0 : repCells r zeroV 0 t = (List.replicate t zeroV).flatten := by simp [repCells]
  by_cases hi : i < t * 7
  · have h1 := flat_get zeroV rfl t i hi
    have hm : i % 7 < 7 := Nat.mod_lt _ (by omega)
    rw [e0, h1]
    have h2 : (madeCells zeroV.toArray (t * 7)).toList[i]? = some (zeroV.toArray[i % 7]!) := by
      simp [madeCells, hi]
    rw [h2]
    match i % 7, hm with
    | 0, _ => rfl
    | 1, _ => rfl
    | 2, _ => rfl
    | 3, _ => rfl
    | 4, _ => rfl
    | 5, _ => rfl
    | 6, _ => rfl
  · rw [List.getElem?_eq_none (by simp [madeCells]; omega), e0, List.getElem?_eq_none (by rw [flat_length zeroV rfl]; omega)]

theorem repCells_get (r z : List Value) (hr : r.length = 7) (n m q j : Nat) (hq : q ≤ n) (v : Value) (h : ((List.replicate q r).flatten)[j]? = some v) : (repCells r z n m)[j]? = some v := by
  have hj : j < q * 7 := by
    rw [← flat_length r hr]
    exact (List.getElem?_eq_some_iff.1 h).1
  rw [flat_get r hr q j hj] at h
  unfold repCells
  rw [List.getElem?_append_left (by rw [flat_length r hr]; omega), flat_get r hr n j (by omega)]
  exact h

/-- What Repeat gives. -/
def Repd (R : List Value) (t : Nat) (w : World) (e : Ending) (w' : World) : Prop :=
  ∃ g, e = .returned (.slice (some ⟨g, 0, none⟩) t t) ∧ w.heap.size ≤ g ∧ Blk w' g 51 (repCells R zeroV t 0).toArray ∧ Below w.heap.size w w'

set_option maxRecDepth 100000 in
set_option maxHeartbeats 4000000 in
theorem repeat_any {w : World} {gx cx : Nat} {R : List Value} (hR : R.length = 7) (h1 : ∀ v ∈ R, v.oneCell' = true) (hsrc : ∀ j v, R[j]? = some v → w.cell? ((⟨gx, 0, none⟩ : Addr).add j) = some v) (hlt : gx < w.heap.size) (t : Nat) (ht : 1 ≤ t) (ht' : t ≤ 1000) :
    Calls Tryz.prog 15 #[.slice (some ⟨gx, 0, none⟩) 1 cx, .int .i64 (t : Int)] w (Repd R t w) := by
  obtain ⟨i0, hi, hz0, hz1, hz2⟩ := info_parts info_rec
  have hmk := fun (W : World) => run_make (P := Tryz.prog) W 37 51 i0 _ Tryz.underlying37 hi hz0 .i64 .i64 t t (by omega) (Int.le_refl _) (by rw [hz2]; omega) (by omega)
  simp only [Int.toNat_natCast, hz1] at hmk
  have hz : ∀ W : World, W.alloc (.cells (madeCells (Value.agg #[.int .i64 0, .int .i64 0, .int .i64 0, .int .i64 0, .int .i64 0, .slice none 0 0, .bool false]).cells (t * 7)) 51) = W.alloc (.cells (repCells R zeroV 0 t).toArray 51) := fun W => by rw [← made_zero R t]; rfl
  simp only [hz] at hmk
  clear hz hi hz0 hz1 hz2
  have HM := Lib.hid (mul_one t ht' w)
  have hB := Blk.made w 51 (repCells R zeroV 0 t).toArray
  have hal := below_one w (.cells (repCells R zeroV 0 t).toArray 51)
  have HB := Lib.hid hB
  have HAL := Lib.hid hal
  have hsrc2 : ∀ j v, ((List.replicate 1 R).flatten)[j]? = some v → (w.alloc (.cells (repCells R zeroV 0 t).toArray 51)).cell? ((⟨gx, 0, none⟩ : Addr).add j) = some v := by
    intro j v hj
    rw [List.replicate_one, List.flatten_cons, List.flatten_nil, List.append_nil] at hj
    rw [hal.cell (by rw [block_add]; exact hlt)]
    exact hsrc j v hj
  have HSRC := Lib.hid hsrc2
  have hone : ∀ n, ∀ v ∈ (List.replicate n R).flatten, v.oneCell' = true := by
    intro n v hv
    obtain ⟨l, hl, hv2⟩ := List.mem_flatten.1 hv
    rw [List.eq_of_mem_replicate hl] at hv2
    exact h1 v hv2
  have HONE := Lib.hid hone
  have HR := Lib.hid hR
  have HT := Lib.hid (And.intro ht ht')
  have hfl : ∀ n, ((List.replicate n R).flatten).length = n * 7 := flat_length R hR
  have HFL := Lib.hid hfl
  have ht0 : (0 : Int) < (t : Int) := by omega
  have ht1 : (t : Int) ≤ 1000 := by omega
  have hmin : Nat.min 1 t = 1 := Nat.min_eq_left ht
  have HMIN := Lib.hid hmin
  clear hB hal hsrc2 hone h1 hsrc hR hfl hmin ht ht'
  have hrow : ∀ (W : World) (k m : Nat), Blk W w.heap.size 51 (repCells R zeroV k m).toArray → ∀ q, q ≤ m → Blk (W.setRow w.heap.size ((repCells R zeroV k m).toArray.toList.take (k * 7) ++ (List.replicate q R).flatten ++ (repCells R zeroV k m).toArray.toList.drop (k * 7 + ((List.replicate q R).flatten).length)).toArray) w.heap.size 51 (repCells R zeroV (k + q) (m - q)).toArray := by
    intro W k m hW q hq
    have := setRow_heap W w.heap.size (repCells R zeroV k m).toArray ((repCells R zeroV k m).toArray.toList.take (k * 7) ++ (List.replicate q R).flatten ++ (repCells R zeroV k m).toArray.toList.drop (k * 7 + ((List.replicate q R).flatten).length)).toArray 51 (0, 0) hW
    rw [show ((repCells R zeroV k m).toArray.toList.take (k * 7) ++ (List.replicate q R).flatten ++ (repCells R zeroV k m).toArray.toList.drop (k * 7 + ((List.replicate q R).flatten).length)) = repCells R zeroV (k + q) (m - q) from repCells_copy R zeroV HR.out rfl k m q hq] at this ⊢
    exact this
  have HROW := Lib.hid hrow
  have hrow2 := hrow
  have hrun := run_copy_many (P := Tryz.prog) (w.alloc (.cells (repCells R zeroV 0 t).toArray 51)) 37 37 3 51 7 w.heap.size 0 t t ⟨gx, 0, none⟩ 1 cx (repCells R zeroV 0 t).toArray 51 ((List.replicate 1 R).flatten) Tryz.underlying37 (by kernel_rfl) HB.out
    (by rw [HFL.out, HMIN.out]) HSRC.out (by rw [HFL.out, List.size_toArray, repCells_length R zeroV HR.out rfl]; have := HT.out; omega) (HONE.out 1)
  rw [HMIN.out] at hrun
  have hst := HROW.out _ 0 t HB.out 1 HT.out.1
  rw [Nat.zero_mul] at hst
  have hb2 : Below w.heap.size w ((w.alloc (.cells (repCells R zeroV 0 t).toArray 51)).setRow w.heap.size ((repCells R zeroV 0 t).toArray.toList.take 0 ++ (List.replicate 1 R).flatten ++ (repCells R zeroV 0 t).toArray.toList.drop (0 + ((List.replicate 1 R).flatten).length)).toArray) :=
    ⟨rfl, rfl, rfl, by rw [size_setRow]; exact HAL.out.size, fun k hk => (setRow_other _ w.heap.size k _ (by omega)).trans (HAL.out.block k hk)⟩
  generalize ((w.alloc (.cells (repCells R zeroV 0 t).toArray 51)).setRow w.heap.size ((repCells R zeroV 0 t).toArray.toList.take 0 ++ (List.replicate 1 R).flatten ++ (repCells R zeroV 0 t).toArray.toList.drop (0 + ((List.replicate 1 R).flatten).length)).toArray) = W2 at *
  have HST := Lib.hid (And.intro hst hb2)
  clear hrow hst hb2
  have HROW2 := Lib.hid hrow2
  clear hrow2
  go_enter Tryz.func15, Tryz.ntmps15
  go_wp2_with fail
  (with_reducible refine HM.out.mono ?_)
  rintro e w' ⟨rfl, rfl⟩
  clear HM
  go_wp2_with fail
  go_loopw [8] (fun i wr => ∃ k : Nat, 1 ≤ k ∧ k ≤ t ∧ i = .int .i64 (k : Int) ∧ Blk wr w.heap.size 51 (repCells R zeroV k (t - k)).toArray ∧ Below w.heap.size w wr) (fun i _ => t - (intOf i).toNat)
  case atStart => exact ⟨1, by omega, HT.out.1, rfl, by simpa using HST.out.1, HST.out.2⟩
  case round =>
    obtain ⟨k, hk1, hk, rfl, hb, hbl⟩ := hrel
    by_cases hlt2 : k < t
    · obtain ⟨q, hq⟩ : ∃ q, Nat.min k (t - k) = q := ⟨_, rfl⟩
      have hqk : q ≤ k := by rw [← hq]; exact Nat.min_le_left _ _
      have hqt : q ≤ t - k := by rw [← hq]; exact Nat.min_le_right _ _
      have hq1 : 1 ≤ q := by rw [← hq]; exact Nat.le_min.2 ⟨hk1, by omega⟩
      have hsr : ∀ j v, ((List.replicate q R).flatten)[j]? = some v → wr.drew.cell? ((⟨w.heap.size, 0, none⟩ : Addr).add j) = some v := by
        intro j v hj
        have e : (⟨w.heap.size, 0, none⟩ : Addr).add j = ⟨w.heap.size, j, none⟩ := by unfold Addr.add; split <;> simp_all
        rw [e]
        have := hb.at_ j
        rw [List.getElem?_toArray, repCells_get R zeroV HR.out k (t - k) q j hqk v hj] at this
        exact this
      have hbd : Blk wr.drew w.heap.size 51 (repCells R zeroV k (t - k)).toArray := hb
      have hrun2 := run_copy_many (P := Tryz.prog) wr.drew 37 37 3 51 7 w.heap.size (k * 7) (t - k) (t - k) ⟨w.heap.size, 0, none⟩ k t (repCells R zeroV k (t - k)).toArray 51 ((List.replicate q R).flatten) Tryz.underlying37 (by kernel_rfl) hbd
        (by rw [HFL.out, hq]) hsr (by rw [HFL.out, List.size_toArray, repCells_length R zeroV HR.out rfl]; omega) (HONE.out q)
      rw [hq] at hrun2
      have hnx := HROW2.out wr.drew k (t - k) hb q hqt
      have hbx : Below w.heap.size w (wr.drew.setRow w.heap.size ((repCells R zeroV k (t - k)).toArray.toList.take (k * 7) ++ (List.replicate q R).flatten ++ (repCells R zeroV k (t - k)).toArray.toList.drop (k * 7 + ((List.replicate q R).flatten).length)).toArray) :=
        ⟨hbl.os, hbl.tape, hbl.output, by rw [size_setRow]; exact hbl.size, fun k hk => (setRow_other _ w.heap.size k _ (by omega)).trans (hbl.block k hk)⟩
      generalize wr.drew.setRow w.heap.size ((repCells R zeroV k (t - k)).toArray.toList.take (k * 7) ++ (List.replicate q R).flatten ++ (repCells R zeroV k (t - k)).toArray.toList.drop (k * 7 + ((List.replicate q R).flatten).length)).toArray = W3 at *
      have HNX := Lib.hid (And.intro hnx hbx)
      have HQ := Lib.hid (And.intro hq1 (And.intro hqk hqt))
      have hgo : goInt (q : Int) = .int .i64 (q : Int) := rfl
      rw [hgo] at hrun2
      have hcap : ¬ t = k := by omega
      have hkk : (0 : Int) ≤ (k : Int) := by omega
      have hkt : (k : Int) ≤ (t : Int) := by omega
      have hw0 : wrap64 ((k : Int) + (q : Int)) = ((k + q : Nat) : Int) := by have := HT.out; unfold wrap64; omega
      have HW := Lib.hid hw0
      clear hsr hq hb hbl hnx hbx hbd hgo hqk hqt hq1 hw0
      go_wp2_with fail
      go_region
      all_goals go_wp2_with fail
      all_goals
        go_roundw
        case rel =>
          obtain ⟨q1, q2, q3⟩ := HQ.out
          obtain ⟨n1, n2⟩ := HNX.out
          exact ⟨k + q, by omega, by omega, by rw [HW.out], by rw [show t - (k + q) = t - k - q by omega]; exact n1, n2⟩
        case measure =>
          obtain ⟨q1, q2, q3⟩ := HQ.out
          rw [HW.out]
          simp only [intOf]
          omega
    · obtain rfl : k = t := by omega
      rw [Nat.sub_self] at hb
      have HBB := Lib.hid (And.intro hb hbl)
      clear hb hbl
      go_wp2
      go_ret
      exact ⟨_, rfl, Nat.le_refl _, HBB.out.1, HBB.out.2⟩
end Go.Proofs.YtgipddeldddbnaaGreat
