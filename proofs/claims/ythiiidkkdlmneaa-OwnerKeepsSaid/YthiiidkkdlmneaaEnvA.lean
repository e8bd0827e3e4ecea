/-
  The reference's environment: its cells. No function is named. (Written by wip/gen_env.py.)
-/
import Derived.Test.YthiiidkkdlmneaaMgAA
import Derived.Test.YthiiidkkdlmneaaCfBase
import Derived.Lib.Hide
namespace Go.Proofs.Ythiiidkkdlmneaa
open Go Go.RowKit
set_option linter.unusedSimpArgs false

/-- What an environment holds besides its memory's state: the configuration and where its lists lie, the memory's row, the records, the events. -/
structure EnvA where
  c : Cfg
  pa : Option Addr
  pn : Nat
  pc : Nat
  sa : Option Addr
  sn : Nat
  sc : Nat
  g : Nat
  cap : Nat
  now : Int
  draw : Int
  rv : Value
  ev : Value
/-- Its cells. -/
abbrev ecells (a : EnvA) (s : St) : Array Value :=
  #[.int .i64 a.c.wo, .int .i64 a.c.le, .int .i64 a.c.cl, .int .i64 a.c.ta, .int .i64 a.c.de, .int .i64 a.c.he, .int .i64 a.c.ba, .int .i64 a.c.ag, .int .i64 a.c.pa, .slice a.pa a.pn a.pc, .slice a.sa a.sn a.sc,
    .slice (some ⟨a.g, 0, none⟩) s.X.length a.cap, .int .i64 s.k, .int .i64 s.i, .int .u64 s.o, .int .u64 s.v, .int .i64 s.c, .int .i64 a.now, .int .i64 a.draw, a.rv, a.ev]
/-- Block p is an environment in state s. -/
structure EnvM (w : World) (p : Nat) (a : EnvA) (s : St) : Prop where
  blk : Blk w p 74 (ecells a s)
  row : Row w a.g s.X.length a.cap s.X
  small : s.X.length ≤ 131072
theorem EnvM.ne {w : World} {p : Nat} {a : EnvA} {s : St} (h : EnvM w p a s) : p ≠ a.g := by
  obtain ⟨cur, hb, _⟩ := h.row.blk
  exact h.blk.apart hb (by decide)
theorem EnvM.of_same {w w' : World} {p : Nat} {a : EnvA} {s : St} (h : EnvM w p a s) (e : w'.heap[p]? = w.heap[p]?) (e' : w'.heap[a.g]? = w.heap[a.g]?) : EnvM w' p a s := ⟨h.blk.of_same e, h.row.of_same e', h.small⟩
theorem EnvM.fr {S : List Nat} {w w' : World} {p : Nat} {a : EnvA} {s : St} (h : EnvM w p a s) (f : Fr S w w') (hp : p ∉ S) (hg : a.g ∉ S) : EnvM w' p a s := h.of_same (f.block p h.blk.lt hp) (f.block a.g h.row.lt hg)
theorem EnvM.alloc {w : World} {p : Nat} {a : EnvA} {s : St} (h : EnvM w p a s) (o : Obj) : EnvM (w.alloc o) p a s := h.of_same (Below.heap_alloc w o p h.blk.lt) (Below.heap_alloc w o a.g h.row.lt)
theorem EnvM.drew {w : World} {p : Nat} {a : EnvA} {s : St} (h : EnvM w p a s) : EnvM w.drew p a s := h.of_same rfl rfl
theorem EnvM.drewN {w : World} {p : Nat} {a : EnvA} {s : St} (h : EnvM w p a s) (n : Nat) : EnvM (w.drewN n) p a s := h.of_same rfl rfl
theorem EnvM.below {w w' : World} {p : Nat} {a : EnvA} {s : St} (h : EnvM w p a s) (hb : Below w.heap.size w w') : EnvM w' p a s := h.of_same (hb.block p h.blk.lt) (hb.block a.g h.row.lt)
theorem EnvM.acc {w : World} {p : Nat} {a : EnvA} {s : St} (h : EnvM w p a s) (k : Int) {j : Nat} (y : Int) :
    EnvM ((((((w.setCell ⟨a.g, j, none⟩ (.int .u64 y)).setCell ⟨p, 12, none⟩ (.int .i64 k)).setCell ⟨p, 13, none⟩ (.int .i64 j)).setCell ⟨p, 14, none⟩ (.int .u64 (s.X.getD j 0))).setCell ⟨p, 15, none⟩ (.int .u64 y)).setCell ⟨p, 16, none⟩ (.int .i64 (wrap64 (s.c + 1)))) p a (s.acc k j y) := by
  have hne := h.ne
  have b := (((((h.blk.of_same (Below.heap_setCell w ⟨a.g, j, none⟩ (.int .u64 y) p hne)).put 12 (.int .i64 k)).put 13 (.int .i64 j)).put 14 (.int .u64 (s.X.getD j 0))).put 15 (.int .u64 y)).put 16 (.int .i64 (wrap64 (s.c + 1)))
  have r := h.row.put (i := j) y
  refine ⟨?_, ?_, by simpa [St.acc] using h.small⟩
  · simpa [St.acc, ecells] using b
  · have e : (s.acc k j y).X.length = s.X.length := by simp [St.acc]
    rw [e]
    refine r.of_same ?_
    rw [Below.heap_setCell _ _ _ _ (by simpa using hne.symm), Below.heap_setCell _ _ _ _ (by simpa using hne.symm), Below.heap_setCell _ _ _ _ (by simpa using hne.symm), Below.heap_setCell _ _ _ _ (by simpa using hne.symm), Below.heap_setCell _ _ _ _ (by simpa using hne.symm)]
end Go.Proofs.Ythiiidkkdlmneaa
