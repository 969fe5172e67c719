/- Several texts, one behind the other. -/
import Derived.WalkKit
import Derived.Laws.BitsAllLaws
import Derived.Below
import Derived.Deep.Draws
import Derived.Test.YtifepgigkmhdaaaDoorRows
import Derived.ProofKit
import Derived.Outline
import Derived.Deep.QuietTactic
import Derived.BigQuiet
import Derived.Deep.RegionHeld3
import Derived.Deep.MidRow
import Derived.Deep.RegionWith
import Derived.Laws.CopyOwn
import Derived.StillTailTactics
import Derived.IntWalk
/- SHA-256 in plain numbers. Nothing of the program. -/
namespace Go.Proofs.YtifepgigkmhdaaaDoor.Sm
set_option linter.unusedVariables false
set_option linter.unusedSimpArgs false
set_option maxRecDepth 100000

def M : Nat := 4294967296
def rotr (x n : Nat) : Nat := x >>> n ||| (x <<< (32 - n)) % 4294967296
def bS0 (x : Nat) : Nat := rotr x 2 ^^^ rotr x 13 ^^^ rotr x 22
def bS1 (x : Nat) : Nat := rotr x 6 ^^^ rotr x 11 ^^^ rotr x 25
def lS0 (x : Nat) : Nat := rotr x 7 ^^^ rotr x 18 ^^^ x >>> 3
def lS1 (x : Nat) : Nat := rotr x 17 ^^^ rotr x 19 ^^^ x >>> 10
def chs (x y z : Nat) : Nat := x &&& y ^^^ (4294967295 - x) &&& z
def maj (x y z : Nat) : Nat := x &&& y ^^^ x &&& z ^^^ y &&& z
def wd (a b c d : Nat) : Nat := a * 16777216 + b * 65536 + c * 256 + d

theorem pow32 : (2 : Nat) ^ 32 = 4294967296 := by decide
theorem shr_lt {x n : Nat} (h : x < 4294967296) : x >>> n < 4294967296 := Nat.lt_of_le_of_lt (by rw [Nat.shiftRight_eq_div_pow]; exact Nat.div_le_self _ _) h
theorem xor_lt {x y : Nat} (h : x < 4294967296) (h' : y < 4294967296) : x ^^^ y < 4294967296 := by rw [← pow32] at *; exact Nat.xor_lt_two_pow h h'
theorem or_lt {x y : Nat} (h : x < 4294967296) (h' : y < 4294967296) : x ||| y < 4294967296 := by rw [← pow32] at *; exact Nat.or_lt_two_pow h h'
theorem and_lt {x y : Nat} (h : y < 4294967296) : x &&& y < 4294967296 := by rw [← pow32] at *; exact Nat.and_lt_two_pow _ h
theorem rotr_lt {x n : Nat} (h : x < 4294967296) : rotr x n < 4294967296 := or_lt (shr_lt h) (Nat.mod_lt _ (by decide))
theorem bS0_lt {x : Nat} (h : x < 4294967296) : bS0 x < 4294967296 := xor_lt (xor_lt (rotr_lt h) (rotr_lt h)) (rotr_lt h)
theorem bS1_lt {x : Nat} (h : x < 4294967296) : bS1 x < 4294967296 := xor_lt (xor_lt (rotr_lt h) (rotr_lt h)) (rotr_lt h)
theorem lS0_lt {x : Nat} (h : x < 4294967296) : lS0 x < 4294967296 := xor_lt (xor_lt (rotr_lt h) (rotr_lt h)) (shr_lt h)
theorem lS1_lt {x : Nat} (h : x < 4294967296) : lS1 x < 4294967296 := xor_lt (xor_lt (rotr_lt h) (rotr_lt h)) (shr_lt h)
theorem chs_lt {x y z : Nat} (hy : y < 4294967296) (hz : z < 4294967296) : chs x y z < 4294967296 := xor_lt (and_lt hy) (and_lt hz)
theorem maj_lt {x y z : Nat} (hy : y < 4294967296) (hz : z < 4294967296) : maj x y z < 4294967296 := xor_lt (xor_lt (and_lt hy) (and_lt hz)) (and_lt hz)
theorem wd_lt {a b c d : Nat} (ha : a < 256) (hb : b < 256) (hc : c < 256) (hd : d < 256) : wd a b c d < 4294967296 := by unfold wd; omega

/-- Words of 32 bits; bytes. -/
def All32 (X : List Nat) : Prop := ∀ x ∈ X, x < 4294967296
def All8 (X : List Nat) : Prop := ∀ x ∈ X, x < 256
theorem all32_getD {X : List Nat} (h : All32 X) (i : Nat) : X.getD i 0 < 4294967296 := by
  by_cases hi : i < X.length
  · simp only [List.getD, List.getElem?_eq_getElem hi, Option.getD_some]; exact h _ (List.getElem_mem hi)
  · simp [List.getD, List.getElem?_eq_none (Nat.le_of_not_lt hi)]
theorem all8_getD {X : List Nat} (h : All8 X) (i : Nat) : X.getD i 0 < 256 := by
  by_cases hi : i < X.length
  · simp only [List.getD, List.getElem?_eq_getElem hi, Option.getD_some]; exact h _ (List.getElem_mem hi)
  · simp [List.getD, List.getElem?_eq_none (Nat.le_of_not_lt hi)]
def w16 (L : List Nat) (i : Nat) : Nat := wd (L.getD (4 * i) 0) (L.getD (4 * i + 1) 0) (L.getD (4 * i + 2) 0) (L.getD (4 * i + 3) 0)
def W16 (L : List Nat) : List Nat := (List.range 16).map (w16 L)
def nxt (X : List Nat) : Nat := (lS1 (X.getD (X.length - 2) 0) + X.getD (X.length - 7) 0 + lS0 (X.getD (X.length - 15) 0) + X.getD (X.length - 16) 0) % 4294967296
def ext : Nat → List Nat → List Nat
  | 0, X => X
  | n + 1, X => ext n X ++ [nxt (ext n X)]
def sched (L : List Nat) : List Nat := ext 48 (W16 L)
theorem W16_length (L : List Nat) : (W16 L).length = 16 := by simp [W16]
theorem ext_length (n : Nat) (X : List Nat) : (ext n X).length = X.length + n := by
  induction n with
  | zero => rfl
  | succ n ih => simp [ext, ih]; omega
theorem sched_length (L : List Nat) : (sched L).length = 64 := by rw [sched, ext_length, W16_length]
theorem w16_lt {L : List Nat} (h : All8 L) (i : Nat) : w16 L i < 4294967296 := wd_lt (all8_getD h _) (all8_getD h _) (all8_getD h _) (all8_getD h _)
theorem W16_all {L : List Nat} (h : All8 L) : All32 (W16 L) := by
  intro x hx
  simp only [W16, List.mem_map] at hx
  obtain ⟨i, _, rfl⟩ := hx
  exact w16_lt h i
theorem nxt_lt (X : List Nat) : nxt X < 4294967296 := Nat.mod_lt _ (by decide)
theorem ext_all {X : List Nat} (h : All32 X) (n : Nat) : All32 (ext n X) := by
  induction n with
  | zero => exact h
  | succ n ih =>
    intro x hx
    simp only [ext, List.mem_append, List.mem_singleton] at hx
    rcases hx with hx | rfl
    · exact ih x hx
    · exact nxt_lt _
theorem sched_all {L : List Nat} (h : All8 L) : All32 (sched L) := ext_all (W16_all h) 48
theorem set_grow (X : List Nat) (n y : Nat) : (X ++ List.replicate (n + 1) 0).set X.length y = (X ++ [y]) ++ List.replicate n 0 := by
  rw [List.replicate_succ]; simp
theorem W16_take (L : List Nat) (k : Nat) (h : k < 16) : (W16 L).take (k + 1) = (W16 L).take k ++ [w16 L k] := by
  rw [List.take_succ_eq_append_getElem (by rw [W16_length]; exact h)]
  simp [W16]
theorem getD_left (X Y : List Nat) (i : Nat) (h : i < X.length) : (X ++ Y).getD i 0 = X.getD i 0 := by simp [List.getD, List.getElem?_append_left h]

/-- The state: eight words. -/
structure S8 where
  a : Nat
  b : Nat
  c : Nat
  d : Nat
  e : Nat
  f : Nat
  g : Nat
  h : Nat
def S8.list (s : S8) : List Nat := [s.a, s.b, s.c, s.d, s.e, s.f, s.g, s.h]
def S8.ok (s : S8) : Prop := All32 s.list
def Ks : List Nat := [1116352408, 1899447441, 3049323471, 3921009573, 961987163, 1508970993, 2453635748, 2870763221, 3624381080, 310598401, 607225278, 1426881987, 1925078388, 2162078206, 2614888103, 3248222580, 3835390401, 4022224774, 264347078, 604807628, 770255983, 1249150122, 1555081692, 1996064986, 2554220882, 2821834349, 2952996808, 3210313671, 3336571891, 3584528711, 113926993, 338241895, 666307205, 773529912, 1294757372, 1396182291, 1695183700, 1986661051, 2177026350, 2456956037, 2730485921, 2820302411, 3259730800, 3345764771, 3516065817, 3600352804, 4094571909, 275423344, 430227734, 506948616, 659060556, 883997877, 958139571, 1322822218, 1537002063, 1747873779, 1955562222, 2024104815, 2227730452, 2361852424, 2428436474, 2756734187, 3204031479, 3329325298]
def H0 : S8 := ⟨1779033703, 3144134277, 1013904242, 2773480762, 1359893119, 2600822924, 528734635, 1541459225⟩
def one (s : S8) (k w : Nat) : Nat := (s.h + bS1 s.e + chs s.e s.f s.g + k + w) % 4294967296
def two (s : S8) : Nat := (bS0 s.a + maj s.a s.b s.c) % 4294967296
def S8.step (s : S8) (k w : Nat) : S8 := ⟨(one s k w + two s) % 4294967296, s.a, s.b, s.c, (s.d + one s k w) % 4294967296, s.e, s.f, s.g⟩
def rounds (W : List Nat) (s : S8) : Nat → S8
  | 0 => s
  | n + 1 => (rounds W s n).step (Ks.getD n 0) (W.getD n 0)
def S8.add (s v : S8) : S8 := ⟨(s.a + v.a) % 4294967296, (s.b + v.b) % 4294967296, (s.c + v.c) % 4294967296, (s.d + v.d) % 4294967296, (s.e + v.e) % 4294967296, (s.f + v.f) % 4294967296, (s.g + v.g) % 4294967296, (s.h + v.h) % 4294967296⟩
def compress (s : S8) (B : List Nat) : S8 := s.add (rounds (sched B) s 64)
theorem S8.bd {s : S8} (h : s.ok) : s.a < 4294967296 ∧ s.b < 4294967296 ∧ s.c < 4294967296 ∧ s.d < 4294967296 ∧ s.e < 4294967296 ∧ s.f < 4294967296 ∧ s.g < 4294967296 ∧ s.h < 4294967296 := by
  refine ⟨h _ ?_, h _ ?_, h _ ?_, h _ ?_, h _ ?_, h _ ?_, h _ ?_, h _ ?_⟩ <;> simp [S8.list]
theorem S8.ok_mk {a b c d e f g h : Nat} (ha : a < 4294967296) (hb : b < 4294967296) (hc : c < 4294967296) (hd : d < 4294967296) (he : e < 4294967296) (hf : f < 4294967296) (hg : g < 4294967296) (hh : h < 4294967296) : S8.ok ⟨a, b, c, d, e, f, g, h⟩ := by
  intro z hz
  simp only [S8.list, List.mem_cons, List.not_mem_nil, or_false] at hz
  omega
theorem H0_ok : H0.ok := S8.ok_mk (by decide) (by decide) (by decide) (by decide) (by decide) (by decide) (by decide) (by decide)
theorem mod_lt32 (x : Nat) : x % 4294967296 < 4294967296 := Nat.mod_lt _ (by decide)
theorem step_ok {s : S8} (h : s.ok) (k w : Nat) : (s.step k w).ok := by
  obtain ⟨h1, h2, h3, h4, h5, h6, h7, h8⟩ := S8.bd h
  exact S8.ok_mk (mod_lt32 _) h1 h2 h3 (mod_lt32 _) h5 h6 h7
theorem rounds_ok {s : S8} (h : s.ok) (W : List Nat) (n : Nat) : (rounds W s n).ok := by
  induction n with
  | zero => exact h
  | succ n ih => exact step_ok ih _ _
theorem add_ok (s v : S8) : (s.add v).ok := S8.ok_mk (mod_lt32 _) (mod_lt32 _) (mod_lt32 _) (mod_lt32 _) (mod_lt32 _) (mod_lt32 _) (mod_lt32 _) (mod_lt32 _)
theorem compress_ok (s : S8) (B : List Nat) : (compress s B).ok := add_ok _ _
theorem Ks_length : Ks.length = 64 := by decide
theorem Ks_all : All32 Ks := by
  intro x hx
  have : ∀ y ∈ Ks, y < 4294967296 := by decide
  exact this x hx
end Go.Proofs.YtifepgigkmhdaaaDoor.Sm
/- Small facts on worlds and blocks, for any program. -/
namespace Go.Proofs.YtifepgigkmhdaaaDoor.Wu
set_option linter.unusedVariables false
set_option linter.unusedSimpArgs false
set_option maxRecDepth 100000
open Go.RowKit

/-- A fact kept from the walk. -/
theorem hide {p : Prop} (h : p) : Hid p := h
theorem heap_last (w : World) (o : Obj) : (w.alloc o).heap[w.heap.size]? = some o := by
  show (w.heap.push o)[w.heap.size]? = _
  rw [Array.getElem?_push, if_pos rfl]
theorem heap_old {w : World} {k : Nat} {x : Obj} (h : w.heap[k]? = some x) (o : Obj) : (w.alloc o).heap[k]? = some x := by
  have hk : k < w.heap.size := (Array.getElem?_eq_some_iff.1 h).1
  rw [Below.heap_alloc w o k hk]; exact h
theorem heap_2a (w : World) (o p : Obj) : ((w.alloc o).alloc p).heap[w.heap.size]? = some o := heap_old (heap_last w o) p
theorem heap_2b (w : World) (o p : Obj) : ((w.alloc o).alloc p).heap[w.heap.size + 1]? = some p := by
  have := heap_last (w.alloc o) p
  rwa [World.size_alloc] at this
theorem heap_lt {w : World} {k : Nat} {x : Obj} (h : w.heap[k]? = some x) : k < w.heap.size := (Array.getElem?_eq_some_iff.1 h).1
theorem below_blk {B k : Nat} {w w' : World} {x : Obj} (hb : Below B w w') (hk : k < B) (h : w.heap[k]? = some x) : w'.heap[k]? = some x := (hb.block k hk).trans h
theorem below_drewN {B : Nat} {a w : World} (h : Below B a w) (n : Nat) : Below B a (w.drewN n) := ⟨h.os, h.tape, h.output, h.size, h.block⟩
theorem blk_cell {w : World} {B i : Nat} {c : Array Value} {T : TypeId} {f : Nat × Nat} {x : Value} (h : w.heap[B]? = some (.cells c T f)) (hx : c[i]? = some x) : w.cell? ⟨B, i, none⟩ = some x := by
  unfold World.cell?
  rw [h]
  simpa using hx
theorem blk_free {w : World} {B i : Nat} {c : Array Value} {T : TypeId} (h : w.heap[B]? = some (.cells c T (0, 0))) : w.frozen? ⟨B, i, none⟩ = false := by
  unfold World.frozen?
  rw [h]
  simp
theorem blk_set {w : World} {B i : Nat} {c : Array Value} {T : TypeId} {f : Nat × Nat} (h : w.heap[B]? = some (.cells c T f)) (x : Value) : (w.setCell ⟨B, i, none⟩ x).heap[B]? = some (.cells (c.setIfInBounds i x) T f) := by
  simp [World.setCell, Array.getElem?_modify, h]
theorem blk_set_other {w : World} {B k i : Nat} {y : Obj} (h : w.heap[k]? = some y) (hk : k ≠ B) (x : Value) : (w.setCell ⟨B, i, none⟩ x).heap[k]? = some y := by
  rw [Below.heap_setCell _ _ _ _ hk]; exact h
theorem cell_lt {W : World} {p : Addr} {v : Value} (h : W.cell? p = some v) : p.block < W.heap.size := by
  unfold World.cell? at h
  split at h
  · exact heap_lt (by assumption)
  · simp at h
theorem keepC {B : Nat} {W u : World} {p : Addr} {v : Value} (hb : Below B W u) (hB : W.heap.size ≤ B) (h : W.cell? p = some v) : u.cell? p = some v := by
  rw [hb.cell (Nat.lt_of_lt_of_le (cell_lt h) hB)]; exact h
theorem keepB {B : Nat} {w W u : World} (hb : Below B W u) (hB : W.heap.size ≤ B) (h : Below w.heap.size w W) : Below w.heap.size w u := h.trans (hb.mono (Nat.le_trans h.size hB))
theorem below_new (W : World) (o : Obj) : Below W.heap.size W (W.alloc o) := (Below.refl _ _).alloc (Nat.le_refl _) _
theorem keep3 {B : Nat} {w W u : World} {p1 p2 p3 : Addr} {v1 v2 v3 : Value} (hb : Below B W u) (hB : W.heap.size ≤ B)
    (h : W.cell? p1 = some v1 ∧ W.cell? p2 = some v2 ∧ W.cell? p3 = some v3 ∧ Below w.heap.size w W) :
    u.cell? p1 = some v1 ∧ u.cell? p2 = some v2 ∧ u.cell? p3 = some v3 ∧ Below w.heap.size w u :=
  ⟨keepC hb hB h.1, keepC hb hB h.2.1, keepC hb hB h.2.2.1, keepB hb hB h.2.2.2⟩
theorem keep6 {B : Nat} {w W u : World} {p1 p2 p3 p4 p5 p6 : Addr} {v1 v2 v3 v4 v5 v6 : Value} (hb : Below B W u) (hB : W.heap.size ≤ B)
    (h : W.cell? p1 = some v1 ∧ W.cell? p2 = some v2 ∧ W.cell? p3 = some v3 ∧ W.cell? p4 = some v4 ∧ W.cell? p5 = some v5 ∧ W.cell? p6 = some v6 ∧ Below w.heap.size w W) :
    u.cell? p1 = some v1 ∧ u.cell? p2 = some v2 ∧ u.cell? p3 = some v3 ∧ u.cell? p4 = some v4 ∧ u.cell? p5 = some v5 ∧ u.cell? p6 = some v6 ∧ Below w.heap.size w u :=
  ⟨keepC hb hB h.1, keepC hb hB h.2.1, keepC hb hB h.2.2.1, keepC hb hB h.2.2.2.1, keepC hb hB h.2.2.2.2.1, keepC hb hB h.2.2.2.2.2.1, keepB hb hB h.2.2.2.2.2.2⟩
theorem six_below {w u : World} {p1 p2 p3 p4 p5 p6 : Addr} {v1 v2 v3 v4 v5 v6 : Value} (h : u.cell? p1 = some v1 ∧ u.cell? p2 = some v2 ∧ u.cell? p3 = some v3 ∧ u.cell? p4 = some v4 ∧ u.cell? p5 = some v5 ∧ u.cell? p6 = some v6 ∧ Below w.heap.size w u) : Below w.heap.size w u := h.2.2.2.2.2.2
theorem three_below {w u : World} {p1 p2 p3 : Addr} {v1 v2 v3 : Value} (h : u.cell? p1 = some v1 ∧ u.cell? p2 = some v2 ∧ u.cell? p3 = some v3 ∧ Below w.heap.size w u) : Below w.heap.size w u := h.2.2.2
/-- the six facts of a block of three cells. -/
theorem blk3 {w : World} {B : Nat} {x y z : Value} {T : TypeId} (h : w.heap[B]? = some (.cells #[x, y, z] T (0, 0))) :
    w.cell? ⟨B, 0, none⟩ = some x ∧ w.cell? ⟨B, 1, none⟩ = some y ∧ w.cell? ⟨B, 2, none⟩ = some z ∧ w.frozen? ⟨B, 0, none⟩ = false ∧ w.frozen? ⟨B, 1, none⟩ = false ∧ w.frozen? ⟨B, 2, none⟩ = false :=
  ⟨blk_cell h rfl, blk_cell h rfl, blk_cell h rfl, blk_free h, blk_free h, blk_free h⟩
theorem blk3_set {w : World} {B : Nat} {x y z : Value} {T : TypeId} (h : w.heap[B]? = some (.cells #[x, y, z] T (0, 0))) (a b c : Value) :
    (((w.setCell ⟨B, 0, none⟩ a).setCell ⟨B, 1, none⟩ b).setCell ⟨B, 2, none⟩ c).heap[B]? = some (.cells #[a, b, c] T (0, 0)) := by
  have := blk_set (i := 2) (blk_set (i := 1) (blk_set (i := 0) h a) b) c
  simpa using this
theorem below_set3 {w u : World} {N B : Nat} (h : Below N u w) (hB : N ≤ B) (a b c : Value) :
    Below N u (((w.setCell ⟨B, 0, none⟩ a).setCell ⟨B, 1, none⟩ b).setCell ⟨B, 2, none⟩ c) := ((h.setCell hB _).setCell hB _).setCell hB _
end Go.Proofs.YtifepgigkmhdaaaDoor.Wu
/- The contracts of package sum's small functions. -/
namespace Go.Proofs.YtifepgigkmhdaaaDoor.Sk
set_option linter.unusedVariables false
set_option linter.unusedSimpArgs false
set_option maxRecDepth 100000
open Go.ChangeShapes Go.WideShapes Go.ChangeAt Go.RowKit
open Go.Proofs.YtifepgigkmhdaaaDoor.Wu Go.Proofs.YtifepgigkmhdaaaDoor.Sm

theorem and31 (n s : Nat) (hn : 1 ≤ n) (hn' : n ≤ 31) (hs : s = 32 - n) : bits .and .u64 (IntKind.u64.wrap (-(n : Int))) 31 = (s : Int) := by
  rw [IntKind.wrap_u64]
  have e : (-(n : Int)) % 18446744073709551616 = ((18446744073709551616 - n : Nat) : Int) := by omega
  rw [e, u64_and _ _ (by omega) (by omega) (by omega) (by omega), Int.toNat_natCast, show (31 : Int).toNat = 2 ^ 5 - 1 from rfl, Nat.and_two_pow_sub_one_eq_mod]
  omega
theorem rot_is (x n s : Nat) (hx : x < 4294967296) (hn : 1 ≤ n) (hn' : n ≤ 31) (hs : s = 32 - n) :
    bits .or .u32 ((x : Int) * 2 ^ s % 4294967296) ((x : Int) / 2 ^ (32 - s)) = (rotr x n : Int) := by
  have e1 : (x : Int) * 2 ^ s % 4294967296 = (((x <<< s) % 4294967296 : Nat) : Int) := by
    rw [Nat.shiftLeft_eq, Int.natCast_emod, Int.natCast_mul, Int.natCast_pow]; rfl
  have e2 : ((x : Int) / 2 ^ (32 - s)) = ((x >>> n : Nat) : Int) := by
    rw [show 32 - s = n by omega, Nat.shiftRight_eq_div_pow, Int.natCast_ediv, Int.natCast_pow]; rfl
  rw [e1, e2, u32_or_nat _ _ (Nat.mod_lt _ (by decide)) (shr_lt hx)]
  unfold rotr
  rw [Nat.or_comm, ← hs]
theorem turned_any (x n : Nat) (w : World) (hx : x < 4294967296) (hn : 1 ≤ n) (hn' : n ≤ 31) :
    Calls Tryd.prog 155 #[.int .u32 (x : Int), .int .i64 (n : Int)] w fun e w' => e = .returned (.int .u32 (rotr x n : Int)) ∧ w = w' := by
  obtain ⟨s, hs⟩ : ∃ s, s = 32 - n := ⟨_, rfl⟩
  have ha := and31 n s hn hn' hs
  have Hr := hide (rot_is x n s hx hn hn' hs)
  have hs1 : 1 ≤ s := by omega
  have hs2 : s ≤ 31 := by omega
  have HS := hide hs
  clear hs
  go_enter Tryd.func155, Tryd.ntmps155
  go_wp2
  go_ret
  refine ⟨?_, rfl⟩
  show Ending.returned (.int .u32 (bits .or .u32 ((x : Int) * 2 ^ s % 4294967296) ((x : Int) / 2 ^ (32 - s)))) = _
  rw [Hr.out]
theorem turned_2 (x : Nat) (w : World) (hx : x < 4294967296) :
    Calls Tryd.prog 155 #[.int .u32 (x : Int), .int .i64 2] w fun e w' => e = .returned (.int .u32 (rotr x 2 : Int)) ∧ w = w' := turned_any x 2 w hx (by decide) (by decide)
theorem turned_13 (x : Nat) (w : World) (hx : x < 4294967296) :
    Calls Tryd.prog 155 #[.int .u32 (x : Int), .int .i64 13] w fun e w' => e = .returned (.int .u32 (rotr x 13 : Int)) ∧ w = w' := turned_any x 13 w hx (by decide) (by decide)
theorem turned_22 (x : Nat) (w : World) (hx : x < 4294967296) :
    Calls Tryd.prog 155 #[.int .u32 (x : Int), .int .i64 22] w fun e w' => e = .returned (.int .u32 (rotr x 22 : Int)) ∧ w = w' := turned_any x 22 w hx (by decide) (by decide)
theorem turned_6 (x : Nat) (w : World) (hx : x < 4294967296) :
    Calls Tryd.prog 155 #[.int .u32 (x : Int), .int .i64 6] w fun e w' => e = .returned (.int .u32 (rotr x 6 : Int)) ∧ w = w' := turned_any x 6 w hx (by decide) (by decide)
theorem turned_11 (x : Nat) (w : World) (hx : x < 4294967296) :
    Calls Tryd.prog 155 #[.int .u32 (x : Int), .int .i64 11] w fun e w' => e = .returned (.int .u32 (rotr x 11 : Int)) ∧ w = w' := turned_any x 11 w hx (by decide) (by decide)
theorem turned_25 (x : Nat) (w : World) (hx : x < 4294967296) :
    Calls Tryd.prog 155 #[.int .u32 (x : Int), .int .i64 25] w fun e w' => e = .returned (.int .u32 (rotr x 25 : Int)) ∧ w = w' := turned_any x 25 w hx (by decide) (by decide)
theorem turned_7 (x : Nat) (w : World) (hx : x < 4294967296) :
    Calls Tryd.prog 155 #[.int .u32 (x : Int), .int .i64 7] w fun e w' => e = .returned (.int .u32 (rotr x 7 : Int)) ∧ w = w' := turned_any x 7 w hx (by decide) (by decide)
theorem turned_18 (x : Nat) (w : World) (hx : x < 4294967296) :
    Calls Tryd.prog 155 #[.int .u32 (x : Int), .int .i64 18] w fun e w' => e = .returned (.int .u32 (rotr x 18 : Int)) ∧ w = w' := turned_any x 18 w hx (by decide) (by decide)
theorem turned_17 (x : Nat) (w : World) (hx : x < 4294967296) :
    Calls Tryd.prog 155 #[.int .u32 (x : Int), .int .i64 17] w fun e w' => e = .returned (.int .u32 (rotr x 17 : Int)) ∧ w = w' := turned_any x 17 w hx (by decide) (by decide)
theorem turned_19 (x : Nat) (w : World) (hx : x < 4294967296) :
    Calls Tryd.prog 155 #[.int .u32 (x : Int), .int .i64 19] w fun e w' => e = .returned (.int .u32 (rotr x 19 : Int)) ∧ w = w' := turned_any x 19 w hx (by decide) (by decide)
theorem bS0_c (x : Nat) (w : World) (hx : x < 4294967296) :
    Calls Tryd.prog 144 #[.int .u32 (x : Int)] w fun e w' => e = .returned (.int .u32 (bS0 x : Int)) ∧ w = w' := by
  go_enter Tryd.func144, Tryd.ntmps144
  go_wp2_with fail
  refine (turned_2 x _ hx).mono ?_
  rintro e w1 ⟨rfl, rfl⟩
  go_wp2_with fail
  refine (turned_13 x _ hx).mono ?_
  rintro e w1 ⟨rfl, rfl⟩
  have h1 := u32_xor_nat (rotr x 2) (rotr x 13) (rotr_lt hx) (rotr_lt hx)
  go_wp2_with fail
  refine (turned_22 x _ hx).mono ?_
  rintro e w1 ⟨rfl, rfl⟩
  have h2 := u32_xor_nat (rotr x 2 ^^^ rotr x 13) (rotr x 22) (xor_lt (rotr_lt hx) (rotr_lt hx)) (rotr_lt hx)
  go_wp2
  go_ret
  exact ⟨rfl, rfl⟩
theorem bS1_c (x : Nat) (w : World) (hx : x < 4294967296) :
    Calls Tryd.prog 142 #[.int .u32 (x : Int)] w fun e w' => e = .returned (.int .u32 (bS1 x : Int)) ∧ w = w' := by
  go_enter Tryd.func142, Tryd.ntmps142
  go_wp2_with fail
  refine (turned_6 x _ hx).mono ?_
  rintro e w1 ⟨rfl, rfl⟩
  go_wp2_with fail
  refine (turned_11 x _ hx).mono ?_
  rintro e w1 ⟨rfl, rfl⟩
  have h1 := u32_xor_nat (rotr x 6) (rotr x 11) (rotr_lt hx) (rotr_lt hx)
  go_wp2_with fail
  refine (turned_25 x _ hx).mono ?_
  rintro e w1 ⟨rfl, rfl⟩
  have h2 := u32_xor_nat (rotr x 6 ^^^ rotr x 11) (rotr x 25) (xor_lt (rotr_lt hx) (rotr_lt hx)) (rotr_lt hx)
  go_wp2
  go_ret
  exact ⟨rfl, rfl⟩
theorem lS0_c (x : Nat) (w : World) (hx : x < 4294967296) :
    Calls Tryd.prog 154 #[.int .u32 (x : Int)] w fun e w' => e = .returned (.int .u32 (lS0 x : Int)) ∧ w = w' := by
  go_enter Tryd.func154, Tryd.ntmps154
  go_wp2_with fail
  refine (turned_7 x _ hx).mono ?_
  rintro e w1 ⟨rfl, rfl⟩
  go_wp2_with fail
  refine (turned_18 x _ hx).mono ?_
  rintro e w1 ⟨rfl, rfl⟩
  have h1 := u32_xor_nat (rotr x 7) (rotr x 18) (rotr_lt hx) (rotr_lt hx)
  have h3 : ((x : Int) / (8 : Int)) = ((x >>> 3 : Nat) : Int) := by rw [Nat.shiftRight_eq_div_pow]; rfl
  have h2 : bits .xor .u32 ((rotr x 7 ^^^ rotr x 18 : Nat) : Int) ((x : Int) / (8 : Int)) = ((rotr x 7 ^^^ rotr x 18 ^^^ x >>> 3 : Nat) : Int) := by
    rw [h3]; exact u32_xor_nat _ _ (xor_lt (rotr_lt hx) (rotr_lt hx)) (shr_lt hx)
  clear h3
  go_wp2
  go_ret
  exact ⟨rfl, rfl⟩
theorem lS1_c (x : Nat) (w : World) (hx : x < 4294967296) :
    Calls Tryd.prog 153 #[.int .u32 (x : Int)] w fun e w' => e = .returned (.int .u32 (lS1 x : Int)) ∧ w = w' := by
  go_enter Tryd.func153, Tryd.ntmps153
  go_wp2_with fail
  refine (turned_17 x _ hx).mono ?_
  rintro e w1 ⟨rfl, rfl⟩
  go_wp2_with fail
  refine (turned_19 x _ hx).mono ?_
  rintro e w1 ⟨rfl, rfl⟩
  have h1 := u32_xor_nat (rotr x 17) (rotr x 19) (rotr_lt hx) (rotr_lt hx)
  have h3 : ((x : Int) / (1024 : Int)) = ((x >>> 10 : Nat) : Int) := by rw [Nat.shiftRight_eq_div_pow]; rfl
  have h2 : bits .xor .u32 ((rotr x 17 ^^^ rotr x 19 : Nat) : Int) ((x : Int) / (1024 : Int)) = ((rotr x 17 ^^^ rotr x 19 ^^^ x >>> 10 : Nat) : Int) := by
    rw [h3]; exact u32_xor_nat _ _ (xor_lt (rotr_lt hx) (rotr_lt hx)) (shr_lt hx)
  clear h3
  go_wp2
  go_ret
  exact ⟨rfl, rfl⟩
theorem not_is (x : Nat) (hx : x < 4294967296) : 4294967295 ^^^ x = 4294967295 - x := by
  apply Nat.eq_of_testBit_eq
  intro i
  have e : 4294967295 - x = 2 ^ 32 - (x + 1) := by omega
  rw [e, Nat.testBit_two_pow_sub_succ (by rw [pow32]; exact hx), Nat.testBit_xor, show (4294967295 : Nat) = 2 ^ 32 - 1 by decide, Nat.testBit_two_pow_sub_one]
  by_cases h : i < 32
  · simp [h]
  · have hb : x.testBit i = false := Nat.testBit_lt_two_pow (Nat.lt_of_lt_of_le (by rw [pow32]; exact hx) (Nat.pow_le_pow_right (by decide) (by omega)))
    simp [h, hb]
theorem chs_is (x y z : Nat) (hx : x < 4294967296) (hy : y < 4294967296) (hz : z < 4294967296) :
    bits .xor .u32 (bits .and .u32 (x : Int) (y : Int)) (bits .and .u32 (bits .xor .u32 IntKind.u32.max (x : Int)) (z : Int)) = (chs x y z : Int) := by
  have e : bits .xor .u32 IntKind.u32.max (x : Int) = ((4294967295 - x : Nat) : Int) := by
    rw [← not_is x hx]
    exact u32_xor_nat 4294967295 x (by decide) hx
  rw [e, u32_and_nat _ _ hx hy, u32_and_nat _ _ (by omega) hz, u32_xor_nat _ _ (and_lt hy) (and_lt hz)]
  rfl
theorem chs_c (x y z : Nat) (w : World) (hx : x < 4294967296) (hy : y < 4294967296) (hz : z < 4294967296) :
    Calls Tryd.prog 143 #[.int .u32 (x : Int), .int .u32 (y : Int), .int .u32 (z : Int)] w fun e w' => e = .returned (.int .u32 (chs x y z : Int)) ∧ w = w' := by
  have H := hide (chs_is x y z hx hy hz)
  go_enter Tryd.func143, Tryd.ntmps143
  go_wp2
  go_ret
  refine ⟨?_, rfl⟩
  show Ending.returned (.int .u32 (bits .xor .u32 (bits .and .u32 (x : Int) (y : Int)) (bits .and .u32 (bits .xor .u32 IntKind.u32.max (x : Int)) (z : Int)))) = _
  rw [H.out]
theorem maj_c (x y z : Nat) (w : World) (hx : x < 4294967296) (hy : y < 4294967296) (hz : z < 4294967296) :
    Calls Tryd.prog 145 #[.int .u32 (x : Int), .int .u32 (y : Int), .int .u32 (z : Int)] w fun e w' => e = .returned (.int .u32 (maj x y z : Int)) ∧ w = w' := by
  have h1 := u32_and_nat x y hx hy
  have h2 := u32_and_nat x z hx hz
  have h3 := u32_and_nat y z hy hz
  have h4 := u32_xor_nat (x &&& y) (x &&& z) (and_lt hy) (and_lt hz)
  have h5 := u32_xor_nat (x &&& y ^^^ x &&& z) (y &&& z) (xor_lt (and_lt hy) (and_lt hz)) (and_lt hz)
  go_enter Tryd.func145, Tryd.ntmps145
  go_wp2
  go_ret
  exact ⟨rfl, rfl⟩
end Go.Proofs.YtifepgigkmhdaaaDoor.Sk
/- wordOf, bytesOf, schedule. -/
namespace Go.Proofs.YtifepgigkmhdaaaDoor.Sc
set_option linter.unusedVariables false
set_option linter.unusedSimpArgs false
set_option maxRecDepth 100000
open Go.ChangeShapes Go.WideShapes Go.ChangeAt Go.RowKit
open Go.Proofs.YtifepgigkmhdaaaDoor.Wu Go.Proofs.YtifepgigkmhdaaaDoor.Sm Go.Proofs.YtifepgigkmhdaaaDoor.Sk

theorem or_add (a b k : Nat) (hb : b < 2 ^ k) : a * 2 ^ k ||| b = a * 2 ^ k + b := by
  rw [← Nat.shiftLeft_eq, ← Nat.shiftLeft_add_eq_or_of_lt hb]
theorem wd_is (a b c d : Nat) (ha : a < 256) (hb : b < 256) (hc : c < 256) (hd : d < 256) :
    bits .or .u32 (bits .or .u32 (bits .or .u32 ((a : Int) * 16777216) ((b : Int) * 65536)) ((c : Int) * 256)) (d : Int) = (wd a b c d : Int) := by
  have e1 : bits .or .u32 ((a : Int) * 16777216) ((b : Int) * 65536) = ((a * 16777216 + b * 65536 : Nat) : Int) := by
    have := u32_or_nat (a * 16777216) (b * 65536) (by omega) (by omega)
    have h := or_add a (b * 65536) 24 (by omega)
    rw [show (2 : Nat) ^ 24 = 16777216 by decide] at h
    rw [h] at this
    simpa using this
  have e2 : bits .or .u32 ((a * 16777216 + b * 65536 : Nat) : Int) ((c : Int) * 256) = ((a * 16777216 + b * 65536 + c * 256 : Nat) : Int) := by
    have := u32_or_nat (a * 16777216 + b * 65536) (c * 256) (by omega) (by omega)
    have h := or_add (a * 256 + b) (c * 256) 16 (by omega)
    rw [show (2 : Nat) ^ 16 = 65536 by decide, show (a * 256 + b) * 65536 = a * 16777216 + b * 65536 by omega] at h
    rw [h] at this
    simpa using this
  rw [e1, e2, u32_or_nat _ _ (by omega) (by omega)]
  have h := or_add (a * 65536 + b * 256 + c) d 8 (by omega)
  rw [show (2 : Nat) ^ 8 = 256 by decide, show (a * 65536 + b * 256 + c) * 256 = a * 16777216 + b * 65536 + c * 256 by omega] at h
  rw [h]
  rfl
theorem wordOf_c (B off cap a b c d : Nat) (w : World) (ha : a < 256) (hb : b < 256) (hc : c < 256) (hd : d < 256)
    (h0 : w.cell? ⟨B, off, none⟩ = some (.int .u8 (a : Int))) (h1 : w.cell? ⟨B, off + 1, none⟩ = some (.int .u8 (b : Int))) (h2 : w.cell? ⟨B, off + 2, none⟩ = some (.int .u8 (c : Int))) (h3 : w.cell? ⟨B, off + 3, none⟩ = some (.int .u8 (d : Int))) :
    Calls Tryd.prog 152 #[.slice (some ⟨B, off, none⟩) 4 cap] w fun e w' => e = .returned (.int .u32 (wd a b c d : Int)) ∧ ∃ n, w' = w.drewN n := by
  have H := hide (wd_is a b c d ha hb hc hd)
  go_enter Tryd.func152, Tryd.ntmps152
  go_wp2
  go_quiet (fail)
  go_wp2
  go_ret
  refine ⟨?_, nq, rfl⟩
  show Ending.returned (.int .u32 (bits .or .u32 (bits .or .u32 (bits .or .u32 ((a : Int) * 16777216) ((b : Int) * 65536)) ((c : Int) * 256)) (d : Int))) = _
  rw [H.out]

/-- Numbers as the cells of a row. -/
def u8s (L : List Nat) : Array Value := (L.map fun x : Nat => Value.int .u8 (x : Int)).toArray
def u32s (L : List Nat) : Array Value := (L.map fun x : Nat => Value.int .u32 (x : Int)).toArray
theorem u8s_size (L : List Nat) : (u8s L).size = L.length := by simp [u8s]
theorem u32s_size (L : List Nat) : (u32s L).size = L.length := by simp [u32s]
theorem u8s_at (L : List Nat) (i : Nat) (h : i < L.length) : (u8s L)[i]? = some (.int .u8 ((L.getD i 0 : Nat) : Int)) := by simp [u8s, List.getD, h]
theorem u32s_at (L : List Nat) (i : Nat) (h : i < L.length) : (u32s L)[i]? = some (.int .u32 ((L.getD i 0 : Nat) : Int)) := by simp [u32s, List.getD, h]
theorem u32s_set (L : List Nat) (i x : Nat) : (u32s L).setIfInBounds i (.int .u32 (x : Int)) = u32s (L.set i x) := by simp [u32s, List.map_set]
theorem u8s_set (L : List Nat) (i x : Nat) : (u8s L).setIfInBounds i (.int .u8 (x : Int)) = u8s (L.set i x) := by simp [u8s, List.map_set]

theorem alen64 : Tryd.prog.arrayLen 190 = 64 := by simp [Program.arrayLen, Tryd.underlying190]
theorem aelem64 : Tryd.prog.elem 190 = 5 := by simp [Program.elem, Tryd.underlying190]
theorem size_u8 (u : World) : Sem.run Tryd.prog (Go.sizeOf 5) u = .ok 1 u := by kernel_rfl
theorem slice64 (u : World) (B o : Nat) (l h : Int) (L H : Nat) (el : l = (L : Int)) (eh : h = (H : Int)) (hl : L ≤ H) (hh : H ≤ 64) (hne : L < 64) :
    Sem.run Tryd.prog (Instr.sliceAt 190 (.pointer (some ⟨B, o, none⟩)) (some (.int .i64 l)) (some (.int .i64 h)) none) u = .ok (.slice (some ⟨B, o + L, none⟩) (H - L) (64 - L)) u := by
  subst el eh
  rw [run_sliceAt_array_lh u 190 ⟨B, o, none⟩ (by rw [alen64, aelem64]; exact Tryd.underlying190) .i64 .i64 _ _ (by omega) (by omega) (by rw [alen64]; omega), aelem64, size_u8, alen64]
  simp only [Result.andThen, slicedAt, Int.toNat_natCast, Nat.mul_one]
  rw [if_neg (by omega), Addr.add_mid]
theorem heap_3c (w : World) (o p q : Obj) : (((w.alloc o).alloc p).alloc q).heap[w.heap.size + 1 + 1]? = some q := by
  have := heap_last ((w.alloc o).alloc p) q
  simpa [World.size_alloc] using this
/-- A block's list of cells behind a store of a row into it. -/
theorem blk_setCells {T : TypeId} {f : Nat × Nat} {B : Nat} : ∀ (vs : List Value) (o : Nat) (w : World) (xs : List Value), o + vs.length ≤ xs.length → w.heap[B]? = some (.cells xs.toArray T f) →
    (w.setCells B o vs).heap[B]? = some (.cells (xs.take o ++ vs ++ xs.drop (o + vs.length)).toArray T f)
  | [], o, w, xs, _, h => by simp [World.setCells, h]
  | v :: vs, o, w, xs, hl, h => by
    rw [World.setCells]
    have h1 := blk_set (i := o) h v
    rw [List.setIfInBounds_toArray] at h1
    have h2 := blk_setCells vs (o + 1) _ (xs.set o v) (by simp at *; omega) h1
    rw [h2]
    simp only [List.length_cons] at hl ⊢
    congr 3
    rw [List.set_eq_take_append_cons_drop, if_pos (by omega)]
    have hA : (xs.take o).length = o := by rw [List.length_take]; omega
    have e1 : (xs.take o ++ v :: xs.drop (o + 1)).take (o + 1) = xs.take o ++ [v] := by
      rw [List.take_append, hA, List.take_of_length_le (by omega), show o + 1 - o = 1 by omega]; rfl
    have e2 : (xs.take o ++ v :: xs.drop (o + 1)).drop (o + 1 + vs.length) = xs.drop (o + (vs.length + 1)) := by
      rw [List.drop_append, hA, List.drop_eq_nil_of_le (by omega), show o + 1 + vs.length - o = vs.length + 1 by omega, List.drop_succ_cons, List.drop_drop, List.nil_append]
      congr 1; omega
    rw [e1, e2]
    simp
theorem below_setCells {N : Nat} {u : World} : ∀ (vs : List Value) (B o : Nat) (w : World), Below N u w → N ≤ B → Below N u (w.setCells B o vs)
  | [], _, _, _, h, _ => h
  | v :: vs, B, o, w, h, hB => by
    rw [World.setCells]
    exact below_setCells vs B (o + 1) _ (h.setCell hB _) hB
theorem results_one_cell {fn : Func} {p : Tmp} {ty : TypeId} (h : fn.results = #[.cell p ty]) (tmps : Array Value) (P : Program) (w : World) :
    (results fn tmps).run P w = ((asAddr (tmps.getD p undef)).run P w).andThen fun a w₁ => (loadVar ty a).run P w₁ := by
  simp only [results, h]
  simp [Sem.run_bind, Result.andThen]
theorem nxt_is (a b c d : Nat) (ha : a < 4294967296) (hb : b < 4294967296) (hc : c < 4294967296) (hd : d < 4294967296) :
    IntKind.u32.wrap (IntKind.u32.wrap (IntKind.u32.wrap ((a : Int) + (b : Int)) + (c : Int)) + (d : Int)) = (((a + b + c + d) % 4294967296 : Nat) : Int) := by
  simp only [IntKind.wrap_u32']
  omega
/-- The cells of a row of words. -/
theorem row32 {w : World} {B i : Nat} {X : List Nat} {T : TypeId} {f : Nat × Nat} (h : w.heap[B]? = some (.cells (u32s X) T f)) (hi : i < X.length) : w.cell? ⟨B, i, none⟩ = some (.int .u32 ((X.getD i 0 : Nat) : Int)) := blk_cell h (u32s_at X i hi)
theorem row8 {w : World} {B i : Nat} {X : List Nat} {T : TypeId} {f : Nat × Nat} (h : w.heap[B]? = some (.cells (u8s X) T f)) (hi : i < X.length) : w.cell? ⟨B, i, none⟩ = some (.int .u8 ((X.getD i 0 : Nat) : Int)) := blk_cell h (u8s_at X i hi)
theorem info62 : (Tryd.prog.info? 244).map (·.size) = some 64 := by kernel_rfl
theorem u32s_one (X : List Nat) : (u32s X).all (·.oneCell') = true := by
  unfold u32s
  exact all_oneCell_toArray (fun v hv => by simp only [List.mem_map] at hv; obtain ⟨z, _, rfl⟩ := hv; rfl)
theorem rangeAt_all {w : World} {B : Nat} {X : List Nat} {T : TypeId} {f : Nat × Nat} (h : w.heap[B]? = some (.cells (u32s X) T f)) : w.rangeAt B 0 (u32s X).toList := fun j v hv => by
  rw [Nat.zero_add]; exact blk_cell h (by simpa using hv)
theorem there_all {w : World} {B : Nat} {X : List Nat} {T : TypeId} (h : w.heap[B]? = some (.cells (u32s X) T (0, 0))) : w.there B 0 X.length := fun j hj =>
  ⟨by rw [Nat.zero_add, row32 h hj]; rfl, blk_free h⟩

theorem keep4s {W : World} {B i a b c d : Nat} {v v1 v2 v3 v4 : Value} (h1 : a ≠ i) (h2 : b ≠ i) (h3 : c ≠ i) (h4 : d ≠ i)
    (h : W.cell? ⟨B, a, none⟩ = some v1 ∧ W.cell? ⟨B, b, none⟩ = some v2 ∧ W.cell? ⟨B, c, none⟩ = some v3 ∧ W.cell? ⟨B, d, none⟩ = some v4) :
    (W.setCell ⟨B, i, none⟩ v).cell? ⟨B, a, none⟩ = some v1 ∧ (W.setCell ⟨B, i, none⟩ v).cell? ⟨B, b, none⟩ = some v2 ∧ (W.setCell ⟨B, i, none⟩ v).cell? ⟨B, c, none⟩ = some v3 ∧ (W.setCell ⟨B, i, none⟩ v).cell? ⟨B, d, none⟩ = some v4 := by
  exact ⟨(World.cell?_setCell_other W ⟨B, i, none⟩ ⟨B, a, none⟩ _ (fun hh => h1 (congrArg Addr.off hh).symm)).trans h.1, (World.cell?_setCell_other W ⟨B, i, none⟩ ⟨B, b, none⟩ _ (fun hh => h2 (congrArg Addr.off hh).symm)).trans h.2.1,
    (World.cell?_setCell_other W ⟨B, i, none⟩ ⟨B, c, none⟩ _ (fun hh => h3 (congrArg Addr.off hh).symm)).trans h.2.2.1, (World.cell?_setCell_other W ⟨B, i, none⟩ ⟨B, d, none⟩ _ (fun hh => h4 (congrArg Addr.off hh).symm)).trans h.2.2.2⟩
set_option maxHeartbeats 1600000 in
theorem schedule_c (L : List Nat) (w : World) (hl : L.length = 64) (h8 : All8 L) :
    Calls Tryd.prog 141 #[.agg (u8s L)] w fun e w' => e = .returned (.agg (u32s (sched L))) ∧ Below w.heap.size w w' := by
  have HL := hide hl
  clear hl
  go_enter Tryd.func141, Tryd.ntmps141
  go_wp2_with fail
  go_loopw [6, 4] (fun i _ wr => ∃ k : Nat, k ≤ 16 ∧ i = .int .i64 k ∧ wr.heap[w.heap.size]? = some (.cells (u8s L) 190 (0, 0)) ∧ wr.heap[w.heap.size + 1]? = some (.cells (u32s (List.replicate 64 0)) 244 (0, 0)) ∧ wr.heap[w.heap.size + 1 + 1]? = some (.cells (u32s ((W16 L).take k ++ List.replicate (64 - k) 0)) 244 (0, 0)) ∧ Below w.heap.size w wr) (fun i _ _ => 16 - (intOf i).toNat)
  case atStart => exact ⟨0, by omega, rfl, heap_old (heap_2a _ _ _) _, heap_old (heap_2b _ _ _) _, heap_3c _ _ _ _, (((Below.refl _ _).alloc (Nat.le_refl _) _).alloc (by simp) _).alloc (by simp; omega) _⟩
  case round =>
    obtain ⟨k, hk, rfl, h0, h1, h2, hbel⟩ := hrel
    have H0 := hide h0
    have H1 := hide h1
    have H2 := hide h2
    have HB := hide hbel
    clear h0 h1 h2 hbel
    by_cases hlt : k < 16
    · have hlt' : decide ((k : Int) < 16) = true := by simp; omega
      have hsl := fun (u : World) => slice64 u w.heap.size 0 (4 * (k : Int)) (4 * (k : Int) + 4) (4 * k) (4 * k + 4) (by omega) (by omega) (by omega) (by omega) (by omega)
      rw [show 4 * k + 4 - 4 * k = 4 by omega] at hsl
      go_wp2_with fail
      clear hsl
      refine (wordOf_c w.heap.size (4 * k) _ (L.getD (4 * k) 0) (L.getD (4 * k + 1) 0) (L.getD (4 * k + 2) 0) (L.getD (4 * k + 3) 0) _ (all8_getD h8 _) (all8_getD h8 _) (all8_getD h8 _) (all8_getD h8 _) (row8 H0.out (by rw [HL.out]; omega)) (row8 H0.out (by rw [HL.out]; omega)) (row8 H0.out (by rw [HL.out]; omega)) (row8 H0.out (by rw [HL.out]; omega))).mono ?_
      rintro e w1 ⟨rfl, nd, rfl⟩
      have Hlen : Hid (((W16 L).take k).length = k) := by unfold Hid; rw [List.length_take, W16_length]; omega
      have hcx := row32 (i := k) H2.out (by rw [List.length_append, Hlen.out, List.length_replicate]; omega)
      have hfx := blk_free (i := k) H2.out
      have HS := hide (blk_set (w := wr.drewN nd) (i := k) H2.out (.int .u32 (w16 L k : Int)))
      generalize (List.take k (W16 L) ++ List.replicate (64 - k) 0).getD k 0 = old at *
      have hk1 : (k : Int) < 64 := by omega
      have hk0 : (0 : Int) ≤ (k : Int) := by omega
      go_wp2
      go_roundw
      case rel =>
        refine ⟨k + 1, by omega, by go_num, blk_set_other (w := wr.drewN nd) H0.out (by omega) _, blk_set_other (w := wr.drewN nd) H1.out (by omega) _, ?_, (below_drewN HB.out nd).setCell (by simp; omega) _⟩
        have e := HS.out
        rw [u32s_set] at e
        have e2 : (List.take k (W16 L) ++ List.replicate (64 - k) 0).set k (w16 L k) = List.take (k + 1) (W16 L) ++ List.replicate (64 - (k + 1)) 0 := by
          have g := set_grow (List.take k (W16 L)) (64 - (k + 1)) (w16 L k)
          rw [Hlen.out, show 64 - (k + 1) + 1 = 64 - k by omega] at g
          rw [g, W16_take L k hlt]
        rw [e2] at e
        exact e
      case measure => simp [intOf]; omega
    · have hkl : k = 16 := by omega
      subst hkl
      have h2 := H2.out
      rw [List.take_of_length_le (by rw [W16_length]; omega)] at h2
      have H2' := hide h2
      clear h2 H2
      have z2 := heap_lt H2'.out
      go_wp2_with fail
      rw [show ((16 : Nat) : Int) = 16 from rfl]
      obtain ⟨wo, rfl⟩ : ∃ wo : World, wo = wr := ⟨_, rfl⟩
      go_loopw [5] (fun i wr => ∃ k : Nat, k ≤ 48 ∧ i = .int .i64 ((16 + k : Nat) : Int) ∧ wr.heap[w.heap.size + 1]? = some (.cells (u32s (List.replicate 64 0)) 244 (0, 0)) ∧ wr.heap[w.heap.size + 1 + 1]? = some (.cells (u32s (ext k (W16 L) ++ List.replicate (48 - k) 0)) 244 (0, 0)) ∧ Below w.heap.size w wr) (fun i _ => 64 - (intOf i).toNat)
      case atStart => exact ⟨0, by omega, rfl, H1.out, H2'.out, HB.out⟩
      case round =>
        clear H0 H1 H2' HB z2
        obtain ⟨k, hk, rfl, h1, h2, hbel⟩ := hrel
        have H1 := hide h1
        have H2 := hide h2
        have HB := hide hbel
        clear h1 h2 hbel
        have hx32 := ext_all (W16_all h8) k
        have Hlx : Hid ((ext k (W16 L)).length = 16 + k) := by unfold Hid; rw [ext_length, W16_length]
        by_cases hlt : k < 48
        · have hal : (ext k (W16 L) ++ List.replicate (48 - k) 0).length = 64 := by rw [List.length_append, Hlx.out, List.length_replicate]; omega
          have c2 := row32 (i := 14 + k) H2.out (by omega)
          have c7 := row32 (i := 9 + k) H2.out (by omega)
          have c15 := row32 (i := 1 + k) H2.out (by omega)
          have c16 := row32 (i := k) H2.out (by omega)
          have cst := row32 (i := 16 + k) H2.out (by omega)
          have hfx := blk_free (i := 16 + k) H2.out
          rw [getD_left _ _ _ (by rw [Hlx.out]; omega)] at c2 c7 c15 c16
          have b2 := all32_getD hx32 (14 + k)
          have b7 := all32_getD hx32 (9 + k)
          have b15 := all32_getD hx32 (1 + k)
          have b16 := all32_getD hx32 k
          have HN : Hid ((lS1 ((ext k (W16 L)).getD (14 + k) 0) + (ext k (W16 L)).getD (9 + k) 0 + lS0 ((ext k (W16 L)).getD (1 + k) 0) + (ext k (W16 L)).getD k 0) % 4294967296 = nxt (ext k (W16 L))) := by
            unfold Hid nxt
            rw [Hlx.out, show 16 + k - 2 = 14 + k by omega, show 16 + k - 7 = 9 + k by omega, show 16 + k - 15 = 1 + k by omega, show 16 + k - 16 = k by omega]
          have HS := hide (blk_set (w := wr.drew) (i := 16 + k) H2.out (.int .u32 (nxt (ext k (W16 L)) : Int)))
          have Hg := hide (set_grow (ext k (W16 L)) (48 - (k + 1)) (nxt (ext k (W16 L))))
          generalize (ext k (W16 L)).getD (14 + k) 0 = a2 at *
          generalize (ext k (W16 L)).getD (9 + k) 0 = a7 at *
          generalize (ext k (W16 L)).getD (1 + k) 0 = a15 at *
          generalize (ext k (W16 L)).getD k 0 = a16 at *
          generalize (ext k (W16 L) ++ List.replicate (48 - k) 0).getD (16 + k) 0 = old at *
          have Hni := hide (nxt_is (lS1 a2) a7 (lS0 a15) a16 (lS1_lt b2) b7 (lS0_lt b15) b16)
          obtain ⟨j, hj⟩ : ∃ j, j = 16 + k := ⟨_, rfl⟩
          rw [← hj] at cst hfx HS ⊢
          have Hj := hide hj
          have hjb : 16 ≤ j := by omega
          have hjb' : j < 64 := by omega
          rw [show 14 + k = j - 2 by omega] at c2
          rw [show 9 + k = j - 7 by omega] at c7
          rw [show 1 + k = j - 15 by omega] at c15
          rw [show k = j - 16 by omega] at c16
          clear hj hal
          go_wp2_with fail
          have i2 : IntKind.i64.wrap ((j : Int) - 2) = (j : Int) - 2 := IntWalk.i64_in _ (by omega)
          have i7 : IntKind.i64.wrap ((j : Int) - 7) = (j : Int) - 7 := IntWalk.i64_in _ (by omega)
          have i15 : IntKind.i64.wrap ((j : Int) - 15) = (j : Int) - 15 := IntWalk.i64_in _ (by omega)
          have i16 : IntKind.i64.wrap ((j : Int) - 16) = (j : Int) - 16 := IntWalk.i64_in _ (by omega)
          have t2 : ((j : Int) - 2).toNat = j - 2 := by omega
          have t7 : ((j : Int) - 7).toNat = j - 7 := by omega
          have t15 : ((j : Int) - 15).toNat = j - 15 := by omega
          have t16 : ((j : Int) - 16).toNat = j - 16 := by omega
          have n2 : (0 : Int) ≤ (j : Int) - 2 := by omega
          have n7 : (0 : Int) ≤ (j : Int) - 7 := by omega
          have n15 : (0 : Int) ≤ (j : Int) - 15 := by omega
          have n16 : (0 : Int) ≤ (j : Int) - 16 := by omega
          have m2 : (j : Int) - 2 < 64 := by omega
          have m7 : (j : Int) - 7 < 64 := by omega
          have m15 : (j : Int) - 15 < 64 := by omega
          have m16 : (j : Int) - 16 < 64 := by omega
          have p2 : (2 : Int) ≤ (j : Int) := by omega
          have p7 : (7 : Int) ≤ (j : Int) := by omega
          have p15 : (15 : Int) ≤ (j : Int) := by omega
          have p16 : (16 : Int) ≤ (j : Int) := by omega
          have r2 : (2 : Nat) ≤ j := by omega
          have r7 : (7 : Nat) ≤ j := by omega
          have r15 : (15 : Nat) ≤ j := by omega
          have n0 : (0 : Int) ≤ (j : Int) := by omega
          have m0 : (j : Int) < 64 := by omega
          go_region_held3 (fun u => u.cell? ⟨w.heap.size + 1 + 1, j - 2, none⟩ = some (.int .u32 (a2 : Int)) ∧ u.cell? ⟨w.heap.size + 1 + 1, j - 7, none⟩ = some (.int .u32 (a7 : Int)) ∧ u.cell? ⟨w.heap.size + 1 + 1, j - 15, none⟩ = some (.int .u32 (a15 : Int)) ∧ u.cell? ⟨w.heap.size + 1 + 1, j - 16, none⟩ = some (.int .u32 (a16 : Int)))
            (first | exact ⟨c2, c7, c15, c16⟩ | assumption | (exact keep4s (by omega) (by omega) (by omega) (by omega) (by assumption)))
            (first
              | (go_at_call 153; refine (lS1_c a2 _ b2).mono ?_; rintro e u ⟨rfl, rfl⟩)
              | (go_at_call 154; refine (lS0_c a15 _ b15).mono ?_; rintro e u ⟨rfl, rfl⟩))
          rw [Hni.out, HN.out]
          clear i2 i7 i15 i16 t2 t7 t15 t16 c2 c7 c15 c16 cst hfx
          go_wp2
          go_roundw
          case rel =>
            refine ⟨k + 1, by omega, congrArg (Value.int .i64) (by have := Hj.out; omega), blk_set_other (w := wr.drew) H1.out (by omega) _, ?_, (HB.out.drew).setCell (by simp; omega) _⟩
            have e := HS.out
            rw [u32s_set] at e
            have g := Hg.out
            rw [Hlx.out, ← Hj.out, show 48 - (k + 1) + 1 = 48 - k by omega] at g
            rw [g] at e
            exact e
          case measure => simp [intOf]; have := Hj.out; omega
        · have hkl : k = 48 := by omega
          subst hkl
          have h2 := H2.out
          rw [show 48 - 48 = 0 by omega, List.replicate_zero, List.append_nil] at h2
          have hr := hide (rangeAt_all h2)
          have ht := hide (there_all H1.out)
          have Hs := hide (sched_length L)
          have H1' := hide (blk_setCells (u32s (sched L)).toList 0 wr (u32s (List.replicate 64 0)).toList (by simp [u32s_size, sched_length]) (by simpa using H1.out))
          have HB' := hide (below_setCells (u32s (sched L)).toList (w.heap.size + 1) 0 wr HB.out (by omega))
          clear h2 hx32
          go_wp2_with (first
            | (refine wpList_load_mid rfl 244 (.tmp 3) rfl (w.heap.size + 1 + 1) 0 rfl _ _ hr.out Tryd.underlying244 rfl (by rw [info62]; simp [u32s_size, ext_length, W16_length]) ?_)
            | (refine wpList_store_mid rfl 244 (.tmp 2) (.tmp 46) rfl (w.heap.size + 1) 0 _ rfl rfl ?_ ?_ ?_ ?_))
          · have := ht.out
            simpa [u32s_size, ext_length, W16_length] using this
          · rw [info62]; simp [u32s_size, ext_length, W16_length]
          · simpa using u32s_one (ext 48 (W16 L))
          · have e : (u32s (ext 48 (W16 L))).toList.toArray.toList = (u32s (sched L)).toList := by simp [sched]
            rw [e]
            refine bodyPost_ret (v := .agg (u32s (sched L))) ?_ rfl ⟨rfl, HB'.out⟩
            rw [results_one_cell Tryd.results141]
            have h3 := H1'.out
            rw [show (u32s (List.replicate 64 0)).toList.take 0 ++ (u32s (sched L)).toList ++ (u32s (List.replicate 64 0)).toList.drop (0 + (u32s (sched L)).toList.length) = (u32s (sched L)).toList by simp [u32s_size, sched_length]] at h3
            have h4 := run_loadVar_mid (P := Tryd.prog) (wr.setCells (w.heap.size + 1) 0 (u32s (sched L)).toList) (w.heap.size + 1) 0 244 (u32s (sched L)).toList _ (rangeAt_all (by simpa using h3)) Tryd.underlying244 rfl (by rw [info62]; simp [u32s_size, sched_length])
            simpa [asAddr, Act.put] using h4
end Go.Proofs.YtifepgigkmhdaaaDoor.Sc
/- The hasher in the heap, and small facts on it. -/
namespace Go.Proofs.YtifepgigkmhdaaaDoor.Sxa
set_option linter.unusedVariables false
set_option linter.unusedSimpArgs false
set_option maxRecDepth 100000
open Go.ChangeShapes Go.WideShapes Go.ChangeAt Go.RowKit
open Go.Proofs.YtifepgigkmhdaaaDoor.Wu Go.Proofs.YtifepgigkmhdaaaDoor.Sm Go.Proofs.YtifepgigkmhdaaaDoor.Sk Go.Proofs.YtifepgigkmhdaaaDoor.Sc

/-- The cells of a hasher: its state, its block, how much of it is used, how many bytes came. -/
def hcells (s : S8) (B : List Nat) (u l : Int) : List Value := (s.list.map fun x : Nat => Value.int .u32 (x : Int)) ++ (B.map fun x : Nat => Value.int .u8 (x : Int)) ++ [.int .i64 u, .int .u64 l]
/-- The same, the state told by a list. -/
def HshL (w : World) (g : Nat) (X B : List Nat) (u l : Int) : Prop := w.heap[g]? = some (.cells ((X.map fun x : Nat => Value.int .u32 (x : Int)) ++ (B.map fun x : Nat => Value.int .u8 (x : Int)) ++ [Value.int .i64 u, Value.int .u64 l]).toArray 196 (0, 0))
theorem hshl_state {w : World} {g : Nat} {X B : List Nat} {u l : Int} (h : HshL w g X B u l) (i : Nat) (hi : i < X.length) : w.cell? ⟨g, i, none⟩ = some (.int .u32 ((X.getD i 0 : Nat) : Int)) := by
  refine blk_cell h ?_
  simp [List.getElem?_append_left, hi, List.getD]
theorem hshl_set {w : World} {g : Nat} {X B : List Nat} {u l : Int} (h : HshL w g X B u l) (i x : Nat) (hi : i < X.length) : HshL (w.setCell ⟨g, i, none⟩ (.int .u32 (x : Int))) g (X.set i x) B u l := by
  have e := blk_set (i := i) h (.int .u32 (x : Int))
  rw [List.setIfInBounds_toArray, List.append_assoc, List.set_append_left _ _ (by simpa using hi)] at e
  unfold HshL
  rw [e, List.map_set, List.append_assoc]
/-- Noughts. -/
def zeros (n : Nat) : List Nat := List.replicate n 0
theorem zeros_length (n : Nat) : (zeros n).length = n := List.length_replicate ..
/-- A hasher lies in block g. -/
def Hsh (w : World) (g : Nat) (s : S8) (B : List Nat) (u l : Int) : Prop := w.heap[g]? = some (.cells (hcells s B u l).toArray 196 (0, 0))
/-- The table of words for the rounds. -/
def Tbl (w : World) : Prop := ∃ T f, w.heap[2]? = some (.cells (u32s Ks) T f)
theorem tbl_lt {w : World} (h : Tbl w) : 2 < w.heap.size := by obtain ⟨T, f, h⟩ := h; exact heap_lt h
theorem tbl_keep {N : Nat} {w w' : World} (h : Tbl w) (hb : Below N w w') (hN : w.heap.size ≤ N) : Tbl w' := by
  obtain ⟨T, f, h⟩ := h
  exact ⟨T, f, below_blk hb (Nat.lt_of_lt_of_le (heap_lt h) hN) h⟩
theorem tbl_at {w : World} (h : Tbl w) (k : Nat) (hk : k < 64) : w.cell? ⟨2, k, none⟩ = some (.int .u32 ((Ks.getD k 0 : Nat) : Int)) := by
  obtain ⟨T, f, h⟩ := h
  exact row32 h (by rw [Ks_length]; exact hk)

theorem hsh_state {w : World} {g : Nat} {s : S8} {B : List Nat} {u l : Int} (h : Hsh w g s B u l) (i : Nat) (hi : i < 8) : w.cell? ⟨g, i, none⟩ = some (.int .u32 ((s.list.getD i 0 : Nat) : Int)) := by
  refine blk_cell h ?_
  have : i < s.list.length := hi
  simp [hcells, List.getElem?_append_left, this, List.getD]
theorem hsh_range {w : World} {g : Nat} {s : S8} {B : List Nat} {u l : Int} (h : Hsh w g s B u l) : w.rangeAt g 8 (u8s B).toList := by
  intro j v hv
  refine blk_cell h ?_
  have hj : j < B.length := by have := (List.getElem?_eq_some_iff.1 hv).1; simpa [u8s_size] using this
  have e : (hcells s B u l)[8 + j]? = some v := by
    unfold hcells
    rw [List.append_assoc, List.getElem?_append_right (by simp [S8.list]), List.getElem?_append_left (by simp [S8.list]; omega)]
    simpa [S8.list, u8s] using hv
  simpa using e
theorem hsh_l {w : World} {g : Nat} {s : S8} {B : List Nat} {u l : Int} (v : S8) (h : Hsh w g s B u l) : HshL w g ((s.add v).list.take 0 ++ s.list.drop 0) B u l := by
  rw [List.take_zero, List.nil_append, List.drop_zero]
  exact h
theorem l_hsh {w : World} {g : Nat} {s : S8} {B : List Nat} {u l : Int} (v : S8) (h : HshL w g ((s.add v).list.take 8 ++ s.list.drop 8) B u l) : Hsh w g (s.add v) B u l := h
theorem info45 : (Tryd.prog.info? 190).map (·.size) = some 64 := by kernel_rfl
theorem set_list {s : S8} {B : List Nat} {u l : Int} {i x : Nat} (hi : i < 8) : (hcells s B u l).set i (.int .u32 (x : Int)) = ((s.list.set i x).map fun x : Nat => Value.int .u32 (x : Int)) ++ (B.map fun x : Nat => Value.int .u8 (x : Int)) ++ [.int .i64 u, .int .u64 l] := by
  unfold hcells
  rw [List.append_assoc, List.set_append_left _ _ (by simp [S8.list]; omega), List.map_set, List.append_assoc]

theorem one_is (v : S8) (k w : Nat) (hv : v.ok) (hk : k < 4294967296) (hw : w < 4294967296) :
    IntKind.u32.wrap (IntKind.u32.wrap (IntKind.u32.wrap (IntKind.u32.wrap ((v.h : Int) + (bS1 v.e : Int)) + (chs v.e v.f v.g : Int)) + (k : Int)) + (w : Int)) = (one v k w : Int) := by
  simp only [IntKind.wrap_u32', one]
  omega
theorem two_is (v : S8) : IntKind.u32.wrap ((bS0 v.a : Int) + (maj v.a v.b v.c : Int)) = (two v : Int) := by
  simp only [IntKind.wrap_u32', two]
  omega
theorem add_is (x y : Nat) : IntKind.u32.wrap ((x : Int) + (y : Int)) = (((x + y) % 4294967296 : Nat) : Int) := by
  simp only [IntKind.wrap_u32']
  omega
theorem alen62 : Tryd.prog.underlying 244 = some (.array 64 68) := Tryd.underlying244
theorem size_u32 (u : World) : Sem.run Tryd.prog (Go.sizeOf 68) u = .ok 1 u := by kernel_rfl
theorem index_row (X : List Nat) (k : Nat) (hX : X.length = 64) (hk : k < 64) (u : World) : Sem.run Tryd.prog (Instr.index 244 (.agg (u32s X)) (.int .i64 (k : Int))) u = .ok (.int .u32 ((X.getD k 0 : Nat) : Int)) u := by
  simp only [Instr.index, Sem.run_bind, asIntOf, Sem.run_pure, Result.andThen_ok, run_underlying alen62]
  rw [if_pos (by omega)]
  simp only [Sem.run_bind, size_u32, Result.andThen_ok, Int.toNat_natCast, Nat.mul_one]
  have e : (u32s X)[k]? = some (.int .u32 ((X.getD k 0 : Nat) : Int)) := u32s_at X k (by omega)
  simp [part, e, size_u32, go_sem]
set_option maxRecDepth 100000 in
theorem index8 (v : S8) (k : Nat) (hk : k < 8) (u : World) : Sem.run Tryd.prog (Instr.index 193 (.agg #[.int .u32 (v.a : Int), .int .u32 (v.b : Int), .int .u32 (v.c : Int), .int .u32 (v.d : Int), .int .u32 (v.e : Int), .int .u32 (v.f : Int), .int .u32 (v.g : Int), .int .u32 (v.h : Int)]) (.int .i64 (k : Int))) u = .ok (.int .u32 ((v.list.getD k 0 : Nat) : Int)) u := by
  match k, hk with
  | 0, _ => rfl
  | 1, _ => rfl
  | 2, _ => rfl
  | 3, _ => rfl
  | 4, _ => rfl
  | 5, _ => rfl
  | 6, _ => rfl
  | 7, _ => rfl
theorem part_step (s v : S8) (k : Nat) (hk : k < 8) : ((s.add v).list.take k ++ s.list.drop k).set k ((s.list.getD k 0 + v.list.getD k 0) % 4294967296) = (s.add v).list.take (k + 1) ++ s.list.drop (k + 1) := by
  match k, hk with
  | 0, _ => rfl
  | 1, _ => rfl
  | 2, _ => rfl
  | 3, _ => rfl
  | 4, _ => rfl
  | 5, _ => rfl
  | 6, _ => rfl
  | 7, _ => rfl
theorem part_at (s v : S8) (k : Nat) (hk : k < 8) : ((s.add v).list.take k ++ s.list.drop k).getD k 0 = s.list.getD k 0 := by
  match k, hk with
  | 0, _ => rfl
  | 1, _ => rfl
  | 2, _ => rfl
  | 3, _ => rfl
  | 4, _ => rfl
  | 5, _ => rfl
  | 6, _ => rfl
  | 7, _ => rfl
theorem part_len (s v : S8) (k : Nat) (hk : k ≤ 8) : ((s.add v).list.take k ++ s.list.drop k).length = 8 := by
  simp [S8.list]; omega
theorem zlit32 : (#[Value.int IntKind.u32 0, Value.int IntKind.u32 0, Value.int IntKind.u32 0, Value.int IntKind.u32 0, Value.int IntKind.u32 0, Value.int IntKind.u32 0, Value.int IntKind.u32 0, Value.int IntKind.u32 0, Value.int IntKind.u32 0, Value.int IntKind.u32 0, Value.int IntKind.u32 0, Value.int IntKind.u32 0, Value.int IntKind.u32 0, Value.int IntKind.u32 0, Value.int IntKind.u32 0, Value.int IntKind.u32 0, Value.int IntKind.u32 0, Value.int IntKind.u32 0, Value.int IntKind.u32 0, Value.int IntKind.u32 0, Value.int IntKind.u32 0, Value.int IntKind.u32 0, Value.int IntKind.u32 0, Value.int IntKind.u32 0, Value.int IntKind.u32 0, Value.int IntKind.u32 0, Value.int IntKind.u32 0, Value.int IntKind.u32 0, Value.int IntKind.u32 0, Value.int IntKind.u32 0, Value.int IntKind.u32 0, Value.int IntKind.u32 0, Value.int IntKind.u32 0, Value.int IntKind.u32 0, Value.int IntKind.u32 0, Value.int IntKind.u32 0, Value.int IntKind.u32 0, Value.int IntKind.u32 0, Value.int IntKind.u32 0, Value.int IntKind.u32 0, Value.int IntKind.u32 0, Value.int IntKind.u32 0, Value.int IntKind.u32 0, Value.int IntKind.u32 0, Value.int IntKind.u32 0, Value.int IntKind.u32 0, Value.int IntKind.u32 0, Value.int IntKind.u32 0, Value.int IntKind.u32 0, Value.int IntKind.u32 0, Value.int IntKind.u32 0, Value.int IntKind.u32 0, Value.int IntKind.u32 0, Value.int IntKind.u32 0, Value.int IntKind.u32 0, Value.int IntKind.u32 0, Value.int IntKind.u32 0, Value.int IntKind.u32 0, Value.int IntKind.u32 0, Value.int IntKind.u32 0, Value.int IntKind.u32 0, Value.int IntKind.u32 0, Value.int IntKind.u32 0, Value.int IntKind.u32 0] : Array Value) = u32s (zeros 64) := by rfl
theorem drew_facts {w w3 : World} {g gs : Nat} {s : S8} {B W : List Nat} {u l : Int} {T : TypeId} (n : Nat) (h1 : Hsh w3 g s B u l) (h2 : Tbl w3) (h3 : w.grownBy w3 (some g)) (h4 : w3.heap[gs]? = some (.cells (u32s W) T (0, 0))) :
    Hsh (w3.drewN n) g s B u l ∧ Tbl (w3.drewN n) ∧ w.grownBy (w3.drewN n) (some g) ∧ (w3.drewN n).heap[gs]? = some (.cells (u32s W) T (0, 0)) := ⟨h1, h2, ⟨h3.os, h3.tape, h3.output, h3.size, h3.block⟩, h4⟩
theorem built8 (a b c d e f g h : Int) : Tryd.prog.built 193 [(0, Value.int .u32 a), (1, Value.int .u32 b), (2, Value.int .u32 c), (3, Value.int .u32 d), (4, Value.int .u32 e), (5, Value.int .u32 f), (6, Value.int .u32 g), (7, Value.int .u32 h)] = some #[.int .u32 a, .int .u32 b, .int .u32 c, .int .u32 d, .int .u32 e, .int .u32 f, .int .u32 g, .int .u32 h] := by kernel_rfl
theorem wpList_build_to {P : Program} {ops : Array Oper} {rest : List Oper} {o : Oper} {a : Act} {w : World} {Q : Exit → Act → World → Prop} (hg : o.guard = none) (t : TypeId) (parts : Array (Nat × Operand)) (ho : o.op = .build t parts)
    (d : Option Tmp) (hd : o.dst = d) (cells : Array Value) (hf : P.built t (parts.toList.map fun (i, x) => (i, a.eval x)) = some cells)
    (h : wpList P ops Q rest (a.put d (.agg cells)) w) : wpList P ops Q (o :: rest) a w := by
  subst hd
  have hf' : P.built t (parts.map fun (i, x) => (i, a.eval x)).toList = some cells := by rw [Array.toList_map]; exact hf
  refine wpList_build hg t parts ho (by rw [hf']; rfl) ?_
  rw [hf']
  exact h
theorem wpList_build_stop {P : Program} {ops : Array Oper} {rest : List Oper} {o : Oper} {a : Act} {w : World} {Q : Exit → Act → World → Prop} (hg : o.guard = none) (t : TypeId) (parts : Array (Nat × Operand)) (ho : o.op = .build t parts)
    (h : Hid (wpList P ops Q (o :: rest) a w)) : wpList P ops Q (o :: rest) a w := h
theorem of_hid {p : Prop} (h : p) : Hid p := h
end Go.Proofs.YtifepgigkmhdaaaDoor.Sxa
/- mix: a block worked into the state. -/
namespace Go.Proofs.YtifepgigkmhdaaaDoor.Sx
set_option linter.unusedVariables false
set_option linter.unusedSimpArgs false
set_option maxRecDepth 100000
open Go.ChangeShapes Go.WideShapes Go.ChangeAt Go.RowKit
open Go.Proofs.YtifepgigkmhdaaaDoor.Wu Go.Proofs.YtifepgigkmhdaaaDoor.Sm Go.Proofs.YtifepgigkmhdaaaDoor.Sk Go.Proofs.YtifepgigkmhdaaaDoor.Sc Go.Proofs.YtifepgigkmhdaaaDoor.Sxa
set_option maxHeartbeats 3200000 in
set_option maxRecDepth 100000 in
theorem mix_c (g : Nat) (s : S8) (B : List Nat) (u l : Int) (w : World) (hs : s.ok) (hB : B.length = 64) (h8 : All8 B) (h : Hsh w g s B u l) (ht : Tbl w) :
    Calls Tryd.prog 128 #[.pointer (some ⟨g, 0, none⟩)] w fun e w' => e = .returned (.tuple #[]) ∧ Hsh w' g (compress s B) B u l ∧ w.grownBy w' (some g) := by
  have H := hide h
  have HT := hide ht
  have HB := hide hB
  have hr := hide (hsh_range h)
  have hg := heap_lt h
  clear h ht hB
  go_enter Tryd.func128, Tryd.ntmps128
  go_wp2_with (refine wpList_load_mid rfl 190 (.tmp 19) rfl g 8 rfl _ _ hr.out Tryd.underlying190 rfl (by rw [info45]; simp [u8s_size, HB.out]) ?_)
  rw [Array.toArray_toList]
  refine (schedule_c B _ HB.out h8).mono ?_
  rintro e w1 ⟨rfl, hb1⟩
  have HWl := hide (sched_length B)
  have hW32 := sched_all h8
  generalize hWW : sched B = W at *
  have HWW := hide hWW
  clear hWW
  have H1 := hide (below_blk hb1 hg H.out)
  have HT1 := hide (tbl_keep HT.out hb1 (Nat.le_refl _))
  have hg1 := hb1.size
  have Hgr1 : Hid (w.grownBy w1 (some g)) := ⟨hb1.os, hb1.tape, hb1.output, hb1.size, fun k hk _ => hb1.block k hk⟩
  have Hz := hide (heap_last w1 (.cells (u32s (zeros 64)) 244))
  have ht := hide (there_all Hz.out)
  clear hb1
  go_wp2_with (refine wpList_store_mid rfl 244 (.tmp 2) (.tmp 21) rfl w1.heap.size 0 _ rfl rfl ?_ ?_ ?_ ?_)
  · have := ht.out
    rw [zeros_length] at this
    rw [u32s_size, HWl.out, zlit32]
    exact this
  · rw [info62]; simp [u32s_size, HWl.out]
  · exact u32s_one W
  have h3 := blk_setCells (u32s W).toList 0 (w1.alloc (.cells (u32s (zeros 64)) 244)) (u32s (zeros 64)).toList (by simp [u32s_size, HWl.out, zeros_length]) (by rw [Array.toArray_toList]; exact Hz.out)
  rw [show (u32s (zeros 64)).toList.take 0 ++ (u32s W).toList ++ (u32s (zeros 64)).toList.drop (0 + (u32s W).toList.length) = (u32s W).toList by simp [u32s_size, HWl.out, zeros_length], Array.toArray_toList] at h3
  have hb3 : Below w1.heap.size w1 ((w1.alloc (.cells (u32s (zeros 64)) 244)).setCells w1.heap.size 0 (u32s W).toList) := below_setCells _ _ _ _ (below_new _ _) (Nat.le_refl _)
  have hgS : g < w1.heap.size := by omega
  have H3 := hide (below_blk hb3 hgS H1.out)
  have HT3 := hide (tbl_keep HT1.out hb3 (Nat.le_refl _))
  have HS3 := hide h3
  have Hgr3 : Hid (w.grownBy ((w1.alloc (.cells (u32s (zeros 64)) 244)).setCells w1.heap.size 0 (u32s W).toList) (some g)) :=
    ⟨hb3.os.trans Hgr1.out.os, hb3.tape.trans Hgr1.out.tape, hb3.output.trans Hgr1.out.output, Nat.le_trans Hgr1.out.size hb3.size, fun k hk hne => (hb3.block k (by omega)).trans (Hgr1.out.block k hk hne)⟩
  clear h3 hb3 H1 HT1 Hgr1 Hz ht H HT hr
  rw [zlit32]
  simp only [Act.put, List.setIfInBounds_toArray, List.set_cons_zero, List.set_cons_succ]
  generalize ((w1.alloc (.cells (u32s (zeros 64)) 244)).setCells w1.heap.size 0 (u32s W).toList) = w3 at *
  generalize w1.heap.size = gs at *
  as_aux_lemma =>
    have c0 := hsh_state H3.out 0 (by omega)
    have c1 := hsh_state H3.out 1 (by omega)
    have c2 := hsh_state H3.out 2 (by omega)
    have c3 := hsh_state H3.out 3 (by omega)
    have c4 := hsh_state H3.out 4 (by omega)
    have c5 := hsh_state H3.out 5 (by omega)
    have c6 := hsh_state H3.out 6 (by omega)
    have c7 := hsh_state H3.out 7 (by omega)
    simp only [S8.list, List.getD_cons_zero, List.getD_cons_succ] at c0 c1 c2 c3 c4 c5 c6 c7
    go_wp2_with fail
    go_quiet (fail)
    have H4 := hide (drew_facts nq H3.out HT3.out Hgr3.out HS3.out)
    clear c0 c1 c2 c3 c4 c5 c6 c7 H3 HT3 Hgr3 HS3
    generalize w3.drewN nq = w4 at *
    have H3 := hide H4.out.1
    have HT3 := hide H4.out.2.1
    have Hgr3 := hide H4.out.2.2.1
    have HS3 := hide H4.out.2.2.2
    clear H4
    have c0 := hsh_state H3.out 0 (by omega)
    have c1 := hsh_state H3.out 1 (by omega)
    have c2 := hsh_state H3.out 2 (by omega)
    have c3 := hsh_state H3.out 3 (by omega)
    have c4 := hsh_state H3.out 4 (by omega)
    have c5 := hsh_state H3.out 5 (by omega)
    have c6 := hsh_state H3.out 6 (by omega)
    have c7 := hsh_state H3.out 7 (by omega)
    simp only [S8.list, List.getD_cons_zero, List.getD_cons_succ] at c0 c1 c2 c3 c4 c5 c6 c7
    go_wp2_with fail
    go_quiet (fail)
    have H5 := hide (drew_facts nq H3.out HT3.out Hgr3.out HS3.out)
    clear c0 c1 c2 c3 c4 c5 c6 c7 H3 HT3 Hgr3 HS3
    generalize w4.drewN nq = w5 at *
    have Hr3 := hide (rangeAt_all H5.out.2.2.2)
    go_wp2_with (refine wpList_load_mid rfl 244 (.tmp 2) rfl gs 0 rfl _ _ Hr3.out Tryd.underlying244 rfl (by rw [info62]; simp [u32s_size, HWl.out]) ?_)
    rw [Array.toArray_toList]
    clear Hr3
    go_loopw [63, 3, 4, 5, 6, 7, 8, 9, 10, 11, 12, 13, 14] (fun i ra rb rc rd re rf rg rh _ _ _ _ wr => ∃ k : Nat, k ≤ 64 ∧ i = .int .i64 k ∧ ra = .int .u32 (((rounds W s k).a : Nat) : Int) ∧ rb = .int .u32 (((rounds W s k).b : Nat) : Int) ∧ rc = .int .u32 (((rounds W s k).c : Nat) : Int) ∧ rd = .int .u32 (((rounds W s k).d : Nat) : Int) ∧ re = .int .u32 (((rounds W s k).e : Nat) : Int) ∧ rf = .int .u32 (((rounds W s k).f : Nat) : Int) ∧ rg = .int .u32 (((rounds W s k).g : Nat) : Int) ∧ rh = .int .u32 (((rounds W s k).h : Nat) : Int) ∧ Hsh wr g s B u l ∧ Tbl wr ∧ w.grownBy wr (some g)) (fun i _ _ _ _ _ _ _ _ _ _ _ _ _ => 64 - (intOf i).toNat)
    case atStart => exact ⟨0, by omega, rfl, rfl, rfl, rfl, rfl, rfl, rfl, rfl, rfl, H5.out.1, H5.out.2.1, H5.out.2.2.1⟩
    case round =>
      clear H5
      obtain ⟨k, hk, rfl, rfl, rfl, rfl, rfl, rfl, rfl, rfl, rfl, h1, h2, h3⟩ := hrel
      have H1 := hide h1
      have H2 := hide h2
      have H3 := hide h3
      clear h1 h2 h3
      have hv := rounds_ok hs W k
      obtain ⟨b1, b2, b3, b4, b5, b6, b7, b8⟩ := S8.bd hv
      by_cases hlt : k < 64
      · have hix := index_row W k HWl.out hlt
        have hct := tbl_at H2.out k hlt
        have hK := all32_getD Ks_all k
        have hWk := all32_getD hW32 k
        have Hst : Hid ((rounds W s k).step (Ks.getD k 0) (W.getD k 0) = rounds W s (k + 1)) := rfl
        generalize Ks.getD k 0 = kk at *
        generalize W.getD k 0 = wk at *
        generalize rounds W s k = v at *
        have Ho := hide (one_is v kk wk hv hK hWk)
        have Ht := hide (two_is v)
        have hk0 : (0 : Int) ≤ (k : Int) := by omega
        have hk1 : (k : Int) < 64 := by omega
        have hd : decide ((k : Int) < 64) = true := by simp; omega
        go_wp2_with fail
        have HG := hide H3.out
        go_region_held3 (fun u => u.cell? ⟨2, k, none⟩ = some (.int .u32 (kk : Int)))
          (first | exact hct | assumption)
          (first
            | (go_at_call 142; refine (bS1_c v.e _ b5).mono ?_; rintro e u ⟨rfl, rfl⟩)
            | (go_at_call 143; refine (chs_c v.e v.f v.g _ b5 b6 b7).mono ?_; rintro e u ⟨rfl, rfl⟩))
        rw [Ho.out]
        go_wp2_with fail
        refine (bS0_c v.a _ b1).mono ?_
        rintro e u ⟨rfl, rfl⟩
        go_wp2_with fail
        refine (maj_c v.a v.b v.c _ b1 b2 b3).mono ?_
        rintro e u ⟨rfl, rfl⟩
        have ht2 := two_is v
        have ha1 := add_is (one v kk wk) (two v)
        have ha2 := add_is v.d (one v kk wk)
        clear hix hct Ho Ht
        go_wp2
        go_roundw
        case rel =>
          refine ⟨k + 1, by omega, by go_num, ?_⟩
          rw [← Hst.out]
          refine ⟨congrArg (Value.int .u32) ?_, rfl, rfl, rfl, congrArg (Value.int .u32) ?_, rfl, rfl, rfl, H1.out, H2.out, ⟨H3.out.os, H3.out.tape, H3.out.output, H3.out.size, H3.out.block⟩⟩
          · show _ = (((one v kk wk + two v) % 4294967296 : Nat) : Int)
            omega
          · show _ = (((v.d + one v kk wk) % 4294967296 : Nat) : Int)
            omega
        case measure => simp [intOf]; omega
      · have hkl : k = 64 := by omega
        have Hc : Hid (compress s B = s.add (rounds W s k)) := by unfold Hid compress; rw [HWW.out, hkl]
        have hd : decide ((k : Int) < 64) = false := by simp; omega
        have H1' := hide (hsh_l (rounds W s k) H1.out)
        clear HWW H1 hkl
        generalize rounds W s k = v at *
        go_wp2_with (refine wpList_build_to rfl 193 _ rfl (some 110) rfl #[.int .u32 (v.a : Int), .int .u32 (v.b : Int), .int .u32 (v.c : Int), .int .u32 (v.d : Int), .int .u32 (v.e : Int), .int .u32 (v.f : Int), .int .u32 (v.g : Int), .int .u32 (v.h : Int)] (by as_aux_lemma => kernel_rfl) ?_)
        obtain ⟨wo, rfl⟩ : ∃ wo : World, wo = wr := ⟨_, rfl⟩
        go_loopw [111, 15, 16] (fun i _ _ wr => ∃ j : Nat, j ≤ 8 ∧ i = .int .i64 j ∧ HshL wr g ((s.add v).list.take j ++ s.list.drop j) B u l ∧ w.grownBy wr (some g)) (fun i _ _ _ => 8 - (intOf i).toNat)
        case atStart => exact ⟨0, by omega, rfl, H1'.out, H3.out⟩
        case round =>
          clear H1' H3 H2
          obtain ⟨j, hj, rfl, h1, h3⟩ := hrel
          have H1 := hide h1
          have H3 := hide h3
          clear h1 h3
          by_cases hlj : j < 8
          · have hix := index8 v j hlj
            have hcs := hshl_state H1.out j (by rw [part_len s v j hj]; exact hlj)
            have hfs := blk_free (i := j) H1.out
            have Hps := hide (part_step s v j hlj)
            have HS := hide (hshl_set (w := wr.drew) H1.out j ((s.list.getD j 0 + v.list.getD j 0) % 4294967296) (by rw [part_len s v j hj]; exact hlj))
            rw [part_at s v j hlj] at hcs
            generalize s.list.getD j 0 = x at *
            generalize v.list.getD j 0 = y at *
            have hj0 : (0 : Int) ≤ (j : Int) := by omega
            have hj1 : (j : Int) < 8 := by omega
            have hdj : decide ((j : Int) < 8) = true := by simp; omega
            have hxy := add_is x y
            go_wp2_with fail
            go_region
            clear hix hcs hfs
            go_wp2
            go_roundw
            case rel =>
              refine ⟨j + 1, by omega, by go_num, ?_, ?_⟩
              · rw [← Hps.out]
                have e : (((x + y) % 4294967296 : Nat) : Int) = ((x : Int) + (y : Int)) % 4294967296 := by omega
                have h := HS.out
                rw [e] at h
                exact h
              · have b := H3.out
                refine ⟨b.os, b.tape, b.output, ?_, ?_⟩
                · have := b.size
                  simpa using this
                · intro k hk hne
                  have e : (wr.setCell ⟨g, j, none⟩ (Value.int IntKind.u32 (((x : Int) + (y : Int)) % 4294967296))).heap[k]? = wr.heap[k]? := Below.heap_setCell _ _ _ _ (fun h => hne (congrArg some h))
                  exact e.trans (b.block k hk hne)
            case measure => simp [intOf]; omega
          · have hjl : j = 8 := by omega
            subst hjl
            rw [show ((8 : Nat) : Int) = 8 from rfl]
            have H5 := hide (l_hsh v H1.out)
            rw [← Hc.out] at H5
            clear H1
            go_wp2
            exact bodyPost_end (v := .tuple #[]) (by simp [results, Tryd.results128]) rfl ⟨rfl, H5.out, H3.out⟩
end Go.Proofs.YtifepgigkmhdaaaDoor.Sx
/- The standard's way through a message, block by block; its end. Plain numbers, nothing of the program. -/
namespace Go.Proofs.YtifepgigkmhdaaaDoor.Sh
set_option linter.unusedVariables false
set_option linter.unusedSimpArgs false
set_option maxRecDepth 100000
open Go.Proofs.YtifepgigkmhdaaaDoor.Sm

/-- The k-th block of a message. -/
def blk (M : List Nat) (k : Nat) : List Nat := (M.drop (64 * k)).take 64
/-- The state behind so many blocks. -/
def fold (s : S8) (M : List Nat) : Nat → S8
  | 0 => s
  | k + 1 => compress (fold s M k) (blk M k)
/-- The state behind a message's whole blocks, and what is left of it. -/
def st (M : List Nat) : S8 := fold H0 M (M.length / 64)
def rest (M : List Nat) : List Nat := M.drop (64 * (M.length / 64))
theorem fold_ok {s : S8} (h : s.ok) (M : List Nat) : ∀ k, (fold s M k).ok
  | 0 => h
  | k + 1 => compress_ok _ _
theorem st_ok (M : List Nat) : (st M).ok := fold_ok H0_ok M _
theorem rest_length (M : List Nat) : (rest M).length = M.length % 64 := by simp [rest]; omega
theorem blk_append (M x : List Nat) (k : Nat) (h : 64 * (k + 1) ≤ M.length) : blk (M ++ x) k = blk M k := by
  unfold blk
  rw [List.drop_append_of_le_length (by omega), List.take_append_of_le_length (by simp; omega)]
theorem fold_append (s : S8) (M x : List Nat) : ∀ k, 64 * k ≤ M.length → fold s (M ++ x) k = fold s M k
  | 0, _ => rfl
  | k + 1, h => by simp only [fold]; rw [fold_append s M x k (by omega), blk_append M x k h]
/-- Bytes that don't fill the block. -/
theorem st_part (M x : List Nat) (h : M.length % 64 + x.length < 64) : st (M ++ x) = st M ∧ rest (M ++ x) = rest M ++ x ∧ (M ++ x).length % 64 = M.length % 64 + x.length := by
  have e : (M ++ x).length / 64 = M.length / 64 := by simp; omega
  refine ⟨?_, ?_, by simp; omega⟩
  · unfold st; rw [e, fold_append H0 M x _ (by omega)]
  · unfold rest; rw [e, List.drop_append_of_le_length (by omega)]
/-- Bytes that fill it. -/
theorem st_full (M x : List Nat) (h : M.length % 64 + x.length = 64) : st (M ++ x) = compress (st M) (rest M ++ x) ∧ rest (M ++ x) = [] ∧ (M ++ x).length % 64 = 0 := by
  have e : (M ++ x).length / 64 = M.length / 64 + 1 := by simp; omega
  have e2 : blk (M ++ x) (M.length / 64) = rest M ++ x := by
    unfold blk rest
    rw [List.drop_append_of_le_length (by omega), List.take_of_length_le (by simp; omega)]
  refine ⟨?_, ?_, by simp; omega⟩
  · unfold st; rw [e]; simp only [fold]; rw [fold_append H0 M x _ (by omega), e2]
  · have : (rest (M ++ x)).length = 0 := by rw [rest_length]; simp; omega
    exact List.eq_nil_of_length_eq_zero this
theorem st_nil : st [] = H0 := rfl
theorem rest_nil : rest [] = [] := rfl

/-- A number of 64 bits as eight bytes, the highest first. -/
def len8 (n : Nat) : List Nat := [n / 72057594037927936 % 256, n / 281474976710656 % 256, n / 1099511627776 % 256, n / 4294967296 % 256, n / 16777216 % 256, n / 65536 % 256, n / 256 % 256, n % 256]
theorem len8_length (n : Nat) : (len8 n).length = 8 := rfl
/-- How many noughts stand between the mark and the length. -/
def gap (n : Nat) : Nat := (119 - n % 64) % 64
theorem gap_at (n : Nat) : (n + 1 + gap n + 8) % 64 = 0 := by unfold gap; omega
theorem gap_lt (n : Nat) : gap n < 64 := by unfold gap; omega
/-- What stands behind a message of so many bytes. -/
def tail (n : Nat) : List Nat := 128 :: (List.replicate (gap n) 0 ++ len8 (8 * n % 18446744073709551616))
theorem tail_length (n : Nat) : (tail n).length = gap n + 9 := by simp [tail, len8_length]
/-- The message with its end. -/
def padded (M : List Nat) : List Nat := M ++ tail M.length
theorem padded_mod (M : List Nat) : (padded M).length % 64 = 0 := by
  have := gap_at M.length
  simp [padded, tail_length]; omega
theorem all8_append {X Y : List Nat} (h : All8 X) (h' : All8 Y) : All8 (X ++ Y) := fun x hx => (List.mem_append.1 hx).elim (h x) (h' x)
theorem all8_take {X : List Nat} (h : All8 X) (k : Nat) : All8 (X.take k) := fun x hx => h x (List.mem_of_mem_take hx)
theorem all8_drop {X : List Nat} (h : All8 X) (k : Nat) : All8 (X.drop k) := fun x hx => h x (List.mem_of_mem_drop hx)
theorem all8_nil : All8 [] := fun x hx => by cases hx
theorem all8_zeros (n : Nat) : All8 (List.replicate n 0) := fun x hx => by rw [List.eq_of_mem_replicate hx]; omega
theorem all8_len8 (n : Nat) : All8 (len8 n) := by
  intro x hx
  simp only [len8, List.mem_cons, List.not_mem_nil, or_false] at hx
  omega
theorem all8_tail (n : Nat) : All8 (tail n) := by
  intro x hx
  simp only [tail, List.mem_cons, List.mem_append] at hx
  rcases hx with rfl | hx | hx
  · omega
  · exact all8_zeros _ x hx
  · exact all8_len8 _ x hx
theorem all8_padded {M : List Nat} (h : All8 M) : All8 (padded M) := all8_append h (all8_tail _)
/-- A word's four bytes, eight words' 32. -/
def four (x : Nat) : List Nat := [x / 16777216 % 256, x / 65536 % 256, x / 256 % 256, x % 256]
def bytes8 (s : S8) : List Nat := s.list.flatMap four
theorem bytes8_length (s : S8) : (bytes8 s).length = 32 := rfl
theorem all8_bytes8 (s : S8) : All8 (bytes8 s) := by
  intro x hx
  simp only [bytes8, List.mem_flatMap, four, List.mem_cons, List.not_mem_nil, or_false] at hx
  obtain ⟨y, _, hy⟩ := hx
  omega
/-- The standard's sum. -/
def sha (M : List Nat) : List Nat := bytes8 (st (padded M))
theorem sha_length (M : List Nat) : (sha M).length = 32 := rfl
theorem all8_sha (M : List Nat) : All8 (sha M) := all8_bytes8 _
end Go.Proofs.YtifepgigkmhdaaaDoor.Sh
/- newHasher: a hasher that has taken nothing yet. -/
namespace Go.Proofs.YtifepgigkmhdaaaDoor.Sn
set_option linter.unusedVariables false
set_option linter.unusedSimpArgs false
set_option maxRecDepth 100000
open Go.ChangeShapes Go.WideShapes Go.ChangeAt Go.RowKit
open Go.Proofs.YtifepgigkmhdaaaDoor.Wu Go.Proofs.YtifepgigkmhdaaaDoor.Sm Go.Proofs.YtifepgigkmhdaaaDoor.Sk Go.Proofs.YtifepgigkmhdaaaDoor.Sc Go.Proofs.YtifepgigkmhdaaaDoor.Sxa
/-- The first state, as it lies in the heap. -/
def Fst (w : World) : Prop := ∃ T f, w.heap[1]? = some (.cells (u32s H0.list) T f)
theorem fst_lt {w : World} (h : Fst w) : 1 < w.heap.size := by obtain ⟨T, f, h⟩ := h; exact heap_lt h
theorem fst_keep {N : Nat} {w w' : World} (h : Fst w) (hb : Below N w w') (hN : w.heap.size ≤ N) : Fst w' := by
  obtain ⟨T, f, h⟩ := h
  exact ⟨T, f, below_blk hb (Nat.lt_of_lt_of_le (heap_lt h) hN) h⟩
theorem info8 : (Tryd.prog.info? 193).map (·.size) = some 8 := by kernel_rfl
theorem info74 : (Tryd.prog.info? 196).map (·.size) = some 74 := by kernel_rfl
/-- A hasher of noughts. -/
def Z8 : S8 := ⟨0, 0, 0, 0, 0, 0, 0, 0⟩
theorem zeroH (w : World) : Sem.run Tryd.prog (zeroValue 196) w = .ok (.agg (hcells Z8 (zeros 64) 0 0).toArray) w := by kernel_rfl
theorem there_cells {w : World} {B : Nat} {xs : List Value} {T : TypeId} (h : w.heap[B]? = some (.cells xs.toArray T (0, 0))) : w.there B 0 xs.length := fun j hj =>
  ⟨by rw [Nat.zero_add, blk_cell h (x := xs[j]) (by simp)]; rfl, blk_free h⟩
theorem range_cells {w : World} {B : Nat} {xs : List Value} {T : TypeId} {f : Nat × Nat} (h : w.heap[B]? = some (.cells xs.toArray T f)) : w.rangeAt B 0 xs := fun j v hv => by
  rw [Nat.zero_add]; exact blk_cell h (by simpa using hv)
theorem hcells_length (s : S8) (B : List Nat) (u l : Int) : (hcells s B u l).length = 10 + B.length := by simp [hcells, S8.list]; omega
theorem hcells_one (s : S8) (B : List Nat) (u l : Int) : (hcells s B u l).toArray.all (·.oneCell') = true := by simp [hcells, Value.oneCell']
theorem newHasher_c (w : World) (hf : Fst w) :
    Calls Tryd.prog 108 #[] w fun e w' => e = .returned (.agg (hcells H0 (zeros 64) 0 0).toArray) ∧ Below w.heap.size w w' := by
  obtain ⟨T, f, hf⟩ := hf
  have hr := hide (rangeAt_all (w := w.alloc (.cells (hcells Z8 (zeros 64) 0 0).toArray 196)) (heap_old hf _))
  have hz := zeroH w
  go_enter Tryd.func108, Tryd.ntmps108
  go_wp2_with (first
    | (refine wpList_load_mid rfl 193 (.global 1) rfl 1 0 rfl _ _ hr.out Tryd.underlying193 rfl (by rw [info8]; rfl) ?_)
    | (refine wpList_build_to rfl 196 _ rfl (some 2) rfl (hcells H0 (zeros 64) 0 0).toArray (by as_aux_lemma => kernel_rfl) ?_)
    | (refine wpList_store_mid rfl 196 (.tmp 0) (.tmp 2) rfl w.heap.size 0 _ rfl rfl ?_ ?_ ?_ ?_))
  · have := there_cells (heap_last w (.cells (hcells Z8 (zeros 64) 0 0).toArray 196))
    exact this
  · rw [info74]; rfl
  · exact hcells_one _ _ _ _
  have h3 := blk_setCells (hcells H0 (zeros 64) 0 0) 0 (w.alloc (.cells (hcells Z8 (zeros 64) 0 0).toArray 196)) (hcells Z8 (zeros 64) 0 0) (by rw [hcells_length, hcells_length]; omega) (heap_last w _)
  have hb : Below w.heap.size w ((w.alloc (.cells (hcells Z8 (zeros 64) 0 0).toArray 196)).setCells w.heap.size 0 (hcells H0 (zeros 64) 0 0)) := below_setCells _ _ _ _ (below_new _ _) (Nat.le_refl _)
  rw [show (hcells Z8 (zeros 64) 0 0).take 0 ++ hcells H0 (zeros 64) 0 0 ++ (hcells Z8 (zeros 64) 0 0).drop (0 + (hcells H0 (zeros 64) 0 0).length) = hcells H0 (zeros 64) 0 0 from rfl] at h3
  go_wp2_with fail
  refine bodyPost_ret (v := .agg (hcells H0 (zeros 64) 0 0).toArray) ?_ rfl ⟨rfl, hb⟩
  rw [results_one_cell Tryd.results108]
  have h4 := run_loadVar_mid (P := Tryd.prog) _ w.heap.size 0 196 (hcells H0 (zeros 64) 0 0) _ (range_cells h3) Tryd.underlying196 rfl (by rw [info74]; rfl)
  simpa [asAddr, Act.put] using h4
end Go.Proofs.YtifepgigkmhdaaaDoor.Sn
/- The hasher's cells behind stores; what it has taken; bytes that are read. -/
namespace Go.Proofs.YtifepgigkmhdaaaDoor.Sw0
set_option linter.unusedVariables false
set_option linter.unusedSimpArgs false
set_option maxRecDepth 100000
open Go.ChangeShapes Go.WideShapes Go.ChangeAt Go.RowKit
open Go.Proofs.YtifepgigkmhdaaaDoor.Wu Go.Proofs.YtifepgigkmhdaaaDoor.Sm Go.Proofs.YtifepgigkmhdaaaDoor.Sk Go.Proofs.YtifepgigkmhdaaaDoor.Sc Go.Proofs.YtifepgigkmhdaaaDoor.Sxa Go.Proofs.YtifepgigkmhdaaaDoor.Sh Go.Proofs.YtifepgigkmhdaaaDoor.Sn

theorem hcells_at (s : S8) (B : List Nat) (u l : Int) (hB : B.length = 64) : (hcells s B u l)[72]? = some (.int .i64 u) ∧ (hcells s B u l)[73]? = some (.int .u64 l) := by
  unfold hcells
  have h1 : ((s.list.map fun x : Nat => Value.int .u32 (x : Int)) ++ (B.map fun x : Nat => Value.int .u8 (x : Int))).length = 72 := by simp [S8.list, hB]
  constructor
  · rw [List.getElem?_append_right (by omega), h1]; rfl
  · rw [List.getElem?_append_right (by omega), h1]; rfl
theorem hsh_used {w : World} {g : Nat} {s : S8} {B : List Nat} {u l : Int} (h : Hsh w g s B u l) (hB : B.length = 64) : w.cell? ⟨g, 72, none⟩ = some (.int .i64 u) :=
  blk_cell h (by simpa using (hcells_at s B u l hB).1)
theorem hsh_len {w : World} {g : Nat} {s : S8} {B : List Nat} {u l : Int} (h : Hsh w g s B u l) (hB : B.length = 64) : w.cell? ⟨g, 73, none⟩ = some (.int .u64 l) :=
  blk_cell h (by simpa using (hcells_at s B u l hB).2)
theorem hsh_set_used {w : World} {g : Nat} {s : S8} {B : List Nat} {u l : Int} (h : Hsh w g s B u l) (hB : B.length = 64) (v : Int) : Hsh (w.setCell ⟨g, 72, none⟩ (.int .i64 v)) g s B v l := by
  have e := blk_set (i := 72) h (.int .i64 v)
  have h1 : ((s.list.map fun x : Nat => Value.int .u32 (x : Int)) ++ (B.map fun x : Nat => Value.int .u8 (x : Int))).length = 72 := by simp [S8.list, hB]
  unfold Hsh
  rw [e, List.setIfInBounds_toArray]
  unfold hcells
  rw [List.set_append_right _ _ (by omega), h1]
  rfl
theorem hsh_set_len {w : World} {g : Nat} {s : S8} {B : List Nat} {u l : Int} (h : Hsh w g s B u l) (hB : B.length = 64) (v : Int) : Hsh (w.setCell ⟨g, 73, none⟩ (.int .u64 v)) g s B u v := by
  have e := blk_set (i := 73) h (.int .u64 v)
  have h1 : ((s.list.map fun x : Nat => Value.int .u32 (x : Int)) ++ (B.map fun x : Nat => Value.int .u8 (x : Int))).length = 72 := by simp [S8.list, hB]
  unfold Hsh
  rw [e, List.setIfInBounds_toArray]
  unfold hcells
  rw [List.set_append_right _ _ (by omega), h1]
  rfl
/-- The hasher's block behind bytes that were copied into its block of bytes. -/
theorem hcells_splice (s : S8) (B x : List Nat) (u l : Int) (n : Nat) (hB : B.length = 64) (hn : n + x.length ≤ 64) :
    (hcells s B u l).take (8 + n) ++ ((x.map fun x : Nat => Value.int .u8 (x : Int)) ++ (hcells s B u l).drop (8 + n + x.length)) = hcells s (B.take n ++ x ++ B.drop (n + x.length)) u l := by
  have h8 : (s.list.map fun x : Nat => Value.int .u32 (x : Int)).length = 8 := by simp [S8.list]
  unfold hcells
  generalize (s.list.map fun x : Nat => Value.int .u32 (x : Int)) = P at h8
  simp only [List.append_assoc]
  rw [List.take_append, List.drop_append, h8, List.take_of_length_le (by omega), List.drop_eq_nil_of_le (by omega), show 8 + n - 8 = n by omega, show 8 + n + x.length - 8 = n + x.length by omega]
  rw [List.take_append_of_le_length (by simp; omega), List.drop_append_of_le_length (by simp; omega), List.map_append, List.map_append, List.map_take, List.map_drop]
  simp
theorem grown_setCell {a w : World} {g : Nat} (h : a.grownBy w (some g)) (o : Nat) (v : Value) : a.grownBy (w.setCell ⟨g, o, none⟩ v) (some g) :=
  ⟨h.os, h.tape, h.output, by simpa [World.setCell] using h.size, fun i hi hne => (Below.heap_setCell w ⟨g, o, none⟩ v i (fun e => hne (by rw [e]))).trans (h.block i hi hne)⟩
theorem grown_setRow {a w : World} {g : Nat} (h : a.grownBy w (some g)) (cs : Array Value) : a.grownBy (w.setRow g cs) (some g) :=
  ⟨h.os, h.tape, h.output, by simpa [World.setRow] using h.size, fun i hi hne => (setRow_other w g i cs (fun e => hne (by rw [e]))).trans (h.block i hi hne)⟩
theorem grown_drew {a w : World} {row : Option Nat} (h : a.grownBy w row) : a.grownBy w.drew row := ⟨h.os, h.tape, h.output, h.size, h.block⟩
theorem grown_below {a w w' : World} {g : Option Nat} {N : Nat} (h : a.grownBy w g) (hb : Below N w w') (hN : a.heap.size ≤ N) : a.grownBy w' g :=
  ⟨hb.os.trans h.os, hb.tape.trans h.tape, hb.output.trans h.output, Nat.le_trans h.size hb.size, fun i hi hne => (hb.block i (Nat.lt_of_lt_of_le hi hN)).trans (h.block i hi hne)⟩
theorem grown_trans {a b c : World} {g : Option Nat} (h : a.grownBy b g) (k : b.grownBy c g) : a.grownBy c g :=
  ⟨k.os.trans h.os, k.tape.trans h.tape, k.output.trans h.output, Nat.le_trans h.size k.size, fun i hi hne => (k.block i (Nat.lt_of_lt_of_le hi h.size) hne).trans (h.block i hi hne)⟩
theorem grown_cell {a w : World} {g : Nat} (h : a.grownBy w (some g)) {b o : Nat} {v : Value} (hb : b ≠ g) (hc : a.cell? ⟨b, o, none⟩ = some v) : w.cell? ⟨b, o, none⟩ = some v := by
  have hl := cell_lt hc
  have e := h.block b hl (fun e => hb (by injection e))
  exact (World.cell?_of_block (a := ⟨b, o, none⟩) e).trans hc
theorem grown_tbl {a w : World} {g : Nat} (h : a.grownBy w (some g)) (hg : g ≠ 2) (ht : Tbl a) : Tbl w := by
  obtain ⟨T, f, ht⟩ := ht
  exact ⟨T, f, (h.block _ (heap_lt ht) (fun e => hg (by injection e with e; exact e.symm))).trans ht⟩
/-- What a hasher has taken. -/
def Took (w : World) (g : Nat) (M : List Nat) : Prop := ∃ B : List Nat, B.length = 64 ∧ All8 B ∧ B.take (M.length % 64) = rest M ∧ Hsh w g (st M) B ((M.length % 64 : Nat) : Int) (M.length : Int)
/-- A slice of m bytes L: nil, empty, or over cells that are there, in a block that isn't g. -/
def SrcN (w : World) (g : Nat) (a : Option Addr) (m : Nat) (L : List Nat) : Prop :=
  L.length = m ∧ All8 L ∧ ∃ b off, (0 < m → a = some ⟨b, off, none⟩) ∧ (0 < m → b ≠ g) ∧ ∀ i, i < m → w.cell? ⟨b, off + i, none⟩ = some (.int .u8 ((L.getD i 0 : Nat) : Int))
/-- The piece that goes over. -/
def piece (L : List Nat) (k n : Nat) : List Nat := (L.drop k).take n
theorem piece_length (L : List Nat) (k n : Nat) (h : k + n ≤ L.length) : (piece L k n).length = n := by simp [piece]; omega
theorem take_piece (L : List Nat) (k n : Nat) : L.take k ++ piece L k n = L.take (k + n) := by
  unfold piece
  rw [List.take_add]
theorem piece_all {L : List Nat} (h : All8 L) (k n : Nat) : All8 (piece L k n) := all8_take (all8_drop h k) n
theorem piece_at (L : List Nat) (k n j : Nat) (h : j < n) : (piece L k n)[j]? = L[k + j]? := by
  unfold piece
  rw [List.getElem?_take_of_lt h, List.getElem?_drop]
theorem sliceL64 (u : World) (B o L : Nat) (hne : L < 64) :
    Sem.run Tryd.prog (Instr.sliceAt 190 (.pointer (some ⟨B, o, none⟩)) (some (.int .i64 (L : Int))) none none) u = .ok (.slice (some ⟨B, o + L, none⟩) (64 - L) (64 - L)) u := by
  rw [run_sliceAt_array_l u 190 ⟨B, o, none⟩ (by rw [alen64, aelem64]; exact Tryd.underlying190) .i64 _ (by omega) (by rw [alen64]; omega), aelem64, size_u8, alen64]
  simp only [Result.andThen, slicedAt, Int.toNat_natCast, Nat.mul_one]
  rw [if_neg (by omega), Addr.add_mid]
theorem elem_bs : Tryd.prog.elem 22 = 5 := by simp [Program.elem, Tryd.underlying22]
theorem und_bs : Tryd.prog.underlying 22 = some (.slice (Tryd.prog.elem 22)) := by rw [elem_bs]; exact Tryd.underlying22
/-- b[n:] -/
theorem slice_from (u : World) (a : Option Addr) (len cap n : Nat) (h : n ≤ len) :
    Sem.run Tryd.prog (Instr.slice 22 (.slice a len cap) (some (.int .i64 (n : Int))) none none) u = .ok (.slice (if cap = n then a else a.map (·.add n)) (len - n) (cap - n)) u := by
  rw [run_slice_l u 22 a len cap und_bs .i64 _ (by omega) (by omega), elem_bs, size_u8]
  simp only [Result.andThen, sliced, Int.toNat_natCast, Nat.mul_one]
theorem info_u8s : (Tryd.prog.info? 5).map (·.size) = some 1 := by kernel_rfl
/-- A row of bytes' cells. -/
def b8 (X : List Nat) : List Value := X.map fun x : Nat => Value.int .u8 (x : Int)
theorem b8_length (X : List Nat) : (b8 X).length = X.length := by simp [b8]
theorem b8_one (X : List Nat) : ∀ v ∈ b8 X, v.oneCell' = true := by
  intro v hv
  simp only [b8, List.mem_map] at hv
  obtain ⟨x, _, rfl⟩ := hv
  rfl
theorem b8_at {X : List Nat} {j : Nat} {v : Value} (h : (b8 X)[j]? = some v) : j < X.length ∧ v = .int .u8 ((X.getD j 0 : Nat) : Int) := by
  have hj : j < X.length := by have := (List.getElem?_eq_some_iff.1 h).1; rwa [b8_length] at this
  refine ⟨hj, ?_⟩
  simp only [b8, List.getElem?_map, List.getElem?_eq_getElem hj, Option.map_some, Option.some.injEq] at h
  rw [← h]
  simp [List.getD, hj]
theorem piece_getD (L : List Nat) (k n j : Nat) (h : j < n) : (piece L k n).getD j 0 = L.getD (k + j) 0 := by
  simp only [List.getD, piece_at L k n j h]
/-- Behind a copy: the hasher with the bytes in its block. -/
theorem hsh_copied {w : World} {g : Nat} {s : S8} {B : List Nat} {u l : Int} (h : Hsh w g s B u l) (hB : B.length = 64) (n : Nat) (x : List Nat) (hn : n + x.length ≤ 64) :
    Hsh (w.setRow g ((hcells s B u l).take (8 + n) ++ (b8 x ++ (hcells s B u l).drop (8 + n + (b8 x).length))).toArray) g s (B.take n ++ x ++ B.drop (n + x.length)) u l := by
  have e := setRow_heap w g _ ((hcells s B u l).take (8 + n) ++ (b8 x ++ (hcells s B u l).drop (8 + n + (b8 x).length))).toArray _ _ h
  unfold Hsh
  rw [e, b8_length]
  unfold b8
  rw [hcells_splice s B x u l n hB hn]
theorem take_copied (B x : List Nat) (n : Nat) (hB : B.length = 64) (hn : n + x.length ≤ 64) : (B.take n ++ x ++ B.drop (n + x.length)).length = 64 ∧ (B.take n ++ x ++ B.drop (n + x.length)).take (n + x.length) = B.take n ++ x := by
  have h1 : (B.take n ++ x).length = n + x.length := by simp; omega
  refine ⟨by simp; omega, ?_⟩
  rw [List.take_append_of_le_length (by omega), List.take_of_length_le (by omega)]
end Go.Proofs.YtifepgigkmhdaaaDoor.Sw0
/- write: bytes that come are taken, whole blocks mixed in. -/
namespace Go.Proofs.YtifepgigkmhdaaaDoor.Sw
set_option linter.unusedVariables false
set_option linter.unusedSimpArgs false
set_option maxRecDepth 100000
open Go.ChangeShapes Go.WideShapes Go.ChangeAt Go.RowKit
open Go.Proofs.YtifepgigkmhdaaaDoor.Wu Go.Proofs.YtifepgigkmhdaaaDoor.Sm Go.Proofs.YtifepgigkmhdaaaDoor.Sk Go.Proofs.YtifepgigkmhdaaaDoor.Sc Go.Proofs.YtifepgigkmhdaaaDoor.Sxa Go.Proofs.YtifepgigkmhdaaaDoor.Sh Go.Proofs.YtifepgigkmhdaaaDoor.Sn Go.Proofs.YtifepgigkmhdaaaDoor.Sw0 Go.Proofs.YtifepgigkmhdaaaDoor.Sx

set_option maxHeartbeats 1600000 in
set_option maxRecDepth 100000 in
theorem write_c (g : Nat) (M : List Nat) (a : Option Addr) (m cap : Nat) (L : List Nat) (w : World) (hT : Took w g M) (ht : Tbl w) (hs : SrcN w g a m L) (hcap : m ≤ cap)
    (hgt : g ≠ 2) (hbig : M.length + m ≤ 281474976710656) :
    Calls Tryd.prog 109 #[.pointer (some ⟨g, 0, none⟩), .slice a m cap] w fun e w' => e = .returned (.tuple #[]) ∧ Took w' g (M ++ L) ∧ w.grownBy w' (some g) := by
  obtain ⟨hLl, hL8, bb, off, ha, hbg, hcl⟩ := hs
  obtain ⟨B0, hB0, hB8, hBr, hH⟩ := hT
  have HL := hide hLl
  have HA := hide ha
  have HC := hide hcl
  have HBR := hide hBr
  have HB0 := hide hB0
  have H := hide hH
  have HT := hide ht
  have c73 := hsh_len hH hB0
  have f73 := blk_free (i := 73) hH
  clear hLl ha hcl hBr hB0 hH ht
  go_enter Tryd.func109, Tryd.ntmps109
  go_wp2_with fail
  have H0 := hide (hsh_set_len H.out HB0.out ((M.length : Int) + (m : Int)))
  have G0 := hide (grown_setCell (World.grownBy.refl w (some g)) 73 (Value.int IntKind.u64 ((M.length : Int) + (m : Int))))
  have HT0 := hide (grown_tbl G0.out hgt HT.out)
  clear H c73 f73
  generalize (w.setCell ⟨g, 73, none⟩ (Value.int IntKind.u64 ((M.length : Int) + (m : Int)))) = w1 at *
  go_loopw [1, 4] (fun b _ wr => ∃ (k : Nat) (A : Option Addr) (B : List Nat), k ≤ m ∧ b = .slice A (m - k) (cap - k) ∧ (k < m → A = some ⟨bb, off + k, none⟩) ∧ B.length = 64 ∧ All8 B ∧ B.take ((M ++ L.take k).length % 64) = rest (M ++ L.take k) ∧
      Hsh wr g (st (M ++ L.take k)) B (((M ++ L.take k).length % 64 : Nat) : Int) ((M.length : Int) + (m : Int)) ∧ Tbl wr ∧ w.grownBy wr (some g)) (fun b _ _ => match b with | .slice _ n _ => n | _ => 0)
  case atStart =>
    refine ⟨0, a, B0, by omega, rfl, fun h => HA.out h, HB0.out, hB8, ?_, ?_, HT0.out, G0.out⟩
    · rw [List.take_zero, List.append_nil]; exact HBR.out
    · rw [List.take_zero, List.append_nil]; exact H0.out
  case round =>
    clear H0 G0 HT0
    obtain ⟨k, A, B, hk, rfl, hA, hBl, hB8', hBr, hH, hT', hG⟩ := hrel
    have HBl := hide hBl
    have HBr := hide hBr
    have H1 := hide hH
    have HT1 := hide hT'
    have HG := hide hG
    clear hBl hBr hH hT' hG
    by_cases hlt : k < m
    · obtain rfl := hA hlt
      clear hA
      have hmk : (M ++ L.take k).length = M.length + k := by rw [List.length_append, List.length_take, HL.out]; omega
      have HN := hide hmk
      have hu : (M ++ L.take k).length % 64 < 64 := Nat.mod_lt _ (by omega)
      obtain ⟨N, hN⟩ : ∃ N, N = M ++ L.take k := ⟨_, rfl⟩
      have HNd := hide hN
      rw [← hN] at H1 HBr hu HN
      clear hN hmk
      obtain ⟨u, hud⟩ : ∃ u, u = N.length % 64 := ⟨_, rfl⟩
      have HU := hide hud
      rw [← hud] at H1 HBr hu
      clear hud
      obtain ⟨n, hnd⟩ : ∃ n, n = min (64 - u) (m - k) := ⟨_, rfl⟩
      have hn1 : n ≤ 64 - u := by omega
      have hn2 : n ≤ m - k := by omega
      have hn0 : 0 < n := by omega
      have HND := hide hnd
      clear hnd
      have hpl := piece_length L k n (by rw [HL.out]; omega)
      obtain ⟨x, hx⟩ : ∃ x, x = piece L k n := ⟨_, rfl⟩
      have hx8 : All8 x := by rw [hx]; exact piece_all hL8 k n
      rw [← hx] at hpl
      have HX := hide hx
      have HXl := hide hpl
      clear hx hpl
      have hcu := hsh_used H1.out HBl.out
      have hsl := fun v : World => sliceL64 v g 8 u hu
      have hu0 : (0 : Int) ≤ (u : Int) := by omega
      have hu1 : (u : Int) < 64 := by omega
      go_wp2_with fail
      go_still_tail 9, (by kernel_rfl)
      have HBB := hide (take_copied B x u HBl.out (by rw [HXl.out]; omega))
      refine wpList_copy_own rfl (.tmp 25) (.tmp 26) 22 22 rfl 5 Tryd.underlying22 info_u8s g (8 + u) (64 - u) (64 - u) ⟨bb, off + k, none⟩ (m - k) (cap - k) rfl rfl (hcells (st N) B u ((M.length : Int) + (m : Int))).toArray 196 H1.out (b8 x) ?_ ?_ ?_ (b8_one x) ?_
      · rw [b8_length, HXl.out, HND.out]; exact Nat.min_comm _ _
      · intro j v hv
        obtain ⟨hj, rfl⟩ := b8_at hv
        rw [HXl.out] at hj
        rw [Addr.add_mid, HX.out, piece_getD L k n j hj, Nat.add_assoc]
        exact grown_cell (w := wr.drew) (grown_drew HG.out) (hbg (by omega)) (HC.out (k + j) (by omega))
      · rw [b8_length, HXl.out]; simp [hcells_length, HBl.out]; omega
      have H2 := hide (hsh_copied (w := wr.drew) H1.out HBl.out u x (by rw [HXl.out]; omega))
      have HG2 := hide (grown_setRow (grown_drew HG.out) ((hcells (st N) B u ((M.length : Int) + (m : Int))).take (8 + u) ++ (b8 x ++ (hcells (st N) B u ((M.length : Int) + (m : Int))).drop (8 + u + (b8 x).length))).toArray)
      have HT2 := hide (grown_tbl HG2.out hgt HT.out)
      have Hbx := hide ((b8_length x).trans HXl.out)
      have hB8n : All8 (B.take u ++ x ++ B.drop (u + x.length)) := all8_append (all8_append (all8_take hB8' _) hx8) (all8_drop hB8' _)
      show wpList _ _ _ _ (Act.put _ _ (goInt (b8 x).length)) (wr.drew.setRow g ((hcells (st N) B u ((M.length : Int) + (m : Int))).take (8 + u) ++ (b8 x ++ (hcells (st N) B u ((M.length : Int) + (m : Int))).drop (8 + u + (b8 x).length))).toArray)
      rw [Hbx.out]
      rw [Hbx.out] at H2 HG2 HT2
      clear hcu hsl H1 HT1 HG
      generalize (wr.drew.setRow g ((hcells (st N) B u ((M.length : Int) + (m : Int))).take (8 + u) ++ (b8 x ++ (hcells (st N) B u ((M.length : Int) + (m : Int))).drop (8 + u + n))).toArray) = w2 at *
      obtain ⟨B', hB'⟩ : ∃ B', B' = B.take u ++ x ++ B.drop (u + x.length) := ⟨_, rfl⟩
      rw [← hB'] at H2 HBB hB8n
      clear hB'
      have c72 := hsh_used H2.out HBB.out.1
      have f72 := blk_free (i := 72) H2.out
      obtain ⟨A', hA'⟩ : ∃ A', A' = (if cap - k = n then some (⟨bb, off + k, none⟩ : Addr) else (some (⟨bb, off + k, none⟩ : Addr)).map (·.add n)) := ⟨_, rfl⟩
      have hs2 := fun v : World => slice_from v (some ⟨bb, off + k, none⟩) (m - k) (cap - k) n hn2
      rw [← hA', show m - k - n = m - (k + n) by omega, show cap - k - n = cap - (k + n) by omega] at hs2
      have HA' := hide hA'
      clear hA'
      have HM : Hid (M ++ L.take (k + n) = N ++ x) := by
        show _ = _
        rw [HNd.out, HX.out, List.append_assoc, take_piece]
      have hsum : (0 : Int) ≤ (u : Int) + (n : Int) := by omega
      by_cases hfull : u + n = 64
      · have HF := hide (st_full N x (by rw [HXl.out, ← HU.out]; exact hfull))
        have hq : ((u : Int) + (n : Int) == 64) = true := by simp; omega
        have Hfu := hide hfull
        clear hfull
        have H3 := hide (hsh_set_used H2.out HBB.out.1 ((u : Int) + (n : Int)))
        have HG3 := hide (grown_setCell HG2.out 72 (Value.int IntKind.i64 ((u : Int) + (n : Int))))
        have HT3 := hide (grown_tbl HG3.out hgt HT.out)
        as_aux_lemma =>
          go_wp2_with fail
          clear c72 f72 hs2
          generalize (w2.setCell ⟨g, 72, none⟩ (Value.int IntKind.i64 ((u : Int) + (n : Int)))) = w3 at *
          refine (mix_c g (st N) B' _ _ w3 (st_ok N) HBB.out.1 hB8n H3.out HT3.out).mono ?_
          rintro e w4 ⟨rfl, h4, hg4⟩
          have H4 := hide h4
          have HG4 := hide (grown_trans HG3.out hg4)
          clear h4 hg4
          have c72 := hsh_used H4.out HBB.out.1
          have f72 := blk_free (i := 72) H4.out
          go_wp2
          go_roundw
          case rel =>
            refine ⟨k + n, A', B', by omega, rfl, fun h => ?_, HBB.out.1, hB8n, ?_, ?_, ?_, ?_⟩
            · rw [HA'.out, if_neg (by omega), Option.map_some, Addr.add_mid, Nat.add_assoc]
            · rw [HM.out, HF.out.2.2, HF.out.2.1]; rfl
            · rw [HM.out, HF.out.2.2, HF.out.1]
              have e := hsh_set_used H4.out HBB.out.1 0
              have e2 : B' = rest N ++ x := by
                have := HBB.out.2
                rw [List.take_of_length_le (by rw [HBB.out.1, HXl.out, Hfu.out]; omega), HBr.out] at this
                exact this
              rw [← e2]
              exact e
            · exact grown_tbl (grown_setCell HG4.out 72 _) hgt HT.out
            · exact grown_setCell HG4.out 72 _
          case measure => show m - (k + n) < m - k; omega
      · have HF := hide (st_part N x (by rw [HXl.out, ← HU.out]; omega))
        have hq : ((u : Int) + (n : Int) == 64) = false := by simp; omega
        as_aux_lemma =>
          go_wp2
          go_roundw
          case rel =>
            refine ⟨k + n, A', B', by omega, rfl, fun h => ?_, HBB.out.1, hB8n, ?_, ?_, ?_, ?_⟩
            · rw [HA'.out, if_neg (by omega), Option.map_some, Addr.add_mid, Nat.add_assoc]
            · rw [HM.out, HF.out.2.2, HF.out.2.1, ← HU.out, HBB.out.2, HBr.out]
            · rw [HM.out, HF.out.2.2, HF.out.1, ← HU.out, HXl.out]
              exact hsh_set_used H2.out HBB.out.1 ((u : Int) + (n : Int))
            · exact grown_tbl (grown_setCell HG2.out 72 _) hgt HT.out
            · exact grown_setCell HG2.out 72 _
          case measure => show m - (k + n) < m - k; omega
    · have hkm : k = m := by omega
      subst hkm
      have Hz : Hid (k - k = 0) := by show _ = _; omega
      rw [Hz.out]
      go_wp2
      refine bodyPost_end (v := .tuple #[]) (by simp [results, Tryd.results109]) rfl ⟨rfl, ⟨B, HBl.out, hB8', ?_, ?_⟩, HG.out⟩
      · have := HBr.out
        have hLL : L.take k = L := List.take_of_length_le (by rw [HL.out]; exact Nat.le_refl _)
        rwa [hLL] at this
      · have := H1.out
        have hLL : L.take k = L := List.take_of_length_le (by rw [HL.out]; exact Nat.le_refl _)
        rw [hLL] at this
        rw [show ((M ++ L).length : Int) = (M.length : Int) + (k : Int) by rw [List.length_append, HL.out]; omega]
        exact this
end Go.Proofs.YtifepgigkmhdaaaDoor.Sw
/- bytesOf: a word as four bytes, the highest first. -/
namespace Go.Proofs.YtifepgigkmhdaaaDoor.Sb
set_option linter.unusedVariables false
set_option linter.unusedSimpArgs false
set_option maxRecDepth 100000
open Go.ChangeShapes Go.WideShapes Go.ChangeAt Go.RowKit
open Go.Proofs.YtifepgigkmhdaaaDoor.Wu Go.Proofs.YtifepgigkmhdaaaDoor.Sm Go.Proofs.YtifepgigkmhdaaaDoor.Sk Go.Proofs.YtifepgigkmhdaaaDoor.Sc Go.Proofs.YtifepgigkmhdaaaDoor.Sxa Go.Proofs.YtifepgigkmhdaaaDoor.Sh

theorem info4 : (Tryd.prog.info? 231).map (·.size) = some 4 := by kernel_rfl
theorem four_is (x : Nat) (hx : x < 4294967296) : (#[Value.int IntKind.u8 ((x : Int) / 16777216), Value.int IntKind.u8 ((x : Int) / 65536 % 256), Value.int IntKind.u8 ((x : Int) / 256 % 256), Value.int IntKind.u8 ((x : Int) % 256)] : Array Value) = u8s (four x) := by
  have e : (x : Int) / 16777216 = ((x / 16777216 % 256 : Nat) : Int) := by omega
  rw [e]
  simp [u8s, four]
theorem range8_all {w : World} {B : Nat} {X : List Nat} {T : TypeId} {f : Nat × Nat} (h : w.heap[B]? = some (.cells (u8s X) T f)) : w.rangeAt B 0 (u8s X).toList := fun j v hv => by
  refine blk_cell h ?_
  simpa using hv
theorem bytesOf_c (x : Nat) (w : World) (hx : x < 4294967296) :
    Calls Tryd.prog 129 #[.int .u32 (x : Int)] w fun e w' => e = .returned (.agg (u8s (four x))) ∧ Below w.heap.size w w' := by
  go_enter Tryd.func129, Tryd.ntmps129
  go_wp2_with fail
  rw [four_is x hx]
  refine bodyPost_ret (v := .agg (u8s (four x))) ?_ rfl ⟨rfl, below_new _ _⟩
  rw [results_one_cell Tryd.results129]
  have h4 := run_loadVar_mid (P := Tryd.prog) (w.alloc (.cells (u8s (four x)) 231)) w.heap.size 0 231 (u8s (four x)).toList _ (range8_all (heap_last w _)) Tryd.underlying231 rfl (by rw [info4]; simp [u8s_size, four])
  simpa [asAddr, Act.put] using h4
end Go.Proofs.YtifepgigkmhdaaaDoor.Sb
/- finish: the message's end, and the sum. -/
namespace Go.Proofs.YtifepgigkmhdaaaDoor.Sf
set_option linter.unusedVariables false
set_option linter.unusedSimpArgs false
set_option maxRecDepth 100000
open Go.ChangeShapes Go.WideShapes Go.ChangeAt Go.RowKit
open Go.Proofs.YtifepgigkmhdaaaDoor.Wu Go.Proofs.YtifepgigkmhdaaaDoor.Sm Go.Proofs.YtifepgigkmhdaaaDoor.Sk Go.Proofs.YtifepgigkmhdaaaDoor.Sc Go.Proofs.YtifepgigkmhdaaaDoor.Sxa Go.Proofs.YtifepgigkmhdaaaDoor.Sh Go.Proofs.YtifepgigkmhdaaaDoor.Sn Go.Proofs.YtifepgigkmhdaaaDoor.Sw0 Go.Proofs.YtifepgigkmhdaaaDoor.Sx Go.Proofs.YtifepgigkmhdaaaDoor.Sw Go.Proofs.YtifepgigkmhdaaaDoor.Sb

/-- The row in which the end is laid, behind k of the length's bytes. -/
def padL (n l k : Nat) : List Nat := 128 :: (zeros (n - 1 - k) ++ ((len8 l).drop (8 - k) ++ zeros (128 - n)))
theorem padL_length (n l k : Nat) (hn : 9 ≤ n) (hn' : n ≤ 128) (hk : k ≤ 8) : (padL n l k).length = 128 := by
  simp [padL, zeros, len8_length]; omega
theorem set_gap (z v : Nat) (T : List Nat) : (128 :: (zeros (z + 1) ++ T)).set (z + 1) v = 128 :: (zeros z ++ v :: T) := by
  rw [List.set_cons_succ]
  congr 1
  have e : zeros (z + 1) = zeros z ++ [0] := by unfold zeros; rw [List.replicate_succ']
  rw [e, List.append_assoc, List.set_append_right _ _ (by simp [zeros])]
  simp [zeros]
theorem len8_drop (l k : Nat) (hk : k < 8) : (len8 l).drop (8 - (k + 1)) = (l / 2 ^ (8 * k) % 256) :: (len8 l).drop (8 - k) := by
  match k, hk with
  | 0, _ => simp [len8]
  | 1, _ => simp [len8]
  | 2, _ => simp [len8]
  | 3, _ => simp [len8]
  | 4, _ => simp [len8]
  | 5, _ => simp [len8]
  | 6, _ => simp [len8]
  | 7, _ => simp [len8]
theorem padL_step (n l k : Nat) (hn : 9 ≤ n) (hk : k < 8) : (padL n l k).set (n - 1 - k) (l / 2 ^ (8 * k) % 256) = padL n l (k + 1) := by
  obtain ⟨z, hz⟩ : ∃ z, n - 1 - k = z + 1 := ⟨n - 2 - k, by omega⟩
  unfold padL
  rw [hz, set_gap, show n - 1 - (k + 1) = z by omega, len8_drop l k hk]
  rfl
theorem padL_end (n l : Nat) (hn : 9 ≤ n) (hn' : n ≤ 128) : (padL n l 8).take n = 128 :: (List.replicate (n - 9) 0 ++ len8 l) := by
  obtain ⟨z, rfl⟩ : ∃ z, n = z + 9 := ⟨n - 9, by omega⟩
  unfold padL
  rw [show z + 9 - 1 - 8 = z by omega, show z + 9 - 9 = z by omega, Nat.sub_self, List.drop_zero, show z + 9 = (z + 8) + 1 by omega, List.take_succ_cons, ← List.append_assoc, List.take_append_of_le_length (by simp [zeros, len8_length]), List.take_of_length_le (by simp [zeros, len8_length])]
  rfl
theorem zlit8 : (#[Value.int IntKind.u8 0, Value.int IntKind.u8 0, Value.int IntKind.u8 0, Value.int IntKind.u8 0, Value.int IntKind.u8 0, Value.int IntKind.u8 0, Value.int IntKind.u8 0, Value.int IntKind.u8 0, Value.int IntKind.u8 0, Value.int IntKind.u8 0, Value.int IntKind.u8 0, Value.int IntKind.u8 0, Value.int IntKind.u8 0, Value.int IntKind.u8 0, Value.int IntKind.u8 0, Value.int IntKind.u8 0, Value.int IntKind.u8 0, Value.int IntKind.u8 0, Value.int IntKind.u8 0, Value.int IntKind.u8 0, Value.int IntKind.u8 0, Value.int IntKind.u8 0, Value.int IntKind.u8 0, Value.int IntKind.u8 0, Value.int IntKind.u8 0, Value.int IntKind.u8 0, Value.int IntKind.u8 0, Value.int IntKind.u8 0, Value.int IntKind.u8 0, Value.int IntKind.u8 0, Value.int IntKind.u8 0, Value.int IntKind.u8 0] : Array Value) = u8s (zeros 32) := by rfl
theorem pad0 (n l : Nat) (h : 1 ≤ n) (hn : n ≤ 128) : Tryd.zeroCells230.setIfInBounds 0 (Value.int IntKind.u8 128) = u8s (padL n l 0) := by
  have e : padL n l 0 = 128 :: zeros 127 := by
    have e0 : (len8 l).drop (8 - 0) = [] := rfl
    unfold padL
    rw [e0, List.nil_append]
    simp only [zeros, List.replicate_append_replicate]
    rw [show n - 1 - 0 + (128 - n) = 127 by omega]
  have e2 : Tryd.zeroCells230.setIfInBounds 0 (Value.int IntKind.u8 128) = u8s (128 :: zeros 127) := by kernel_rfl
  rw [e, e2]
theorem alen128 : Tryd.prog.arrayLen 230 = 128 := by simp [Program.arrayLen, Tryd.underlying230]
theorem aelem128 : Tryd.prog.elem 230 = 5 := by simp [Program.elem, Tryd.underlying230]
theorem sliceH128 (u : World) (B n : Nat) (h0 : 0 < n) (hn : n ≤ 128) :
    Sem.run Tryd.prog (Instr.sliceAt 230 (.pointer (some ⟨B, 0, none⟩)) none (some (.int .i64 (n : Int))) none) u = .ok (.slice (some ⟨B, 0, none⟩) n 128) u := by
  rw [run_sliceAt_array_h u 230 ⟨B, 0, none⟩ (by rw [alen128, aelem128]; exact Tryd.underlying230) .i64 _ (by omega) (by rw [alen128]; omega), aelem128, size_u8, alen128]
  simp only [Result.andThen, slicedAt, Int.toNat_natCast, Nat.mul_one]
  rw [if_neg (by omega), Addr.add_mid]
  simp
theorem alenS : Tryd.prog.arrayLen 79 = 32 := by simp [Program.arrayLen, Tryd.underlying79]
theorem aelemS : Tryd.prog.elem 79 = 5 := by simp [Program.elem, Tryd.underlying79]
theorem sliceLS (u : World) (B n : Nat) (hn : n < 32) :
    Sem.run Tryd.prog (Instr.sliceAt 79 (.pointer (some ⟨B, 0, none⟩)) (some (.int .i64 (n : Int))) none none) u = .ok (.slice (some ⟨B, n, none⟩) (32 - n) (32 - n)) u := by
  rw [run_sliceAt_array_l u 79 ⟨B, 0, none⟩ (by rw [alenS, aelemS]; exact Tryd.underlying79) .i64 _ (by omega) (by rw [alenS]; omega), aelemS, size_u8, alenS]
  simp only [Result.andThen, slicedAt, Int.toNat_natCast, Nat.mul_one]
  rw [if_neg (by omega), Addr.add_mid]
  simp
theorem alen4 : Tryd.prog.arrayLen 231 = 4 := by simp [Program.arrayLen, Tryd.underlying231]
theorem aelem4 : Tryd.prog.elem 231 = 5 := by simp [Program.elem, Tryd.underlying231]
theorem slice4 (u : World) (B : Nat) :
    Sem.run Tryd.prog (Instr.sliceAt 231 (.pointer (some ⟨B, 0, none⟩)) none none none) u = .ok (.slice (some ⟨B, 0, none⟩) 4 4) u := by
  rw [run_sliceAt_array_all u 231 ⟨B, 0, none⟩ (by rw [alen4, aelem4]; exact Tryd.underlying231), aelem4, size_u8, alen4]
  simp only [Result.andThen, slicedAt, Nat.mul_one]
  rw [if_neg (by omega), Addr.add_mid]
theorem infoS : (Tryd.prog.info? 79).map (·.size) = some 32 := by kernel_rfl
theorem alen8 : Tryd.prog.underlying 193 = some (.array 8 68) := Tryd.underlying193
theorem index_row8 (X : List Nat) (k : Nat) (hX : X.length = 8) (hk : k < 8) (u : World) : Sem.run Tryd.prog (Instr.index 193 (.agg (u32s X)) (.int .i64 (k : Int))) u = .ok (.int .u32 ((X.getD k 0 : Nat) : Int)) u := by
  simp only [Instr.index, Sem.run_bind, asIntOf, Sem.run_pure, Result.andThen_ok, run_underlying alen8]
  rw [if_pos (by omega)]
  simp only [Sem.run_bind, size_u32, Result.andThen_ok, Int.toNat_natCast, Nat.mul_one]
  have e : (u32s X)[k]? = some (.int .u32 ((X.getD k 0 : Nat) : Int)) := u32s_at X k (by omega)
  simp [part, e, size_u32, go_sem]
theorem hsh_words {w : World} {g : Nat} {s : S8} {B : List Nat} {u l : Int} (h : Hsh w g s B u l) : w.rangeAt g 0 (u32s s.list).toList := by
  intro j v hv
  have hj : j < s.list.length := by have := (List.getElem?_eq_some_iff.1 hv).1; simpa [u32s_size] using this
  have e := hsh_state h j hj
  rw [Nat.zero_add, e]
  have := u32s_at s.list j hj
  simp only [Array.getElem?_toList] at hv
  rw [← this, hv]
/-- The sum's row behind k words. -/
def sumL (s : S8) (k : Nat) : List Nat := (bytes8 s).take (4 * k) ++ zeros (32 - 4 * k)
theorem sumL_length (s : S8) (k : Nat) (hk : k ≤ 8) : (sumL s k).length = 32 := by simp [sumL, bytes8_length, zeros]; omega
theorem sumL_step (s : S8) (k : Nat) (hk : k < 8) : (sumL s k).take (4 * k) ++ (four (s.list.getD k 0) ++ (sumL s k).drop (4 * k + 4)) = sumL s (k + 1) := by
  match k, hk with
  | 0, _ => rfl
  | 1, _ => rfl
  | 2, _ => rfl
  | 3, _ => rfl
  | 4, _ => rfl
  | 5, _ => rfl
  | 6, _ => rfl
  | 7, _ => rfl
theorem sumL_end (s : S8) : sumL s 8 = bytes8 s := rfl
theorem there8 {w : World} {B : Nat} {X : List Nat} {T : TypeId} (h : w.heap[B]? = some (.cells (u8s X) T (0, 0))) : w.there B 0 X.length := fun j hj =>
  ⟨by rw [Nat.zero_add, row8 h hj]; rfl, blk_free h⟩
theorem u8s_one (X : List Nat) : (u8s X).all (·.oneCell') = true := by
  unfold u8s
  exact all_oneCell_toArray (fun v hv => by simp only [List.mem_map] at hv; obtain ⟨z, _, rfl⟩ := hv; rfl)
theorem u8s_list (X : List Nat) : (u8s X).toList = b8 X := rfl
theorem u8s_b8 (X : List Nat) : u8s X = (b8 X).toArray := rfl
theorem tail_is (M : List Nat) (n : Nat) (hn : n = gap M.length + 9) (hb : M.length ≤ 140737488355328) : (padL n (8 * M.length) 8).take n = tail M.length := by
  have := gap_lt M.length
  rw [padL_end n _ (by omega) (by omega), tail, hn, Nat.add_sub_cancel, Nat.mod_eq_of_lt (by omega)]
theorem zlit4 : (#[Value.int IntKind.u8 0, Value.int IntKind.u8 0, Value.int IntKind.u8 0, Value.int IntKind.u8 0] : Array Value) = u8s (zeros 4) := by rfl
theorem set_all8 {w : World} {B : Nat} {T : TypeId} (X Y : List Nat) (h : w.heap[B]? = some (.cells (u8s Y) T (0, 0))) (hl : X.length = Y.length) : (w.setCells B 0 (u8s X).toList).heap[B]? = some (.cells (u8s X) T (0, 0)) := by
  have e := blk_setCells (u8s X).toList 0 w (u8s Y).toList (by simp [u8s_size]; omega) (by rw [Array.toArray_toList]; exact h)
  rw [e, List.take_zero, List.nil_append, List.drop_eq_nil_of_le (by simp [u8s_size]; omega), List.append_nil, Array.toArray_toList]
set_option maxHeartbeats 3200000 in
set_option maxRecDepth 100000 in
theorem finish_c (g : Nat) (M : List Nat) (w : World) (hT : Took w g M) (ht : Tbl w) (hM : All8 M) (hgt : g ≠ 2) (hbig : M.length ≤ 140737488355328) :
    Calls Tryd.prog 110 #[.pointer (some ⟨g, 0, none⟩)] w fun e w' => e = .returned (.agg (u8s (sha M))) ∧ w.grownBy w' (some g) := by
  have HTK := hide hT
  obtain ⟨B0, hB0, hB8, hBr, hH⟩ := hT
  have HT := hide ht
  have c72 := hsh_used hH hB0
  have c73 := hsh_len hH hB0
  have hlt := heap_lt hH
  obtain ⟨u, hud⟩ : ∃ u, u = M.length % 64 := ⟨_, rfl⟩
  have hu : u < 64 := by omega
  have HU := hide hud
  rw [← hud] at c72
  have h8 : (0 : Int) ≤ (M.length : Int) * 8 := by omega
  clear hBr hB0 hH ht hud hB8
  obtain ⟨n, hnd⟩ : ∃ n, n = gap M.length + 9 := ⟨_, rfl⟩
  have hn9 : 9 ≤ n := by omega
  have hn72 : n ≤ 72 := by have := gap_lt M.length; omega
  have HND := hide hnd
  have hE : (decide ((64 : Int) - (u : Int) < 9) = true ∧ (64 : Int) - (u : Int) + 64 = (n : Int)) ∨ (decide ((64 : Int) - (u : Int) < 9) = false ∧ (64 : Int) - (u : Int) = (n : Int)) := by
    have := HU.out
    unfold gap at hnd
    by_cases h9 : 64 - u < 9
    · exact Or.inl ⟨by simp; omega, by omega⟩
    · exact Or.inr ⟨by simp; omega, by omega⟩
  clear hnd
  have Hpad := hide (heap_2b w (.cells (u8s (zeros 32)) 79) (.cells (Tryd.zeroCells230.setIfInBounds 0 (Value.int IntKind.u8 128)) 230))
  rw [pad0 n (8 * M.length) (by omega) (by omega)] at Hpad
  have Hres := hide (heap_2a w (.cells (u8s (zeros 32)) 79) (.cells (u8s (padL n (8 * M.length) 0)) 230))
  have HB := hide (((Below.refl w.heap.size w).alloc (Nat.le_refl _) (.cells (u8s (zeros 32)) 79)).alloc (by simp) (.cells (u8s (padL n (8 * M.length) 0)) 230))
  rcases hE with ⟨hq, hE⟩ | ⟨hq, hE⟩
  all_goals
    have HE := hide hE
    clear hE
    go_enter Tryd.func110, Tryd.ntmps110
    go_wp2_with fail
    rw [HE.out, zlit8, pad0 n (8 * M.length) (by omega) (by omega)]
    clear HE hq
    generalize ((w.alloc (.cells (u8s (zeros 32)) 79)).alloc (.cells (u8s (padL n (8 * M.length) 0)) 230)) = w1 at *
    clear c72 c73
    go_loopw [26, 6] (fun i _ wr => ∃ k : Nat, k ≤ 8 ∧ i = .int .i64 k ∧ wr.heap[w.heap.size + 1]? = some (.cells (u8s (padL n (8 * M.length) k)) 230 (0, 0)) ∧ wr.heap[w.heap.size]? = some (.cells (u8s (zeros 32)) 79 (0, 0)) ∧ Below w.heap.size w wr) (fun i _ _ => 8 - (intOf i).toNat)
    case atStart => exact ⟨0, by omega, rfl, Hpad.out, Hres.out, HB.out⟩
    case round =>
      clear Hpad Hres HB
      obtain ⟨k, hk, rfl, h1, h2, hb⟩ := hrel
      have H1 := hide h1
      have H2 := hide h2
      have HB := hide hb
      clear h1 h2 hb
      by_cases hlk : k < 8
      · have hd : decide ((k : Int) < 8) = true := by simp; omega
        have i0 : (0 : Int) ≤ (n : Int) - 1 - (k : Int) := by omega
        have i1 : (n : Int) - 1 - (k : Int) < 128 := by omega
        have it : ((n : Int) - 1 - (k : Int)).toNat = n - 1 - k := by omega
        have hcx := row8 (i := n - 1 - k) H1.out (by rw [padL_length n _ k hn9 (by omega) hk]; omega)
        have hfx := blk_free (i := n - 1 - k) H1.out
        generalize (padL n (8 * M.length) k).getD (n - 1 - k) 0 = old at *
        as_aux_lemma =>
          go_wp2
          go_roundw
          case rel =>
            have e := blk_set (i := n - 1 - k) H1.out (Value.int IntKind.u8 (((8 * M.length) / 2 ^ (8 * k) % 256 : Nat) : Int))
            rw [u8s_set, padL_step n _ k hn9 hlk] at e
            have ev : (M.length : Int) * 8 / 2 ^ (8 * k) % 256 = (((8 * M.length) / 2 ^ (8 * k) % 256 : Nat) : Int) := by
              rw [Int.natCast_emod, Int.natCast_ediv, Int.natCast_mul, Int.natCast_pow, Int.mul_comm]; rfl
            refine ⟨k + 1, by omega, by go_num, ?_, blk_set_other H2.out (by omega) _, HB.out.setCell (by simp) _⟩
            rw [ev]
            exact e
          case measure => simp [intOf]; omega
      · have hk8 : k = 8 := by omega
        subst hk8
        have hsl := fun v : World => sliceH128 v (w.heap.size + 1) n (by omega) (by omega)
        have hd : decide (((8 : Nat) : Int) < 8) = false := by simp
        as_aux_lemma =>
          have HTail := hide (tail_is M n HND.out hbig)
          have Htk : Hid (Took wr g M) := by
            obtain ⟨B, h1, h2, h3, h4⟩ := HTK.out
            exact ⟨B, h1, h2, h3, below_blk HB.out hlt h4⟩
          have HTb := hide (tbl_keep HT.out HB.out (Nat.le_refl _))
          have Hsrc : Hid (SrcN wr g (some ⟨w.heap.size + 1, 0, none⟩) n (tail M.length)) := by
            refine ⟨by rw [tail_length, HND.out], all8_tail _, w.heap.size + 1, 0, fun _ => rfl, fun _ => by omega, fun i hi => ?_⟩
            have e := row8 (i := i) H1.out (by rw [padL_length n _ 8 hn9 (by omega) (by omega)]; omega)
            rw [Nat.zero_add, e, ← HTail.out]
            congr 3
            simp [List.getD, List.getElem?_take_of_lt hi]
          go_wp2_with fail
          clear hsl hd
          refine (write_c g M _ n 128 (tail M.length) wr Htk.out HTb.out Hsrc.out (by omega) hgt (by omega)).mono ?_
          rintro e w2 ⟨rfl, hTk, hG⟩
          obtain ⟨B, hBl, hB8, hBr, hHs⟩ := hTk
          have H3 : Hid (Hsh w2 g (st (padded M)) B (((M ++ tail M.length).length % 64 : Nat) : Int) ((M ++ tail M.length).length : Int)) := hHs
          have HG2 := hide (grown_trans (grown_below (World.grownBy.refl w (some g)) HB.out (Nat.le_refl _)) hG)
          have HR2 : Hid (w2.heap[w.heap.size]? = some (.cells (u8s (zeros 32)) 79 (0, 0))) := (hG.block _ (heap_lt H2.out) (fun e => by injection e; omega)).trans H2.out
          clear hBr hHs hG Htk HTb Hsrc HTail H1 H2 HB HTK HT
          obtain ⟨s, hs⟩ : ∃ s, s = st (padded M) := ⟨_, rfl⟩
          have HSS := hide hs
          rw [← hs] at H3
          clear hs
          have hsok : Hid s.ok := by rw [HSS.out]; exact st_ok _
          have HSB := hide (heap_last w2 (.cells (u8s (zeros 32)) 79))
          have HGA := hide (grown_below HG2.out (below_new w2 (.cells (u8s (zeros 32)) 79)) HG2.out.size)
          have HRA := hide (heap_old HR2.out (.cells (u8s (zeros 32)) 79))
          have hlS : w.heap.size < w2.heap.size := heap_lt HR2.out
          have Hrw := hide (World.rangeAt_alloc (hsh_words H3.out) (.cells (u8s (zeros 32)) 79))
          clear HR2 HG2 H3
          go_wp2_with (refine wpList_load_mid rfl 193 (.tmp 46) rfl g 0 rfl _ _ Hrw.out Tryd.underlying193 rfl (by rw [info8]; rfl) ?_)
          rw [Array.toArray_toList, zlit8]
          clear Hrw
          generalize hSB : w2.heap.size = SB at *
          clear hSB
          generalize (w2.alloc (.cells (u8s (zeros 32)) 79)) = w3 at *
          go_loopw [48, 8, 9, 10] (fun i _ _ _ wr => ∃ k : Nat, k ≤ 8 ∧ i = .int .i64 k ∧ wr.heap[SB]? = some (.cells (u8s (sumL s k)) 79 (0, 0)) ∧ wr.heap[w.heap.size]? = some (.cells (u8s (zeros 32)) 79 (0, 0)) ∧ w.grownBy wr (some g)) (fun i _ _ _ _ => 8 - (intOf i).toNat)
          case atStart => exact ⟨0, by omega, rfl, HSB.out, HRA.out, HGA.out⟩
          case round =>
            clear HSB HRA HGA
            obtain ⟨k, hk, rfl, h1, h2, h3⟩ := hrel
            have H1 := hide h1
            have H2 := hide h2
            have HG := hide h3
            clear h1 h2 h3
            by_cases hlk : k < 8
            · have hix := index_row8 s.list k rfl hlk
              have hb32 := all32_getD hsok.out k
              have Hst := hide (sumL_step s k hlk)
              obtain ⟨x, hx⟩ : ∃ x, x = s.list.getD k 0 := ⟨_, rfl⟩
              rw [← hx] at hix hb32 Hst
              clear hx
              have hd : decide ((k : Int) < 8) = true := by simp; omega
              have hk0 : (0 : Int) ≤ (k : Int) := by omega
              have hk1 : (k : Int) < 8 := by omega
              go_wp2_with fail
              refine (bytesOf_c x _ hb32).mono ?_
              rintro e w4 ⟨rfl, hb4⟩
              clear hix
              have hz4 := hb4.size
              have HSZ := hide (heap_lt H1.out)
              have H1a := hide (below_blk hb4 (heap_lt H1.out) H1.out)
              have H2a := hide (below_blk hb4 (heap_lt H2.out) H2.out)
              have HGa := hide (grown_below HG.out hb4 HG.out.size)
              clear hb4 H1 H2 HG
              have Hz := hide (heap_last w4 (.cells (u8s (zeros 4)) 231))
              have hlSB := heap_lt H1a.out
              go_wp2_with (refine wpList_store_mid rfl 231 (.tmp 10) (.tmp 53) rfl w4.heap.size 0 _ rfl rfl ?_ ?_ ?_ ?_)
              · rw [zlit4]
                exact there8 Hz.out
              · rw [info4]; rfl
              · exact u8s_one (four x)
              rw [zlit4]
              have Hb5 : Hid (Below w4.heap.size w4 ((w4.alloc (.cells (u8s (zeros 4)) 231)).setCells w4.heap.size 0 (u8s (four x)).toList)) := below_setCells _ _ _ _ (below_new _ _) (Nat.le_refl _)
              have H4 := hide (set_all8 (four x) (zeros 4) Hz.out rfl)
              have H1b := hide (below_blk Hb5.out hlSB H1a.out)
              have H2b := hide (below_blk Hb5.out (heap_lt H2a.out) H2a.out)
              have HGb := hide (grown_below HGa.out Hb5.out HGa.out.size)
              clear H1a H2a HGa Hz Hb5
              have hsl := fun v : World => sliceLS v SB (4 * k) (by omega)
              have hs4 := fun v : World => slice4 v w4.heap.size
              rw [show ((4 * k : Nat) : Int) = 4 * (k : Int) by omega] at hsl
              generalize ((w4.alloc (.cells (u8s (zeros 4)) 231)).setCells w4.heap.size 0 (u8s (four x)).toList) = w5 at *
              generalize w4.heap.size = FB at *
              as_aux_lemma =>
                go_wp2_with fail
                have hwr : IntKind.i64.wrap (4 * (k : Int)) = 4 * (k : Int) := IntWalk.i64_in _ (by omega)
                go_still_tail 4, (by kernel_rfl)
                refine wpList_copy_own rfl (.tmp 56) (.tmp 57) 22 22 rfl 5 Tryd.underlying22 info_u8s SB (4 * k) (32 - 4 * k) (32 - 4 * k) ⟨FB, 0, none⟩ 4 4 rfl rfl (u8s (sumL s k)) 79 H1b.out (b8 (four x)) ?_ ?_ ?_ (b8_one _) ?_
                · rw [b8_length]; show 4 = min 4 (32 - 4 * k); omega
                · intro j v hv
                  obtain ⟨hj, rfl⟩ := b8_at hv
                  rw [Addr.add_mid, Nat.zero_add]
                  exact row8 (w := w5.drew) H4.out hj
                · rw [b8_length, u8s_size, sumL_length s k hk]; show 4 * k + 4 ≤ 32; omega
                have e6 := setRow_heap w5.drew SB _ ((u8s (sumL s k)).toList.take (4 * k) ++ (b8 (four x) ++ (u8s (sumL s k)).toList.drop (4 * k + (b8 (four x)).length))).toArray _ _ H1b.out
                rw [show ((u8s (sumL s k)).toList.take (4 * k) ++ (b8 (four x) ++ (u8s (sumL s k)).toList.drop (4 * k + (b8 (four x)).length))).toArray = u8s (sumL s (k + 1)) by
                  rw [← Hst.out, u8s_list, b8_length, u8s_b8]
                  congr 1
                  simp [b8, four]] at e6 ⊢
                have H6 := hide e6
                have H2c : Hid ((w5.drew.setRow SB (u8s (sumL s (k + 1)))).heap[w.heap.size]? = some (.cells (u8s (zeros 32)) 79 (0, 0))) := (setRow_other w5.drew SB _ _ (by omega)).trans H2b.out
                have HGc : Hid (w.grownBy (w5.drew.setRow SB (u8s (sumL s (k + 1)))) (some g)) :=
                  ⟨HGb.out.os, HGb.out.tape, HGb.out.output, by have := HGb.out.size; simpa [World.setRow] using this, fun i hi hne => (setRow_other w5.drew SB i _ (by omega)).trans (HGb.out.block i hi hne)⟩
                clear e6 hsl hs4 H1b H2b HGb H4
                show wpList _ _ _ _ (Act.put _ _ (goInt 4)) (w5.drew.setRow SB (u8s (sumL s (k + 1))))
                generalize (w5.drew.setRow SB (u8s (sumL s (k + 1)))) = w6 at *
                go_wp2
                go_roundw
                case rel => exact ⟨k + 1, by omega, by go_num, H6.out, H2c.out, HGc.out⟩
                case measure => simp [intOf]; omega
            · have hk8 : k = 8 := by omega
              subst hk8
              have h1 := H1.out
              rw [sumL_end] at h1
              obtain ⟨X, hX⟩ : ∃ X, X = bytes8 s := ⟨_, rfl⟩
              have hXl : X.length = 32 := by rw [hX]; rfl
              rw [← hX] at h1
              have HX : Hid (sha M = X) := by show _ = _; rw [hX, HSS.out]; rfl
              clear hX
              have hr := hide (range8_all h1)
              have ht := hide (there8 H2.out)
              have Hsz : Hid ((u8s X).toList.length = 32) := by show _ = _; simp [u8s_size, hXl]
              have Hs2 : Hid ((u8s X).toList.toArray.size = 32) := by show _ = _; rw [Array.toArray_toList, u8s_size, hXl]
              have HXl := hide hXl
              clear h1 H1 hXl
              as_aux_lemma =>
                go_wp2_with (first
                  | (refine wpList_load_mid rfl 79 (.tmp 7) rfl SB 0 rfl _ _ hr.out Tryd.underlying79 rfl (by rw [infoS, Hsz.out]) ?_)
                  | (refine wpList_store_mid rfl 79 (.tmp 2) (.tmp 60) rfl w.heap.size 0 _ rfl rfl ?_ ?_ ?_ ?_))
                · rw [Hs2.out]; exact ht.out
                · rw [infoS, Hs2.out]
                · rw [Array.toArray_toList]; exact u8s_one _
                rw [Array.toArray_toList]
                have e := set_all8 X (zeros 32) H2.out HXl.out
                have HGd : w.grownBy (wr.setCells w.heap.size 0 (u8s X).toList) (some g) := by
                  have hb : Below w.heap.size wr (wr.setCells w.heap.size 0 (u8s X).toList) := below_setCells _ _ _ _ (Below.refl _ _) (Nat.le_refl _)
                  exact grown_below HG.out hb (Nat.le_refl _)
                refine bodyPost_ret (v := .agg (u8s (sha M))) ?_ rfl ⟨rfl, HGd⟩
                rw [results_one_cell Tryd.results110, HX.out]
                have h4 := run_loadVar_mid (P := Tryd.prog) (wr.setCells w.heap.size 0 (u8s X).toList) w.heap.size 0 79 (u8s X).toList _ (range8_all e) Tryd.underlying79 rfl (by rw [infoS, Hsz.out])
                rw [Array.toArray_toList] at h4
                simpa [asAddr, Act.put] using h4
end Go.Proofs.YtifepgigkmhdaaaDoor.Sf
