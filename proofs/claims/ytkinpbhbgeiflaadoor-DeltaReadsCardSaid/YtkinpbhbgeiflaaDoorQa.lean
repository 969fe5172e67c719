/- Several texts, one behind the other. -/
import Derived.WalkKit
import Derived.Laws.BitsAllLaws
import Derived.Below
import Derived.Deep.Draws
import Derived.Test.YtkinpbhbgeiflaaDoorRows
import Derived.ProofKit
import Derived.Outline
import Derived.Deep.QuietTactic
import Derived.BigQuiet
import Derived.Deep.RegionHeld3
import Derived.Deep.MidRow
import Derived.Deep.RegionWith
import Derived.LaidMore
import Derived.OpenShut
import Derived.Stop.Joined
import Derived.Lib.LaidTab
import Derived.Stop.LaidErr
import Derived.Laws.CopyOwn
import Derived.WideShapes
import Derived.Deep.Strs
/- SHA-256 in plain numbers. Nothing of the program. -/
namespace Go.Proofs.YtkinpbhbgeiflaaDoor.Sm
set_option linter.unusedVariables false
set_option linter.unusedSimpArgs false
set_option maxRecDepth 100000

def M : Nat := 4294967296
def rotr (x n : Nat) : Nat := x >>> n ||| (x <<< (32 - n)) % 4294967296
def bS0 (x : Nat) : Nat := rotr x 2 ^^^ rotr x 13 ^^^ rotr x 22
def bS1 (x : Nat) : Nat := rotr x 6 ^^^ rotr x 11 ^^^ rotr x 25
def lS0 (x : Nat) : Nat := rotr x 7 ^^^ rotr x 18 ^^^ x >>> 3
def lS1 (x : Nat) : Nat := rotr x 17 ^^^ rotr x 19 ^^^ x >>> 10
def chs (x y z : Nat) : Nat := x &&& y ^^^ (4294967295 - x) &&& z
def maj (x y z : Nat) : Nat := x &&& y ^^^ x &&& z ^^^ y &&& z
def wd (a b c d : Nat) : Nat := a * 16777216 + b * 65536 + c * 256 + d

theorem pow32 : (2 : Nat) ^ 32 = 4294967296 := by decide
theorem shr_lt {x n : Nat} (h : x < 4294967296) : x >>> n < 4294967296 := Nat.lt_of_le_of_lt (by rw [Nat.shiftRight_eq_div_pow]; exact Nat.div_le_self _ _) h
theorem xor_lt {x y : Nat} (h : x < 4294967296) (h' : y < 4294967296) : x ^^^ y < 4294967296 := by rw [← pow32] at *; exact Nat.xor_lt_two_pow h h'
theorem or_lt {x y : Nat} (h : x < 4294967296) (h' : y < 4294967296) : x ||| y < 4294967296 := by rw [← pow32] at *; exact Nat.or_lt_two_pow h h'
theorem and_lt {x y : Nat} (h : y < 4294967296) : x &&& y < 4294967296 := by rw [← pow32] at *; exact Nat.and_lt_two_pow _ h
theorem rotr_lt {x n : Nat} (h : x < 4294967296) : rotr x n < 4294967296 := or_lt (shr_lt h) (Nat.mod_lt _ (by decide))
theorem bS0_lt {x : Nat} (h : x < 4294967296) : bS0 x < 4294967296 := xor_lt (xor_lt (rotr_lt h) (rotr_lt h)) (rotr_lt h)
theorem bS1_lt {x : Nat} (h : x < 4294967296) : bS1 x < 4294967296 := xor_lt (xor_lt (rotr_lt h) (rotr_lt h)) (rotr_lt h)
theorem lS0_lt {x : Nat} (h : x < 4294967296) : lS0 x < 4294967296 := xor_lt (xor_lt (rotr_lt h) (rotr_lt h)) (shr_lt h)
theorem lS1_lt {x : Nat} (h : x < 4294967296) : lS1 x < 4294967296 := xor_lt (xor_lt (rotr_lt h) (rotr_lt h)) (shr_lt h)
theorem chs_lt {x y z : Nat} (hy : y < 4294967296) (hz : z < 4294967296) : chs x y z < 4294967296 := xor_lt (and_lt hy) (and_lt hz)
theorem maj_lt {x y z : Nat} (hy : y < 4294967296) (hz : z < 4294967296) : maj x y z < 4294967296 := xor_lt (xor_lt (and_lt hy) (and_lt hz)) (and_lt hz)
theorem wd_lt {a b c d : Nat} (ha : a < 256) (hb : b < 256) (hc : c < 256) (hd : d < 256) : wd a b c d < 4294967296 := by unfold wd; omega

/-- Words of 32 bits; bytes. -/
def All32 (X : List Nat) : Prop := ∀ x ∈ X, x < 4294967296
def All8 (X : List Nat) : Prop := ∀ x ∈ X, x < 256
theorem all32_getD {X : List Nat} (h : All32 X) (i : Nat) : X.getD i 0 < 4294967296 := by
  by_cases hi : i < X.length
  · simp only [List.getD, List.getElem?_eq_getElem hi, Option.getD_some]; exact h _ (List.getElem_mem hi)
  · simp [List.getD, List.getElem?_eq_none (Nat.le_of_not_lt hi)]
theorem all8_getD {X : List Nat} (h : All8 X) (i : Nat) : X.getD i 0 < 256 := by
  by_cases hi : i < X.length
  · simp only [List.getD, List.getElem?_eq_getElem hi, Option.getD_some]; exact h _ (List.getElem_mem hi)
  · simp [List.getD, List.getElem?_eq_none (Nat.le_of_not_lt hi)]
def w16 (L : List Nat) (i : Nat) : Nat := wd (L.getD (4 * i) 0) (L.getD (4 * i + 1) 0) (L.getD (4 * i + 2) 0) (L.getD (4 * i + 3) 0)
def W16 (L : List Nat) : List Nat := (List.range 16).map (w16 L)
def nxt (X : List Nat) : Nat := (lS1 (X.getD (X.length - 2) 0) + X.getD (X.length - 7) 0 + lS0 (X.getD (X.length - 15) 0) + X.getD (X.length - 16) 0) % 4294967296
def ext : Nat → List Nat → List Nat
  | 0, X => X
  | n + 1, X => ext n X ++ [nxt (ext n X)]
def sched (L : List Nat) : List Nat := ext 48 (W16 L)
theorem W16_length (L : List Nat) : (W16 L).length = 16 := by simp [W16]
theorem ext_length (n : Nat) (X : List Nat) : (ext n X).length = X.length + n := by
  induction n with
  | zero => rfl
  | succ n ih => simp [ext, ih]; omega
theorem sched_length (L : List Nat) : (sched L).length = 64 := by rw [sched, ext_length, W16_length]
theorem w16_lt {L : List Nat} (h : All8 L) (i : Nat) : w16 L i < 4294967296 := wd_lt (all8_getD h _) (all8_getD h _) (all8_getD h _) (all8_getD h _)
theorem W16_all {L : List Nat} (h : All8 L) : All32 (W16 L) := by
  intro x hx
  simp only [W16, List.mem_map] at hx
  obtain ⟨i, _, rfl⟩ := hx
  exact w16_lt h i
theorem nxt_lt (X : List Nat) : nxt X < 4294967296 := Nat.mod_lt _ (by decide)
theorem ext_all {X : List Nat} (h : All32 X) (n : Nat) : All32 (ext n X) := by
  induction n with
  | zero => exact h
  | succ n ih =>
    intro x hx
    simp only [ext, List.mem_append, List.mem_singleton] at hx
    rcases hx with hx | rfl
    · exact ih x hx
    · exact nxt_lt _
theorem sched_all {L : List Nat} (h : All8 L) : All32 (sched L) := ext_all (W16_all h) 48
theorem set_grow (X : List Nat) (n y : Nat) : (X ++ List.replicate (n + 1) 0).set X.length y = (X ++ [y]) ++ List.replicate n 0 := by
  rw [List.replicate_succ]; simp
theorem W16_take (L : List Nat) (k : Nat) (h : k < 16) : (W16 L).take (k + 1) = (W16 L).take k ++ [w16 L k] := by
  rw [List.take_succ_eq_append_getElem (by rw [W16_length]; exact h)]
  simp [W16]
theorem getD_left (X Y : List Nat) (i : Nat) (h : i < X.length) : (X ++ Y).getD i 0 = X.getD i 0 := by simp [List.getD, List.getElem?_append_left h]

/-- The state: eight words. -/
structure S8 where
  a : Nat
  b : Nat
  c : Nat
  d : Nat
  e : Nat
  f : Nat
  g : Nat
  h : Nat
def S8.list (s : S8) : List Nat := [s.a, s.b, s.c, s.d, s.e, s.f, s.g, s.h]
def S8.ok (s : S8) : Prop := All32 s.list
def Ks : List Nat := [1116352408, 1899447441, 3049323471, 3921009573, 961987163, 1508970993, 2453635748, 2870763221, 3624381080, 310598401, 607225278, 1426881987, 1925078388, 2162078206, 2614888103, 3248222580, 3835390401, 4022224774, 264347078, 604807628, 770255983, 1249150122, 1555081692, 1996064986, 2554220882, 2821834349, 2952996808, 3210313671, 3336571891, 3584528711, 113926993, 338241895, 666307205, 773529912, 1294757372, 1396182291, 1695183700, 1986661051, 2177026350, 2456956037, 2730485921, 2820302411, 3259730800, 3345764771, 3516065817, 3600352804, 4094571909, 275423344, 430227734, 506948616, 659060556, 883997877, 958139571, 1322822218, 1537002063, 1747873779, 1955562222, 2024104815, 2227730452, 2361852424, 2428436474, 2756734187, 3204031479, 3329325298]
def H0 : S8 := ⟨1779033703, 3144134277, 1013904242, 2773480762, 1359893119, 2600822924, 528734635, 1541459225⟩
def one (s : S8) (k w : Nat) : Nat := (s.h + bS1 s.e + chs s.e s.f s.g + k + w) % 4294967296
def two (s : S8) : Nat := (bS0 s.a + maj s.a s.b s.c) % 4294967296
def S8.step (s : S8) (k w : Nat) : S8 := ⟨(one s k w + two s) % 4294967296, s.a, s.b, s.c, (s.d + one s k w) % 4294967296, s.e, s.f, s.g⟩
def rounds (W : List Nat) (s : S8) : Nat → S8
  | 0 => s
  | n + 1 => (rounds W s n).step (Ks.getD n 0) (W.getD n 0)
def S8.add (s v : S8) : S8 := ⟨(s.a + v.a) % 4294967296, (s.b + v.b) % 4294967296, (s.c + v.c) % 4294967296, (s.d + v.d) % 4294967296, (s.e + v.e) % 4294967296, (s.f + v.f) % 4294967296, (s.g + v.g) % 4294967296, (s.h + v.h) % 4294967296⟩
def compress (s : S8) (B : List Nat) : S8 := s.add (rounds (sched B) s 64)
theorem S8.bd {s : S8} (h : s.ok) : s.a < 4294967296 ∧ s.b < 4294967296 ∧ s.c < 4294967296 ∧ s.d < 4294967296 ∧ s.e < 4294967296 ∧ s.f < 4294967296 ∧ s.g < 4294967296 ∧ s.h < 4294967296 := by
  refine ⟨h _ ?_, h _ ?_, h _ ?_, h _ ?_, h _ ?_, h _ ?_, h _ ?_, h _ ?_⟩ <;> simp [S8.list]
theorem S8.ok_mk {a b c d e f g h : Nat} (ha : a < 4294967296) (hb : b < 4294967296) (hc : c < 4294967296) (hd : d < 4294967296) (he : e < 4294967296) (hf : f < 4294967296) (hg : g < 4294967296) (hh : h < 4294967296) : S8.ok ⟨a, b, c, d, e, f, g, h⟩ := by
  intro z hz
  simp only [S8.list, List.mem_cons, List.not_mem_nil, or_false] at hz
  omega
theorem H0_ok : H0.ok := S8.ok_mk (by decide) (by decide) (by decide) (by decide) (by decide) (by decide) (by decide) (by decide)
theorem mod_lt32 (x : Nat) : x % 4294967296 < 4294967296 := Nat.mod_lt _ (by decide)
theorem step_ok {s : S8} (h : s.ok) (k w : Nat) : (s.step k w).ok := by
  obtain ⟨h1, h2, h3, h4, h5, h6, h7, h8⟩ := S8.bd h
  exact S8.ok_mk (mod_lt32 _) h1 h2 h3 (mod_lt32 _) h5 h6 h7
theorem rounds_ok {s : S8} (h : s.ok) (W : List Nat) (n : Nat) : (rounds W s n).ok := by
  induction n with
  | zero => exact h
  | succ n ih => exact step_ok ih _ _
theorem add_ok (s v : S8) : (s.add v).ok := S8.ok_mk (mod_lt32 _) (mod_lt32 _) (mod_lt32 _) (mod_lt32 _) (mod_lt32 _) (mod_lt32 _) (mod_lt32 _) (mod_lt32 _)
theorem compress_ok (s : S8) (B : List Nat) : (compress s B).ok := add_ok _ _
theorem Ks_length : Ks.length = 64 := by decide
theorem Ks_all : All32 Ks := by
  intro x hx
  have : ∀ y ∈ Ks, y < 4294967296 := by decide
  exact this x hx
end Go.Proofs.YtkinpbhbgeiflaaDoor.Sm
/- Small facts on worlds and blocks, for any program. -/
namespace Go.Proofs.YtkinpbhbgeiflaaDoor.Wu
set_option linter.unusedVariables false
set_option linter.unusedSimpArgs false
set_option maxRecDepth 100000
open Go.RowKit

/-- A fact kept from the walk. -/
theorem hide {p : Prop} (h : p) : Hid p := h
theorem heap_last (w : World) (o : Obj) : (w.alloc o).heap[w.heap.size]? = some o := by
  show (w.heap.push o)[w.heap.size]? = _
  rw [Array.getElem?_push, if_pos rfl]
theorem heap_old {w : World} {k : Nat} {x : Obj} (h : w.heap[k]? = some x) (o : Obj) : (w.alloc o).heap[k]? = some x := by
  have hk : k < w.heap.size := (Array.getElem?_eq_some_iff.1 h).1
  rw [Below.heap_alloc w o k hk]; exact h
theorem heap_2a (w : World) (o p : Obj) : ((w.alloc o).alloc p).heap[w.heap.size]? = some o := heap_old (heap_last w o) p
theorem heap_2b (w : World) (o p : Obj) : ((w.alloc o).alloc p).heap[w.heap.size + 1]? = some p := by
  have := heap_last (w.alloc o) p
  rwa [World.size_alloc] at this
theorem heap_lt {w : World} {k : Nat} {x : Obj} (h : w.heap[k]? = some x) : k < w.heap.size := (Array.getElem?_eq_some_iff.1 h).1
theorem below_blk {B k : Nat} {w w' : World} {x : Obj} (hb : Below B w w') (hk : k < B) (h : w.heap[k]? = some x) : w'.heap[k]? = some x := (hb.block k hk).trans h
theorem below_drewN {B : Nat} {a w : World} (h : Below B a w) (n : Nat) : Below B a (w.drewN n) := ⟨h.os, h.tape, h.output, h.size, h.block⟩
theorem blk_cell {w : World} {B i : Nat} {c : Array Value} {T : TypeId} {f : Nat × Nat} {x : Value} (h : w.heap[B]? = some (.cells c T f)) (hx : c[i]? = some x) : w.cell? ⟨B, i, none⟩ = some x := by
  unfold World.cell?
  rw [h]
  simpa using hx
theorem blk_free {w : World} {B i : Nat} {c : Array Value} {T : TypeId} (h : w.heap[B]? = some (.cells c T (0, 0))) : w.frozen? ⟨B, i, none⟩ = false := by
  unfold World.frozen?
  rw [h]
  simp
theorem blk_set {w : World} {B i : Nat} {c : Array Value} {T : TypeId} {f : Nat × Nat} (h : w.heap[B]? = some (.cells c T f)) (x : Value) : (w.setCell ⟨B, i, none⟩ x).heap[B]? = some (.cells (c.setIfInBounds i x) T f) := by
  simp [World.setCell, Array.getElem?_modify, h]
theorem blk_set_other {w : World} {B k i : Nat} {y : Obj} (h : w.heap[k]? = some y) (hk : k ≠ B) (x : Value) : (w.setCell ⟨B, i, none⟩ x).heap[k]? = some y := by
  rw [Below.heap_setCell _ _ _ _ hk]; exact h
theorem cell_lt {W : World} {p : Addr} {v : Value} (h : W.cell? p = some v) : p.block < W.heap.size := by
  unfold World.cell? at h
  split at h
  · exact heap_lt (by assumption)
  · simp at h
theorem keepC {B : Nat} {W u : World} {p : Addr} {v : Value} (hb : Below B W u) (hB : W.heap.size ≤ B) (h : W.cell? p = some v) : u.cell? p = some v := by
  rw [hb.cell (Nat.lt_of_lt_of_le (cell_lt h) hB)]; exact h
theorem keepB {B : Nat} {w W u : World} (hb : Below B W u) (hB : W.heap.size ≤ B) (h : Below w.heap.size w W) : Below w.heap.size w u := h.trans (hb.mono (Nat.le_trans h.size hB))
theorem below_new (W : World) (o : Obj) : Below W.heap.size W (W.alloc o) := (Below.refl _ _).alloc (Nat.le_refl _) _
theorem keep3 {B : Nat} {w W u : World} {p1 p2 p3 : Addr} {v1 v2 v3 : Value} (hb : Below B W u) (hB : W.heap.size ≤ B)
    (h : W.cell? p1 = some v1 ∧ W.cell? p2 = some v2 ∧ W.cell? p3 = some v3 ∧ Below w.heap.size w W) :
    u.cell? p1 = some v1 ∧ u.cell? p2 = some v2 ∧ u.cell? p3 = some v3 ∧ Below w.heap.size w u :=
  ⟨keepC hb hB h.1, keepC hb hB h.2.1, keepC hb hB h.2.2.1, keepB hb hB h.2.2.2⟩
theorem keep6 {B : Nat} {w W u : World} {p1 p2 p3 p4 p5 p6 : Addr} {v1 v2 v3 v4 v5 v6 : Value} (hb : Below B W u) (hB : W.heap.size ≤ B)
    (h : W.cell? p1 = some v1 ∧ W.cell? p2 = some v2 ∧ W.cell? p3 = some v3 ∧ W.cell? p4 = some v4 ∧ W.cell? p5 = some v5 ∧ W.cell? p6 = some v6 ∧ Below w.heap.size w W) :
    u.cell? p1 = some v1 ∧ u.cell? p2 = some v2 ∧ u.cell? p3 = some v3 ∧ u.cell? p4 = some v4 ∧ u.cell? p5 = some v5 ∧ u.cell? p6 = some v6 ∧ Below w.heap.size w u :=
  ⟨keepC hb hB h.1, keepC hb hB h.2.1, keepC hb hB h.2.2.1, keepC hb hB h.2.2.2.1, keepC hb hB h.2.2.2.2.1, keepC hb hB h.2.2.2.2.2.1, keepB hb hB h.2.2.2.2.2.2⟩
theorem six_below {w u : World} {p1 p2 p3 p4 p5 p6 : Addr} {v1 v2 v3 v4 v5 v6 : Value} (h : u.cell? p1 = some v1 ∧ u.cell? p2 = some v2 ∧ u.cell? p3 = some v3 ∧ u.cell? p4 = some v4 ∧ u.cell? p5 = some v5 ∧ u.cell? p6 = some v6 ∧ Below w.heap.size w u) : Below w.heap.size w u := h.2.2.2.2.2.2
theorem three_below {w u : World} {p1 p2 p3 : Addr} {v1 v2 v3 : Value} (h : u.cell? p1 = some v1 ∧ u.cell? p2 = some v2 ∧ u.cell? p3 = some v3 ∧ Below w.heap.size w u) : Below w.heap.size w u := h.2.2.2
/-- the six facts of a block of three cells. -/
theorem blk3 {w : World} {B : Nat} {x y z : Value} {T : TypeId} (h : w.heap[B]? = some (.cells #[x, y, z] T (0, 0))) :
    w.cell? ⟨B, 0, none⟩ = some x ∧ w.cell? ⟨B, 1, none⟩ = some y ∧ w.cell? ⟨B, 2, none⟩ = some z ∧ w.frozen? ⟨B, 0, none⟩ = false ∧ w.frozen? ⟨B, 1, none⟩ = false ∧ w.frozen? ⟨B, 2, none⟩ = false :=
  ⟨blk_cell h rfl, blk_cell h rfl, blk_cell h rfl, blk_free h, blk_free h, blk_free h⟩
theorem blk3_set {w : World} {B : Nat} {x y z : Value} {T : TypeId} (h : w.heap[B]? = some (.cells #[x, y, z] T (0, 0))) (a b c : Value) :
    (((w.setCell ⟨B, 0, none⟩ a).setCell ⟨B, 1, none⟩ b).setCell ⟨B, 2, none⟩ c).heap[B]? = some (.cells #[a, b, c] T (0, 0)) := by
  have := blk_set (i := 2) (blk_set (i := 1) (blk_set (i := 0) h a) b) c
  simpa using this
theorem below_set3 {w u : World} {N B : Nat} (h : Below N u w) (hB : N ≤ B) (a b c : Value) :
    Below N u (((w.setCell ⟨B, 0, none⟩ a).setCell ⟨B, 1, none⟩ b).setCell ⟨B, 2, none⟩ c) := ((h.setCell hB _).setCell hB _).setCell hB _
end Go.Proofs.YtkinpbhbgeiflaaDoor.Wu
/- The contracts of package sum's small functions. -/
namespace Go.Proofs.YtkinpbhbgeiflaaDoor.Sk
set_option linter.unusedVariables false
set_option linter.unusedSimpArgs false
set_option maxRecDepth 100000
open Go.ChangeShapes Go.WideShapes Go.ChangeAt Go.RowKit
open Go.Proofs.YtkinpbhbgeiflaaDoor.Wu Go.Proofs.YtkinpbhbgeiflaaDoor.Sm

theorem and31 (n s : Nat) (hn : 1 ≤ n) (hn' : n ≤ 31) (hs : s = 32 - n) : bits .and .u64 (IntKind.u64.wrap (-(n : Int))) 31 = (s : Int) := by
  rw [IntKind.wrap_u64]
  have e : (-(n : Int)) % 18446744073709551616 = ((18446744073709551616 - n : Nat) : Int) := by omega
  rw [e, u64_and _ _ (by omega) (by omega) (by omega) (by omega), Int.toNat_natCast, show (31 : Int).toNat = 2 ^ 5 - 1 from rfl, Nat.and_two_pow_sub_one_eq_mod]
  omega
theorem rot_is (x n s : Nat) (hx : x < 4294967296) (hn : 1 ≤ n) (hn' : n ≤ 31) (hs : s = 32 - n) :
    bits .or .u32 ((x : Int) * 2 ^ s % 4294967296) ((x : Int) / 2 ^ (32 - s)) = (rotr x n : Int) := by
  have e1 : (x : Int) * 2 ^ s % 4294967296 = (((x <<< s) % 4294967296 : Nat) : Int) := by
    rw [Nat.shiftLeft_eq, Int.natCast_emod, Int.natCast_mul, Int.natCast_pow]; rfl
  have e2 : ((x : Int) / 2 ^ (32 - s)) = ((x >>> n : Nat) : Int) := by
    rw [show 32 - s = n by omega, Nat.shiftRight_eq_div_pow, Int.natCast_ediv, Int.natCast_pow]; rfl
  rw [e1, e2, u32_or_nat _ _ (Nat.mod_lt _ (by decide)) (shr_lt hx)]
  unfold rotr
  rw [Nat.or_comm, ← hs]
theorem turned_any (x n : Nat) (w : World) (hx : x < 4294967296) (hn : 1 ≤ n) (hn' : n ≤ 31) :
    Calls Tryd.prog 141 #[.int .u32 (x : Int), .int .i64 (n : Int)] w fun e w' => e = .returned (.int .u32 (rotr x n : Int)) ∧ w = w' := by
  obtain ⟨s, hs⟩ : ∃ s, s = 32 - n := ⟨_, rfl⟩
  have ha := and31 n s hn hn' hs
  have Hr := hide (rot_is x n s hx hn hn' hs)
  have hs1 : 1 ≤ s := by omega
  have hs2 : s ≤ 31 := by omega
  have HS := hide hs
  clear hs
  go_enter Tryd.func141, Tryd.ntmps141
  go_wp2
  go_ret
  refine ⟨?_, rfl⟩
  show Ending.returned (.int .u32 (bits .or .u32 ((x : Int) * 2 ^ s % 4294967296) ((x : Int) / 2 ^ (32 - s)))) = _
  rw [Hr.out]
theorem turned_2 (x : Nat) (w : World) (hx : x < 4294967296) :
    Calls Tryd.prog 141 #[.int .u32 (x : Int), .int .i64 2] w fun e w' => e = .returned (.int .u32 (rotr x 2 : Int)) ∧ w = w' := turned_any x 2 w hx (by decide) (by decide)
theorem turned_13 (x : Nat) (w : World) (hx : x < 4294967296) :
    Calls Tryd.prog 141 #[.int .u32 (x : Int), .int .i64 13] w fun e w' => e = .returned (.int .u32 (rotr x 13 : Int)) ∧ w = w' := turned_any x 13 w hx (by decide) (by decide)
theorem turned_22 (x : Nat) (w : World) (hx : x < 4294967296) :
    Calls Tryd.prog 141 #[.int .u32 (x : Int), .int .i64 22] w fun e w' => e = .returned (.int .u32 (rotr x 22 : Int)) ∧ w = w' := turned_any x 22 w hx (by decide) (by decide)
theorem turned_6 (x : Nat) (w : World) (hx : x < 4294967296) :
    Calls Tryd.prog 141 #[.int .u32 (x : Int), .int .i64 6] w fun e w' => e = .returned (.int .u32 (rotr x 6 : Int)) ∧ w = w' := turned_any x 6 w hx (by decide) (by decide)
theorem turned_11 (x : Nat) (w : World) (hx : x < 4294967296) :
    Calls Tryd.prog 141 #[.int .u32 (x : Int), .int .i64 11] w fun e w' => e = .returned (.int .u32 (rotr x 11 : Int)) ∧ w = w' := turned_any x 11 w hx (by decide) (by decide)
theorem turned_25 (x : Nat) (w : World) (hx : x < 4294967296) :
    Calls Tryd.prog 141 #[.int .u32 (x : Int), .int .i64 25] w fun e w' => e = .returned (.int .u32 (rotr x 25 : Int)) ∧ w = w' := turned_any x 25 w hx (by decide) (by decide)
theorem turned_7 (x : Nat) (w : World) (hx : x < 4294967296) :
    Calls Tryd.prog 141 #[.int .u32 (x : Int), .int .i64 7] w fun e w' => e = .returned (.int .u32 (rotr x 7 : Int)) ∧ w = w' := turned_any x 7 w hx (by decide) (by decide)
theorem turned_18 (x : Nat) (w : World) (hx : x < 4294967296) :
    Calls Tryd.prog 141 #[.int .u32 (x : Int), .int .i64 18] w fun e w' => e = .returned (.int .u32 (rotr x 18 : Int)) ∧ w = w' := turned_any x 18 w hx (by decide) (by decide)
theorem turned_17 (x : Nat) (w : World) (hx : x < 4294967296) :
    Calls Tryd.prog 141 #[.int .u32 (x : Int), .int .i64 17] w fun e w' => e = .returned (.int .u32 (rotr x 17 : Int)) ∧ w = w' := turned_any x 17 w hx (by decide) (by decide)
theorem turned_19 (x : Nat) (w : World) (hx : x < 4294967296) :
    Calls Tryd.prog 141 #[.int .u32 (x : Int), .int .i64 19] w fun e w' => e = .returned (.int .u32 (rotr x 19 : Int)) ∧ w = w' := turned_any x 19 w hx (by decide) (by decide)
theorem bS0_c (x : Nat) (w : World) (hx : x < 4294967296) :
    Calls Tryd.prog 135 #[.int .u32 (x : Int)] w fun e w' => e = .returned (.int .u32 (bS0 x : Int)) ∧ w = w' := by
  go_enter Tryd.func135, Tryd.ntmps135
  go_wp2_with fail
  refine (turned_2 x _ hx).mono ?_
  rintro e w1 ⟨rfl, rfl⟩
  go_wp2_with fail
  refine (turned_13 x _ hx).mono ?_
  rintro e w1 ⟨rfl, rfl⟩
  have h1 := u32_xor_nat (rotr x 2) (rotr x 13) (rotr_lt hx) (rotr_lt hx)
  go_wp2_with fail
  refine (turned_22 x _ hx).mono ?_
  rintro e w1 ⟨rfl, rfl⟩
  have h2 := u32_xor_nat (rotr x 2 ^^^ rotr x 13) (rotr x 22) (xor_lt (rotr_lt hx) (rotr_lt hx)) (rotr_lt hx)
  go_wp2
  go_ret
  exact ⟨rfl, rfl⟩
theorem bS1_c (x : Nat) (w : World) (hx : x < 4294967296) :
    Calls Tryd.prog 133 #[.int .u32 (x : Int)] w fun e w' => e = .returned (.int .u32 (bS1 x : Int)) ∧ w = w' := by
  go_enter Tryd.func133, Tryd.ntmps133
  go_wp2_with fail
  refine (turned_6 x _ hx).mono ?_
  rintro e w1 ⟨rfl, rfl⟩
  go_wp2_with fail
  refine (turned_11 x _ hx).mono ?_
  rintro e w1 ⟨rfl, rfl⟩
  have h1 := u32_xor_nat (rotr x 6) (rotr x 11) (rotr_lt hx) (rotr_lt hx)
  go_wp2_with fail
  refine (turned_25 x _ hx).mono ?_
  rintro e w1 ⟨rfl, rfl⟩
  have h2 := u32_xor_nat (rotr x 6 ^^^ rotr x 11) (rotr x 25) (xor_lt (rotr_lt hx) (rotr_lt hx)) (rotr_lt hx)
  go_wp2
  go_ret
  exact ⟨rfl, rfl⟩
theorem lS0_c (x : Nat) (w : World) (hx : x < 4294967296) :
    Calls Tryd.prog 140 #[.int .u32 (x : Int)] w fun e w' => e = .returned (.int .u32 (lS0 x : Int)) ∧ w = w' := by
  go_enter Tryd.func140, Tryd.ntmps140
  go_wp2_with fail
  refine (turned_7 x _ hx).mono ?_
  rintro e w1 ⟨rfl, rfl⟩
  go_wp2_with fail
  refine (turned_18 x _ hx).mono ?_
  rintro e w1 ⟨rfl, rfl⟩
  have h1 := u32_xor_nat (rotr x 7) (rotr x 18) (rotr_lt hx) (rotr_lt hx)
  have h3 : ((x : Int) / (8 : Int)) = ((x >>> 3 : Nat) : Int) := by rw [Nat.shiftRight_eq_div_pow]; rfl
  have h2 : bits .xor .u32 ((rotr x 7 ^^^ rotr x 18 : Nat) : Int) ((x : Int) / (8 : Int)) = ((rotr x 7 ^^^ rotr x 18 ^^^ x >>> 3 : Nat) : Int) := by
    rw [h3]; exact u32_xor_nat _ _ (xor_lt (rotr_lt hx) (rotr_lt hx)) (shr_lt hx)
  clear h3
  go_wp2
  go_ret
  exact ⟨rfl, rfl⟩
theorem lS1_c (x : Nat) (w : World) (hx : x < 4294967296) :
    Calls Tryd.prog 139 #[.int .u32 (x : Int)] w fun e w' => e = .returned (.int .u32 (lS1 x : Int)) ∧ w = w' := by
  go_enter Tryd.func139, Tryd.ntmps139
  go_wp2_with fail
  refine (turned_17 x _ hx).mono ?_
  rintro e w1 ⟨rfl, rfl⟩
  go_wp2_with fail
  refine (turned_19 x _ hx).mono ?_
  rintro e w1 ⟨rfl, rfl⟩
  have h1 := u32_xor_nat (rotr x 17) (rotr x 19) (rotr_lt hx) (rotr_lt hx)
  have h3 : ((x : Int) / (1024 : Int)) = ((x >>> 10 : Nat) : Int) := by rw [Nat.shiftRight_eq_div_pow]; rfl
  have h2 : bits .xor .u32 ((rotr x 17 ^^^ rotr x 19 : Nat) : Int) ((x : Int) / (1024 : Int)) = ((rotr x 17 ^^^ rotr x 19 ^^^ x >>> 10 : Nat) : Int) := by
    rw [h3]; exact u32_xor_nat _ _ (xor_lt (rotr_lt hx) (rotr_lt hx)) (shr_lt hx)
  clear h3
  go_wp2
  go_ret
  exact ⟨rfl, rfl⟩
theorem not_is (x : Nat) (hx : x < 4294967296) : 4294967295 ^^^ x = 4294967295 - x := by
  apply Nat.eq_of_testBit_eq
  intro i
  have e : 4294967295 - x = 2 ^ 32 - (x + 1) := by omega
  rw [e, Nat.testBit_two_pow_sub_succ (by rw [pow32]; exact hx), Nat.testBit_xor, show (4294967295 : Nat) = 2 ^ 32 - 1 by decide, Nat.testBit_two_pow_sub_one]
  by_cases h : i < 32
  · simp [h]
  · have hb : x.testBit i = false := Nat.testBit_lt_two_pow (Nat.lt_of_lt_of_le (by rw [pow32]; exact hx) (Nat.pow_le_pow_right (by decide) (by omega)))
    simp [h, hb]
theorem chs_is (x y z : Nat) (hx : x < 4294967296) (hy : y < 4294967296) (hz : z < 4294967296) :
    bits .xor .u32 (bits .and .u32 (x : Int) (y : Int)) (bits .and .u32 (bits .xor .u32 IntKind.u32.max (x : Int)) (z : Int)) = (chs x y z : Int) := by
  have e : bits .xor .u32 IntKind.u32.max (x : Int) = ((4294967295 - x : Nat) : Int) := by
    rw [← not_is x hx]
    exact u32_xor_nat 4294967295 x (by decide) hx
  rw [e, u32_and_nat _ _ hx hy, u32_and_nat _ _ (by omega) hz, u32_xor_nat _ _ (and_lt hy) (and_lt hz)]
  rfl
theorem chs_c (x y z : Nat) (w : World) (hx : x < 4294967296) (hy : y < 4294967296) (hz : z < 4294967296) :
    Calls Tryd.prog 134 #[.int .u32 (x : Int), .int .u32 (y : Int), .int .u32 (z : Int)] w fun e w' => e = .returned (.int .u32 (chs x y z : Int)) ∧ w = w' := by
  have H := hide (chs_is x y z hx hy hz)
  go_enter Tryd.func134, Tryd.ntmps134
  go_wp2
  go_ret
  refine ⟨?_, rfl⟩
  show Ending.returned (.int .u32 (bits .xor .u32 (bits .and .u32 (x : Int) (y : Int)) (bits .and .u32 (bits .xor .u32 IntKind.u32.max (x : Int)) (z : Int)))) = _
  rw [H.out]
theorem maj_c (x y z : Nat) (w : World) (hx : x < 4294967296) (hy : y < 4294967296) (hz : z < 4294967296) :
    Calls Tryd.prog 136 #[.int .u32 (x : Int), .int .u32 (y : Int), .int .u32 (z : Int)] w fun e w' => e = .returned (.int .u32 (maj x y z : Int)) ∧ w = w' := by
  have h1 := u32_and_nat x y hx hy
  have h2 := u32_and_nat x z hx hz
  have h3 := u32_and_nat y z hy hz
  have h4 := u32_xor_nat (x &&& y) (x &&& z) (and_lt hy) (and_lt hz)
  have h5 := u32_xor_nat (x &&& y ^^^ x &&& z) (y &&& z) (xor_lt (and_lt hy) (and_lt hz)) (and_lt hz)
  go_enter Tryd.func136, Tryd.ntmps136
  go_wp2
  go_ret
  exact ⟨rfl, rfl⟩
end Go.Proofs.YtkinpbhbgeiflaaDoor.Sk
/- wordOf, bytesOf, schedule. -/
namespace Go.Proofs.YtkinpbhbgeiflaaDoor.Sc
set_option linter.unusedVariables false
set_option linter.unusedSimpArgs false
set_option maxRecDepth 100000
open Go.ChangeShapes Go.WideShapes Go.ChangeAt Go.RowKit
open Go.Proofs.YtkinpbhbgeiflaaDoor.Wu Go.Proofs.YtkinpbhbgeiflaaDoor.Sm Go.Proofs.YtkinpbhbgeiflaaDoor.Sk

theorem or_add (a b k : Nat) (hb : b < 2 ^ k) : a * 2 ^ k ||| b = a * 2 ^ k + b := by
  rw [← Nat.shiftLeft_eq, ← Nat.shiftLeft_add_eq_or_of_lt hb]
theorem wd_is (a b c d : Nat) (ha : a < 256) (hb : b < 256) (hc : c < 256) (hd : d < 256) :
    bits .or .u32 (bits .or .u32 (bits .or .u32 ((a : Int) * 16777216) ((b : Int) * 65536)) ((c : Int) * 256)) (d : Int) = (wd a b c d : Int) := by
  have e1 : bits .or .u32 ((a : Int) * 16777216) ((b : Int) * 65536) = ((a * 16777216 + b * 65536 : Nat) : Int) := by
    have := u32_or_nat (a * 16777216) (b * 65536) (by omega) (by omega)
    have h := or_add a (b * 65536) 24 (by omega)
    rw [show (2 : Nat) ^ 24 = 16777216 by decide] at h
    rw [h] at this
    simpa using this
  have e2 : bits .or .u32 ((a * 16777216 + b * 65536 : Nat) : Int) ((c : Int) * 256) = ((a * 16777216 + b * 65536 + c * 256 : Nat) : Int) := by
    have := u32_or_nat (a * 16777216 + b * 65536) (c * 256) (by omega) (by omega)
    have h := or_add (a * 256 + b) (c * 256) 16 (by omega)
    rw [show (2 : Nat) ^ 16 = 65536 by decide, show (a * 256 + b) * 65536 = a * 16777216 + b * 65536 by omega] at h
    rw [h] at this
    simpa using this
  rw [e1, e2, u32_or_nat _ _ (by omega) (by omega)]
  have h := or_add (a * 65536 + b * 256 + c) d 8 (by omega)
  rw [show (2 : Nat) ^ 8 = 256 by decide, show (a * 65536 + b * 256 + c) * 256 = a * 16777216 + b * 65536 + c * 256 by omega] at h
  rw [h]
  rfl
theorem wordOf_c (B off cap a b c d : Nat) (w : World) (ha : a < 256) (hb : b < 256) (hc : c < 256) (hd : d < 256)
    (h0 : w.cell? ⟨B, off, none⟩ = some (.int .u8 (a : Int))) (h1 : w.cell? ⟨B, off + 1, none⟩ = some (.int .u8 (b : Int))) (h2 : w.cell? ⟨B, off + 2, none⟩ = some (.int .u8 (c : Int))) (h3 : w.cell? ⟨B, off + 3, none⟩ = some (.int .u8 (d : Int))) :
    Calls Tryd.prog 138 #[.slice (some ⟨B, off, none⟩) 4 cap] w fun e w' => e = .returned (.int .u32 (wd a b c d : Int)) ∧ ∃ n, w' = w.drewN n := by
  have H := hide (wd_is a b c d ha hb hc hd)
  go_enter Tryd.func138, Tryd.ntmps138
  go_wp2
  go_quiet (fail)
  go_wp2
  go_ret
  refine ⟨?_, nq, rfl⟩
  show Ending.returned (.int .u32 (bits .or .u32 (bits .or .u32 (bits .or .u32 ((a : Int) * 16777216) ((b : Int) * 65536)) ((c : Int) * 256)) (d : Int))) = _
  rw [H.out]

/-- Numbers as the cells of a row. -/
def u8s (L : List Nat) : Array Value := (L.map fun x : Nat => Value.int .u8 (x : Int)).toArray
def u32s (L : List Nat) : Array Value := (L.map fun x : Nat => Value.int .u32 (x : Int)).toArray
theorem u8s_size (L : List Nat) : (u8s L).size = L.length := by simp [u8s]
theorem u32s_size (L : List Nat) : (u32s L).size = L.length := by simp [u32s]
theorem u8s_at (L : List Nat) (i : Nat) (h : i < L.length) : (u8s L)[i]? = some (.int .u8 ((L.getD i 0 : Nat) : Int)) := by simp [u8s, List.getD, h]
theorem u32s_at (L : List Nat) (i : Nat) (h : i < L.length) : (u32s L)[i]? = some (.int .u32 ((L.getD i 0 : Nat) : Int)) := by simp [u32s, List.getD, h]
theorem u32s_set (L : List Nat) (i x : Nat) : (u32s L).setIfInBounds i (.int .u32 (x : Int)) = u32s (L.set i x) := by simp [u32s, List.map_set]
theorem u8s_set (L : List Nat) (i x : Nat) : (u8s L).setIfInBounds i (.int .u8 (x : Int)) = u8s (L.set i x) := by simp [u8s, List.map_set]

theorem alen64 : Tryd.prog.arrayLen 205 = 64 := by simp [Program.arrayLen, Tryd.underlying205]
theorem aelem64 : Tryd.prog.elem 205 = 5 := by simp [Program.elem, Tryd.underlying205]
theorem size_u8 (u : World) : Sem.run Tryd.prog (Go.sizeOf 5) u = .ok 1 u := by kernel_rfl
theorem slice64 (u : World) (B o : Nat) (l h : Int) (L H : Nat) (el : l = (L : Int)) (eh : h = (H : Int)) (hl : L ≤ H) (hh : H ≤ 64) (hne : L < 64) :
    Sem.run Tryd.prog (Instr.sliceAt 205 (.pointer (some ⟨B, o, none⟩)) (some (.int .i64 l)) (some (.int .i64 h)) none) u = .ok (.slice (some ⟨B, o + L, none⟩) (H - L) (64 - L)) u := by
  subst el eh
  rw [run_sliceAt_array_lh u 205 ⟨B, o, none⟩ (by rw [alen64, aelem64]; exact Tryd.underlying205) .i64 .i64 _ _ (by omega) (by omega) (by rw [alen64]; omega), aelem64, size_u8, alen64]
  simp only [Result.andThen, slicedAt, Int.toNat_natCast, Nat.mul_one]
  rw [if_neg (by omega), Addr.add_mid]
theorem heap_3c (w : World) (o p q : Obj) : (((w.alloc o).alloc p).alloc q).heap[w.heap.size + 1 + 1]? = some q := by
  have := heap_last ((w.alloc o).alloc p) q
  simpa [World.size_alloc] using this
/-- A block's list of cells behind a store of a row into it. -/
theorem blk_setCells {T : TypeId} {f : Nat × Nat} {B : Nat} : ∀ (vs : List Value) (o : Nat) (w : World) (xs : List Value), o + vs.length ≤ xs.length → w.heap[B]? = some (.cells xs.toArray T f) →
    (w.setCells B o vs).heap[B]? = some (.cells (xs.take o ++ vs ++ xs.drop (o + vs.length)).toArray T f)
  | [], o, w, xs, _, h => by simp [World.setCells, h]
  | v :: vs, o, w, xs, hl, h => by
    rw [World.setCells]
    have h1 := blk_set (i := o) h v
    rw [List.setIfInBounds_toArray] at h1
    have h2 := blk_setCells vs (o + 1) _ (xs.set o v) (by simp at *; omega) h1
    rw [h2]
    simp only [List.length_cons] at hl ⊢
    congr 3
    rw [List.set_eq_take_append_cons_drop, if_pos (by omega)]
    have hA : (xs.take o).length = o := by rw [List.length_take]; omega
    have e1 : (xs.take o ++ v :: xs.drop (o + 1)).take (o + 1) = xs.take o ++ [v] := by
      rw [List.take_append, hA, List.take_of_length_le (by omega), show o + 1 - o = 1 by omega]; rfl
    have e2 : (xs.take o ++ v :: xs.drop (o + 1)).drop (o + 1 + vs.length) = xs.drop (o + (vs.length + 1)) := by
      rw [List.drop_append, hA, List.drop_eq_nil_of_le (by omega), show o + 1 + vs.length - o = vs.length + 1 by omega, List.drop_succ_cons, List.drop_drop, List.nil_append]
      congr 1; omega
    rw [e1, e2]
    simp
theorem below_setCells {N : Nat} {u : World} : ∀ (vs : List Value) (B o : Nat) (w : World), Below N u w → N ≤ B → Below N u (w.setCells B o vs)
  | [], _, _, _, h, _ => h
  | v :: vs, B, o, w, h, hB => by
    rw [World.setCells]
    exact below_setCells vs B (o + 1) _ (h.setCell hB _) hB
theorem results_one_cell {fn : Func} {p : Tmp} {ty : TypeId} (h : fn.results = #[.cell p ty]) (tmps : Array Value) (P : Program) (w : World) :
    (results fn tmps).run P w = ((asAddr (tmps.getD p undef)).run P w).andThen fun a w₁ => (loadVar ty a).run P w₁ := by
  simp only [results, h]
  simp [Sem.run_bind, Result.andThen]
theorem nxt_is (a b c d : Nat) (ha : a < 4294967296) (hb : b < 4294967296) (hc : c < 4294967296) (hd : d < 4294967296) :
    IntKind.u32.wrap (IntKind.u32.wrap (IntKind.u32.wrap ((a : Int) + (b : Int)) + (c : Int)) + (d : Int)) = (((a + b + c + d) % 4294967296 : Nat) : Int) := by
  simp only [IntKind.wrap_u32']
  omega
/-- The cells of a row of words. -/
theorem row32 {w : World} {B i : Nat} {X : List Nat} {T : TypeId} {f : Nat × Nat} (h : w.heap[B]? = some (.cells (u32s X) T f)) (hi : i < X.length) : w.cell? ⟨B, i, none⟩ = some (.int .u32 ((X.getD i 0 : Nat) : Int)) := blk_cell h (u32s_at X i hi)
theorem row8 {w : World} {B i : Nat} {X : List Nat} {T : TypeId} {f : Nat × Nat} (h : w.heap[B]? = some (.cells (u8s X) T f)) (hi : i < X.length) : w.cell? ⟨B, i, none⟩ = some (.int .u8 ((X.getD i 0 : Nat) : Int)) := blk_cell h (u8s_at X i hi)
theorem info62 : (Tryd.prog.info? 242).map (·.size) = some 64 := by kernel_rfl
theorem u32s_one (X : List Nat) : (u32s X).all (·.oneCell') = true := by
  unfold u32s
  exact all_oneCell_toArray (fun v hv => by simp only [List.mem_map] at hv; obtain ⟨z, _, rfl⟩ := hv; rfl)
theorem rangeAt_all {w : World} {B : Nat} {X : List Nat} {T : TypeId} {f : Nat × Nat} (h : w.heap[B]? = some (.cells (u32s X) T f)) : w.rangeAt B 0 (u32s X).toList := fun j v hv => by
  rw [Nat.zero_add]; exact blk_cell h (by simpa using hv)
theorem there_all {w : World} {B : Nat} {X : List Nat} {T : TypeId} (h : w.heap[B]? = some (.cells (u32s X) T (0, 0))) : w.there B 0 X.length := fun j hj =>
  ⟨by rw [Nat.zero_add, row32 h hj]; rfl, blk_free h⟩

theorem keep4s {W : World} {B i a b c d : Nat} {v v1 v2 v3 v4 : Value} (h1 : a ≠ i) (h2 : b ≠ i) (h3 : c ≠ i) (h4 : d ≠ i)
    (h : W.cell? ⟨B, a, none⟩ = some v1 ∧ W.cell? ⟨B, b, none⟩ = some v2 ∧ W.cell? ⟨B, c, none⟩ = some v3 ∧ W.cell? ⟨B, d, none⟩ = some v4) :
    (W.setCell ⟨B, i, none⟩ v).cell? ⟨B, a, none⟩ = some v1 ∧ (W.setCell ⟨B, i, none⟩ v).cell? ⟨B, b, none⟩ = some v2 ∧ (W.setCell ⟨B, i, none⟩ v).cell? ⟨B, c, none⟩ = some v3 ∧ (W.setCell ⟨B, i, none⟩ v).cell? ⟨B, d, none⟩ = some v4 := by
  exact ⟨(World.cell?_setCell_other W ⟨B, i, none⟩ ⟨B, a, none⟩ _ (fun hh => h1 (congrArg Addr.off hh).symm)).trans h.1, (World.cell?_setCell_other W ⟨B, i, none⟩ ⟨B, b, none⟩ _ (fun hh => h2 (congrArg Addr.off hh).symm)).trans h.2.1,
    (World.cell?_setCell_other W ⟨B, i, none⟩ ⟨B, c, none⟩ _ (fun hh => h3 (congrArg Addr.off hh).symm)).trans h.2.2.1, (World.cell?_setCell_other W ⟨B, i, none⟩ ⟨B, d, none⟩ _ (fun hh => h4 (congrArg Addr.off hh).symm)).trans h.2.2.2⟩
set_option maxHeartbeats 1600000 in
theorem schedule_c (L : List Nat) (w : World) (hl : L.length = 64) (h8 : All8 L) :
    Calls Tryd.prog 132 #[.agg (u8s L)] w fun e w' => e = .returned (.agg (u32s (sched L))) ∧ Below w.heap.size w w' := by
  have HL := hide hl
  clear hl
  go_enter Tryd.func132, Tryd.ntmps132
  go_wp2_with fail
  go_loopw [6, 4] (fun i _ wr => ∃ k : Nat, k ≤ 16 ∧ i = .int .i64 k ∧ wr.heap[w.heap.size]? = some (.cells (u8s L) 205 (0, 0)) ∧ wr.heap[w.heap.size + 1]? = some (.cells (u32s (List.replicate 64 0)) 242 (0, 0)) ∧ wr.heap[w.heap.size + 1 + 1]? = some (.cells (u32s ((W16 L).take k ++ List.replicate (64 - k) 0)) 242 (0, 0)) ∧ Below w.heap.size w wr) (fun i _ _ => 16 - (intOf i).toNat)
  case atStart => exact ⟨0, by omega, rfl, heap_old (heap_2a _ _ _) _, heap_old (heap_2b _ _ _) _, heap_3c _ _ _ _, (((Below.refl _ _).alloc (Nat.le_refl _) _).alloc (by simp) _).alloc (by simp; omega) _⟩
  case round =>
    obtain ⟨k, hk, rfl, h0, h1, h2, hbel⟩ := hrel
    have H0 := hide h0
    have H1 := hide h1
    have H2 := hide h2
    have HB := hide hbel
    clear h0 h1 h2 hbel
    by_cases hlt : k < 16
    · have hlt' : decide ((k : Int) < 16) = true := by simp; omega
      have hsl := fun (u : World) => slice64 u w.heap.size 0 (4 * (k : Int)) (4 * (k : Int) + 4) (4 * k) (4 * k + 4) (by omega) (by omega) (by omega) (by omega) (by omega)
      rw [show 4 * k + 4 - 4 * k = 4 by omega] at hsl
      go_wp2_with fail
      clear hsl
      refine (wordOf_c w.heap.size (4 * k) _ (L.getD (4 * k) 0) (L.getD (4 * k + 1) 0) (L.getD (4 * k + 2) 0) (L.getD (4 * k + 3) 0) _ (all8_getD h8 _) (all8_getD h8 _) (all8_getD h8 _) (all8_getD h8 _) (row8 H0.out (by rw [HL.out]; omega)) (row8 H0.out (by rw [HL.out]; omega)) (row8 H0.out (by rw [HL.out]; omega)) (row8 H0.out (by rw [HL.out]; omega))).mono ?_
      rintro e w1 ⟨rfl, nd, rfl⟩
      have Hlen : Hid (((W16 L).take k).length = k) := by unfold Hid; rw [List.length_take, W16_length]; omega
      have hcx := row32 (i := k) H2.out (by rw [List.length_append, Hlen.out, List.length_replicate]; omega)
      have hfx := blk_free (i := k) H2.out
      have HS := hide (blk_set (w := wr.drewN nd) (i := k) H2.out (.int .u32 (w16 L k : Int)))
      generalize (List.take k (W16 L) ++ List.replicate (64 - k) 0).getD k 0 = old at *
      have hk1 : (k : Int) < 64 := by omega
      have hk0 : (0 : Int) ≤ (k : Int) := by omega
      go_wp2
      go_roundw
      case rel =>
        refine ⟨k + 1, by omega, by go_num, blk_set_other (w := wr.drewN nd) H0.out (by omega) _, blk_set_other (w := wr.drewN nd) H1.out (by omega) _, ?_, (below_drewN HB.out nd).setCell (by simp; omega) _⟩
        have e := HS.out
        rw [u32s_set] at e
        have e2 : (List.take k (W16 L) ++ List.replicate (64 - k) 0).set k (w16 L k) = List.take (k + 1) (W16 L) ++ List.replicate (64 - (k + 1)) 0 := by
          have g := set_grow (List.take k (W16 L)) (64 - (k + 1)) (w16 L k)
          rw [Hlen.out, show 64 - (k + 1) + 1 = 64 - k by omega] at g
          rw [g, W16_take L k hlt]
        rw [e2] at e
        exact e
      case measure => simp [intOf]; omega
    · have hkl : k = 16 := by omega
      subst hkl
      have h2 := H2.out
      rw [List.take_of_length_le (by rw [W16_length]; omega)] at h2
      have H2' := hide h2
      clear h2 H2
      have z2 := heap_lt H2'.out
      go_wp2_with fail
      rw [show ((16 : Nat) : Int) = 16 from rfl]
      obtain ⟨wo, rfl⟩ : ∃ wo : World, wo = wr := ⟨_, rfl⟩
      go_loopw [5] (fun i wr => ∃ k : Nat, k ≤ 48 ∧ i = .int .i64 ((16 + k : Nat) : Int) ∧ wr.heap[w.heap.size + 1]? = some (.cells (u32s (List.replicate 64 0)) 242 (0, 0)) ∧ wr.heap[w.heap.size + 1 + 1]? = some (.cells (u32s (ext k (W16 L) ++ List.replicate (48 - k) 0)) 242 (0, 0)) ∧ Below w.heap.size w wr) (fun i _ => 64 - (intOf i).toNat)
      case atStart => exact ⟨0, by omega, rfl, H1.out, H2'.out, HB.out⟩
      case round =>
        clear H0 H1 H2' HB z2
        obtain ⟨k, hk, rfl, h1, h2, hbel⟩ := hrel
        have H1 := hide h1
        have H2 := hide h2
        have HB := hide hbel
        clear h1 h2 hbel
        have hx32 := ext_all (W16_all h8) k
        have Hlx : Hid ((ext k (W16 L)).length = 16 + k) := by unfold Hid; rw [ext_length, W16_length]
        by_cases hlt : k < 48
        · have hal : (ext k (W16 L) ++ List.replicate (48 - k) 0).length = 64 := by rw [List.length_append, Hlx.out, List.length_replicate]; omega
          have c2 := row32 (i := 14 + k) H2.out (by omega)
          have c7 := row32 (i := 9 + k) H2.out (by omega)
          have c15 := row32 (i := 1 + k) H2.out (by omega)
          have c16 := row32 (i := k) H2.out (by omega)
          have cst := row32 (i := 16 + k) H2.out (by omega)
          have hfx := blk_free (i := 16 + k) H2.out
          rw [getD_left _ _ _ (by rw [Hlx.out]; omega)] at c2 c7 c15 c16
          have b2 := all32_getD hx32 (14 + k)
          have b7 := all32_getD hx32 (9 + k)
          have b15 := all32_getD hx32 (1 + k)
          have b16 := all32_getD hx32 k
          have HN : Hid ((lS1 ((ext k (W16 L)).getD (14 + k) 0) + (ext k (W16 L)).getD (9 + k) 0 + lS0 ((ext k (W16 L)).getD (1 + k) 0) + (ext k (W16 L)).getD k 0) % 4294967296 = nxt (ext k (W16 L))) := by
            unfold Hid nxt
            rw [Hlx.out, show 16 + k - 2 = 14 + k by omega, show 16 + k - 7 = 9 + k by omega, show 16 + k - 15 = 1 + k by omega, show 16 + k - 16 = k by omega]
          have HS := hide (blk_set (w := wr.drew) (i := 16 + k) H2.out (.int .u32 (nxt (ext k (W16 L)) : Int)))
          have Hg := hide (set_grow (ext k (W16 L)) (48 - (k + 1)) (nxt (ext k (W16 L))))
          generalize (ext k (W16 L)).getD (14 + k) 0 = a2 at *
          generalize (ext k (W16 L)).getD (9 + k) 0 = a7 at *
          generalize (ext k (W16 L)).getD (1 + k) 0 = a15 at *
          generalize (ext k (W16 L)).getD k 0 = a16 at *
          generalize (ext k (W16 L) ++ List.replicate (48 - k) 0).getD (16 + k) 0 = old at *
          have Hni := hide (nxt_is (lS1 a2) a7 (lS0 a15) a16 (lS1_lt b2) b7 (lS0_lt b15) b16)
          obtain ⟨j, hj⟩ : ∃ j, j = 16 + k := ⟨_, rfl⟩
          rw [← hj] at cst hfx HS ⊢
          have Hj := hide hj
          have hjb : 16 ≤ j := by omega
          have hjb' : j < 64 := by omega
          rw [show 14 + k = j - 2 by omega] at c2
          rw [show 9 + k = j - 7 by omega] at c7
          rw [show 1 + k = j - 15 by omega] at c15
          rw [show k = j - 16 by omega] at c16
          clear hj hal
          go_wp2_with fail
          have i2 : IntKind.i64.wrap ((j : Int) - 2) = (j : Int) - 2 := IntWalk.i64_in _ (by omega)
          have i7 : IntKind.i64.wrap ((j : Int) - 7) = (j : Int) - 7 := IntWalk.i64_in _ (by omega)
          have i15 : IntKind.i64.wrap ((j : Int) - 15) = (j : Int) - 15 := IntWalk.i64_in _ (by omega)
          have i16 : IntKind.i64.wrap ((j : Int) - 16) = (j : Int) - 16 := IntWalk.i64_in _ (by omega)
          have t2 : ((j : Int) - 2).toNat = j - 2 := by omega
          have t7 : ((j : Int) - 7).toNat = j - 7 := by omega
          have t15 : ((j : Int) - 15).toNat = j - 15 := by omega
          have t16 : ((j : Int) - 16).toNat = j - 16 := by omega
          have n2 : (0 : Int) ≤ (j : Int) - 2 := by omega
          have n7 : (0 : Int) ≤ (j : Int) - 7 := by omega
          have n15 : (0 : Int) ≤ (j : Int) - 15 := by omega
          have n16 : (0 : Int) ≤ (j : Int) - 16 := by omega
          have m2 : (j : Int) - 2 < 64 := by omega
          have m7 : (j : Int) - 7 < 64 := by omega
          have m15 : (j : Int) - 15 < 64 := by omega
          have m16 : (j : Int) - 16 < 64 := by omega
          have p2 : (2 : Int) ≤ (j : Int) := by omega
          have p7 : (7 : Int) ≤ (j : Int) := by omega
          have p15 : (15 : Int) ≤ (j : Int) := by omega
          have p16 : (16 : Int) ≤ (j : Int) := by omega
          have r2 : (2 : Nat) ≤ j := by omega
          have r7 : (7 : Nat) ≤ j := by omega
          have r15 : (15 : Nat) ≤ j := by omega
          have n0 : (0 : Int) ≤ (j : Int) := by omega
          have m0 : (j : Int) < 64 := by omega
          go_region_held3 (fun u => u.cell? ⟨w.heap.size + 1 + 1, j - 2, none⟩ = some (.int .u32 (a2 : Int)) ∧ u.cell? ⟨w.heap.size + 1 + 1, j - 7, none⟩ = some (.int .u32 (a7 : Int)) ∧ u.cell? ⟨w.heap.size + 1 + 1, j - 15, none⟩ = some (.int .u32 (a15 : Int)) ∧ u.cell? ⟨w.heap.size + 1 + 1, j - 16, none⟩ = some (.int .u32 (a16 : Int)))
            (first | exact ⟨c2, c7, c15, c16⟩ | assumption | (exact keep4s (by omega) (by omega) (by omega) (by omega) (by assumption)))
            (first
              | (go_at_call 139; refine (lS1_c a2 _ b2).mono ?_; rintro e u ⟨rfl, rfl⟩)
              | (go_at_call 140; refine (lS0_c a15 _ b15).mono ?_; rintro e u ⟨rfl, rfl⟩))
          rw [Hni.out, HN.out]
          clear i2 i7 i15 i16 t2 t7 t15 t16 c2 c7 c15 c16 cst hfx
          go_wp2
          go_roundw
          case rel =>
            refine ⟨k + 1, by omega, congrArg (Value.int .i64) (by have := Hj.out; omega), blk_set_other (w := wr.drew) H1.out (by omega) _, ?_, (HB.out.drew).setCell (by simp; omega) _⟩
            have e := HS.out
            rw [u32s_set] at e
            have g := Hg.out
            rw [Hlx.out, ← Hj.out, show 48 - (k + 1) + 1 = 48 - k by omega] at g
            rw [g] at e
            exact e
          case measure => simp [intOf]; have := Hj.out; omega
        · have hkl : k = 48 := by omega
          subst hkl
          have h2 := H2.out
          rw [show 48 - 48 = 0 by omega, List.replicate_zero, List.append_nil] at h2
          have hr := hide (rangeAt_all h2)
          have ht := hide (there_all H1.out)
          have Hs := hide (sched_length L)
          have H1' := hide (blk_setCells (u32s (sched L)).toList 0 wr (u32s (List.replicate 64 0)).toList (by simp [u32s_size, sched_length]) (by simpa using H1.out))
          have HB' := hide (below_setCells (u32s (sched L)).toList (w.heap.size + 1) 0 wr HB.out (by omega))
          clear h2 hx32
          go_wp2_with (first
            | (refine wpList_load_mid rfl 242 (.tmp 3) rfl (w.heap.size + 1 + 1) 0 rfl _ _ hr.out Tryd.underlying242 rfl (by rw [info62]; simp [u32s_size, ext_length, W16_length]) ?_)
            | (refine wpList_store_mid rfl 242 (.tmp 2) (.tmp 46) rfl (w.heap.size + 1) 0 _ rfl rfl ?_ ?_ ?_ ?_))
          · have := ht.out
            simpa [u32s_size, ext_length, W16_length] using this
          · rw [info62]; simp [u32s_size, ext_length, W16_length]
          · simpa using u32s_one (ext 48 (W16 L))
          · have e : (u32s (ext 48 (W16 L))).toList.toArray.toList = (u32s (sched L)).toList := by simp [sched]
            rw [e]
            refine bodyPost_ret (v := .agg (u32s (sched L))) ?_ rfl ⟨rfl, HB'.out⟩
            rw [results_one_cell Tryd.results132]
            have h3 := H1'.out
            rw [show (u32s (List.replicate 64 0)).toList.take 0 ++ (u32s (sched L)).toList ++ (u32s (List.replicate 64 0)).toList.drop (0 + (u32s (sched L)).toList.length) = (u32s (sched L)).toList by simp [u32s_size, sched_length]] at h3
            have h4 := run_loadVar_mid (P := Tryd.prog) (wr.setCells (w.heap.size + 1) 0 (u32s (sched L)).toList) (w.heap.size + 1) 0 242 (u32s (sched L)).toList _ (rangeAt_all (by simpa using h3)) Tryd.underlying242 rfl (by rw [info62]; simp [u32s_size, sched_length])
            simpa [asAddr, Act.put] using h4
end Go.Proofs.YtkinpbhbgeiflaaDoor.Sc
/- The hasher in the heap, and small facts on it. -/
namespace Go.Proofs.YtkinpbhbgeiflaaDoor.Sxa
set_option linter.unusedVariables false
set_option linter.unusedSimpArgs false
set_option maxRecDepth 100000
open Go.ChangeShapes Go.WideShapes Go.ChangeAt Go.RowKit
open Go.Proofs.YtkinpbhbgeiflaaDoor.Wu Go.Proofs.YtkinpbhbgeiflaaDoor.Sm Go.Proofs.YtkinpbhbgeiflaaDoor.Sk Go.Proofs.YtkinpbhbgeiflaaDoor.Sc

/-- The cells of a hasher: its state, its block, how much of it is used, how many bytes came. -/
def hcells (s : S8) (B : List Nat) (u l : Int) : List Value := (s.list.map fun x : Nat => Value.int .u32 (x : Int)) ++ (B.map fun x : Nat => Value.int .u8 (x : Int)) ++ [.int .i64 u, .int .u64 l]
/-- The same, the state told by a list. -/
def HshL (w : World) (g : Nat) (X B : List Nat) (u l : Int) : Prop := w.heap[g]? = some (.cells ((X.map fun x : Nat => Value.int .u32 (x : Int)) ++ (B.map fun x : Nat => Value.int .u8 (x : Int)) ++ [Value.int .i64 u, Value.int .u64 l]).toArray 208 (0, 0))
theorem hshl_state {w : World} {g : Nat} {X B : List Nat} {u l : Int} (h : HshL w g X B u l) (i : Nat) (hi : i < X.length) : w.cell? ⟨g, i, none⟩ = some (.int .u32 ((X.getD i 0 : Nat) : Int)) := by
  refine blk_cell h ?_
  simp [List.getElem?_append_left, hi, List.getD]
theorem hshl_set {w : World} {g : Nat} {X B : List Nat} {u l : Int} (h : HshL w g X B u l) (i x : Nat) (hi : i < X.length) : HshL (w.setCell ⟨g, i, none⟩ (.int .u32 (x : Int))) g (X.set i x) B u l := by
  have e := blk_set (i := i) h (.int .u32 (x : Int))
  rw [List.setIfInBounds_toArray, List.append_assoc, List.set_append_left _ _ (by simpa using hi)] at e
  unfold HshL
  rw [e, List.map_set, List.append_assoc]
/-- Noughts. -/
def zeros (n : Nat) : List Nat := List.replicate n 0
theorem zeros_length (n : Nat) : (zeros n).length = n := List.length_replicate ..
/-- A hasher lies in block g. -/
def Hsh (w : World) (g : Nat) (s : S8) (B : List Nat) (u l : Int) : Prop := w.heap[g]? = some (.cells (hcells s B u l).toArray 208 (0, 0))
/-- The table of words for the rounds. -/
def Tbl (w : World) : Prop := ∃ T f, w.heap[2]? = some (.cells (u32s Ks) T f)
theorem tbl_lt {w : World} (h : Tbl w) : 2 < w.heap.size := by obtain ⟨T, f, h⟩ := h; exact heap_lt h
theorem tbl_keep {N : Nat} {w w' : World} (h : Tbl w) (hb : Below N w w') (hN : w.heap.size ≤ N) : Tbl w' := by
  obtain ⟨T, f, h⟩ := h
  exact ⟨T, f, below_blk hb (Nat.lt_of_lt_of_le (heap_lt h) hN) h⟩
theorem tbl_at {w : World} (h : Tbl w) (k : Nat) (hk : k < 64) : w.cell? ⟨2, k, none⟩ = some (.int .u32 ((Ks.getD k 0 : Nat) : Int)) := by
  obtain ⟨T, f, h⟩ := h
  exact row32 h (by rw [Ks_length]; exact hk)

theorem hsh_state {w : World} {g : Nat} {s : S8} {B : List Nat} {u l : Int} (h : Hsh w g s B u l) (i : Nat) (hi : i < 8) : w.cell? ⟨g, i, none⟩ = some (.int .u32 ((s.list.getD i 0 : Nat) : Int)) := by
  refine blk_cell h ?_
  have : i < s.list.length := hi
  simp [hcells, List.getElem?_append_left, this, List.getD]
theorem hsh_range {w : World} {g : Nat} {s : S8} {B : List Nat} {u l : Int} (h : Hsh w g s B u l) : w.rangeAt g 8 (u8s B).toList := by
  intro j v hv
  refine blk_cell h ?_
  have hj : j < B.length := by have := (List.getElem?_eq_some_iff.1 hv).1; simpa [u8s_size] using this
  have e : (hcells s B u l)[8 + j]? = some v := by
    unfold hcells
    rw [List.append_assoc, List.getElem?_append_right (by simp [S8.list]), List.getElem?_append_left (by simp [S8.list]; omega)]
    simpa [S8.list, u8s] using hv
  simpa using e
theorem hsh_l {w : World} {g : Nat} {s : S8} {B : List Nat} {u l : Int} (v : S8) (h : Hsh w g s B u l) : HshL w g ((s.add v).list.take 0 ++ s.list.drop 0) B u l := by
  rw [List.take_zero, List.nil_append, List.drop_zero]
  exact h
theorem l_hsh {w : World} {g : Nat} {s : S8} {B : List Nat} {u l : Int} (v : S8) (h : HshL w g ((s.add v).list.take 8 ++ s.list.drop 8) B u l) : Hsh w g (s.add v) B u l := h
theorem info45 : (Tryd.prog.info? 205).map (·.size) = some 64 := by kernel_rfl
theorem set_list {s : S8} {B : List Nat} {u l : Int} {i x : Nat} (hi : i < 8) : (hcells s B u l).set i (.int .u32 (x : Int)) = ((s.list.set i x).map fun x : Nat => Value.int .u32 (x : Int)) ++ (B.map fun x : Nat => Value.int .u8 (x : Int)) ++ [.int .i64 u, .int .u64 l] := by
  unfold hcells
  rw [List.append_assoc, List.set_append_left _ _ (by simp [S8.list]; omega), List.map_set, List.append_assoc]

theorem one_is (v : S8) (k w : Nat) (hv : v.ok) (hk : k < 4294967296) (hw : w < 4294967296) :
    IntKind.u32.wrap (IntKind.u32.wrap (IntKind.u32.wrap (IntKind.u32.wrap ((v.h : Int) + (bS1 v.e : Int)) + (chs v.e v.f v.g : Int)) + (k : Int)) + (w : Int)) = (one v k w : Int) := by
  simp only [IntKind.wrap_u32', one]
  omega
theorem two_is (v : S8) : IntKind.u32.wrap ((bS0 v.a : Int) + (maj v.a v.b v.c : Int)) = (two v : Int) := by
  simp only [IntKind.wrap_u32', two]
  omega
theorem add_is (x y : Nat) : IntKind.u32.wrap ((x : Int) + (y : Int)) = (((x + y) % 4294967296 : Nat) : Int) := by
  simp only [IntKind.wrap_u32']
  omega
theorem alen62 : Tryd.prog.underlying 242 = some (.array 64 108) := Tryd.underlying242
theorem size_u32 (u : World) : Sem.run Tryd.prog (Go.sizeOf 108) u = .ok 1 u := by kernel_rfl
theorem index_row (X : List Nat) (k : Nat) (hX : X.length = 64) (hk : k < 64) (u : World) : Sem.run Tryd.prog (Instr.index 242 (.agg (u32s X)) (.int .i64 (k : Int))) u = .ok (.int .u32 ((X.getD k 0 : Nat) : Int)) u := by
  simp only [Instr.index, Sem.run_bind, asIntOf, Sem.run_pure, Result.andThen_ok, run_underlying alen62]
  rw [if_pos (by omega)]
  simp only [Sem.run_bind, size_u32, Result.andThen_ok, Int.toNat_natCast, Nat.mul_one]
  have e : (u32s X)[k]? = some (.int .u32 ((X.getD k 0 : Nat) : Int)) := u32s_at X k (by omega)
  simp [part, e, size_u32, go_sem]
set_option maxRecDepth 100000 in
theorem index8 (v : S8) (k : Nat) (hk : k < 8) (u : World) : Sem.run Tryd.prog (Instr.index 204 (.agg #[.int .u32 (v.a : Int), .int .u32 (v.b : Int), .int .u32 (v.c : Int), .int .u32 (v.d : Int), .int .u32 (v.e : Int), .int .u32 (v.f : Int), .int .u32 (v.g : Int), .int .u32 (v.h : Int)]) (.int .i64 (k : Int))) u = .ok (.int .u32 ((v.list.getD k 0 : Nat) : Int)) u := by
  match k, hk with
  | 0, _ => rfl
  | 1, _ => rfl
  | 2, _ => rfl
  | 3, _ => rfl
  | 4, _ => rfl
  | 5, _ => rfl
  | 6, _ => rfl
  | 7, _ => rfl
theorem part_step (s v : S8) (k : Nat) (hk : k < 8) : ((s.add v).list.take k ++ s.list.drop k).set k ((s.list.getD k 0 + v.list.getD k 0) % 4294967296) = (s.add v).list.take (k + 1) ++ s.list.drop (k + 1) := by
  match k, hk with
  | 0, _ => rfl
  | 1, _ => rfl
  | 2, _ => rfl
  | 3, _ => rfl
  | 4, _ => rfl
  | 5, _ => rfl
  | 6, _ => rfl
  | 7, _ => rfl
theorem part_at (s v : S8) (k : Nat) (hk : k < 8) : ((s.add v).list.take k ++ s.list.drop k).getD k 0 = s.list.getD k 0 := by
  match k, hk with
  | 0, _ => rfl
  | 1, _ => rfl
  | 2, _ => rfl
  | 3, _ => rfl
  | 4, _ => rfl
  | 5, _ => rfl
  | 6, _ => rfl
  | 7, _ => rfl
theorem part_len (s v : S8) (k : Nat) (hk : k ≤ 8) : ((s.add v).list.take k ++ s.list.drop k).length = 8 := by
  simp [S8.list]; omega
theorem zlit32 : (#[Value.int IntKind.u32 0, Value.int IntKind.u32 0, Value.int IntKind.u32 0, Value.int IntKind.u32 0, Value.int IntKind.u32 0, Value.int IntKind.u32 0, Value.int IntKind.u32 0, Value.int IntKind.u32 0, Value.int IntKind.u32 0, Value.int IntKind.u32 0, Value.int IntKind.u32 0, Value.int IntKind.u32 0, Value.int IntKind.u32 0, Value.int IntKind.u32 0, Value.int IntKind.u32 0, Value.int IntKind.u32 0, Value.int IntKind.u32 0, Value.int IntKind.u32 0, Value.int IntKind.u32 0, Value.int IntKind.u32 0, Value.int IntKind.u32 0, Value.int IntKind.u32 0, Value.int IntKind.u32 0, Value.int IntKind.u32 0, Value.int IntKind.u32 0, Value.int IntKind.u32 0, Value.int IntKind.u32 0, Value.int IntKind.u32 0, Value.int IntKind.u32 0, Value.int IntKind.u32 0, Value.int IntKind.u32 0, Value.int IntKind.u32 0, Value.int IntKind.u32 0, Value.int IntKind.u32 0, Value.int IntKind.u32 0, Value.int IntKind.u32 0, Value.int IntKind.u32 0, Value.int IntKind.u32 0, Value.int IntKind.u32 0, Value.int IntKind.u32 0, Value.int IntKind.u32 0, Value.int IntKind.u32 0, Value.int IntKind.u32 0, Value.int IntKind.u32 0, Value.int IntKind.u32 0, Value.int IntKind.u32 0, Value.int IntKind.u32 0, Value.int IntKind.u32 0, Value.int IntKind.u32 0, Value.int IntKind.u32 0, Value.int IntKind.u32 0, Value.int IntKind.u32 0, Value.int IntKind.u32 0, Value.int IntKind.u32 0, Value.int IntKind.u32 0, Value.int IntKind.u32 0, Value.int IntKind.u32 0, Value.int IntKind.u32 0, Value.int IntKind.u32 0, Value.int IntKind.u32 0, Value.int IntKind.u32 0, Value.int IntKind.u32 0, Value.int IntKind.u32 0, Value.int IntKind.u32 0] : Array Value) = u32s (zeros 64) := by rfl
theorem drew_facts {w w3 : World} {g gs : Nat} {s : S8} {B W : List Nat} {u l : Int} {T : TypeId} (n : Nat) (h1 : Hsh w3 g s B u l) (h2 : Tbl w3) (h3 : w.grownBy w3 (some g)) (h4 : w3.heap[gs]? = some (.cells (u32s W) T (0, 0))) :
    Hsh (w3.drewN n) g s B u l ∧ Tbl (w3.drewN n) ∧ w.grownBy (w3.drewN n) (some g) ∧ (w3.drewN n).heap[gs]? = some (.cells (u32s W) T (0, 0)) := ⟨h1, h2, ⟨h3.os, h3.tape, h3.output, h3.size, h3.block⟩, h4⟩
theorem built8 (a b c d e f g h : Int) : Tryd.prog.built 204 [(0, Value.int .u32 a), (1, Value.int .u32 b), (2, Value.int .u32 c), (3, Value.int .u32 d), (4, Value.int .u32 e), (5, Value.int .u32 f), (6, Value.int .u32 g), (7, Value.int .u32 h)] = some #[.int .u32 a, .int .u32 b, .int .u32 c, .int .u32 d, .int .u32 e, .int .u32 f, .int .u32 g, .int .u32 h] := by kernel_rfl
theorem wpList_build_to {P : Program} {ops : Array Oper} {rest : List Oper} {o : Oper} {a : Act} {w : World} {Q : Exit → Act → World → Prop} (hg : o.guard = none) (t : TypeId) (parts : Array (Nat × Operand)) (ho : o.op = .build t parts)
    (d : Option Tmp) (hd : o.dst = d) (cells : Array Value) (hf : P.built t (parts.toList.map fun (i, x) => (i, a.eval x)) = some cells)
    (h : wpList P ops Q rest (a.put d (.agg cells)) w) : wpList P ops Q (o :: rest) a w := by
  subst hd
  have hf' : P.built t (parts.map fun (i, x) => (i, a.eval x)).toList = some cells := by rw [Array.toList_map]; exact hf
  refine wpList_build hg t parts ho (by rw [hf']; rfl) ?_
  rw [hf']
  exact h
theorem wpList_build_stop {P : Program} {ops : Array Oper} {rest : List Oper} {o : Oper} {a : Act} {w : World} {Q : Exit → Act → World → Prop} (hg : o.guard = none) (t : TypeId) (parts : Array (Nat × Operand)) (ho : o.op = .build t parts)
    (h : Hid (wpList P ops Q (o :: rest) a w)) : wpList P ops Q (o :: rest) a w := h
theorem of_hid {p : Prop} (h : p) : Hid p := h
end Go.Proofs.YtkinpbhbgeiflaaDoor.Sxa
/- mix: a block worked into the state. -/
namespace Go.Proofs.YtkinpbhbgeiflaaDoor.Sx
set_option linter.unusedVariables false
set_option linter.unusedSimpArgs false
set_option maxRecDepth 100000
open Go.ChangeShapes Go.WideShapes Go.ChangeAt Go.RowKit
open Go.Proofs.YtkinpbhbgeiflaaDoor.Wu Go.Proofs.YtkinpbhbgeiflaaDoor.Sm Go.Proofs.YtkinpbhbgeiflaaDoor.Sk Go.Proofs.YtkinpbhbgeiflaaDoor.Sc Go.Proofs.YtkinpbhbgeiflaaDoor.Sxa
set_option maxHeartbeats 3200000 in
set_option maxRecDepth 100000 in
theorem mix_c (g : Nat) (s : S8) (B : List Nat) (u l : Int) (w : World) (hs : s.ok) (hB : B.length = 64) (h8 : All8 B) (h : Hsh w g s B u l) (ht : Tbl w) :
    Calls Tryd.prog 126 #[.pointer (some ⟨g, 0, none⟩)] w fun e w' => e = .returned (.tuple #[]) ∧ Hsh w' g (compress s B) B u l ∧ w.grownBy w' (some g) := by
  have H := hide h
  have HT := hide ht
  have HB := hide hB
  have hr := hide (hsh_range h)
  have hg := heap_lt h
  clear h ht hB
  go_enter Tryd.func126, Tryd.ntmps126
  go_wp2_with (refine wpList_load_mid rfl 205 (.tmp 19) rfl g 8 rfl _ _ hr.out Tryd.underlying205 rfl (by rw [info45]; simp [u8s_size, HB.out]) ?_)
  rw [Array.toArray_toList]
  refine (schedule_c B _ HB.out h8).mono ?_
  rintro e w1 ⟨rfl, hb1⟩
  have HWl := hide (sched_length B)
  have hW32 := sched_all h8
  generalize hWW : sched B = W at *
  have HWW := hide hWW
  clear hWW
  have H1 := hide (below_blk hb1 hg H.out)
  have HT1 := hide (tbl_keep HT.out hb1 (Nat.le_refl _))
  have hg1 := hb1.size
  have Hgr1 : Hid (w.grownBy w1 (some g)) := ⟨hb1.os, hb1.tape, hb1.output, hb1.size, fun k hk _ => hb1.block k hk⟩
  have Hz := hide (heap_last w1 (.cells (u32s (zeros 64)) 242))
  have ht := hide (there_all Hz.out)
  clear hb1
  go_wp2_with (refine wpList_store_mid rfl 242 (.tmp 2) (.tmp 21) rfl w1.heap.size 0 _ rfl rfl ?_ ?_ ?_ ?_)
  · have := ht.out
    rw [zeros_length] at this
    rw [u32s_size, HWl.out, zlit32]
    exact this
  · rw [info62]; simp [u32s_size, HWl.out]
  · exact u32s_one W
  have h3 := blk_setCells (u32s W).toList 0 (w1.alloc (.cells (u32s (zeros 64)) 242)) (u32s (zeros 64)).toList (by simp [u32s_size, HWl.out, zeros_length]) (by rw [Array.toArray_toList]; exact Hz.out)
  rw [show (u32s (zeros 64)).toList.take 0 ++ (u32s W).toList ++ (u32s (zeros 64)).toList.drop (0 + (u32s W).toList.length) = (u32s W).toList by simp [u32s_size, HWl.out, zeros_length], Array.toArray_toList] at h3
  have hb3 : Below w1.heap.size w1 ((w1.alloc (.cells (u32s (zeros 64)) 242)).setCells w1.heap.size 0 (u32s W).toList) := below_setCells _ _ _ _ (below_new _ _) (Nat.le_refl _)
  have hgS : g < w1.heap.size := by omega
  have H3 := hide (below_blk hb3 hgS H1.out)
  have HT3 := hide (tbl_keep HT1.out hb3 (Nat.le_refl _))
  have HS3 := hide h3
  have Hgr3 : Hid (w.grownBy ((w1.alloc (.cells (u32s (zeros 64)) 242)).setCells w1.heap.size 0 (u32s W).toList) (some g)) :=
    ⟨hb3.os.trans Hgr1.out.os, hb3.tape.trans Hgr1.out.tape, hb3.output.trans Hgr1.out.output, Nat.le_trans Hgr1.out.size hb3.size, fun k hk hne => (hb3.block k (by omega)).trans (Hgr1.out.block k hk hne)⟩
  clear h3 hb3 H1 HT1 Hgr1 Hz ht H HT hr
  rw [zlit32]
  simp only [Act.put, List.setIfInBounds_toArray, List.set_cons_zero, List.set_cons_succ]
  generalize ((w1.alloc (.cells (u32s (zeros 64)) 242)).setCells w1.heap.size 0 (u32s W).toList) = w3 at *
  generalize w1.heap.size = gs at *
  as_aux_lemma =>
    have c0 := hsh_state H3.out 0 (by omega)
    have c1 := hsh_state H3.out 1 (by omega)
    have c2 := hsh_state H3.out 2 (by omega)
    have c3 := hsh_state H3.out 3 (by omega)
    have c4 := hsh_state H3.out 4 (by omega)
    have c5 := hsh_state H3.out 5 (by omega)
    have c6 := hsh_state H3.out 6 (by omega)
    have c7 := hsh_state H3.out 7 (by omega)
    simp only [S8.list, List.getD_cons_zero, List.getD_cons_succ] at c0 c1 c2 c3 c4 c5 c6 c7
    go_wp2_with fail
    go_quiet (fail)
    have H4 := hide (drew_facts nq H3.out HT3.out Hgr3.out HS3.out)
    clear c0 c1 c2 c3 c4 c5 c6 c7 H3 HT3 Hgr3 HS3
    generalize w3.drewN nq = w4 at *
    have H3 := hide H4.out.1
    have HT3 := hide H4.out.2.1
    have Hgr3 := hide H4.out.2.2.1
    have HS3 := hide H4.out.2.2.2
    clear H4
    have c0 := hsh_state H3.out 0 (by omega)
    have c1 := hsh_state H3.out 1 (by omega)
    have c2 := hsh_state H3.out 2 (by omega)
    have c3 := hsh_state H3.out 3 (by omega)
    have c4 := hsh_state H3.out 4 (by omega)
    have c5 := hsh_state H3.out 5 (by omega)
    have c6 := hsh_state H3.out 6 (by omega)
    have c7 := hsh_state H3.out 7 (by omega)
    simp only [S8.list, List.getD_cons_zero, List.getD_cons_succ] at c0 c1 c2 c3 c4 c5 c6 c7
    go_wp2_with fail
    go_quiet (fail)
    have H5 := hide (drew_facts nq H3.out HT3.out Hgr3.out HS3.out)
    clear c0 c1 c2 c3 c4 c5 c6 c7 H3 HT3 Hgr3 HS3
    generalize w4.drewN nq = w5 at *
    have Hr3 := hide (rangeAt_all H5.out.2.2.2)
    go_wp2_with (refine wpList_load_mid rfl 242 (.tmp 2) rfl gs 0 rfl _ _ Hr3.out Tryd.underlying242 rfl (by rw [info62]; simp [u32s_size, HWl.out]) ?_)
    rw [Array.toArray_toList]
    clear Hr3
    go_loopw [63, 3, 4, 5, 6, 7, 8, 9, 10, 11, 12, 13, 14] (fun i ra rb rc rd re rf rg rh _ _ _ _ wr => ∃ k : Nat, k ≤ 64 ∧ i = .int .i64 k ∧ ra = .int .u32 (((rounds W s k).a : Nat) : Int) ∧ rb = .int .u32 (((rounds W s k).b : Nat) : Int) ∧ rc = .int .u32 (((rounds W s k).c : Nat) : Int) ∧ rd = .int .u32 (((rounds W s k).d : Nat) : Int) ∧ re = .int .u32 (((rounds W s k).e : Nat) : Int) ∧ rf = .int .u32 (((rounds W s k).f : Nat) : Int) ∧ rg = .int .u32 (((rounds W s k).g : Nat) : Int) ∧ rh = .int .u32 (((rounds W s k).h : Nat) : Int) ∧ Hsh wr g s B u l ∧ Tbl wr ∧ w.grownBy wr (some g)) (fun i _ _ _ _ _ _ _ _ _ _ _ _ _ => 64 - (intOf i).toNat)
    case atStart => exact ⟨0, by omega, rfl, rfl, rfl, rfl, rfl, rfl, rfl, rfl, rfl, H5.out.1, H5.out.2.1, H5.out.2.2.1⟩
    case round =>
      clear H5
      obtain ⟨k, hk, rfl, rfl, rfl, rfl, rfl, rfl, rfl, rfl, rfl, h1, h2, h3⟩ := hrel
      have H1 := hide h1
      have H2 := hide h2
      have H3 := hide h3
      clear h1 h2 h3
      have hv := rounds_ok hs W k
      obtain ⟨b1, b2, b3, b4, b5, b6, b7, b8⟩ := S8.bd hv
      by_cases hlt : k < 64
      · have hix := index_row W k HWl.out hlt
        have hct := tbl_at H2.out k hlt
        have hK := all32_getD Ks_all k
        have hWk := all32_getD hW32 k
        have Hst : Hid ((rounds W s k).step (Ks.getD k 0) (W.getD k 0) = rounds W s (k + 1)) := rfl
        generalize Ks.getD k 0 = kk at *
        generalize W.getD k 0 = wk at *
        generalize rounds W s k = v at *
        have Ho := hide (one_is v kk wk hv hK hWk)
        have Ht := hide (two_is v)
        have hk0 : (0 : Int) ≤ (k : Int) := by omega
        have hk1 : (k : Int) < 64 := by omega
        have hd : decide ((k : Int) < 64) = true := by simp; omega
        go_wp2_with fail
        have HG := hide H3.out
        go_region_held3 (fun u => u.cell? ⟨2, k, none⟩ = some (.int .u32 (kk : Int)))
          (first | exact hct | assumption)
          (first
            | (go_at_call 133; refine (bS1_c v.e _ b5).mono ?_; rintro e u ⟨rfl, rfl⟩)
            | (go_at_call 134; refine (chs_c v.e v.f v.g _ b5 b6 b7).mono ?_; rintro e u ⟨rfl, rfl⟩))
        rw [Ho.out]
        go_wp2_with fail
        refine (bS0_c v.a _ b1).mono ?_
        rintro e u ⟨rfl, rfl⟩
        go_wp2_with fail
        refine (maj_c v.a v.b v.c _ b1 b2 b3).mono ?_
        rintro e u ⟨rfl, rfl⟩
        have ht2 := two_is v
        have ha1 := add_is (one v kk wk) (two v)
        have ha2 := add_is v.d (one v kk wk)
        clear hix hct Ho Ht
        go_wp2
        go_roundw
        case rel =>
          refine ⟨k + 1, by omega, by go_num, ?_⟩
          rw [← Hst.out]
          refine ⟨congrArg (Value.int .u32) ?_, rfl, rfl, rfl, congrArg (Value.int .u32) ?_, rfl, rfl, rfl, H1.out, H2.out, ⟨H3.out.os, H3.out.tape, H3.out.output, H3.out.size, H3.out.block⟩⟩
          · show _ = (((one v kk wk + two v) % 4294967296 : Nat) : Int)
            omega
          · show _ = (((v.d + one v kk wk) % 4294967296 : Nat) : Int)
            omega
        case measure => simp [intOf]; omega
      · have hkl : k = 64 := by omega
        have Hc : Hid (compress s B = s.add (rounds W s k)) := by unfold Hid compress; rw [HWW.out, hkl]
        have hd : decide ((k : Int) < 64) = false := by simp; omega
        have H1' := hide (hsh_l (rounds W s k) H1.out)
        clear HWW H1 hkl
        generalize rounds W s k = v at *
        go_wp2_with (refine wpList_build_to rfl 204 _ rfl (some 110) rfl #[.int .u32 (v.a : Int), .int .u32 (v.b : Int), .int .u32 (v.c : Int), .int .u32 (v.d : Int), .int .u32 (v.e : Int), .int .u32 (v.f : Int), .int .u32 (v.g : Int), .int .u32 (v.h : Int)] (by as_aux_lemma => kernel_rfl) ?_)
        obtain ⟨wo, rfl⟩ : ∃ wo : World, wo = wr := ⟨_, rfl⟩
        go_loopw [111, 15, 16] (fun i _ _ wr => ∃ j : Nat, j ≤ 8 ∧ i = .int .i64 j ∧ HshL wr g ((s.add v).list.take j ++ s.list.drop j) B u l ∧ w.grownBy wr (some g)) (fun i _ _ _ => 8 - (intOf i).toNat)
        case atStart => exact ⟨0, by omega, rfl, H1'.out, H3.out⟩
        case round =>
          clear H1' H3 H2
          obtain ⟨j, hj, rfl, h1, h3⟩ := hrel
          have H1 := hide h1
          have H3 := hide h3
          clear h1 h3
          by_cases hlj : j < 8
          · have hix := index8 v j hlj
            have hcs := hshl_state H1.out j (by rw [part_len s v j hj]; exact hlj)
            have hfs := blk_free (i := j) H1.out
            have Hps := hide (part_step s v j hlj)
            have HS := hide (hshl_set (w := wr.drew) H1.out j ((s.list.getD j 0 + v.list.getD j 0) % 4294967296) (by rw [part_len s v j hj]; exact hlj))
            rw [part_at s v j hlj] at hcs
            generalize s.list.getD j 0 = x at *
            generalize v.list.getD j 0 = y at *
            have hj0 : (0 : Int) ≤ (j : Int) := by omega
            have hj1 : (j : Int) < 8 := by omega
            have hdj : decide ((j : Int) < 8) = true := by simp; omega
            have hxy := add_is x y
            go_wp2_with fail
            go_region
            clear hix hcs hfs
            go_wp2
            go_roundw
            case rel =>
              refine ⟨j + 1, by omega, by go_num, ?_, ?_⟩
              · rw [← Hps.out]
                have e : (((x + y) % 4294967296 : Nat) : Int) = ((x : Int) + (y : Int)) % 4294967296 := by omega
                have h := HS.out
                rw [e] at h
                exact h
              · have b := H3.out
                refine ⟨b.os, b.tape, b.output, ?_, ?_⟩
                · have := b.size
                  simpa using this
                · intro k hk hne
                  have e : (wr.setCell ⟨g, j, none⟩ (Value.int IntKind.u32 (((x : Int) + (y : Int)) % 4294967296))).heap[k]? = wr.heap[k]? := Below.heap_setCell _ _ _ _ (fun h => hne (congrArg some h))
                  exact e.trans (b.block k hk hne)
            case measure => simp [intOf]; omega
          · have hjl : j = 8 := by omega
            subst hjl
            rw [show ((8 : Nat) : Int) = 8 from rfl]
            have H5 := hide (l_hsh v H1.out)
            rw [← Hc.out] at H5
            clear H1
            go_wp2
            exact bodyPost_end (v := .tuple #[]) (by simp [results, Tryd.results126]) rfl ⟨rfl, H5.out, H3.out⟩
end Go.Proofs.YtkinpbhbgeiflaaDoor.Sx
/- newHasher: a hasher that has taken nothing yet. -/
namespace Go.Proofs.YtkinpbhbgeiflaaDoor.Sn
set_option linter.unusedVariables false
set_option linter.unusedSimpArgs false
set_option maxRecDepth 100000
open Go.ChangeShapes Go.WideShapes Go.ChangeAt Go.RowKit
open Go.Proofs.YtkinpbhbgeiflaaDoor.Wu Go.Proofs.YtkinpbhbgeiflaaDoor.Sm Go.Proofs.YtkinpbhbgeiflaaDoor.Sk Go.Proofs.YtkinpbhbgeiflaaDoor.Sc Go.Proofs.YtkinpbhbgeiflaaDoor.Sxa
/-- The first state, as it lies in the heap. -/
def Fst (w : World) : Prop := ∃ T f, w.heap[1]? = some (.cells (u32s H0.list) T f)
theorem fst_lt {w : World} (h : Fst w) : 1 < w.heap.size := by obtain ⟨T, f, h⟩ := h; exact heap_lt h
theorem fst_keep {N : Nat} {w w' : World} (h : Fst w) (hb : Below N w w') (hN : w.heap.size ≤ N) : Fst w' := by
  obtain ⟨T, f, h⟩ := h
  exact ⟨T, f, below_blk hb (Nat.lt_of_lt_of_le (heap_lt h) hN) h⟩
theorem info8 : (Tryd.prog.info? 204).map (·.size) = some 8 := by kernel_rfl
theorem info74 : (Tryd.prog.info? 208).map (·.size) = some 74 := by kernel_rfl
/-- A hasher of noughts. -/
def Z8 : S8 := ⟨0, 0, 0, 0, 0, 0, 0, 0⟩
theorem zeroH (w : World) : Sem.run Tryd.prog (zeroValue 208) w = .ok (.agg (hcells Z8 (zeros 64) 0 0).toArray) w := by kernel_rfl
theorem there_cells {w : World} {B : Nat} {xs : List Value} {T : TypeId} (h : w.heap[B]? = some (.cells xs.toArray T (0, 0))) : w.there B 0 xs.length := fun j hj =>
  ⟨by rw [Nat.zero_add, blk_cell h (x := xs[j]) (by simp)]; rfl, blk_free h⟩
theorem range_cells {w : World} {B : Nat} {xs : List Value} {T : TypeId} {f : Nat × Nat} (h : w.heap[B]? = some (.cells xs.toArray T f)) : w.rangeAt B 0 xs := fun j v hv => by
  rw [Nat.zero_add]; exact blk_cell h (by simpa using hv)
theorem hcells_length (s : S8) (B : List Nat) (u l : Int) : (hcells s B u l).length = 10 + B.length := by simp [hcells, S8.list]; omega
theorem hcells_one (s : S8) (B : List Nat) (u l : Int) : (hcells s B u l).toArray.all (·.oneCell') = true := by simp [hcells, Value.oneCell']
theorem newHasher_c (w : World) (hf : Fst w) :
    Calls Tryd.prog 115 #[] w fun e w' => e = .returned (.agg (hcells H0 (zeros 64) 0 0).toArray) ∧ Below w.heap.size w w' := by
  obtain ⟨T, f, hf⟩ := hf
  have hr := hide (rangeAt_all (w := w.alloc (.cells (hcells Z8 (zeros 64) 0 0).toArray 208)) (heap_old hf _))
  have hz := zeroH w
  go_enter Tryd.func115, Tryd.ntmps115
  go_wp2_with (first
    | (refine wpList_load_mid rfl 204 (.global 1) rfl 1 0 rfl _ _ hr.out Tryd.underlying204 rfl (by rw [info8]; rfl) ?_)
    | (refine wpList_build_to rfl 208 _ rfl (some 2) rfl (hcells H0 (zeros 64) 0 0).toArray (by as_aux_lemma => kernel_rfl) ?_)
    | (refine wpList_store_mid rfl 208 (.tmp 0) (.tmp 2) rfl w.heap.size 0 _ rfl rfl ?_ ?_ ?_ ?_))
  · have := there_cells (heap_last w (.cells (hcells Z8 (zeros 64) 0 0).toArray 208))
    exact this
  · rw [info74]; rfl
  · exact hcells_one _ _ _ _
  have h3 := blk_setCells (hcells H0 (zeros 64) 0 0) 0 (w.alloc (.cells (hcells Z8 (zeros 64) 0 0).toArray 208)) (hcells Z8 (zeros 64) 0 0) (by rw [hcells_length, hcells_length]; omega) (heap_last w _)
  have hb : Below w.heap.size w ((w.alloc (.cells (hcells Z8 (zeros 64) 0 0).toArray 208)).setCells w.heap.size 0 (hcells H0 (zeros 64) 0 0)) := below_setCells _ _ _ _ (below_new _ _) (Nat.le_refl _)
  rw [show (hcells Z8 (zeros 64) 0 0).take 0 ++ hcells H0 (zeros 64) 0 0 ++ (hcells Z8 (zeros 64) 0 0).drop (0 + (hcells H0 (zeros 64) 0 0).length) = hcells H0 (zeros 64) 0 0 from rfl] at h3
  go_wp2_with fail
  refine bodyPost_ret (v := .agg (hcells H0 (zeros 64) 0 0).toArray) ?_ rfl ⟨rfl, hb⟩
  rw [results_one_cell Tryd.results115]
  have h4 := run_loadVar_mid (P := Tryd.prog) _ w.heap.size 0 208 (hcells H0 (zeros 64) 0 0) _ (range_cells h3) Tryd.underlying208 rfl (by rw [info74]; rfl)
  simpa [asAddr, Act.put] using h4
end Go.Proofs.YtkinpbhbgeiflaaDoor.Sn
/- What the listed variables give: the first state and the words of the rounds; a world in which they lie so. -/
namespace Go.Proofs.YtkinpbhbgeiflaaDoor.Sl
set_option linter.unusedVariables false
set_option linter.unusedSimpArgs false
set_option maxRecDepth 100000
open Go.ChangeShapes Go.WideShapes Go.ChangeAt Go.RowKit
open Go.Proofs.YtkinpbhbgeiflaaDoor.Wu Go.Proofs.YtkinpbhbgeiflaaDoor.Sm Go.Proofs.YtkinpbhbgeiflaaDoor.Sk Go.Proofs.YtkinpbhbgeiflaaDoor.Sc Go.Proofs.YtkinpbhbgeiflaaDoor.Sxa Go.Proofs.YtkinpbhbgeiflaaDoor.Sn

abbrev laid : List (String × DataW Unit) := [("wharfinger/sum.firstState", Rows.laid_wharfinger_sum_firstState), ("wharfinger/sum.roundWords", Rows.laid_wharfinger_sum_roundWords)]
theorem gF : Tryd.prog.globalNamed "wharfinger/sum.firstState" = some 1 := by kernel_rfl
theorem gR : Tryd.prog.globalNamed "wharfinger/sum.roundWords" = some 2 := by kernel_rfl
theorem tF : (Tryd.prog.globals[1]?).map (·.type) = some 204 := by kernel_rfl
theorem tR : (Tryd.prog.globals[2]?).map (·.type) = some 242 := by kernel_rfl
theorem dF : (Rows.laid_wharfinger_sum_firstState : DataW Unit) = Lib.tabData .u32 (H0.list.map fun x : Nat => (x : Int)) := by rfl
theorem dR : (Rows.laid_wharfinger_sum_roundWords : DataW Unit) = Lib.tabData .u32 (Ks.map fun x : Nat => (x : Int)) := by rfl
theorem of_tab {W : World} {name : String} {g : Nat} {X : List Nat} (hg : Tryd.prog.globalNamed name = some g) (h : Lib.TabIs Tryd.prog W name .u32 (X.map fun x : Nat => (x : Int))) : ∃ T f, W.heap[g]? = some (.cells (u32s X) T f) := by
  unfold Lib.TabIs World.var? at h
  rw [hg, Option.bind_some] at h
  split at h
  · rename_i cs T f hh
    injection h with h
    refine ⟨T, f, ?_⟩
    rw [hh, h]
    unfold u32s
    simp
  · cases h
theorem of_laid {W : World} (h : laidMetH Tryd.prog laid W) : Fst W ∧ Tbl W := by
  rw [MakeChecks.laidMetH_plain _ _ _ (by kernel_rfl)] at h
  have h1 : laidMet Tryd.prog [("wharfinger/sum.firstState", Lib.tabData .u32 (H0.list.map fun x : Nat => (x : Int))), ("wharfinger/sum.roundWords", Lib.tabData .u32 (Ks.map fun x : Nat => (x : Int)))] W := by
    rw [← dF, ← dR]; exact h
  have a1 := Lib.tabIs_of_head gF tF Tryd.underlying204 Tryd.underlying108 (by kernel_rfl) (by kernel_rfl) h1
  have a2 := Lib.tabIs_of_head gR tR Tryd.underlying242 Tryd.underlying108 (by kernel_rfl) (by kernel_rfl) (laidMet.tail h1)
  exact ⟨of_tab gF a1, of_tab gR a2⟩
theorem door_met (os : Os) (args : Array Value) : laidMetH Tryd.prog laid ((World.doorLaid Tryd.prog 400 os).forCall (fun _ _ => 0) ⟨#[], args, []⟩).memory :=
  laidMetH_of_parts3 (fuel := 8) (laidMet_of_run' 8 (by kernel_rfl) (by kernel_rfl)) (by kernel_rfl) (by kernel_rfl)
end Go.Proofs.YtkinpbhbgeiflaaDoor.Sl
/- The standard's way through a message, block by block; its end. Plain numbers, nothing of the program. -/
namespace Go.Proofs.YtkinpbhbgeiflaaDoor.Sh
set_option linter.unusedVariables false
set_option linter.unusedSimpArgs false
set_option maxRecDepth 100000
open Go.Proofs.YtkinpbhbgeiflaaDoor.Sm

/-- The k-th block of a message. -/
def blk (M : List Nat) (k : Nat) : List Nat := (M.drop (64 * k)).take 64
/-- The state behind so many blocks. -/
def fold (s : S8) (M : List Nat) : Nat → S8
  | 0 => s
  | k + 1 => compress (fold s M k) (blk M k)
/-- The state behind a message's whole blocks, and what is left of it. -/
def st (M : List Nat) : S8 := fold H0 M (M.length / 64)
def rest (M : List Nat) : List Nat := M.drop (64 * (M.length / 64))
theorem fold_ok {s : S8} (h : s.ok) (M : List Nat) : ∀ k, (fold s M k).ok
  | 0 => h
  | k + 1 => compress_ok _ _
theorem st_ok (M : List Nat) : (st M).ok := fold_ok H0_ok M _
theorem rest_length (M : List Nat) : (rest M).length = M.length % 64 := by simp [rest]; omega
theorem blk_append (M x : List Nat) (k : Nat) (h : 64 * (k + 1) ≤ M.length) : blk (M ++ x) k = blk M k := by
  unfold blk
  rw [List.drop_append_of_le_length (by omega), List.take_append_of_le_length (by simp; omega)]
theorem fold_append (s : S8) (M x : List Nat) : ∀ k, 64 * k ≤ M.length → fold s (M ++ x) k = fold s M k
  | 0, _ => rfl
  | k + 1, h => by simp only [fold]; rw [fold_append s M x k (by omega), blk_append M x k h]
/-- Bytes that don't fill the block. -/
theorem st_part (M x : List Nat) (h : M.length % 64 + x.length < 64) : st (M ++ x) = st M ∧ rest (M ++ x) = rest M ++ x ∧ (M ++ x).length % 64 = M.length % 64 + x.length := by
  have e : (M ++ x).length / 64 = M.length / 64 := by simp; omega
  refine ⟨?_, ?_, by simp; omega⟩
  · unfold st; rw [e, fold_append H0 M x _ (by omega)]
  · unfold rest; rw [e, List.drop_append_of_le_length (by omega)]
/-- Bytes that fill it. -/
theorem st_full (M x : List Nat) (h : M.length % 64 + x.length = 64) : st (M ++ x) = compress (st M) (rest M ++ x) ∧ rest (M ++ x) = [] ∧ (M ++ x).length % 64 = 0 := by
  have e : (M ++ x).length / 64 = M.length / 64 + 1 := by simp; omega
  have e2 : blk (M ++ x) (M.length / 64) = rest M ++ x := by
    unfold blk rest
    rw [List.drop_append_of_le_length (by omega), List.take_of_length_le (by simp; omega)]
  refine ⟨?_, ?_, by simp; omega⟩
  · unfold st; rw [e]; simp only [fold]; rw [fold_append H0 M x _ (by omega), e2]
  · have : (rest (M ++ x)).length = 0 := by rw [rest_length]; simp; omega
    exact List.eq_nil_of_length_eq_zero this
theorem st_nil : st [] = H0 := rfl
theorem rest_nil : rest [] = [] := rfl

/-- A number of 64 bits as eight bytes, the highest first. -/
def len8 (n : Nat) : List Nat := [n / 72057594037927936 % 256, n / 281474976710656 % 256, n / 1099511627776 % 256, n / 4294967296 % 256, n / 16777216 % 256, n / 65536 % 256, n / 256 % 256, n % 256]
theorem len8_length (n : Nat) : (len8 n).length = 8 := rfl
/-- How many noughts stand between the mark and the length. -/
def gap (n : Nat) : Nat := (119 - n % 64) % 64
theorem gap_at (n : Nat) : (n + 1 + gap n + 8) % 64 = 0 := by unfold gap; omega
theorem gap_lt (n : Nat) : gap n < 64 := by unfold gap; omega
/-- What stands behind a message of so many bytes. -/
def tail (n : Nat) : List Nat := 128 :: (List.replicate (gap n) 0 ++ len8 (8 * n % 18446744073709551616))
theorem tail_length (n : Nat) : (tail n).length = gap n + 9 := by simp [tail, len8_length]
/-- The message with its end. -/
def padded (M : List Nat) : List Nat := M ++ tail M.length
theorem padded_mod (M : List Nat) : (padded M).length % 64 = 0 := by
  have := gap_at M.length
  simp [padded, tail_length]; omega
theorem all8_append {X Y : List Nat} (h : All8 X) (h' : All8 Y) : All8 (X ++ Y) := fun x hx => (List.mem_append.1 hx).elim (h x) (h' x)
theorem all8_take {X : List Nat} (h : All8 X) (k : Nat) : All8 (X.take k) := fun x hx => h x (List.mem_of_mem_take hx)
theorem all8_drop {X : List Nat} (h : All8 X) (k : Nat) : All8 (X.drop k) := fun x hx => h x (List.mem_of_mem_drop hx)
theorem all8_nil : All8 [] := fun x hx => by cases hx
theorem all8_zeros (n : Nat) : All8 (List.replicate n 0) := fun x hx => by rw [List.eq_of_mem_replicate hx]; omega
theorem all8_len8 (n : Nat) : All8 (len8 n) := by
  intro x hx
  simp only [len8, List.mem_cons, List.not_mem_nil, or_false] at hx
  omega
theorem all8_tail (n : Nat) : All8 (tail n) := by
  intro x hx
  simp only [tail, List.mem_cons, List.mem_append] at hx
  rcases hx with rfl | hx | hx
  · omega
  · exact all8_zeros _ x hx
  · exact all8_len8 _ x hx
theorem all8_padded {M : List Nat} (h : All8 M) : All8 (padded M) := all8_append h (all8_tail _)
/-- A word's four bytes, eight words' 32. -/
def four (x : Nat) : List Nat := [x / 16777216 % 256, x / 65536 % 256, x / 256 % 256, x % 256]
def bytes8 (s : S8) : List Nat := s.list.flatMap four
theorem bytes8_length (s : S8) : (bytes8 s).length = 32 := rfl
theorem all8_bytes8 (s : S8) : All8 (bytes8 s) := by
  intro x hx
  simp only [bytes8, List.mem_flatMap, four, List.mem_cons, List.not_mem_nil, or_false] at hx
  obtain ⟨y, _, hy⟩ := hx
  omega
/-- The standard's sum. -/
def sha (M : List Nat) : List Nat := bytes8 (st (padded M))
theorem sha_length (M : List Nat) : (sha M).length = 32 := rfl
theorem all8_sha (M : List Nat) : All8 (sha M) := all8_bytes8 _
end Go.Proofs.YtkinpbhbgeiflaaDoor.Sh
/- Rows of bytes, for any program that has them: cells, sources, blocks that are known whole. -/
namespace Go.Proofs.YtkinpbhbgeiflaaDoor.Ba
set_option linter.unusedVariables false
set_option linter.unusedSimpArgs false
set_option maxRecDepth 100000
open Go.ChangeShapes Go.WideShapes Go.ChangeAt Go.RowKit
open Go.Proofs.YtkinpbhbgeiflaaDoor.Wu Go.Proofs.YtkinpbhbgeiflaaDoor.Sm Go.Proofs.YtkinpbhbgeiflaaDoor.Sh

/-- Numbers as the cells of a row. -/
def u8s (L : List Nat) : Array Value := (L.map fun x : Nat => Value.int .u8 (x : Int)).toArray
theorem u8s_size (L : List Nat) : (u8s L).size = L.length := by simp [u8s]
theorem u8s_at (L : List Nat) (i : Nat) (h : i < L.length) : (u8s L)[i]? = some (.int .u8 ((L.getD i 0 : Nat) : Int)) := by simp [u8s, List.getD, h]
theorem u8s_set (L : List Nat) (i x : Nat) : (u8s L).setIfInBounds i (.int .u8 (x : Int)) = u8s (L.set i x) := by simp [u8s, List.map_set]
theorem size_u8 (u : World) : Sem.run Tryd.prog (Go.sizeOf 5) u = .ok 1 u := by kernel_rfl
/-- A block's list of cells behind a store of a row into it. -/
theorem blk_setCells {T : TypeId} {f : Nat × Nat} {B : Nat} : ∀ (vs : List Value) (o : Nat) (w : World) (xs : List Value), o + vs.length ≤ xs.length → w.heap[B]? = some (.cells xs.toArray T f) →
    (w.setCells B o vs).heap[B]? = some (.cells (xs.take o ++ vs ++ xs.drop (o + vs.length)).toArray T f)
  | [], o, w, xs, _, h => by simp [World.setCells, h]
  | v :: vs, o, w, xs, hl, h => by
    rw [World.setCells]
    have h1 := blk_set (i := o) h v
    rw [List.setIfInBounds_toArray] at h1
    have h2 := blk_setCells vs (o + 1) _ (xs.set o v) (by simp at *; omega) h1
    rw [h2]
    simp only [List.length_cons] at hl ⊢
    congr 3
    rw [List.set_eq_take_append_cons_drop, if_pos (by omega)]
    have hA : (xs.take o).length = o := by rw [List.length_take]; omega
    have e1 : (xs.take o ++ v :: xs.drop (o + 1)).take (o + 1) = xs.take o ++ [v] := by
      rw [List.take_append, hA, List.take_of_length_le (by omega), show o + 1 - o = 1 by omega]; rfl
    have e2 : (xs.take o ++ v :: xs.drop (o + 1)).drop (o + 1 + vs.length) = xs.drop (o + (vs.length + 1)) := by
      rw [List.drop_append, hA, List.drop_eq_nil_of_le (by omega), show o + 1 + vs.length - o = vs.length + 1 by omega, List.drop_succ_cons, List.drop_drop, List.nil_append]
      congr 1; omega
    rw [e1, e2]
    simp
theorem below_setCells {N : Nat} {u : World} : ∀ (vs : List Value) (B o : Nat) (w : World), Below N u w → N ≤ B → Below N u (w.setCells B o vs)
  | [], _, _, _, h, _ => h
  | v :: vs, B, o, w, h, hB => by
    rw [World.setCells]
    exact below_setCells vs B (o + 1) _ (h.setCell hB _) hB
theorem results_one_cell {fn : Func} {p : Tmp} {ty : TypeId} (h : fn.results = #[.cell p ty]) (tmps : Array Value) (P : Program) (w : World) :
    (results fn tmps).run P w = ((asAddr (tmps.getD p undef)).run P w).andThen fun a w₁ => (loadVar ty a).run P w₁ := by
  simp only [results, h]
  simp [Sem.run_bind, Result.andThen]
theorem row8 {w : World} {B i : Nat} {X : List Nat} {T : TypeId} {f : Nat × Nat} (h : w.heap[B]? = some (.cells (u8s X) T f)) (hi : i < X.length) : w.cell? ⟨B, i, none⟩ = some (.int .u8 ((X.getD i 0 : Nat) : Int)) := blk_cell h (u8s_at X i hi)
theorem heap_3c (w : World) (o p q : Obj) : (((w.alloc o).alloc p).alloc q).heap[w.heap.size + 1 + 1]? = some q := by
  have := heap_last ((w.alloc o).alloc p) q
  simpa [World.size_alloc] using this
/-- Noughts. -/
def zeros (n : Nat) : List Nat := List.replicate n 0
theorem zeros_length (n : Nat) : (zeros n).length = n := List.length_replicate ..
theorem of_hid {p : Prop} (h : p) : Hid p := h
theorem range8_all {w : World} {B : Nat} {X : List Nat} {T : TypeId} {f : Nat × Nat} (h : w.heap[B]? = some (.cells (u8s X) T f)) : w.rangeAt B 0 (u8s X).toList := fun j v hv => by
  refine blk_cell h ?_
  simpa using hv
theorem grown_setCell {a w : World} {g : Nat} (h : a.grownBy w (some g)) (o : Nat) (v : Value) : a.grownBy (w.setCell ⟨g, o, none⟩ v) (some g) :=
  ⟨h.os, h.tape, h.output, by simpa [World.setCell] using h.size, fun i hi hne => (Below.heap_setCell w ⟨g, o, none⟩ v i (fun e => hne (by rw [e]))).trans (h.block i hi hne)⟩
theorem grown_setRow {a w : World} {g : Nat} (h : a.grownBy w (some g)) (cs : Array Value) : a.grownBy (w.setRow g cs) (some g) :=
  ⟨h.os, h.tape, h.output, by simpa [World.setRow] using h.size, fun i hi hne => (setRow_other w g i cs (fun e => hne (by rw [e]))).trans (h.block i hi hne)⟩
theorem grown_drew {a w : World} {row : Option Nat} (h : a.grownBy w row) : a.grownBy w.drew row := ⟨h.os, h.tape, h.output, h.size, h.block⟩
theorem grown_below {a w w' : World} {g : Option Nat} {N : Nat} (h : a.grownBy w g) (hb : Below N w w') (hN : a.heap.size ≤ N) : a.grownBy w' g :=
  ⟨hb.os.trans h.os, hb.tape.trans h.tape, hb.output.trans h.output, Nat.le_trans h.size hb.size, fun i hi hne => (hb.block i (Nat.lt_of_lt_of_le hi hN)).trans (h.block i hi hne)⟩
theorem grown_trans {a b c : World} {g : Option Nat} (h : a.grownBy b g) (k : b.grownBy c g) : a.grownBy c g :=
  ⟨k.os.trans h.os, k.tape.trans h.tape, k.output.trans h.output, Nat.le_trans h.size k.size, fun i hi hne => (k.block i (Nat.lt_of_lt_of_le hi h.size) hne).trans (h.block i hi hne)⟩
theorem grown_cell {a w : World} {g : Nat} (h : a.grownBy w (some g)) {b o : Nat} {v : Value} (hb : b ≠ g) (hc : a.cell? ⟨b, o, none⟩ = some v) : w.cell? ⟨b, o, none⟩ = some v := by
  have hl := cell_lt hc
  have e := h.block b hl (fun e => hb (by injection e))
  exact (World.cell?_of_block (a := ⟨b, o, none⟩) e).trans hc
theorem elem_bs : Tryd.prog.elem 22 = 5 := by simp [Program.elem, Tryd.underlying22]
theorem und_bs : Tryd.prog.underlying 22 = some (.slice (Tryd.prog.elem 22)) := by rw [elem_bs]; exact Tryd.underlying22
/-- b[n:] -/
theorem slice_from (u : World) (a : Option Addr) (len cap n : Nat) (h : n ≤ len) :
    Sem.run Tryd.prog (Instr.slice 22 (.slice a len cap) (some (.int .i64 (n : Int))) none none) u = .ok (.slice (if cap = n then a else a.map (·.add n)) (len - n) (cap - n)) u := by
  rw [run_slice_l u 22 a len cap und_bs .i64 _ (by omega) (by omega), elem_bs, size_u8]
  simp only [Result.andThen, sliced, Int.toNat_natCast, Nat.mul_one]
theorem info_u8s : (Tryd.prog.info? 5).map (·.size) = some 1 := by kernel_rfl
/-- A row of bytes' cells. -/
def b8 (X : List Nat) : List Value := X.map fun x : Nat => Value.int .u8 (x : Int)
theorem b8_length (X : List Nat) : (b8 X).length = X.length := by simp [b8]
theorem b8_one (X : List Nat) : ∀ v ∈ b8 X, v.oneCell' = true := by
  intro v hv
  simp only [b8, List.mem_map] at hv
  obtain ⟨x, _, rfl⟩ := hv
  rfl
theorem b8_at {X : List Nat} {j : Nat} {v : Value} (h : (b8 X)[j]? = some v) : j < X.length ∧ v = .int .u8 ((X.getD j 0 : Nat) : Int) := by
  have hj : j < X.length := by have := (List.getElem?_eq_some_iff.1 h).1; rwa [b8_length] at this
  refine ⟨hj, ?_⟩
  simp only [b8, List.getElem?_map, List.getElem?_eq_getElem hj, Option.map_some, Option.some.injEq] at h
  rw [← h]
  simp [List.getD, hj]
theorem there8 {w : World} {B : Nat} {X : List Nat} {T : TypeId} (h : w.heap[B]? = some (.cells (u8s X) T (0, 0))) : w.there B 0 X.length := fun j hj =>
  ⟨by rw [Nat.zero_add, row8 h hj]; rfl, blk_free h⟩
theorem u8s_one (X : List Nat) : (u8s X).all (·.oneCell') = true := by
  unfold u8s
  exact all_oneCell_toArray (fun v hv => by simp only [List.mem_map] at hv; obtain ⟨z, _, rfl⟩ := hv; rfl)
theorem u8s_list (X : List Nat) : (u8s X).toList = b8 X := rfl
theorem u8s_b8 (X : List Nat) : u8s X = (b8 X).toArray := rfl
theorem set_all8 {w : World} {B : Nat} {T : TypeId} (X Y : List Nat) (h : w.heap[B]? = some (.cells (u8s Y) T (0, 0))) (hl : X.length = Y.length) : (w.setCells B 0 (u8s X).toList).heap[B]? = some (.cells (u8s X) T (0, 0)) := by
  have e := blk_setCells (u8s X).toList 0 w (u8s Y).toList (by simp [u8s_size]; omega) (by rw [Array.toArray_toList]; exact h)
  rw [e, List.take_zero, List.nil_append, List.drop_eq_nil_of_le (by simp [u8s_size]; omega), List.append_nil, Array.toArray_toList]
theorem setCells_other {B k : Nat} (hk : k ≠ B) : ∀ (vs : List Value) (o : Nat) (w : World), (w.setCells B o vs).heap[k]? = w.heap[k]?
  | [], _, _ => rfl
  | v :: vs, o, w => by
    rw [World.setCells, setCells_other hk vs (o + 1)]
    exact Below.heap_setCell _ _ _ _ hk
theorem grown_setCells {B : Nat} : ∀ (vs : List Value) (o : Nat) (w : World), w.grownBy (w.setCells B o vs) (some B)
  | [], _, w => World.grownBy.refl w _
  | v :: vs, o, w => by
    rw [World.setCells]
    exact grown_trans (grown_setCell (World.grownBy.refl w (some B)) o v) (grown_setCells vs (o + 1) _)
theorem wpList_store_whole {P : Program} {ops : Array Oper} {rest : List Oper} {op : Oper} {a : Act} {w : World} {Q : Exit → Act → World → Prop} (hgd : op.guard = none) (ty : TypeId) (x y : Operand) (ho : op.op = .store ty x y)
    (b : Nat) (X Y : List Nat) (T : TypeId) (hx : a.eval x = .pointer (some ⟨b, 0, none⟩)) (hy : a.eval y = .agg (u8s X)) (hg : w.heap[b]? = some (.cells (u8s Y) T (0, 0))) (hl : X.length = Y.length)
    (hi : (P.info? ty).map (·.size) = some X.length)
    (h : ∀ w', Hid (w'.heap[b]? = some (.cells (u8s X) T (0, 0))) → Hid (w.grownBy w' (some b)) → Hid (wpList P ops Q rest (a.put op.dst undef) w')) : wpList P ops Q (op :: rest) a w :=
  wpList_store_mid hgd ty x y ho b 0 (u8s X) hx hy (by rw [u8s_size, hl]; exact there8 hg) (by rw [u8s_size]; exact hi) (u8s_one X) (h _ (set_all8 X Y hg hl) (grown_setCells _ _ _))
theorem wpList_load_whole {P : Program} {ops : Array Oper} {rest : List Oper} {op : Oper} {a : Act} {w : World} {Q : Exit → Act → World → Prop} (hgd : op.guard = none) (ty : TypeId) (x : Operand) (ho : op.op = .load ty x)
    (b : Nat) (X : List Nat) (T : TypeId) (f : Nat × Nat) (hx : a.eval x = .pointer (some ⟨b, 0, none⟩)) (hg : w.heap[b]? = some (.cells (u8s X) T f)) (d : TypeDesc)
    (hu : P.underlying ty = some d) (hd : d.isRow = true) (hi : (P.info? ty).map (·.size) = some X.length)
    (h : wpList P ops Q rest (a.put op.dst (.agg (u8s X))) w) : wpList P ops Q (op :: rest) a w := by
  refine wpList_load_mid hgd ty x ho b 0 hx (u8s X).toList d (range8_all hg) hu hd (by rw [Array.length_toList, u8s_size]; exact hi) ?_
  rw [Array.toArray_toList]
  exact h
theorem ret_whole {P : Program} {fn : Func} {p : Tmp} {ty : TypeId} {R : Ending → World → Prop} {a : Act} {w : World} (hr : fn.results = #[.cell p ty]) (b : Nat) (X : List Nat) (T : TypeId) (f : Nat × Nat) (hp : a.tmps.getD p undef = .pointer (some ⟨b, 0, none⟩))
    (hg : w.heap[b]? = some (.cells (u8s X) T f)) (d : TypeDesc) (hu : P.underlying ty = some d) (hd : d.isRow = true) (hi : (P.info? ty).map (·.size) = some X.length) (hde : a.defers = []) (h : R (.returned (.agg (u8s X))) w) : bodyPost P fn R .ret a w := by
  refine bodyPost_ret (v := .agg (u8s X)) ?_ hde h
  rw [results_one_cell hr, hp]
  have h4 := run_loadVar_mid (P := P) w b 0 ty (u8s X).toList d (range8_all hg) hu hd (by rw [Array.length_toList, u8s_size]; exact hi)
  rw [Array.toArray_toList] at h4
  simpa [asAddr] using h4
/-- A block other than the one that turned. -/
theorem keepG {w w' : World} {g k : Nat} {x : Obj} (h : w.grownBy w' (some g)) (hk : k ≠ g) (hx : w.heap[k]? = some x) : w'.heap[k]? = some x :=
  (h.block k (heap_lt hx) (fun e => hk (by injection e))).trans hx
theorem belowG {w0 w w' : World} {g N : Nat} (hb : Below N w0 w) (h : w.grownBy w' (some g)) (hN : N ≤ g) (hs : N ≤ w.heap.size) : Below N w0 w' :=
  hb.trans ⟨h.os, h.tape, h.output, h.size, fun k hk => h.block k (by omega) (fun e => by injection e with e; omega)⟩
/-- A slice of m bytes L: nil, empty, or over cells that are there. -/
def SrcB (w : World) (a : Option Addr) (m : Nat) (L : List Nat) : Prop :=
  L.length = m ∧ All8 L ∧ ∃ b off, (0 < m → a = some ⟨b, off, none⟩) ∧ ∀ i, i < m → w.cell? ⟨b, off + i, none⟩ = some (.int .u8 ((L.getD i 0 : Nat) : Int))
theorem SrcB.nil (w : World) (a : Option Addr) : SrcB w a 0 [] := ⟨rfl, all8_nil, 0, 0, fun h => absurd h (by omega), fun i h => absurd h (by omega)⟩
theorem SrcB.below {w w' : World} {a : Option Addr} {m : Nat} {L : List Nat} (h : SrcB w a m L) (hb : Below w.heap.size w w') : SrcB w' a m L := by
  obtain ⟨h1, h2, b, off, h3, h4⟩ := h
  exact ⟨h1, h2, b, off, h3, fun i hi => keepC hb (Nat.le_refl _) (h4 i hi)⟩
end Go.Proofs.YtkinpbhbgeiflaaDoor.Ba
/- A slice of bytes that came in, as bytes. -/
namespace Go.Proofs.YtkinpbhbgeiflaaDoor.Bo
set_option linter.unusedVariables false
set_option linter.unusedSimpArgs false
set_option maxRecDepth 100000
open Go.ChangeShapes Go.WideShapes Go.ChangeAt Go.RowKit
open Go.Proofs.YtkinpbhbgeiflaaDoor.Wu Go.Proofs.YtkinpbhbgeiflaaDoor.Sm Go.Proofs.YtkinpbhbgeiflaaDoor.Sh Go.Proofs.YtkinpbhbgeiflaaDoor.Ba
theorem u8_bd {z : Int} (h : (Lit.int .u8 z).wf = true) : 0 ≤ z ∧ z < 256 := by
  simp [Lit.wf, IntKind.min, IntKind.max, IntKind.signed, IntKind.bits] at h
  omega
theorem src_of_row {w : World} {a : Option Addr} {len cap : Nat} {zs : List Int} (h : (a = none ∧ len = 0 ∧ cap = 0 ∧ zs = []) ∨
      ∃ x, a = some x ∧ len ≤ cap ∧ cap ≤ maxLen ∧ zs.length = cap ∧ (∀ i, i < zs.length → w.cell? (x.add i) = some (.int .u8 (zs.getD i 0))) ∧ ∀ n ∈ zs, (Lit.int .u8 n).wf = true) :
    ∃ L : List Nat, SrcB w a len L ∧ len ≤ cap ∧ cap ≤ 9223372036854775807 ∧ (a = none → len = 0) := by
  rcases h with ⟨rfl, rfl, rfl, rfl⟩ | ⟨⟨b, off, spot⟩, rfl, hl, hm, hz, hcell, hwz⟩
  · exact ⟨[], SrcB.nil w none, Nat.le_refl _, by omega, fun _ => rfl⟩
  · unfold maxLen at hm
    refine ⟨(zs.take len).map Int.toNat, ⟨by simp; omega, ?_, b, off, fun h0 => ?_, fun i hi => ?_⟩, hl, by omega, fun h => by cases h⟩
    · intro x hx
      obtain ⟨z, hz1, rfl⟩ := List.mem_map.1 hx
      have := u8_bd (hwz z (List.mem_of_mem_take hz1))
      omega
    · have hc := hcell 0 (by omega)
      have hspot : spot = none := by simpa [Addr.add] using World.cell?_spot hc
      rw [hspot]
    · have hc0 := hcell 0 (by omega)
      have hspot : spot = none := by simpa [Addr.add] using World.cell?_spot hc0
      subst hspot
      have := hcell i (by omega)
      have e : (⟨b, off, none⟩ : Addr).add i = ⟨b, off + i, none⟩ := by
        by_cases h : i = 0
        · subst h; simp [Addr.add]
        · simp [Addr.add, h]
      rw [e] at this
      rw [this]
      have hi' : i < zs.length := by omega
      have hb := u8_bd (hwz zs[i] (List.getElem_mem hi'))
      have e2 : zs.getD i 0 = zs[i] := by simp [List.getD, hi']
      have e3 : ((zs.take len).map Int.toNat).getD i 0 = zs[i].toNat := by
        simp [List.getD, List.getElem?_take_of_lt hi, hi']
      rw [e2, e3]
      congr 2
      omega
end Go.Proofs.YtkinpbhbgeiflaaDoor.Bo
/- Opening an argument that is two numbers. -/
namespace Go.Proofs.YtkinpbhbgeiflaaDoor.Bj
set_option linter.unusedVariables false
set_option linter.unusedSimpArgs false
set_option maxRecDepth 100000
open Go.RowKit Go.WideShapes Go.ChangeShapes
theorem okWide_array {P : Program} {w : World} {r : Reach} {base n : Nat} {t e : TypeId} {v : Value} (ht : P.underlying t = some (.array n e)) (h : Value.okWide P w r base t v) : ∃ cs, v = .agg cs ∧ cs.size = P.cellsOf t := by
  unfold Value.okWide at h
  rw [ht] at h
  cases v <;> simp_all
theorem i64_bd {n : Int} (h : (Lit.int .i64 n).wf = true) : -9223372036854775808 ≤ n ∧ n ≤ 9223372036854775807 := by
  simp [Lit.wf, IntKind.min, IntKind.max, IntKind.signed, IntKind.bits] at h
  omega
theorem open_pair {H : Type} {enc : TypeId × Value → H} {P : Program} {w : World} {r : Reach} {b0 base : Nat} {spare : Nat → Bool} {held : Bool} {t e : TypeId} {v : Value} {d : DataW H} {p : List MemPlace}
    (ht : P.underlying t = some (.array 2 e)) (he : P.underlying e = some (.int .i64)) (hce : P.cellsOf e = 1) (hct : P.cellsOf t = 2) (hv : Value.okWide P w r b0 t v) (h : DataW.Trod enc P w base spare held t v d p) :
    ∃ x y : Int, v = .agg #[.int .i64 x, .int .i64 y] ∧ (-9223372036854775808 ≤ x ∧ x ≤ 9223372036854775807) ∧ (-9223372036854775808 ≤ y ∧ y ≤ 9223372036854775807) := by
  obtain ⟨cs, rfl, hsz⟩ := okWide_array ht hv
  obtain ⟨fuel, hf⟩ := h
  obtain ⟨xs, m, _, ex, hl, hxl, hel⟩ := DataW.trod_array ht hf
  rw [hct] at hsz
  have key : ∀ i, i < 2 → ∃ z : Int, (-9223372036854775808 ≤ z ∧ z ≤ 9223372036854775807) ∧ cs[i]? = some (.int .i64 z) := by
    intro i hi
    have h1 := hel i hi
    obtain ⟨y, hy⟩ : ∃ y, xs[i]? = some y := ⟨xs[i]'(by omega), List.getElem?_eq_getElem (by omega)⟩
    rw [hce, Nat.mul_one, hy] at h1
    obtain ⟨z, hc, _, hw⟩ := DataW.trod_int he h1
    have hb := i64_bd hw
    refine ⟨z, hb, ?_⟩
    have h2 := congrArg (·[0]?) hc
    simp only [List.getElem?_take, List.getElem?_drop, Nat.add_zero, List.getElem?_cons_zero] at h2
    simpa [Value.cells] using h2
  obtain ⟨x, hx, h0⟩ := key 0 (by omega)
  obtain ⟨y, hy, h1⟩ := key 1 (by omega)
  refine ⟨x, y, ?_, hx, hy⟩
  congr 1
  apply Array.ext
  · simp [hsz]
  · intro i hi1 hi2
    have hi : i < 2 := by omega
    match i, hi with
    | 0, _ => exact (Array.getElem?_eq_some_iff.1 h0).2
    | 1, _ => exact (Array.getElem?_eq_some_iff.1 h1).2
end Go.Proofs.YtkinpbhbgeiflaaDoor.Bj
