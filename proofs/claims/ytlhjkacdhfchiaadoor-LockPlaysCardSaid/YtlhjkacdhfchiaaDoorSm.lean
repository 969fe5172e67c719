/- SHA-256 in plain numbers. Nothing of the program. -/
import Derived.WalkKit
import Derived.Laws.BitsAllLaws
namespace Go.Proofs.YtlhjkacdhfchiaaDoor.Sm
set_option linter.unusedVariables false
set_option linter.unusedSimpArgs false
set_option maxRecDepth 100000

def M : Nat := 4294967296
def rotr (x n : Nat) : Nat := x >>> n ||| (x <<< (32 - n)) % 4294967296
def bS0 (x : Nat) : Nat := rotr x 2 ^^^ rotr x 13 ^^^ rotr x 22
def bS1 (x : Nat) : Nat := rotr x 6 ^^^ rotr x 11 ^^^ rotr x 25
def lS0 (x : Nat) : Nat := rotr x 7 ^^^ rotr x 18 ^^^ x >>> 3
def lS1 (x : Nat) : Nat := rotr x 17 ^^^ rotr x 19 ^^^ x >>> 10
def chs (x y z : Nat) : Nat := x &&& y ^^^ (4294967295 - x) &&& z
def maj (x y z : Nat) : Nat := x &&& y ^^^ x &&& z ^^^ y &&& z
def wd (a b c d : Nat) : Nat := a * 16777216 + b * 65536 + c * 256 + d

theorem pow32 : (2 : Nat) ^ 32 = 4294967296 := by decide
theorem shr_lt {x n : Nat} (h : x < 4294967296) : x >>> n < 4294967296 := Nat.lt_of_le_of_lt (by rw [Nat.shiftRight_eq_div_pow]; exact Nat.div_le_self _ _) h
theorem xor_lt {x y : Nat} (h : x < 4294967296) (h' : y < 4294967296) : x ^^^ y < 4294967296 := by rw [← pow32] at *; exact Nat.xor_lt_two_pow h h'
theorem or_lt {x y : Nat} (h : x < 4294967296) (h' : y < 4294967296) : x ||| y < 4294967296 := by rw [← pow32] at *; exact Nat.or_lt_two_pow h h'
theorem and_lt {x y : Nat} (h : y < 4294967296) : x &&& y < 4294967296 := by rw [← pow32] at *; exact Nat.and_lt_two_pow _ h
theorem rotr_lt {x n : Nat} (h : x < 4294967296) : rotr x n < 4294967296 := or_lt (shr_lt h) (Nat.mod_lt _ (by decide))
theorem bS0_lt {x : Nat} (h : x < 4294967296) : bS0 x < 4294967296 := xor_lt (xor_lt (rotr_lt h) (rotr_lt h)) (rotr_lt h)
theorem bS1_lt {x : Nat} (h : x < 4294967296) : bS1 x < 4294967296 := xor_lt (xor_lt (rotr_lt h) (rotr_lt h)) (rotr_lt h)
theorem lS0_lt {x : Nat} (h : x < 4294967296) : lS0 x < 4294967296 := xor_lt (xor_lt (rotr_lt h) (rotr_lt h)) (shr_lt h)
theorem lS1_lt {x : Nat} (h : x < 4294967296) : lS1 x < 4294967296 := xor_lt (xor_lt (rotr_lt h) (rotr_lt h)) (shr_lt h)
theorem chs_lt {x y z : Nat} (hy : y < 4294967296) (hz : z < 4294967296) : chs x y z < 4294967296 := xor_lt (and_lt hy) (and_lt hz)
theorem maj_lt {x y z : Nat} (hy : y < 4294967296) (hz : z < 4294967296) : maj x y z < 4294967296 := xor_lt (xor_lt (and_lt hy) (and_lt hz)) (and_lt hz)
theorem wd_lt {a b c d : Nat} (ha : a < 256) (hb : b < 256) (hc : c < 256) (hd : d < 256) : wd a b c d < 4294967296 := by unfold wd; omega

/-- Words of 32 bits; bytes. -/
def All32 (X : List Nat) : Prop := ∀ x ∈ X, x < 4294967296
def All8 (X : List Nat) : Prop := ∀ x ∈ X, x < 256
theorem all32_getD {X : List Nat} (h : All32 X) (i : Nat) : X.getD i 0 < 4294967296 := by
  by_cases hi : i < X.length
  · simp only [List.getD, List.getElem?_eq_getElem hi, Option.getD_some]; exact h _ (List.getElem_mem hi)
  · simp [List.getD, List.getElem?_eq_none (Nat.le_of_not_lt hi)]
theorem all8_getD {X : List Nat} (h : All8 X) (i : Nat) : X.getD i 0 < 256 := by
  by_cases hi : i < X.length
  · simp only [List.getD, List.getElem?_eq_getElem hi, Option.getD_some]; exact h _ (List.getElem_mem hi)
  · simp [List.getD, List.getElem?_eq_none (Nat.le_of_not_lt hi)]
def w16 (L : List Nat) (i : Nat) : Nat := wd (L.getD (4 * i) 0) (L.getD (4 * i + 1) 0) (L.getD (4 * i + 2) 0) (L.getD (4 * i + 3) 0)
def W16 (L : List Nat) : List Nat := (List.range 16).map (w16 L)
def nxt (X : List Nat) : Nat := (lS1 (X.getD (X.length - 2) 0) + X.getD (X.length - 7) 0 + lS0 (X.getD (X.length - 15) 0) + X.getD (X.length - 16) 0) % 4294967296
def ext : Nat → List Nat → List Nat
  | 0, X => X
  | n + 1, X => ext n X ++ [nxt (ext n X)]
def sched (L : List Nat) : List Nat := ext 48 (W16 L)
theorem W16_length (L : List Nat) : (W16 L).length = 16 := by simp [W16]
theorem ext_length (n : Nat) (X : List Nat) : (ext n X).length = X.length + n := by
  induction n with
  | zero => rfl
  | succ n ih => simp [ext, ih]; omega
theorem sched_length (L : List Nat) : (sched L).length = 64 := by rw [sched, ext_length, W16_length]
theorem w16_lt {L : List Nat} (h : All8 L) (i : Nat) : w16 L i < 4294967296 := wd_lt (all8_getD h _) (all8_getD h _) (all8_getD h _) (all8_getD h _)
theorem W16_all {L : List Nat} (h : All8 L) : All32 (W16 L) := by
  intro x hx
  simp only [W16, List.mem_map] at hx
  obtain ⟨i, _, rfl⟩ := hx
  exact w16_lt h i
theorem nxt_lt (X : List Nat) : nxt X < 4294967296 := Nat.mod_lt _ (by decide)
theorem ext_all {X : List Nat} (h : All32 X) (n : Nat) : All32 (ext n X) := by
  induction n with
  | zero => exact h
  | succ n ih =>
    intro x hx
    simp only [ext, List.mem_append, List.mem_singleton] at hx
    rcases hx with hx | rfl
    · exact ih x hx
    · exact nxt_lt _
theorem sched_all {L : List Nat} (h : All8 L) : All32 (sched L) := ext_all (W16_all h) 48
theorem set_grow (X : List Nat) (n y : Nat) : (X ++ List.replicate (n + 1) 0).set X.length y = (X ++ [y]) ++ List.replicate n 0 := by
  rw [List.replicate_succ]; simp
theorem W16_take (L : List Nat) (k : Nat) (h : k < 16) : (W16 L).take (k + 1) = (W16 L).take k ++ [w16 L k] := by
  rw [List.take_succ_eq_append_getElem (by rw [W16_length]; exact h)]
  simp [W16]
theorem getD_left (X Y : List Nat) (i : Nat) (h : i < X.length) : (X ++ Y).getD i 0 = X.getD i 0 := by simp [List.getD, List.getElem?_append_left h]

/-- The state: eight words. -/
structure S8 where
  a : Nat
  b : Nat
  c : Nat
  d : Nat
  e : Nat
  f : Nat
  g : Nat
  h : Nat
def S8.list (s : S8) : List Nat := [s.a, s.b, s.c, s.d, s.e, s.f, s.g, s.h]
def S8.ok (s : S8) : Prop := All32 s.list
def Ks : List Nat := [1116352408, 1899447441, 3049323471, 3921009573, 961987163, 1508970993, 2453635748, 2870763221, 3624381080, 310598401, 607225278, 1426881987, 1925078388, 2162078206, 2614888103, 3248222580, 3835390401, 4022224774, 264347078, 604807628, 770255983, 1249150122, 1555081692, 1996064986, 2554220882, 2821834349, 2952996808, 3210313671, 3336571891, 3584528711, 113926993, 338241895, 666307205, 773529912, 1294757372, 1396182291, 1695183700, 1986661051, 2177026350, 2456956037, 2730485921, 2820302411, 3259730800, 3345764771, 3516065817, 3600352804, 4094571909, 275423344, 430227734, 506948616, 659060556, 883997877, 958139571, 1322822218, 1537002063, 1747873779, 1955562222, 2024104815, 2227730452, 2361852424, 2428436474, 2756734187, 3204031479, 3329325298]
def H0 : S8 := ⟨1779033703, 3144134277, 1013904242, 2773480762, 1359893119, 2600822924, 528734635, 1541459225⟩
def one (s : S8) (k w : Nat) : Nat := (s.h + bS1 s.e + chs s.e s.f s.g + k + w) % 4294967296
def two (s : S8) : Nat := (bS0 s.a + maj s.a s.b s.c) % 4294967296
def S8.step (s : S8) (k w : Nat) : S8 := ⟨(one s k w + two s) % 4294967296, s.a, s.b, s.c, (s.d + one s k w) % 4294967296, s.e, s.f, s.g⟩
def rounds (W : List Nat) (s : S8) : Nat → S8
  | 0 => s
  | n + 1 => (rounds W s n).step (Ks.getD n 0) (W.getD n 0)
def S8.add (s v : S8) : S8 := ⟨(s.a + v.a) % 4294967296, (s.b + v.b) % 4294967296, (s.c + v.c) % 4294967296, (s.d + v.d) % 4294967296, (s.e + v.e) % 4294967296, (s.f + v.f) % 4294967296, (s.g + v.g) % 4294967296, (s.h + v.h) % 4294967296⟩
def compress (s : S8) (B : List Nat) : S8 := s.add (rounds (sched B) s 64)
theorem S8.bd {s : S8} (h : s.ok) : s.a < 4294967296 ∧ s.b < 4294967296 ∧ s.c < 4294967296 ∧ s.d < 4294967296 ∧ s.e < 4294967296 ∧ s.f < 4294967296 ∧ s.g < 4294967296 ∧ s.h < 4294967296 := by
  refine ⟨h _ ?_, h _ ?_, h _ ?_, h _ ?_, h _ ?_, h _ ?_, h _ ?_, h _ ?_⟩ <;> simp [S8.list]
theorem S8.ok_mk {a b c d e f g h : Nat} (ha : a < 4294967296) (hb : b < 4294967296) (hc : c < 4294967296) (hd : d < 4294967296) (he : e < 4294967296) (hf : f < 4294967296) (hg : g < 4294967296) (hh : h < 4294967296) : S8.ok ⟨a, b, c, d, e, f, g, h⟩ := by
  intro z hz
  simp only [S8.list, List.mem_cons, List.not_mem_nil, or_false] at hz
  omega
theorem H0_ok : H0.ok := S8.ok_mk (by decide) (by decide) (by decide) (by decide) (by decide) (by decide) (by decide) (by decide)
theorem mod_lt32 (x : Nat) : x % 4294967296 < 4294967296 := Nat.mod_lt _ (by decide)
theorem step_ok {s : S8} (h : s.ok) (k w : Nat) : (s.step k w).ok := by
  obtain ⟨h1, h2, h3, h4, h5, h6, h7, h8⟩ := S8.bd h
  exact S8.ok_mk (mod_lt32 _) h1 h2 h3 (mod_lt32 _) h5 h6 h7
theorem rounds_ok {s : S8} (h : s.ok) (W : List Nat) (n : Nat) : (rounds W s n).ok := by
  induction n with
  | zero => exact h
  | succ n ih => exact step_ok ih _ _
theorem add_ok (s v : S8) : (s.add v).ok := S8.ok_mk (mod_lt32 _) (mod_lt32 _) (mod_lt32 _) (mod_lt32 _) (mod_lt32 _) (mod_lt32 _) (mod_lt32 _) (mod_lt32 _)
theorem compress_ok (s : S8) (B : List Nat) : (compress s B).ok := add_ok _ _
theorem Ks_length : Ks.length = 64 := by decide
theorem Ks_all : All32 Ks := by
  intro x hx
  have : ∀ y ∈ Ks, y < 4294967296 := by decide
  exact this x hx
end Go.Proofs.YtlhjkacdhfchiaaDoor.Sm
