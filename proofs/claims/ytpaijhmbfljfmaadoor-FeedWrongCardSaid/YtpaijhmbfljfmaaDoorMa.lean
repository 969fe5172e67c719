/- Several texts, one behind the other. -/
import Derived.Test.YtpaijhmbfljfmaaDoorBo
import Derived.Deep.Strs
import Derived.WideShapes
import Derived.Deep.Slices
import Derived.Test.YtpaijhmbfljfmaaDoorGi
import Derived.Test.YtpaijhmbfljfmaaDoorFb
/- Opening an argument that is a frame. -/
namespace Go.Proofs.YtpaijhmbfljfmaaDoor.Fo
set_option linter.unusedVariables false
set_option linter.unusedSimpArgs false
set_option maxRecDepth 100000
open Go.RowKit Go.WideShapes Go.ChangeShapes Go.Deep
open Go.Proofs.YtpaijhmbfljfmaaDoor.Wu Go.Proofs.YtpaijhmbfljfmaaDoor.Sm Go.Proofs.YtpaijhmbfljfmaaDoor.Sh Go.Proofs.YtpaijhmbfljfmaaDoor.Ba Go.Proofs.YtpaijhmbfljfmaaDoor.Bo
/-- Data that came in. -/
def IsData (w : World) (a : Option Addr) (l c : Nat) (D : List Nat) : Prop := SrcB w a l D ∧ l ≤ c ∧ c ≤ 9223372036854775807 ∧ (a = none → l = 0)
theorem open_cells {H : Type} {enc : TypeId × Value → H} {w : World} {base fuel : Nat} {held : Bool} {cs : List Value} {x : DataW H × List MemPlace}
    (hf : DataW.trod enc Tryd.prog w base (fun _ => true) held fuel 51 cs = some x) :
    ∃ (k s : Int) (a : Option Addr) (l c : Nat) (D : List Nat), cs = [.int .i64 k, .int .i64 s, .slice a l c] ∧ IsData w a l c D := by
  obtain ⟨y0, y1, y2, n, _, hl, h0, h1, h2⟩ := trod_struct3 Tryd.underlying51 hf
  have e0 : Tryd.prog.cellsOf 3 = 1 := by kernel_rfl
  have e1 : Tryd.prog.cellsOf 31 = 1 := by kernel_rfl
  have e2 : Tryd.prog.cellsOf 51 = 3 := by kernel_rfl
  rw [e2] at hl
  simp only [e0, e1] at h0 h1 h2
  obtain ⟨k, hk, _, _⟩ := DataW.trod_int Tryd.underlying3 h0
  obtain ⟨s, hs, _, _⟩ := DataW.trod_int Tryd.underlying3 h1
  match cs, hl with
  | [c0, c1, c2], _ =>
    simp at hk hs h2
    subst hk hs
    rcases open_ints Tryd.underlying31 Tryd.underlying5 (by kernel_rfl) h2 with ⟨hcs, _⟩ | ⟨x, l, c, zs, hcs, _, hl, hm, hz, _, hcell, hwz⟩
    · simp at hcs
      subst hcs
      exact ⟨k, s, none, 0, 0, [], rfl, SrcB.nil w none, Nat.le_refl _, by omega, fun _ => rfl⟩
    · simp at hcs
      subst hcs
      obtain ⟨D, h1, h2, h3, h4⟩ := src_of_row (w := w) (a := some x) (len := l) (cap := c) (zs := zs) (.inr ⟨x, rfl, hl, hm, by simpa using hz, hcell, hwz⟩)
      exact ⟨k, s, some x, l, c, D, rfl, h1, h2, h3, h4⟩
theorem open_frame {H : Type} {enc : TypeId × Value → H} {w : World} {r : Reach} {b0 base : Nat} {held : Bool} {v : Value} {d : DataW H} {p : List MemPlace}
    (hv : Value.okWide Tryd.prog w r b0 51 v) (h : DataW.Trod enc Tryd.prog w base (fun _ => true) held 51 v d p) :
    ∃ (k s : Int) (a : Option Addr) (l c : Nat) (D : List Nat), v = .agg #[.int .i64 k, .int .i64 s, .slice a l c] ∧ IsData w a l c D := by
  obtain ⟨cs, rfl, hsz⟩ := okWide_struct Tryd.underlying51 hv
  obtain ⟨fuel, hf⟩ := h
  obtain ⟨k, s, a, l, c, D, e, hd⟩ := open_cells hf
  refine ⟨k, s, a, l, c, D, ?_, hd⟩
  have : cs.toList = [.int .i64 k, .int .i64 s, .slice a l c] := by simpa [Value.cells] using e
  congr 1
  apply Array.toList_inj.1
  exact this
end Go.Proofs.YtpaijhmbfljfmaaDoor.Fo
/- Opening an argument that is a slice of frames. -/
namespace Go.Proofs.YtpaijhmbfljfmaaDoor.Fq
set_option linter.unusedVariables false
set_option linter.unusedSimpArgs false
set_option maxRecDepth 100000
open Go.RowKit Go.WideShapes Go.ChangeShapes Go.Deep
open Go.Proofs.YtpaijhmbfljfmaaDoor.Wu Go.Proofs.YtpaijhmbfljfmaaDoor.Sm Go.Proofs.YtpaijhmbfljfmaaDoor.Sh Go.Proofs.YtpaijhmbfljfmaaDoor.Ba Go.Proofs.YtpaijhmbfljfmaaDoor.Bo Go.Proofs.YtpaijhmbfljfmaaDoor.Fo
/-- Frames that came in, by their cells. -/
def IsFrames (w : World) (a : Option Addr) (len cap : Nat) : Prop :=
  len ≤ cap ∧ cap ≤ 9223372036854775807 ∧ (0 < len → ∃ xb xo, a = some ⟨xb, xo, none⟩ ∧ ∀ i, i < len → ∃ (k s : Int) (b : Option Addr) (l c : Nat) (D : List Nat),
    w.cell? ⟨xb, xo + i * 3 + 0, none⟩ = some (.int .i64 k) ∧ w.cell? ⟨xb, xo + i * 3 + 1, none⟩ = some (.int .i64 s) ∧ w.cell? ⟨xb, xo + i * 3 + 2, none⟩ = some (.slice b l c) ∧ IsData w b l c D)
theorem open_frames {H : Type} {enc : TypeId × Value → H} {w : World} {base : Nat} {held : Bool} {a : Option Addr} {len cap : Nat} {d : DataW H} {p : List MemPlace}
    (h : DataW.Trod enc Tryd.prog w base (fun _ => true) held 37 (.slice a len cap) d p) : IsFrames w a len cap := by
  obtain ⟨fuel, hf⟩ := h
  rcases open_slice Tryd.underlying37 hf with ⟨h0, _⟩ | ⟨⟨xb, xo, spot⟩, len', cap', m, n, D, Pl, h0, hb, hl, hm, hmm, _, hx⟩
  · simp [Value.cells] at h0
    obtain ⟨rfl, rfl, rfl⟩ := h0
    exact ⟨Nat.le_refl _, by omega, fun h => absurd h (by omega)⟩
  · simp [Value.cells] at h0
    obtain ⟨rfl, rfl, rfl⟩ := h0
    simp at hmm
    subst hmm
    have e3 : Tryd.prog.cellsOf 51 = 3 := by kernel_rfl
    rw [e3] at hx
    unfold maxLen at hm
    refine ⟨hl, by omega, fun h0 => ?_⟩
    have key : ∀ i, i < len → ∃ (k s : Int) (b : Option Addr) (l c : Nat) (D : List Nat), (∀ j, j < 3 → w.cell? ((Addr.mk xb xo spot).add (i * 3 + j)) = [Value.int .i64 k, .int .i64 s, .slice b l c][j]?) ∧ IsData w b l c D := by
      intro i hi
      obtain ⟨cs', h1, h2⟩ := hx i (by omega)
      obtain ⟨k, s, b, l, c, D, rfl, hd⟩ := open_cells h2
      refine ⟨k, s, b, l, c, D, fun j hj => ?_, hd⟩
      have := (World.cells?_some h1).2.2 j hj
      rw [Addr.add_add] at this
      exact this
    have hspot : spot = none := by
      obtain ⟨k, s, b, l, c, D, h1, _⟩ := key 0 h0
      have := h1 0 (by omega)
      simpa [Addr.add] using World.cell?_spot this
    subst hspot
    refine ⟨xb, xo, rfl, fun i hi => ?_⟩
    obtain ⟨k, s, b, l, c, D, h1, hd⟩ := key i hi
    have e0 := h1 0 (by omega)
    have e1 := h1 1 (by omega)
    have e2 := h1 2 (by omega)
    rw [Addr.add_mid] at e0 e1 e2
    refine ⟨k, s, b, l, c, D, ?_, ?_, ?_, hd⟩
    · rw [Nat.add_assoc]; exact e0
    · rw [Nat.add_assoc]; exact e1
    · rw [Nat.add_assoc]; exact e2
end Go.Proofs.YtpaijhmbfljfmaaDoor.Fq
/- How many bytes a feed holds at most; frames that are written. -/
namespace Go.Proofs.YtpaijhmbfljfmaaDoor.Gj
set_option linter.unusedVariables false
set_option linter.unusedSimpArgs false
set_option maxRecDepth 100000
open Go.RowKit
open Go.Proofs.YtpaijhmbfljfmaaDoor.Wu Go.Proofs.YtpaijhmbfljfmaaDoor.Sm Go.Proofs.YtpaijhmbfljfmaaDoor.Sh Go.Proofs.YtpaijhmbfljfmaaDoor.Ba Go.Proofs.YtpaijhmbfljfmaaDoor.Bp Go.Proofs.YtpaijhmbfljfmaaDoor.Bq Go.Proofs.YtpaijhmbfljfmaaDoor.Cm Go.Proofs.YtpaijhmbfljfmaaDoor.Cr Go.Proofs.YtpaijhmbfljfmaaDoor.Cv Go.Proofs.YtpaijhmbfljfmaaDoor.Fa Go.Proofs.YtpaijhmbfljfmaaDoor.Fb Go.Proofs.YtpaijhmbfljfmaaDoor.Fh Go.Proofs.YtpaijhmbfljfmaaDoor.Fi Go.Proofs.YtpaijhmbfljfmaaDoor.Fo Go.Proofs.YtpaijhmbfljfmaaDoor.Fq Go.Proofs.YtpaijhmbfljfmaaDoor.Ga Go.Proofs.YtpaijhmbfljfmaaDoor.Gb Go.Proofs.YtpaijhmbfljfmaaDoor.Gc Go.Proofs.YtpaijhmbfljfmaaDoor.Ge Go.Proofs.YtpaijhmbfljfmaaDoor.Gf Go.Proofs.YtpaijhmbfljfmaaDoor.Gh Go.Proofs.YtpaijhmbfljfmaaDoor.Gi
theorem numP_short : ∀ (X : List Nat) (i a : Nat), i ≤ 6 → numP X i a = .bad 30 → i + X.length ≤ 6
  | [], i, a, hi, _ => by simpa using hi
  | x :: X, i, a, hi, h => by
    unfold numP at h
    split at h
    · injection h with h; omega
    · rename_i h1
      split at h
      · have := numP_short X (i + 1) _ (by omega) h
        simp only [List.length_cons]; omega
      · split at h
        · injection h with h; omega
        · cases h
theorem numP_six : ∀ (X : List Nat) (i a n k : Nat), i ≤ 6 → numP X i a = .ok n k → k ≤ 6
  | [], i, a, n, k, hi, h => by unfold numP at h; cases h
  | x :: X, i, a, n, k, hi, h => by
    unfold numP at h
    split at h
    · cases h
    · rename_i h1
      split at h
      · exact numP_six X (i + 1) _ n k (by omega) h
      · split at h
        · cases h
        · injection h with h2 h3; omega
theorem readR_short {L : List Nat} {p : Int} (h : readR L = .bad 30 p) : L.length ≤ 16391 := by
  unfold readR at h
  cases L with
  | nil => simp
  | cons x X =>
    rw [headR_cons] at h
    by_cases hx : x < 8
    · rw [if_pos hx] at h
      simp only [HR.bad.injEq] at h
      omega
    · rw [if_neg hx] at h
      cases hn : numP X 0 0 with
      | bad c =>
        rw [hn] at h
        simp only [headN, HR.bad.injEq] at h
        have hc : c = 30 := by omega
        subst hc
        have := numP_short X 0 0 (by omega) hn
        simp only [List.length_cons]; omega
      | ok n k =>
        have := numP_six X 0 0 n k (by omega) hn
        rw [hn] at h
        simp only [headN] at h
        by_cases h16 : 16384 < n
        · rw [if_pos h16] at h
          simp only [HR.bad.injEq] at h
          omega
        · rw [if_neg h16] at h
          simp only at h
          split at h
          · rename_i hl; omega
          · cases h
theorem next_held {s s1 : FS} {A : List Nat} {fs : List Fr} (h : s.next A s1 fs) (hs : s.held.length ≤ 16391) : s1.held.length ≤ 16391 := by
  rcases h with ⟨hn, rfl, rfl⟩ | ⟨he, z, c, p, hf, rfl⟩
  · exact hs
  · unfold FS.after
    split
    · rename_i hc
      subst hc
      exact readR_short hf.fits.2.2
    · simp
theorem fed_all (fs : List Fr) (hg : ∀ f ∈ fs, f.good) : Fed (bytesOf fs) fs (bytesOf fs).length 30 0 := by
  have := fed_bytesOf fs hg [] fed_nil
  simpa using this
theorem frL_max (f : Fr) (h : f.good) : (frL f.k f.s f.d).length ≤ 16400 := by
  have := numL_six f.d.length (by have := h.2.2.2; omega)
  rw [frL_length]
  have := h.2.2.2
  omega
theorem bytesOf_snoc (fs : List Fr) (k s : Nat) (D : List Nat) : bytesOf (fs ++ [⟨k, s, D⟩]) = bytesOf fs ++ frL k s D := by rw [bytesOf_append]; simp [bytesOf]
theorem chk_good {k s : Int} {l : Nat} (h : chk k s l = 0) : 1 ≤ k ∧ k ≤ 31 ∧ 0 ≤ s ∧ s ≤ 7 ∧ l ≤ 16384 := by
  unfold chk at h
  split at h
  · exact absurd h (by decide)
  · split at h
    · exact absurd h (by decide)
    · split at h
      · exact absurd h (by decide)
      · omega
end Go.Proofs.YtpaijhmbfljfmaaDoor.Gj
/- A frame behind a buffer: the buffer as it was is still one. -/
namespace Go.Proofs.YtpaijhmbfljfmaaDoor.Fz
set_option linter.unusedVariables false
set_option linter.unusedSimpArgs false
set_option maxRecDepth 100000
open Go.ChangeShapes Go.WideShapes Go.ChangeAt Go.RowKit
open Go.Proofs.YtpaijhmbfljfmaaDoor.Wu Go.Proofs.YtpaijhmbfljfmaaDoor.Sm Go.Proofs.YtpaijhmbfljfmaaDoor.Sh Go.Proofs.YtpaijhmbfljfmaaDoor.Ba Go.Proofs.YtpaijhmbfljfmaaDoor.Bp Go.Proofs.YtpaijhmbfljfmaaDoor.Bq Go.Proofs.YtpaijhmbfljfmaaDoor.Bz Go.Proofs.YtpaijhmbfljfmaaDoor.Cm Go.Proofs.YtpaijhmbfljfmaaDoor.Cn Go.Proofs.YtpaijhmbfljfmaaDoor.Is Go.Proofs.YtpaijhmbfljfmaaDoor.Ig Go.Proofs.YtpaijhmbfljfmaaDoor.Ih Go.Proofs.YtpaijhmbfljfmaaDoor.Ij Go.Proofs.YtpaijhmbfljfmaaDoor.Fa Go.Proofs.YtpaijhmbfljfmaaDoor.Fb
/-- What stands behind a buffer's end can be written. -/
theorem Dst.over {w : World} {g n cap : Nat} {L : List Nat} (h : Dst w g n cap L) (o : Nat) (vs : List Value) (ho : n ≤ o) : Dst (w.setCells g o vs) g n cap L := by
  have hsz : ∀ (vs : List Value) (o : Nat) (w : World), (w.setCells g o vs).heap.size = w.heap.size := by
    intro vs
    induction vs with
    | nil => intro o w; rfl
    | cons v vs ih => intro o w; rw [World.setCells, ih]; simp [World.setCell]
  exact ⟨h.len, h.all, h.fit, h.max, by rw [hsz]; exact h.lt, World.rangeAt_setCells_apart h.cells g o vs (by right; left; rw [b8_length, h.len]; omega), World.there_setCells h.spare g o vs, fun k => by rw [World.frozen?_setCells]; exact h.free k⟩
/-- A buffer's beginning. -/
theorem Dst.front {w : World} {g n cap : Nat} {A S : List Nat} (h : Dst w g n cap (A ++ S)) : Dst w g A.length cap A := by
  have hl := h.len
  rw [List.length_append] at hl
  refine ⟨rfl, fun x hx => h.all x (List.mem_append_left _ hx), by have := h.fit; omega, h.max, h.lt, fun j v hv => ?_, fun j hj => ⟨?_, h.free _⟩, h.free⟩
  · refine h.cells j v ?_
    have hj : j < (b8 A).length := (List.getElem?_eq_some_iff.1 hv).1
    unfold b8 at hv hj ⊢
    rw [List.map_append, List.getElem?_append_left hj]
    exact hv
  · exact Is.Dst.all_there h (A.length + j) (by omega)
/-- append, and what becomes of the buffer. -/
theorem append_dst2 (w : World) (ty : TypeId) (g n cap : Nat) (L : List Nat) (A : Option Addr) (m c : Nat) (L' : List Nat) (hd : Dst w g n cap L) (hs : SrcB w A m L') (hbig : n + m ≤ 70368744177664) (hc : A = none → m = 0) :
    ∃ g' cap' w', (Builtin.append_ #[31, 31] ty #[.slice (some ⟨g, 0, none⟩) n cap, .slice A m c]).run Tryd.prog w = .ok (.slice (some ⟨g', 0, none⟩) (n + m) cap') w' ∧
      Dst w' g' (n + m) cap' (L ++ L') ∧ w.grownBy w' (some g) ∧ (g' = g ∧ cap' = cap ∨ g' = w.heap.size) ∧ Dst w' g n cap L := by
  obtain ⟨i0, hi0, hz0, hz1, hz2⟩ := info_parts info_bs
  have hs0 := hs
  obtain ⟨hl, h8, b, off, ha, hcell⟩ := hs
  cases A with
  | none =>
    obtain rfl := hc rfl
    obtain rfl : L' = [] := List.length_eq_zero_iff.1 hl
    exact ⟨g, cap, w, append_none w ty g n cap c hd.fit, by simpa using hd, World.grownBy.refl w _, .inl ⟨rfl, rfl⟩, hd⟩
  | some ad =>
    have hnews : ∀ j u, (b8 L')[j]? = some u → w.cell? (ad.add j) = some u := by
      intro j u hu
      obtain ⟨hj, rfl⟩ := b8_at hu
      have := ha (by omega)
      injection this with this
      subst this
      rw [Addr.add_mid]
      exact hcell j (by omega)
    obtain ⟨g', cap', w', hr, h1, h2, h3, h4⟩ := append_dst w ty g n cap L (some ad) m c L' hd hs0 hbig hc
    by_cases hroom : n + m ≤ cap
    · have hr2 := run_append_room_cells (P := Tryd.prog) w 31 ty 5 i0 Tryd.underlying31 hi0 g 0 n cap ad m c (b8 L') (by rw [b8_length, hl, hz1, Nat.mul_one]) hnews (b8_one L') hroom
        (fun j hj => by rw [hz1, Nat.mul_one, Nat.zero_add]; exact (hd.spare j (by rw [b8_length] at hj; omega)).1) (fun j hj => by rw [hz1, Nat.mul_one, Nat.zero_add]; exact (hd.spare j (by rw [b8_length] at hj; omega)).2)
      rw [hz1, Nat.mul_one, Nat.zero_add] at hr2
      rw [hr] at hr2
      injection hr2 with e1 e2
      injection e1 with e3 e4 e5
      injection e3 with e3
      injection e3 with e3
      subst e2
      exact ⟨g', cap', _, hr, h1, h2, .inl ⟨e3, e5⟩, Dst.over hd n (b8 L') (Nat.le_refl _)⟩
    · have hr2 := run_append_grow (P := Tryd.prog) w 31 ty 5 i0 (.int .u8 0) Tryd.underlying31 hi0 hz0 ⟨g, 0, none⟩ n cap (b8 L) (by rw [b8_length, hd.len, hz1, Nat.mul_one]) (fun j v hv => by rw [Addr.add_mid]; exact hd.cells j v hv) ad m c (b8 L') (by rw [b8_length, hl, hz1, Nat.mul_one]) hnews (by omega) (by omega) (growslice_fits (by omega) (by rw [hz2]; omega))
      rw [hr] at hr2
      injection hr2 with e1 e2
      injection e1 with e3 e4 e5
      injection e3 with e3
      injection e3 with e3
      subst e2
      refine ⟨g', cap', _, hr, h1, h2, .inr e3, ?_⟩
      exact Dst.below (N := w.heap.size) hd ⟨rfl, rfl, rfl, by simp, fun k hk => Below.heap_alloc w.drew _ k hk⟩ hd.lt
theorem wpList_append_dst2 {w : World} {ops : Array Oper} {rest : List Oper} {o : Oper} {a : Act} {Q : Exit → Act → World → Prop} (hgd : o.guard = none) (s x : Operand)
    (ho : o.op = .call { callee := .builtin .append, args := #[s, x], argTypes := #[31, 31] }) (g n cap : Nat) (L : List Nat) (A : Option Addr) (m c : Nat) (L' : List Nat)
    (hs : a.eval s = .slice (some ⟨g, 0, none⟩) n cap) (hx : a.eval x = .slice A m c) (hd : Dst w g n cap L) (hsrc : SrcB w A m L') (hbig : n + m ≤ 70368744177664) (hc : A = none → m = 0)
    (h : ∀ g' cap' w', Hid (Dst w' g' (n + m) cap' (L ++ L')) → Hid (w.grownBy w' (some g)) → (g' = g ∧ cap' = cap ∨ g' = w.heap.size) → Hid (Dst w' g n cap L) → Hid (wpList Tryd.prog ops Q rest (a.put o.dst (.slice (some ⟨g', 0, none⟩) (n + m) cap')) w')) : wpList Tryd.prog ops Q (o :: rest) a w := by
  obtain ⟨g', cap', w', hrun, h1, h2, h3, h4⟩ := append_dst2 w o.type g n cap L A m c L' hd hsrc hbig hc
  refine wpList_plain hgd fun K hK => ?_
  unfold Oper.wp
  simp [execOp, ho, resolve, invoke, builtin, hs, hx, hrun, Result.andThen]
  exact hK _ _ (h g' cap' w' h1 h2 h3 h4)
set_option maxHeartbeats 1600000 in
set_option maxRecDepth 100000 in
theorem insert_end2 (g n cap vb m vc : Nat) (A V : List Nat) (w : World) (hd : Dst w g n cap A) (hv : Dst w vb m vc V) (hm : 0 < m) (hbig : n + m ≤ 70368744177664) :
    Calls Tryd.prog 70 #[.slice (some ⟨g, 0, none⟩) n cap, .int .i64 (n : Int), .slice (some ⟨vb, 0, none⟩) m vc] w fun e w' => ∃ g' cap', e = .returned (.slice (some ⟨g', 0, none⟩) (n + m) cap') ∧ Dst w' g' (n + m) cap' (A ++ V) ∧ w.grownBy w' (some g) ∧ (g' = g ∨ g' = w.heap.size) ∧ Dst w' g n cap A := by
  have hmx := hd.max
  have hf := hd.fit
  unfold maxLen at hmx
  have HD := hide hd
  have HS := hide hv.src
  clear hd hv
  have e1 : ¬ ((m : Int) = 0) := by omega
  go_enter Tryd.func70, Tryd.ntmps70
  go_wp2_with (refine wpList_append_dst2 rfl _ _ rfl g n cap A (some ⟨vb, 0, none⟩) m vc V rfl rfl HD.out HS.out hbig (fun h => by cases h) ?_)
  all_goals
    intro g' cap' w' HD2 HG hgg HK
    refine of_hid ?_
    go_wp2
    go_ret
    have hgg2 : g' = g ∨ g' = w.heap.size := by
      rcases hgg with h | h
      · exact .inl h.1
      · exact .inr h
    first
      | exact ⟨g', cap', rfl, HD2.out, HG.out, hgg2, HK.out⟩
      | (have ec : cap = n := by omega
         rw [ec]
         exact ⟨g', cap', rfl, HD2.out, HG.out, hgg2, HK.out⟩)
theorem insert_any2 (g n cap i vb m vc : Nat) (A S V : List Nat) (w : World) (hd : Dst w g n cap (A ++ S)) (hv : Dst w vb m vc V) (hne : vb ≠ g) (hm : 0 < m) (hi : A.length = i) (hbig : n + m ≤ 70368744177664) :
    Calls Tryd.prog 70 #[.slice (some ⟨g, 0, none⟩) n cap, .int .i64 (i : Int), .slice (some ⟨vb, 0, none⟩) m vc] w fun e w' => ∃ g' cap', e = .returned (.slice (some ⟨g', 0, none⟩) (n + m) cap') ∧ Dst w' g' (n + m) cap' (A ++ V ++ S) ∧ w.grownBy w' (some g) ∧ (g' = g ∨ w.heap.size ≤ g') ∧ Dst w' g i cap A := by
  have hl := hd.len
  rw [List.length_append] at hl
  have hold := Dst.front hd
  rw [hi] at hold
  by_cases h : i < n
  · by_cases hroom : n + m ≤ cap
    · refine (insert_shift g n cap i vb m vc A S V w hd hv hne hm hi h hroom).mono ?_
      rintro e w' ⟨rfl, rfl⟩
      refine ⟨g, cap, rfl, shift_dst hd hi hv.all hv.len hroom, ?_, .inl rfl, ?_⟩
      · exact grown_trans (grown_trans (grown_drew (World.grownBy.refl w (some g))) (grown_setCells _ _ _)) (grown_setCells _ _ _)
      · have h0 : Dst w.drew g i cap A := hold.below (N := w.heap.size) ((Below.refl _ _).drew) hold.lt
        exact Dst.over (Dst.over h0 (i + m) (b8 S) (by omega)) i (b8 V) (Nat.le_refl _)
    · refine (insert_grow g n cap i vb m vc A S V w hd hv hm hi h (by omega) hbig).mono ?_
      rintro e w' ⟨cap', w1, d1, d2, rfl, hd1, hb, rfl⟩
      have hB : Below w.heap.size w ((((w1.drewN d1).setCells w.heap.size i (b8 V)).drewN d2).setCells w.heap.size (i + m) (b8 S)) :=
        Go.Proofs.YtpaijhmbfljfmaaDoor.Ba.below_setCells _ _ _ _ (below_drewN (Go.Proofs.YtpaijhmbfljfmaaDoor.Ba.below_setCells _ _ _ _ (below_drewN hb d1) (Nat.le_refl _)) d2) (Nat.le_refl _)
      refine ⟨w.heap.size, cap', rfl, grow_dst hd1 hi (fun x hx => hd.all x (List.mem_append_right _ hx)) hv.all hv.len (by omega), ?_, .inr (Nat.le_refl _), hold.below hB hold.lt⟩
      exact ⟨hB.os, hB.tape, hB.output, hB.size, fun k hk _ => hB.block k hk⟩
  · obtain rfl : S = [] := List.length_eq_zero_iff.1 (by omega)
    rw [List.append_nil] at hd
    obtain rfl : i = n := by rw [← hi]; exact hd.len
    refine (insert_end2 g i cap vb m vc A V w hd hv hm hbig).mono ?_
    rintro e w' ⟨g', cap', rfl, h1, h2, h3, h4⟩
    refine ⟨g', cap', rfl, by rw [List.append_nil]; exact h1, h2, ?_, h4⟩
    rcases h3 with h3 | h3
    · exact .inl h3
    · exact .inr (by omega)
set_option maxHeartbeats 1600000 in
set_option maxRecDepth 100000 in
theorem append_ok2 (k s : Nat) (a : Option Addr) (l c g i cap : Nat) (A D : List Nat) (w : World) (hd : Dst w g i cap A) (hs : SrcB w a l D) (hn : a = none → l = 0) (hi : i ≤ 1000000) (hk1 : 1 ≤ k) (hk2 : k ≤ 31) (hs2 : s ≤ 7) (hl : l ≤ 16384) (hlc : l ≤ c) :
    Calls Tryd.prog 29 #[.agg #[.int .i64 (k : Int), .int .i64 (s : Int), .slice a l c], .slice (some ⟨g, 0, none⟩) i cap] w fun e w' => ∃ g' cap' n, e = .returned (.tuple #[.slice (some ⟨g', 0, none⟩) n cap', .int .i64 0]) ∧ Dst w' g' n cap' (A ++ frL k s D) ∧ w.grownBy w' (some g) ∧ (g' = g ∨ w.heap.size ≤ g') ∧ Dst w' g i cap A := by
  have HC := hide (check_c (k : Int) (s : Int) a l c (w.alloc (.cells #[.int .i64 (k : Int), .int .i64 (s : Int), .slice a l c] 51)) (by omega))
  have hz : chk (k : Int) (s : Int) l = 0 := by unfold chk; rw [if_neg (by omega), if_neg (by omega), if_neg (by omega)]
  rw [hz] at HC
  clear hz
  have HD := hide hd
  have HS := hide hs
  clear hd hs
  go_enter Tryd.func29, Tryd.ntmps29
  go_wp2_with fail
  refine HC.out.mono ?_
  rintro e w1 ⟨rfl, hb⟩
  have HB := hide (keepB hb (Nat.le_refl _) (below_new w (.cells #[.int .i64 (k : Int), .int .i64 (s : Int), .slice a l c] 51)))
  have hblk := below_blk hb (by simp) (heap_last w (.cells #[.int .i64 (k : Int), .int .i64 (s : Int), .slice a l c] 51))
  have c0 : w1.cell? ⟨w.heap.size, 0, none⟩ = some (.int .i64 (k : Int)) := blk_cell hblk rfl
  have c1 : w1.cell? ⟨w.heap.size, 1, none⟩ = some (.int .i64 (s : Int)) := blk_cell hblk rfl
  have c2 : w1.cell? ⟨w.heap.size, 2, none⟩ = some (.slice a l c) := blk_cell hblk rfl
  have hx : 8 * (k : Int) + (s : Int) = ((8 * k + s : Nat) : Int) := by omega
  have Hx := hide hx
  have hw1 : w.heap.size < w1.heap.size := heap_lt hblk
  obtain ⟨u, hu⟩ : ∃ u, u = w1.alloc (.cells #[.int .u8 (8 * (k : Int) + (s : Int))] 5) := ⟨_, rfl⟩
  have hblk2 : u.heap[w.heap.size]? = some (.cells #[.int .i64 (k : Int), .int .i64 (s : Int), .slice a l c] 51 (0, 0)) := by rw [hu]; exact heap_old hblk _
  have e2 : (w1.alloc (.cells #[.int .u8 (8 * (k : Int) + (s : Int))] 5)).cell? ⟨w.heap.size, 2, none⟩ = some (.slice a l c) := by rw [← hu]; exact blk_cell hblk2 rfl
  have HBk := hide hblk2
  have HDx : Hid (Dst u w1.heap.size 1 1 [8 * k + s]) := by
    rw [hu, hx]
    exact hide (dst_new w1 [8 * k + s] #[] 5 (0, 0) rfl (by intro z hz; simp only [List.mem_singleton] at hz; omega) (by simp [maxLen]))
  have hbu : Below w1.heap.size w1 u := by rw [hu]; exact below_new w1 _
  have HBu := hide (keepB hbu (Nat.le_refl _) HB.out)
  have huz : w1.heap.size < u.heap.size := HDx.out.lt
  have Hu := hide hu
  clear HC hb hblk hblk2 hu hbu hx
  go_wp2_with fail
  rw [← Hu.out]
  have hgw := HD.out.lt
  have hDl := HS.out.1
  have hAl := HD.out.len
  have h6 := numL_six l (by omega)
  have hpl := numL_pos l
  refine (num_c (.slice (some ⟨w1.heap.size, 0, none⟩) 1 1) w1.heap.size [8 * k + s] l u (.inr ⟨w1.heap.size, 1, rfl, Nat.le_refl _, HDx.out⟩) (by omega) (by omega) (by simp)).mono ?_
  rintro e w2 ⟨v, rfl, hb, hB⟩
  rcases hb with ⟨_, h0⟩ | ⟨vb, vc, rfl, hvb, hvd⟩
  · cases h0
  have HB2 := hide (HBu.out.trans (hB.mono (Nat.le_of_lt hw1)))
  have HV := hide hvd
  clear HDx hvd
  have hvz := HV.out.lt
  have hblk3 : w2.heap[w.heap.size]? = some (.cells #[.int .i64 (k : Int), .int .i64 (s : Int), .slice a l c] 51 (0, 0)) := (hB.block _ hw1).trans HBk.out
  have f2 : w2.cell? ⟨w.heap.size, 2, none⟩ = some (.slice a l c) := blk_cell hblk3 rfl
  have HB := hide hB
  have HD2 := hide (HD.out.below HB2.out HD.out.lt)
  have HS2 := hide (HS.out.below HB2.out)
  clear hB hblk3 c0 c1 c2 e2 HBk HBu Hu HD
  simp only [List.length_append, List.length_cons, List.length_nil, Nat.zero_add] at *
  go_wp2_with (refine wpList_append_dst2 rfl _ _ rfl g i cap A a l c D rfl rfl HD2.out HS2.out (by omega) hn ?_)
  intro g1 cap1 w3 HD3 HG3 hgg2 HK3
  have hgg : g1 = g ∨ g1 = w2.heap.size := by rcases hgg2 with h | h; exact .inl h.1; exact .inr h
  refine of_hid ?_
  go_wp2_with fail
  have hne : vb ≠ g1 := by rcases hgg with h | h <;> omega
  refine (insert_any2 g1 (i + l) cap1 i vb (1 + (numL l).length) vc A D ([8 * k + s] ++ numL l) w3 HD3.out (HV.out.kept HG3.out (by omega)) hne (by omega) hAl (by omega)).mono ?_
  rintro e w4 ⟨g', cap', rfl, hd4, hg4, hor, hold⟩
  have HOld : Hid (Dst w4 g i cap A) := hide (by
    rcases hgg2 with ⟨h1, h2⟩ | h1
    · subst h1 h2
      exact hold
    · exact HK3.out.kept hg4 (by have := HK3.out.lt; have := HD2.out.lt; omega))
  clear hold
  have h23 := HG3.out.size
  have h12 := HB2.out.size
  have HP : Hid (Dst w4 g' (i + l + (1 + (numL l).length)) cap' (A ++ frL k s D) ∧ w.grownBy w4 (some g) ∧ (g' = g ∨ w.heap.size ≤ g')) := by
    refine hide ⟨?_, ?_, ?_⟩
    · unfold frL
      rw [hDl]
      have e : A ++ ([8 * k + s] ++ numL l) ++ D = A ++ ((8 * k + s) :: numL l ++ D) := by simp
      rw [← e]
      exact hd4
    · refine ⟨hg4.os.trans (HG3.out.os.trans HB2.out.os), hg4.tape.trans (HG3.out.tape.trans HB2.out.tape), hg4.output.trans (HG3.out.output.trans HB2.out.output), Nat.le_trans h12 (Nat.le_trans h23 hg4.size), fun q hq hne' => ?_⟩
      have hne2 : some q ≠ some g1 := by
        rcases hgg with rfl | rfl
        · exact hne'
        · intro e; injection e with e; omega
      exact (hg4.block q (by omega) hne2).trans ((HG3.out.block q (by omega) hne').trans (HB2.out.block q hq))
    · rcases hor with rfl | h
      · rcases hgg with rfl | rfl
        · exact .inl rfl
        · exact .inr h12
      · exact .inr (by omega)
  clear hd4 hg4 hor
  go_wp2
  go_ret2
  exact ⟨g', cap', _, rfl, HP.out.1, HP.out.2.1, HP.out.2.2, HOld.out⟩
/-- A frame behind a buffer, which stays one. -/
theorem append_buf2 (k s : Nat) (a : Option Addr) (l c N : Nat) (v : Value) (L D : List Nat) (w : World) (hb : Buf w v N L) (hN : N ≤ w.heap.size) (hs : SrcB w a l D) (hn : a = none → l = 0) (hi : L.length ≤ 1000000) (hk1 : 1 ≤ k) (hk2 : k ≤ 31) (hs2 : s ≤ 7) (hl : l ≤ 16384) (hlc : l ≤ c) :
    Calls Tryd.prog 29 #[.agg #[.int .i64 (k : Int), .int .i64 (s : Int), .slice a l c], v] w fun e w' => ∃ v', e = .returned (.tuple #[v', .int .i64 0]) ∧ Buf w' v' N (L ++ frL k s D) ∧ w.grownBy w' v.ownBlock ∧ Buf w' v N L := by
  rcases hb with ⟨rfl, rfl⟩ | ⟨g, cap, rfl, hg, hd⟩
  · refine (append_nil k s a l c D w hs hn hk1 hk2 hs2 hl hlc).mono ?_
    rintro e w' ⟨v', rfl, hb, hB⟩
    refine ⟨v', rfl, ?_, ⟨hB.os, hB.tape, hB.output, hB.size, fun b hb _ => hB.block b hb⟩, .inl ⟨rfl, rfl⟩⟩
    rw [List.nil_append]
    rcases hb with h | ⟨g, cap, h1, h2, h3⟩
    · exact .inl h
    · exact .inr ⟨g, cap, h1, by omega, h3⟩
  · refine (append_ok2 k s a l c g L.length cap L D w hd hs hn hi hk1 hk2 hs2 hl hlc).mono ?_
    rintro e w' ⟨g', cap', n, rfl, h1, h2, h3, h4⟩
    have hnl : n = (L ++ frL k s D).length := h1.len.symm
    subst hnl
    refine ⟨_, rfl, .inr ⟨g', cap', rfl, ?_, h1⟩, h2, .inr ⟨g, cap, rfl, hg, h4⟩⟩
    rcases h3 with rfl | h3
    · exact hg
    · omega
end Go.Proofs.YtpaijhmbfljfmaaDoor.Fz
/- FeedWrong's walk. -/
namespace Go.Proofs.YtpaijhmbfljfmaaDoor.FeedWrongW
set_option linter.unusedVariables false
set_option linter.unusedSimpArgs false
set_option maxRecDepth 100000
open Go.ChangeShapes Go.WideShapes Go.ChangeAt Go.RowKit
open Go.Proofs.YtpaijhmbfljfmaaDoor.Wu Go.Proofs.YtpaijhmbfljfmaaDoor.Sm Go.Proofs.YtpaijhmbfljfmaaDoor.Sh Go.Proofs.YtpaijhmbfljfmaaDoor.Ba Go.Proofs.YtpaijhmbfljfmaaDoor.Bp Go.Proofs.YtpaijhmbfljfmaaDoor.Bq Go.Proofs.YtpaijhmbfljfmaaDoor.Bs Go.Proofs.YtpaijhmbfljfmaaDoor.Cm Go.Proofs.YtpaijhmbfljfmaaDoor.Er Go.Proofs.YtpaijhmbfljfmaaDoor.Eu Go.Proofs.YtpaijhmbfljfmaaDoor.Cw Go.Proofs.YtpaijhmbfljfmaaDoor.Rk Go.Proofs.YtpaijhmbfljfmaaDoor.Fa Go.Proofs.YtpaijhmbfljfmaaDoor.Fb Go.Proofs.YtpaijhmbfljfmaaDoor.Fh Go.Proofs.YtpaijhmbfljfmaaDoor.Fi Go.Proofs.YtpaijhmbfljfmaaDoor.Fo Go.Proofs.YtpaijhmbfljfmaaDoor.Fq Go.Proofs.YtpaijhmbfljfmaaDoor.Ga Go.Proofs.YtpaijhmbfljfmaaDoor.Gb Go.Proofs.YtpaijhmbfljfmaaDoor.Gc Go.Proofs.YtpaijhmbfljfmaaDoor.Gd Go.Proofs.YtpaijhmbfljfmaaDoor.Ge Go.Proofs.YtpaijhmbfljfmaaDoor.Gf Go.Proofs.YtpaijhmbfljfmaaDoor.Gh Go.Proofs.YtpaijhmbfljfmaaDoor.Gi Go.Proofs.YtpaijhmbfljfmaaDoor.Gj
attribute [local go_sem] kUpon_value kUpon_skip kUpon_enter
def Post (w : World) (e : Ending) (w' : World) : Prop := e = .returned (.bool true) ∧ Below w.heap.size w w'
set_option maxHeartbeats 1600000 in
theorem out_walk (a : Option Addr) (l c : Nat) (x : Int) (ma : Option Addr) (ml mc : Nat) (w : World) (he : Et w) (h : 8 < l ∨ 500 < ml) (hl : l ≤ 9223372036854775807) (hm : ml ≤ 9223372036854775807) :
    Calls Tryd.prog 6 #[.slice a l c, .int .u8 x, .slice ma ml mc] w (Post w) := by
  have HC := hide (feeds_c w he)
  have hcs : (8 < l) ∨ (¬ 8 < l ∧ 500 < ml) := by omega
  clear h
  rcases hcs with h1 | ⟨h1, h2⟩
  all_goals
    go_enter Tryd.func6, Tryd.ntmps6
    go_wp2_with fail
    refine HC.out.mono ?_
    rintro e w1 ⟨rfl, hb⟩
    have HB := hide hb
    clear hb HC
    go_wp2
    go_ret
    exact ⟨rfl, HB.out⟩
/-- Frames written so far. -/
structure W1 (w : World) (i : Nat) (fs : List Fr) (b : Value) (wr : World) : Prop where
  good : ∀ f ∈ fs, f.good
  few : fs.length ≤ i
  buf : Buf wr b w.heap.size (bytesOf fs)
  len : (bytesOf fs).length ≤ i * 16400
  below : Below w.heap.size w wr
theorem readR_low (y : Nat) (h : y < 8) : readR [y] = .bad 40 0 := by
  have hb : s0.byteV [y] = y := rfl
  unfold readR headR
  rw [if_pos ⟨by simp, by rw [hb]; exact h⟩]
set_option maxHeartbeats 3200000 in
theorem walk (a : Option Addr) (len cap : Nat) (x : Nat) (ma : Option Addr) (ml mc : Nat) (w : World) (he : Et w) (hf : IsFrames w a len cap) (hl : len ≤ 8) (hx : x < 256) (hml : ml ≤ 500) :
    Calls Tryd.prog 6 #[.slice a len cap, .int .u8 (x : Int), .slice ma ml mc] w (Post w) := by
  have HC := hide (feeds_c w he)
  have HE : Hid (∀ u, Below w.heap.size w u → Et u) := hide (fun u hu => he.below hu (Nat.le_refl _))
  have HFs := hide hf.2.2
  have hcap := hf.1
  have hcap2 := hf.2.1
  clear he hf
  have d1 : decide ((8 : Int) < (len : Int)) = false := by simp; omega
  have d1' : decide (8 < len) = false := by simp; omega
  have d2 : decide ((500 : Int) < (ml : Int)) = false := by simp; omega
  have d2' : decide (500 < ml) = false := by simp; omega
  go_enter Tryd.func6, Tryd.ntmps6
  go_wp2_with fail
  refine HC.out.mono ?_
  rintro e w1 ⟨rfl, hb⟩
  have HB1 := hide hb
  clear hb HC
  go_wp2_with fail
  have H0 : Hid (W1 w 0 [] (.slice none 0 0) w1) := hide ⟨(by intro f hf; cases hf), Nat.le_refl _, .inl ⟨rfl, rfl⟩, (by simp [bytesOf]), HB1.out⟩
  go_loopw [27, 7, 8] (fun j b n wr => ∃ i fs, j = .int .i64 ((i : Nat) : Int) ∧ i ≤ len ∧ n = .int .i64 ((fs.length : Nat) : Int) ∧ W1 w i fs b wr) (fun j _ _ _ => len - (intOf j).toNat)
  case atStart => exact ⟨0, [], rfl, Nat.zero_le _, rfl, H0.out⟩
  case round =>
    clear H0 HB1
    obtain ⟨i, fs, rfl, hi, rfl, hW⟩ := hrel
    have HW := hide hW
    have hfew := hW.few
    clear hW
    by_cases hlt : i < len
    · obtain ⟨xb, xo, ha, hcells⟩ := HFs.out (by omega)
      obtain ⟨k, s, b, l, c, D, c0, c1, c2, hd⟩ := hcells i hlt
      subst ha
      have k0 := keepC HW.out.below (Nat.le_refl _) c0
      have k1 := keepC HW.out.below (Nat.le_refl _) c1
      have k2 := keepC HW.out.below (Nat.le_refl _) c2
      have HD := hide hd
      clear hcells c0 c1 c2 hd
      rw [Nat.add_zero] at k0
      have hb8 := below_new wr (.cells #[.int .i64 k, .int .i64 s, .slice b l c] 51)
      have hB8 := keepB hb8 (Nat.le_refl _) HW.out.below
      have hlD := HD.out.1.1
      have hlm : l ≤ 9223372036854775807 := by have := HD.out.2.1; have := HD.out.2.2.1; omega
      by_cases hk : chk k s l = 0
      · obtain ⟨g1, g2, g3, g4, g5⟩ := chk_good hk
        obtain ⟨k, rfl⟩ := Int.eq_ofNat_of_zero_le (a := k) (by omega)
        obtain ⟨s, rfl⟩ := Int.eq_ofNat_of_zero_le (a := s) (by omega)
        have HA := hide (Fz.append_buf2 k s b l c w.heap.size u7 (bytesOf fs) D _ (HW.out.buf.up hb8) hB8.size ((HD.out.1.below HW.out.below).below hb8) HD.out.2.2.2 (by have := HW.out.len; omega) (by omega) (by omega) (by omega) g5 HD.out.2.1)
        have HB8 := hide hB8
        have HFv := hide (heap_last wr (.cells #[.int .i64 (k : Int), .int .i64 (s : Int), .slice b l c] 51))
        have hbown := Buf.own HW.out.buf
        clear hb8 hB8 hk
        go_wp2_with fail
        have hwz : w.heap.size ≤ wr.heap.size := HW.out.below.size
        generalize wr.alloc (.cells #[.int .i64 (k : Int), .int .i64 (s : Int), .slice b l c] 51) = w8 at *
        refine HA.out.mono ?_
        rintro e w9 ⟨v9, rfl, hbuf, hg9, hold⟩
        have hcf := blk_cell (i := 2) (x := .slice b l c) (hg9.block _ (heap_lt HFv.out) (fun e => by have := (hbown _ e.symm).2; omega) |>.trans HFv.out) rfl
        have hB9 : Below w.heap.size w w9 := Below.grown HB8.out hg9 HB8.out.size (fun q hq => (hbown q hq).1)
        by_cases h1000 : l ≤ 1000
        · have hgood : Fr.good ⟨k, s, D⟩ := ⟨show 1 ≤ k by omega, show k ≤ 31 by omega, show s ≤ 7 by omega, show D.length ≤ 16384 by omega⟩
          have HN : Hid (W1 w (i + 1) (fs ++ [⟨k, s, D⟩]) v9 w9) := hide ⟨by
              intro f hf
              rcases List.mem_append.1 hf with h | h
              · exact HW.out.good f h
              · simp only [List.mem_singleton] at h; subst h; exact hgood, by simp only [List.length_append, List.length_cons, List.length_nil]; omega, by rw [bytesOf_snoc]; exact hbuf, by
              rw [bytesOf_snoc, List.length_append]
              have := frL_max ⟨k, s, D⟩ hgood
              have := HW.out.len
              simp only at *
              omega, hB9⟩
          clear hbuf hg9 hold hB9 hgood HA HB8 HFv hbown k0 k1 k2
          go_wp2
          go_roundw
          case rel => exact ⟨i + 1, _, by go_num, by omega, by simp, HN.out⟩
          case measure => simp [intOf]; omega
        · have HN : Hid (W1 w (i + 1) fs u7 w9) := hide ⟨HW.out.good, by omega, hold, by have := HW.out.len; omega, hB9⟩
          clear hbuf hg9 hold hB9 HA HB8 HFv hbown k0 k1 k2
          go_wp2
          go_roundw
          case rel => exact ⟨i + 1, fs, by go_num, by omega, rfl, HN.out⟩
          case measure => simp [intOf]; omega
      · have HA := hide (append_bad k s b l c u7 (wr.alloc (.cells #[.int .i64 k, .int .i64 s, .slice b l c] 51)) hlm hk)
        have HN : Hid (∀ u, Below (wr.alloc (.cells #[.int .i64 k, .int .i64 s, .slice b l c] 51)).heap.size (wr.alloc (.cells #[.int .i64 k, .int .i64 s, .slice b l c] 51)) u → W1 w (i + 1) fs u7 u) := hide (fun u hu => ⟨HW.out.good, by omega, (HW.out.buf.up hb8).up hu, by have := HW.out.len; omega, keepB hu (Nat.le_refl _) hB8⟩)
        obtain ⟨z, hz⟩ : ∃ z, z = chk k s l := ⟨_, rfl⟩
        rw [← hz] at hk HA
        have e1 : (z == 0) = false := by simp; exact hk
        clear hz hk hb8 hB8
        go_wp2_with fail
        refine HA.out.mono ?_
        rintro e w9 ⟨rfl, hb9⟩
        have HN9 := hide (HN.out w9 hb9)
        clear hb9 HA HN k0 k1 k2
        go_wp2
        go_roundw
        case rel => exact ⟨i + 1, fs, by go_num, by omega, rfl, HN9.out⟩
        case measure => simp [intOf]; omega
    · have hil : i = len := by omega
      subst hil
      have hgood := HW.out.good
      have hXl : (bytesOf fs).length ≤ 131200 := by have := HW.out.len; omega
      have HFd : Hid (Fed (bytesOf fs ++ [x % 8]) fs (bytesOf fs).length 40 0) := hide (by
        have h := fed_bytesOf fs hgood [x % 8] (Fed.stop (readR_low (x % 8) (by omega)))
        rwa [List.append_nil, Nat.add_zero] at h)
      have hF := FeedAt.new wr w.heap.size
      have hbF := below_new wr (.cells #[.slice none 0 0, .int .i64 0, .int .i64 0, .int .i64 0] 43)
      obtain ⟨X, hX⟩ : ∃ X, X = bytesOf fs := ⟨_, rfl⟩
      have hbuf := HW.out.buf
      rw [← hX] at HFd hXl hbuf
      clear hX hgood
      obtain ⟨rb, rc, rfl, hsrc, hroom, hmax, hnil⟩ := hbuf.form
      unfold maxLen at hmax
      have hFw : w.heap.size ≤ wr.heap.size := HW.out.below.size
      have HB2 := hide (keepB hbF (Nat.le_refl _) HW.out.below)
      have HF2 := hide hF
      have HS2 := hide (hsrc.below hbF)
      have hflen : fs.length ≤ 8 := by omega
      have hnl : rb = none → X.length = 0 := fun h => (hnil h).1
      clear hF hbF hsrc hmax hnil hbuf HW
      have hs2 : (wr.alloc (.cells #[.slice none 0 0, .int .i64 0, .int .i64 0, .int .i64 0] 43)).heap.size = wr.heap.size + 1 := by simp
      have hb3 := below_new (wr.alloc (.cells #[.slice none 0 0, .int .i64 0, .int .i64 0, .int .i64 0] 43)) (.cells #[] 5)
      have HD3 : Hid (Dst ((wr.alloc (.cells #[.slice none 0 0, .int .i64 0, .int .i64 0, .int .i64 0] 43)).alloc (.cells #[] 5)) (wr.heap.size + 1) 0 0 []) := hide (by
        rw [← hs2]
        exact dst_new _ [] #[] 5 (0, 0) rfl all8_nil (by simp [maxLen]))
      have HB3 := hide (keepB hb3 (Nat.le_refl _) HB2.out)
      have HF3 := hide (HF2.out.below hb3)
      have HS3 := hide (HS2.out.below hb3)
      clear hb3 HB2 HF2 HS2 hs2
      go_wp2_with (refine wpList_append_dst rfl (.tmp 49) (.tmp 50) rfl (wr.heap.size + 1) 0 0 [] rb X.length rc X rfl rfl HD3.out HS3.out (by omega) hnl ?_)
      intro g4 cap4 w4 HD4 HG4 hg4 HK4
      refine of_hid ?_
      have HF4 := hide (HF3.out.kept HG4.out (by omega) (by intro h; cases h))
      have hFlt := HF3.out.lt
      have HB4 := hide (belowG HB3.out HG4.out (by omega) HB3.out.size)
      have hg4F : wr.heap.size < g4 := by
        rcases hg4 with h | h <;> omega
      clear HF3 HB3 HD3 HS3 HG4 HK4 hg4
      have hy8 : x % 8 < 256 := by omega
      have hr1 : ((x : Int)).tmod 8 = ((x % 8 : Nat) : Int) := by rw [Int.tmod_eq_emod_of_nonneg (by omega)]; omega
      have hr2 : (x : Int) % 8 = ((x % 8 : Nat) : Int) := by omega
      obtain ⟨y, hy⟩ : ∃ y, y = x % 8 := ⟨_, rfl⟩
      rw [← hy] at hr1 hr2 hy8 HFd
      clear hy
      have HSb := hide (src_one (heap_last w4 (.cells #[.int .u8 (y : Int)] 5)) hy8)
      have hb5 := below_new w4 (.cells #[.int .u8 (y : Int)] 5)
      have HD5 := hide (HD4.out.below hb5 HD4.out.lt)
      have HF5 := hide (HF4.out.below hb5)
      have HB5 := hide (keepB hb5 (Nat.le_refl _) HB4.out)
      have h4lt := HD4.out.lt
      clear hb5 HD4 HF4 HB4
      go_wp2_with (refine wpList_append_dst rfl (.tmp 51) (.tmp 54) rfl g4 X.length cap4 X (some ⟨w4.heap.size, 0, none⟩) 1 1 [y] rfl rfl HD5.out HSb.out (by omega) (fun h => by cases h) ?_)
      intro g6 cap6 w6 HD6 HG6 hg6 HK6
      refine of_hid ?_
      have HF6 := hide (HF5.out.kept HG6.out (by omega) (by intro h; cases h))
      have HB6 := hide (belowG HB5.out HG6.out (by omega) HB5.out.size)
      have HS6 := hide HD6.out.src
      clear HF5 HB5 HD5 HSb HG6 HK6 hg6 hr1 hr2 HD6
      generalize wr.heap.size = F at *
      have HAd := hide (add_c w6 F (.slice none 0 0) w.heap.size z0 (some ⟨g6, 0, none⟩) (X.length + 1) cap6 (X ++ [y]) HF6.out HS6.out (fun h => by cases h) HB6.out.size hFw (fun u hu => HE.out u (HB6.out.trans hu)) (by simp [z0]; omega) (by simp [z0]))
      go_wp2_with fail
      refine HAd.out.mono ?_
      rintro e w7 ⟨u70, v7, s7, fs7, rfl, hn7, hf7, hr7, hk7, -⟩
      have HB7 := hide (hk7.toBelow HB6.out HB6.out.size hFw (fun k h => by cases h))
      obtain ⟨e1, e2⟩ := next_ok hn7 rfl HFd.out
      have e3 : s7 = ⟨[], X.length, (X.length : Int), 40⟩ := by
        rw [e2]
        unfold FS.after
        rw [if_neg (by decide)]
        simp [z0]
      subst e1 e3
      obtain ⟨au, cu, hu7, hul, hum⟩ := hr7.form
      subst hu7
      obtain ⟨av, cv, hv7, hvr⟩ := hf7.buf.form
      subst hv7
      have HF7 := hide hf7
      have HC7 := hide hf7.cells
      clear hn7 hf7 hr7 hk7 e2 hvr HAd HF6 HB6 HS6 HFd
      go_wp2_with fail
      refine (Gc.err_c HC7.out).mono ?_
      intro e w8 hE
      obtain ⟨v8, rfl, hi8, hb8⟩ := hE.isErr
      rw [if_neg (show ¬ (40 : Int) = 0 by decide)] at hi8
      have HI8 := hide hi8
      have HB8 := hide (keepB hb8 (Nat.le_refl _) HB7.out)
      have HF8 := hide (HF7.out.below hb8)
      clear hE hi8 hb8 HF7 HC7 HB7
      go_wp2_with fail
      refine (number_c v8 40 _ w8 HI8.out (HE.out w8 HB8.out)).mono ?_
      rintro e w9 ⟨rfl, hb9⟩
      have HB9 := hide (keepB hb9 (Nat.le_refl _) HB8.out)
      have HF9 := hide (HF8.out.below hb9)
      clear hb9 HF8 HB8 HI8
      go_wp2_with fail
      refine (Gc.err_c HF9.out.cells).mono ?_
      intro e wa hE
      obtain ⟨va, rfl, hia, hba⟩ := hE.isErr
      rw [if_neg (show ¬ (40 : Int) = 0 by decide)] at hia
      have HIa := hide hia
      have HBa := hide (keepB hba (Nat.le_refl _) HB9.out)
      have HFa := hide (HF9.out.below hba)
      clear hE hia hba HF9 HB9
      go_wp2_with fail
      refine (place_c va 40 _ wa HIa.out (HE.out wa HBa.out)).mono ?_
      rintro e wb ⟨rfl, hbb⟩
      have HBb := hide (keepB hbb (Nat.le_refl _) HBa.out)
      have HFb := hide (HFa.out.below hbb)
      clear hbb HFa HBa HIa
      go_wp2_with fail
      refine (held_c HFb.out.cells).mono ?_
      rintro e wc ⟨rfl, rfl⟩
      go_wp2_with fail
      refine (add_broken wb F _ w.heap.size _ _ [] HFb.out (show ¬ (40 : Int) = 0 by decide)).mono ?_
      rintro e wd ⟨ud, vd, sd, fsd, rfl, hnd, hfd, hrd, hkd, -⟩
      have HBd := hide (hkd.toBelow HBb.out HBb.out.size hFw (fun k h => (Buf.own HFb.out.buf k h).1))
      obtain ⟨e1, e2⟩ : sd = ⟨[], X.length, (X.length : Int), 40⟩ ∧ fsd = [] := by
        rcases hnd with ⟨_, h1, h2⟩ | ⟨h, _⟩
        · exact ⟨h1, h2⟩
        · exact absurd h (show ¬ (40 : Int) = 0 by decide)
      subst e1 e2
      obtain ⟨aud, cud, hud, huld, humd⟩ := hrd.form
      subst hud
      have HFd := hide hfd
      clear hnd hfd hrd hkd HFb HBb
      simp only [List.length_nil] at huld ⊢
      go_wp2_with fail
      refine (add_broken wd F _ w.heap.size _ _ [] HFd.out (show ¬ (40 : Int) = 0 by decide)).mono ?_
      rintro e we ⟨ue, ve, se, fse, rfl, hne, hfe, hre, hke, -⟩
      have HBe := hide (hke.toBelow HBd.out HBd.out.size hFw (fun k h => (Buf.own HFd.out.buf k h).1))
      obtain ⟨e1, e2⟩ : se = ⟨[], X.length, (X.length : Int), 40⟩ ∧ fse = [] := by
        rcases hne with ⟨_, h1, h2⟩ | ⟨h, _⟩
        · exact ⟨h1, h2⟩
        · exact absurd h (show ¬ (40 : Int) = 0 by decide)
      subst e1 e2
      obtain ⟨aue, cue, hue, hule, hume⟩ := hre.form
      subst hue
      have HFe := hide hfe
      clear hne hfe hre hke HFd HBd
      simp only [List.length_nil] at hule ⊢
      go_wp2_with fail
      refine (Gc.err_c HFe.out.cells).mono ?_
      intro e wf hE
      obtain ⟨vf, rfl, hif, hbf⟩ := hE.isErr
      rw [if_neg (show ¬ (40 : Int) = 0 by decide)] at hif
      have HIf := hide hif
      have HBf := hide (keepB hbf (Nat.le_refl _) HBe.out)
      have HFf := hide (HFe.out.below hbf)
      clear hE hif hbf HFe HBe
      go_wp2_with fail
      refine (place_c vf 40 _ wf HIf.out (HE.out wf HBf.out)).mono ?_
      rintro e wg ⟨rfl, hbg⟩
      have HBg := hide (keepB hbg (Nat.le_refl _) HBf.out)
      have HFg := hide (HFf.out.below hbg)
      clear hbg HFf HBf HIf
      go_wp2_with fail
      refine (Gc.read_c HFg.out.cells).mono ?_
      rintro e wh ⟨rfl, rfl⟩
      go_wp2
      go_ret
      exact ⟨rfl, HBg.out⟩
end Go.Proofs.YtpaijhmbfljfmaaDoor.FeedWrongW
