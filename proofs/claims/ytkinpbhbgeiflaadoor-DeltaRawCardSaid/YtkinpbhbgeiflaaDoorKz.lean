/- Opening a block.Signature that came in. -/
import Derived.Test.YtkinpbhbgeiflaaDoorUg
import Derived.Test.YtkinpbhbgeiflaaDoorQe
namespace Go.Proofs.YtkinpbhbgeiflaaDoor.Kz
set_option linter.unusedVariables false
set_option linter.unusedSimpArgs false
set_option maxRecDepth 100000
open Go.RowKit Go.WideShapes Go.ChangeShapes Go.Deep
open Go.Proofs.YtkinpbhbgeiflaaDoor.Wu Go.Proofs.YtkinpbhbgeiflaaDoor.Sm Go.Proofs.YtkinpbhbgeiflaaDoor.Sh Go.Proofs.YtkinpbhbgeiflaaDoor.Ba Go.Proofs.YtkinpbhbgeiflaaDoor.Bo Go.Proofs.YtkinpbhbgeiflaaDoor.Ka Go.Proofs.YtkinpbhbgeiflaaDoor.Kb Go.Proofs.YtkinpbhbgeiflaaDoor.Ug
theorem u32_bd {z : Int} (h : (Lit.int .u32 z).wf = true) : 0 ≤ z ∧ z < 4294967296 := by
  simp [Lit.wf, IntKind.min, IntKind.max, IntKind.signed, IntKind.bits] at h
  omega
theorem block_cells {H : Type} {enc : TypeId × Value → H} {w : World} {base fuel : Nat} {spare : Nat → Bool} {held : Bool} {cs : List Value} {x : DataW H × List MemPlace}
    (hf : DataW.trod enc Tryd.prog w base spare held fuel 116 cs = some x) : ∃ b : Blk, b.ok ∧ cs = blkC .u32 b := by
  obtain ⟨y0, y1, k, _, hl, h0, h1⟩ := trod_struct2 Tryd.underlying116 hf
  have c0 : Tryd.prog.cellsOf 108 = 1 := by kernel_rfl
  have c1 : Tryd.prog.cellsOf 84 = 32 := by kernel_rfl
  have c2 : Tryd.prog.cellsOf 116 = 1 + 32 := by kernel_rfl
  rw [c2] at hl
  simp only [c0, c1] at h0 h1
  obtain ⟨z, e0, _, hw⟩ := DataW.trod_int Tryd.underlying108 h0
  obtain ⟨X, e1, x1, x2⟩ := arr_cells Tryd.underlying84 Tryd.underlying5 (by kernel_rfl) c1 h1
  rw [List.drop_zero] at e0
  have hb := u32_bd hw
  have hz : z = ((z.toNat : Nat) : Int) := by omega
  refine ⟨⟨z.toNat, X⟩, ⟨by show z.toNat < _; omega, x1, x2⟩, ?_⟩
  rw [split_two hl e0 e1]
  unfold blkC
  rw [← hz]
  rfl
theorem trod_struct4 {H : Type} {enc : TypeId × Value → H} {P : Program} {w : World} {base : Nat} {spare : Nat → Bool} {held : Bool} {t : TypeId} {f0 f1 f2 f3 : Field} {fuel : Nat} {cs : List Value} {x : DataW H × List MemPlace} (ht : P.underlying t = some (.struct #[f0, f1, f2, f3])) (h : DataW.trod enc P w base spare held fuel t cs = some x) :
    ∃ y0 y1 y2 y3 n, cs.length = P.cellsOf t ∧ DataW.trod enc P w base spare held n f0.type ((cs.drop f0.offset).take (P.cellsOf f0.type)) = some y0 ∧
      DataW.trod enc P w base spare held n f1.type ((cs.drop f1.offset).take (P.cellsOf f1.type)) = some y1 ∧ DataW.trod enc P w base spare held n f2.type ((cs.drop f2.offset).take (P.cellsOf f2.type)) = some y2 ∧
      DataW.trod enc P w base spare held n f3.type ((cs.drop f3.offset).take (P.cellsOf f3.type)) = some y3 := by
  obtain ⟨xs, n, _, rfl, hl, hlen, hf⟩ := DataW.trod_struct ht h
  match xs, hlen with
  | [y0, y1, y2, y3], _ => exact ⟨y0, y1, y2, y3, n, hl, by simpa using hf 0 f0 rfl, by simpa using hf 1 f1 rfl, by simpa using hf 2 f2 rfl, by simpa using hf 3 f3 rfl⟩
theorem open_sig {H : Type} {enc : TypeId × Value → H} {w : World} {r : Reach} {b0 base : Nat} {held : Bool} {v : Value} {d : DataW H} {p : List MemPlace}
    (hv : Value.okWide Tryd.prog w r b0 50 v) (h : DataW.Trod enc Tryd.prog w base (fun _ => true) held 50 v d p) :
    ∃ (sz cut len : Int) (a : Option Addr) (m c : Nat) (bs : List Blk), v = sigV sz cut len (.slice a m c) ∧ (IsBks .u32 w (.slice a m c) bs ∧ bs.length = m) ∧ len ≤ 9223372036854775807 := by
  obtain ⟨cs, rfl, hsz⟩ := okWide_struct Tryd.underlying50 hv
  obtain ⟨fuel, hf⟩ := h
  obtain ⟨y0, y1, y2, y3, k, hl, h0, h1, h2, h3⟩ := trod_struct4 Tryd.underlying50 hf
  have cs3 : Tryd.prog.cellsOf 3 = 1 := by kernel_rfl
  have csB : Tryd.prog.cellsOf 48 = 1 := by kernel_rfl
  have csS : Tryd.prog.cellsOf 50 = 4 := by kernel_rfl
  rw [csS] at hl
  simp only [cs3, csB] at h0 h1 h2 h3
  obtain ⟨sz, e0, _, _⟩ := DataW.trod_int Tryd.underlying3 h0
  obtain ⟨cut, e1, _, _⟩ := DataW.trod_int Tryd.underlying3 h1
  obtain ⟨len, e2, _, hlen⟩ := DataW.trod_int Tryd.underlying3 h2
  have hb := Bj.i64_bd hlen
  generalize hL : (Value.agg cs).cells.toList = L at *
  have hall : ∀ (a : Option Addr) (m c : Nat), (L.drop 3).take 1 = [.slice a m c] → Value.agg cs = sigV sz cut len (.slice a m c) := by
    intro a m c e5
    match L, hl, e0, e1, e2, e5 with
    | [x0, x1, x2, x3], _, e0, e1, e2, e5 =>
      simp at e0 e1 e2 e5
      subst e0 e1 e2 e5
      unfold sigV
      congr 1
      apply Array.toList_inj.1
      simpa [Value.cells] using hL
  rcases open_slice Tryd.underlying48 h3 with ⟨e5, _⟩ | ⟨⟨xb, xo, spot⟩, m, cap, q, n', D, Pl, e5, hb', hlc, hm, hmm, _, hx⟩
  · exact ⟨sz, cut, len, none, 0, 0, [], hall _ _ _ e5, ⟨IsBks.nil .u32 w, rfl⟩, hb.2⟩
  · simp at hmm
    subst hmm
    have e2' : Tryd.prog.cellsOf 116 = 33 := by kernel_rfl
    rw [e2'] at hx
    unfold maxLen at hm
    have key : ∀ i, i < m → ∃ b : Blk, b.ok ∧ ∀ j, j < 33 → w.cell? ((Addr.mk xb xo spot).add (i * 33 + j)) = (blkC .u32 b)[j]? := by
      intro i hi
      obtain ⟨cs', g1, g2⟩ := hx i (by omega)
      obtain ⟨b, hok, rfl⟩ := block_cells g2
      refine ⟨b, hok, fun j hj => ?_⟩
      have := (World.cells?_some g1).2.2 j hj
      rw [Addr.add_add] at this
      exact this
    obtain ⟨bs, hbl, hp⟩ := ex_list key
    have hoks : Oks bs := fun b hbm => by
      obtain ⟨i, hi, rfl⟩ := List.mem_iff_getElem.1 hbm
      exact (hp i hi).1
    have hs : 0 < m → spot = none := fun h0 => by
      have h1 := (hp 0 (by omega)).2 0 (by omega)
      unfold blkC at h1
      simpa [Addr.add] using World.cell?_spot h1
    refine ⟨sz, cut, len, some ⟨xb, xo, spot⟩, m, q, bs, hall _ _ _ e5, ⟨⟨hoks, some ⟨xb, xo, spot⟩, q, by rw [hbl], by rw [hbl]; exact hlc, by omega, xb, xo, fun h0 => by rw [hs (by omega)], fun n v hn => ?_⟩, hbl⟩, hb.2⟩
    have hnl : n < m * 33 := by
      have := (List.getElem?_eq_some_iff.1 hn).1
      rw [rowC_length hoks, hbl] at this
      exact this
    have hi : n / 33 < m := by omega
    have hdm : n / 33 * 33 + n % 33 = n := by omega
    have h1 := (hp (n / 33) (by omega)).2 (n % 33) (by omega)
    have h2 := rowC_at (q := .u32) hoks (List.getElem?_eq_getElem (show n / 33 < bs.length by omega)) (n % 33) (by omega)
    rw [hdm] at h1 h2
    rw [← h2, hn] at h1
    have hsp := hs (by omega)
    subst hsp
    rw [Addr.add_mid] at h1
    exact h1
end Go.Proofs.YtkinpbhbgeiflaaDoor.Kz
