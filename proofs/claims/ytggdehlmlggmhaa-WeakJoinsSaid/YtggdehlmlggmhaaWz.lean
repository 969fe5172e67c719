/- Slices of bytes that came in, empty ones and nil ones too; appending them to a row of the call's own; Of of them. -/
import Derived.Test.YtggdehlmlggmhaaWc
import Derived.Test.YtggdehlmlggmhaaWy
import Derived.Laws.AppendOwnNone
namespace Go.Proofs.Ytggdehlmlggmhaa.Wz
set_option linter.unusedVariables false
set_option linter.unusedSimpArgs false
open Go.RowKit
open Go.Proofs.Ytggdehlmlggmhaa.Wu Go.Proofs.Ytggdehlmlggmhaa.Wm Go.Proofs.Ytggdehlmlggmhaa.Wy Go.Proofs.Ytggdehlmlggmhaa.Wc Go.Proofs.Ytggdehlmlggmhaa.Wk

/-- A slice value of m bytes L: nil, empty, or over cells that are there. -/
structure Src (w : World) (a : Option Addr) (m : Nat) (L : List Int) : Prop where
  len : L.length = m
  byt : Byt L
  at_ : m = 0 ∨ ∃ b off, a = some ⟨b, off, none⟩ ∧ b < w.heap.size ∧ ∀ i, i < m → w.cell? ⟨b, off + i, none⟩ = some (.int .u8 (L.getD i 0))

theorem Src.below {w w' : World} {a : Option Addr} {m : Nat} {L : List Int} (h : Src w a m L) (hb : Below w.heap.size w w') : Src w' a m L :=
  ⟨h.len, h.byt, h.at_.imp id fun ⟨b, off, ha, hl, hc⟩ => ⟨b, off, ha, Nat.lt_of_lt_of_le hl hb.size, fun i hi => (hb.cell (p := ⟨b, off + i, none⟩) hl).trans (hc i hi)⟩⟩
theorem Src.nil (w : World) (a : Option Addr) : Src w a 0 [] := ⟨rfl, (fun z hz => by cases hz), Or.inl rfl⟩

theorem of_src (a : Option Addr) (m cap : Nat) (L : List Int) (w : World) (h : Src w a m L) (hm : m < 2147483648) :
    Calls Try.prog 11 #[.slice a m cap] w fun e w' =>
      e = .returned (.agg #[.int .i64 (m : Int), .int .u16 (lo L), .int .u16 (hi L)]) ∧ Below w.heap.size w w' := by
  obtain ⟨hl, hb, h0 | ⟨b, off, rfl, hlt, hc⟩⟩ := h
  · subst h0
    have hL : L = [] := List.length_eq_zero_iff.1 hl
    subst hL
    exact of_none a cap w
  · exact of_row b off cap m L w hl hb hm hlt hc

theorem add_off (b off i : Nat) : (⟨b, off, none⟩ : Addr).add i = ⟨b, off + i, none⟩ := by
  by_cases h : i = 0
  · subst h; simp [Addr.add]
  · simp [Addr.add, h]

theorem info_u8 : (Try.prog.info? 5).map (fun i => (i.zero, i.size, i.bytes)) = some (some (.int .u8 0), 1, 1) := by kernel_rfl

/-- append, a row of the call's own that is not nil. -/
theorem append_src (w : World) (base g n cap0 : Nat) (Ls : List Int) (a : Option Addr) (m c : Nat) (L : List Int) (ty : TypeId)
    (hown : w.ownsRow base 5 1 (.slice (some ⟨g, 0, none⟩) n cap0) n (Ls.map (Value.int .u8))) (hs : Src w a m L) (hc : a = none → c = 0) (hn : n + m ≤ 1000000) (hbase : base ≤ w.heap.size) :
    ∃ g' cap' w', (Builtin.append_ #[22, 22] ty #[.slice (some ⟨g, 0, none⟩) n cap0, .slice a m c]).run Try.prog w = .ok (.slice (some ⟨g', 0, none⟩) (n + m) cap') w' ∧
      w'.ownsRow base 5 1 (.slice (some ⟨g', 0, none⟩) (n + m) cap') (n + m) ((Ls ++ L).map (Value.int .u8)) ∧ w.grownBy w' (some g) := by
  obtain ⟨i0, hi0, hz0, hz1, hz2⟩ := info_parts info_u8
  obtain ⟨hl, hb, hat⟩ := hs
  by_cases hnone : a = none
  · subst hnone
    have h0 : m = 0 := by
      rcases hat with h0 | ⟨b, off, ha, _⟩
      · exact h0
      · cases ha
    subst h0
    have hL : L = [] := List.length_eq_zero_iff.1 hl
    subst hL
    have hrun := run_append_owned_none (P := Try.prog) (w := w) base 22 ty 5 i0 1 Try.underlying22 hi0 _ n _ hown
    rw [hc rfl]
    exact ⟨g, cap0, w, hrun, by simpa using hown, World.grownBy.refl w _⟩
  · obtain ⟨ad, rfl⟩ := Option.ne_none_iff_exists'.1 hnone
    have hcells : ∀ j u, (L.map (Value.int .u8))[j]? = some u → w.cell? (ad.add j) = some u := by
      intro j u hu
      rw [List.getElem?_map, Option.map_eq_some_iff] at hu
      obtain ⟨z, hz, rfl⟩ := hu
      have hj : j < L.length := (List.getElem?_eq_some_iff.1 hz).1
      rcases hat with h0 | ⟨b, off, ha, hlt, hcc⟩
      · omega
      · cases ha
        rw [add_off, hcc j (by omega)]
        simp [List.getD, hz]
    obtain ⟨v', w', hrun, hown', hgrow, hnil⟩ := run_append_own (P := Try.prog) w base 22 ty 5 i0 (.int .u8 0) 1 1 Try.underlying22 hi0 hz0 hz1 hz2 rfl (by decide) _ n _ hown ad m c (L.map (Value.int .u8))
      (by simp [hl]) hcells (by intro u hu; simp only [List.mem_map] at hu; obtain ⟨z, _, rfl⟩ := hu; rfl) (by unfold maxLen; omega) (by omega) hbase
    rw [← List.map_append] at hown'
    obtain ⟨h1, ⟨rfl, h2⟩ | ⟨g', cap', cur, rfl, r⟩⟩ := hown'
    · have := hnil.1 rfl
      simp at this
    · exact ⟨g', cap', w', hrun, ⟨h1, .inr ⟨g', cap', cur, rfl, r⟩⟩, hgrow⟩

/-- append by the equation on its run. -/
theorem wpList_append_run {P : Program} {w : World} {ops : Array Oper} {rest : List Oper} {o : Oper} {a : Act} {Q : Exit → Act → World → Prop} (hgd : o.guard = none) (s x : Operand) (t : TypeId)
    (ho : o.op = .call { callee := .builtin .append, args := #[s, x], argTypes := #[t, t] }) (v y v' : Value) (w' : World)
    (hrun : (Builtin.append_ #[t, t] o.type #[v, y]).run P w = .ok v' w') (hs : a.eval s = v) (hx : a.eval x = y)
    (h : wpList P ops Q rest (a.put o.dst v') w') : wpList P ops Q (o :: rest) a w := by
  refine wpList_plain hgd fun K hK => ?_
  unfold Oper.wp
  simp [execOp, ho, resolve, invoke, builtin, hs, hx, hrun, Result.andThen]
  exact hK _ _ h

/-- The row of the call's own as a slice that can be read. -/
theorem own_src {w : World} {base g n cap : Nat} {L : List Int} (h : w.ownsRow base 5 1 (.slice (some ⟨g, 0, none⟩) n cap) n (L.map (Value.int .u8))) (hL : Byt L) : Src w (some ⟨g, 0, none⟩) n L := by
  have hl : L.length = n := by have := h.1; simpa using this
  refine ⟨hl, hL, .inr ⟨g, 0, rfl, (h.lt g rfl).2, fun i hi => ?_⟩⟩
  have := h.cells (g := g) rfl i (.int .u8 (L.getD i 0)) (by rw [List.getElem?_map]; simp [List.getD, show i < L.length by omega])
  rw [add_off] at this
  exact this
end Go.Proofs.Ytggdehlmlggmhaa.Wz
