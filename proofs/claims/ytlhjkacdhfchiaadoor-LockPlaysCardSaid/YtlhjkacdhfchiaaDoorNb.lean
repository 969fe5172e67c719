/- Reference 12: its asks in rows; appends. -/
import Derived.Test.YtlhjkacdhfchiaaDoorNa
import Derived.Test.YtlhjkacdhfchiaaDoorLi
import Derived.Test.YtlhjkacdhfchiaaDoorLj
import Derived.Laws.OwnMore
namespace Go.Proofs.YtlhjkacdhfchiaaDoor.Nb
set_option linter.unusedVariables false
set_option linter.unusedSimpArgs false
set_option maxRecDepth 100000
open Go.ChangeShapes Go.WideShapes Go.ChangeAt Go.RowKit
open Go.Proofs.YtlhjkacdhfchiaaDoor.Wu Go.Proofs.YtlhjkacdhfchiaaDoor.Rk Go.Proofs.YtlhjkacdhfchiaaDoor.Pm Go.Proofs.YtlhjkacdhfchiaaDoor.Ps Go.Proofs.YtlhjkacdhfchiaaDoor.Pu Go.Proofs.YtlhjkacdhfchiaaDoor.Pv Go.Proofs.YtlhjkacdhfchiaaDoor.Px Go.Proofs.YtlhjkacdhfchiaaDoor.La Go.Proofs.YtlhjkacdhfchiaaDoor.Lb Go.Proofs.YtlhjkacdhfchiaaDoor.Lc Go.Proofs.YtlhjkacdhfchiaaDoor.Ld Go.Proofs.YtlhjkacdhfchiaaDoor.Le Go.Proofs.YtlhjkacdhfchiaaDoor.Lf Go.Proofs.YtlhjkacdhfchiaaDoor.Lg Go.Proofs.YtlhjkacdhfchiaaDoor.Li Go.Proofs.YtlhjkacdhfchiaaDoor.Lj Go.Proofs.YtlhjkacdhfchiaaDoor.Na
theorem info_ra : (Tryd.prog.info? 58).map (fun i => (i.zero, i.size, i.bytes)) = some (some (.agg #[.int .i64 0, .slice none 0 0]), 2, 32) := by kernel_rfl
/-- A slice of the reference's asks, of one's own. -/
def OwnR (w : World) (N : Nat) (v : Value) (us : List La.Ask) : Prop := w.ownsRow N 58 2 v us.length (rowA us)
theorem OwnR.nil (w : World) (N : Nat) : OwnR w N (.slice none 0 0) [] := World.ownsRow_nil _ _ _ _
theorem OwnR.is {w : World} {N : Nat} {v : Value} {us : List La.Ask} (h : OwnR w N v us) : ∃ a c, v = .slice a us.length c ∧ IsAs w a us.length c us ∧ (a = none → us = [] ∧ c = 0) ∧ ∀ ad, a = some ad → ∃ g, ad = ⟨g, 0, none⟩ := by
  obtain ⟨h1, h2⟩ := h
  rcases h2 with ⟨rfl, hn⟩ | ⟨g, cap, cur, rfl, hb, hg, hl, hm, hs, ht⟩
  · obtain rfl : us = [] := List.length_eq_zero_iff.1 hn
    exact ⟨none, 0, rfl, IsAs.nil w none 0 (by omega), fun _ => ⟨rfl, rfl⟩, (fun ad e => by cases e)⟩
  · unfold maxLen at hm
    have hat : ∀ k v, (rowA us)[k]? = some v → w.cell? ⟨g, 0 + k, none⟩ = some v := fun k v hv => by
      rw [Nat.zero_add]
      refine blk_cell hg ?_
      rw [← ht] at hv
      rw [List.getElem?_take] at hv
      split at hv
      · simpa using hv
      · cases hv
    exact ⟨some ⟨g, 0, none⟩, cap, rfl, ⟨rfl, hl, by omega, g, 0, fun _ => rfl, fun i u hi => ⟨hat _ _ (rowA_at hi).1, by rw [Nat.add_assoc]; exact hat _ _ (rowA_at hi).2⟩⟩, (fun e => by cases e), fun ad e => by injection e with e; exact ⟨g, e.symm⟩⟩
theorem OwnR.same {w w' : World} {N : Nat} {v : Value} {us : List La.Ask} (h : OwnR w N v us) (hk : ∀ g, v.ownBlock = some g → w'.heap[g]? = w.heap[g]?) : OwnR w' N v us := by
  obtain ⟨h1, h2⟩ := h
  refine ⟨h1, ?_⟩
  rcases h2 with h | ⟨g, cap, cur, rfl, hb, hg, r⟩
  · exact .inl h
  · exact .inr ⟨g, cap, cur, rfl, hb, (hk g rfl).trans hg, r⟩
theorem OwnR.below {w w' : World} {N : Nat} {v : Value} {us : List La.Ask} (h : OwnR w N v us) (hb : Below w.heap.size w w') : OwnR w' N v us := h.same fun g hg => hb.block g (World.ownsRow.lt h g hg).2
theorem OwnR.blk {w : World} {N g : Nat} {v : Value} {us : List La.Ask} (h : OwnR w N v us) (hg : v.ownBlock = some g) : N ≤ g ∧ ∃ c f, w.heap[g]? = some (.cells c 58 f) := by
  obtain ⟨h1, h2⟩ := h
  rcases h2 with ⟨rfl, _⟩ | ⟨g', cap, cur, rfl, hb, hh, r⟩
  · cases hg
  · have e : some g' = some g := hg
    injection e with e
    subst e
    exact ⟨hb, _, _, hh⟩
theorem OwnR.kp {w w' : World} {N : Nat} {v : Value} {us : List La.Ask} (h : OwnR w N v us) (hk : Kp w w') : OwnR w' N v us := h.same fun g hg => by
  obtain ⟨_, c, f, hc⟩ := h.blk hg
  rw [hk g _ hc (fun c f e => by injection e with _ e _; exact absurd e (by decide)) (fun c f e => by injection e with _ e _; exact absurd e (by decide)), hc]
theorem OwnR.fresh (w : World) : OwnR (w.alloc (.cells #[] 58)) w.heap.size (.slice (some ⟨w.heap.size, 0, none⟩) 0 0) [] := by
  have h := World.ownsRow_lit (e := 58) (size := 2) w #[] 0 (Nat.le_refl w.heap.size) (by simp [maxLen]) rfl
  exact h
/-- append(asks, others...) -/
theorem append_asks (w : World) (ty : TypeId) (v : Value) (N : Nat) (us vs : List La.Ask) (a : Option Addr) (c : Nat) (h : OwnR w N v us) (hN : N ≤ w.heap.size) (hs : IsAs w a vs.length c vs) (hn : a = none → vs = [] ∧ c = 0) (hbig : us.length + vs.length ≤ 1000000) :
    ∃ v' w', (Builtin.append_ #[51, 51] ty #[v, .slice a vs.length c]).run Tryd.prog w = .ok v' w' ∧ OwnR w' N v' (us ++ vs) ∧ w.grownBy w' v.ownBlock := by
  obtain ⟨i0, hi0, hz0, hz1, hz2⟩ := info_parts info_ra
  obtain ⟨-, hmc, hcm, g, off, ha, hcell⟩ := hs
  cases a with
  | none =>
    obtain ⟨rfl, rfl⟩ := hn rfl
    refine ⟨v, w, run_append_owned_none (P := Tryd.prog) (w := w) N 51 ty 58 i0 2 Tryd.underlying51 hi0 v us.length (rowA us) h, by rw [List.append_nil]; exact h, ⟨rfl, rfl, rfl, Nat.le_refl _, fun _ _ _ => rfl⟩⟩
  | some ad =>
    obtain ⟨v', w', hr, h1, h2, h3, h4⟩ := run_append_own_at (P := Tryd.prog) w N 51 ty 58 i0 _ 2 32 Tryd.underlying51 hi0 hz0 hz1 hz2 rfl (by omega) v us.length (rowA us) h ad vs.length c (rowA vs) (rowA_length vs) (fun j u hu => by
        have hjl := (List.getElem?_eq_some_iff.1 hu).1
        rw [rowA_length] at hjl
        have e := ha (by omega)
        injection e with e
        subst e
        rw [Addr.add_mid]
        have hk : j / 2 < vs.length := by omega
        have hv := List.getElem?_eq_getElem hk
        obtain ⟨c0, c1⟩ := hcell (j / 2) _ hv
        obtain ⟨r0, r1⟩ := rowA_at hv
        rcases Nat.mod_two_eq_zero_or_one j with hj | hj
        · have e1 : j = j / 2 * 2 := by omega
          rw [e1] at hu
          rw [r0] at hu
          rw [show off + j = off + j / 2 * 2 by omega, c0]
          exact hu
        · have e1 : j = j / 2 * 2 + 1 := by omega
          rw [e1] at hu
          rw [r1] at hu
          rw [show off + j = off + j / 2 * 2 + 1 by omega, c1]
          exact hu) (fun u hu => by
        have := rowA_one vs u hu
        simpa [Value.oneCell'] using this) (by unfold maxLen; omega) (by omega) hN
    refine ⟨v', w', hr, ?_, h2⟩
    unfold OwnR
    rw [rowA_append, List.length_append]
    exact h1
/-- append(asks, one) -/
theorem append_one (w : World) (ty : TypeId) (v : Value) (N : Nat) (us : List La.Ask) (b : Nat) (x : La.Ask) (T : TypeId) (f : Nat × Nat) (c : Nat) (h : OwnR w N v us) (hN : N ≤ w.heap.size) (hb : w.heap[b]? = some (.cells #[.int .i64 x.1, pv x] T f)) (hc1 : 1 ≤ c) (hc2 : c ≤ 9223372036854775807) (hbig : us.length ≤ 999999) :
    ∃ v' w', (Builtin.append_ #[51, 51] ty #[v, .slice (some ⟨b, 0, none⟩) 1 c]).run Tryd.prog w = .ok v' w' ∧ OwnR w' N v' (us ++ [x]) ∧ w.grownBy w' v.ownBlock := by
  refine append_asks w ty v N us [x] _ c h hN ⟨rfl, hc1, hc2, b, 0, fun _ => rfl, fun i u hi => ?_⟩ (fun e => by cases e) (by show us.length + 1 ≤ 1000000; omega)
  have hi0 : i = 0 := by
    have := (List.getElem?_eq_some_iff.1 hi).1
    simp at this
    exact this
  subst hi0
  simp at hi
  subst hi
  exact ⟨blk_cell (i := 0) hb rfl, blk_cell (i := 1) hb rfl⟩
/-- The reference's asks. -/
structure RkA (w : World) (N : Nat) (v : Value) (us : List La.Ask) (L : List Wh) : Prop where
  own : OwnR w N v us
  len : us.length = L.length
  each : ∀ (i : Nat) (u : La.Ask) (x : Wh), us[i]? = some u → L[i]? = some x → u.1 = x.1 ∧ OwnS w N (pv u) x.2
  few : L.length ≤ 64
  short : ∀ x ∈ L, ∀ p ∈ x.2, p.length ≤ 200
def RkW (w : World) (N : Nat) (v : Value) (L : List Wh) : Prop := ∃ us, RkA w N v us L
theorem RkW.nil (w : World) (N : Nat) : RkW w N (.slice none 0 0) [] := ⟨[], OwnR.nil w N, rfl, fun i u x h => by simp at h, by simp, fun x h => by cases h⟩
theorem RkA.below {w w' : World} {N : Nat} {v : Value} {us : List La.Ask} {L : List Wh} (h : RkA w N v us L) (hb : Below w.heap.size w w') : RkA w' N v us L :=
  ⟨h.own.below hb, h.len, fun i u x h1 h2 => ⟨(h.each i u x h1 h2).1, own_up (h.each i u x h1 h2).2 hb⟩, h.few, h.short⟩
theorem RkA.kp {w w' : World} {N : Nat} {v : Value} {us : List La.Ask} {L : List Wh} (h : RkA w N v us L) (hk : Kp w w') : RkA w' N v us L :=
  ⟨h.own.kp hk, h.len, fun i u x h1 h2 => ⟨(h.each i u x h1 h2).1, (h.each i u x h1 h2).2.same fun g hg => by
    obtain ⟨_, q⟩ := (h.each i u x h1 h2).2
    rcases q with ⟨e, _⟩ | ⟨g', cap, cur, e, hb, hh, r⟩
    · rw [e] at hg; cases hg
    · rw [e] at hg
      have e2 : some g' = some g := hg
      injection e2 with e2
      subst e2
      rw [hk g' _ hh (fun c f e => by injection e with _ e _; exact absurd e (by decide)) (fun c f e => by injection e with _ e _; exact absurd e (by decide)), hh]⟩, h.few, h.short⟩
theorem RkA.place {w : World} {N : Nat} {v : Value} {us : List La.Ask} {L : List Wh} (h : RkA w N v us L) (who : Int) : La.place us who = placeL L who := by
  have e : us.map (·.1) = L.map (·.1) := by
    apply List.ext_getElem (by simp [h.len])
    intro i h1 h2
    simp only [List.length_map] at h1 h2
    simp only [List.getElem_map]
    exact (h.each i us[i] L[i] (List.getElem?_eq_getElem h1) (List.getElem?_eq_getElem h2)).1
  have e2 : us.findIdx? (isWho who) = L.findIdx? (whoIs who) := by
    have h1 : (us.map (·.1)).findIdx? (fun n => n == who) = us.findIdx? (isWho who) := by rw [List.findIdx?_map]; rfl
    have h2 : (L.map (·.1)).findIdx? (fun n => n == who) = L.findIdx? (whoIs who) := by rw [List.findIdx?_map]; rfl
    rw [← h1, ← h2, e]
  unfold La.place placeL
  rw [e2]
  cases L.findIdx? (whoIs who) <;> rfl
theorem RkA.txs {w : World} {N : Nat} {v : Value} {us : List La.Ask} {L : List Wh} (h : RkA w N v us L) : Txs w us (L.map (·.2)) := by
  refine ⟨by rw [List.length_map, h.len], fun i u t h1 h2 => ?_⟩
  obtain ⟨x, hx, rfl⟩ : ∃ x, L[i]? = some x ∧ x.2 = t := by simpa using h2
  obtain ⟨-, hO⟩ := h.each i u x h1 hx
  obtain ⟨a, cap, e, hl, hm, -, -⟩ := hO.form
  unfold pv at hO e
  injection e with e1 e2 e3
  unfold maxLen at hm
  refine ⟨hO.src, by omega, by omega, by omega⟩
theorem RkA.fw {w : World} {N : Nat} {v : Value} {us : List La.Ask} {L : List Wh} (h : RkA w N v us L) : Few (L.map (·.2)) := fun t ht p hp => by
  obtain ⟨x, hx, rfl⟩ := List.mem_map.1 ht
  exact h.short x hx p hp
/-- Find. -/
theorem rfind_l {w : World} {N : Nat} {v : Value} {L : List Wh} (h : RkW w N v L) (who : Int) : Calls Tryd.prog 41 #[v, .int .i64 who] w fun e w' => e = .returned (.int .i64 (placeL L who)) ∧ w' = w := by
  obtain ⟨us, h⟩ := h
  obtain ⟨a, c, rfl, hI, -⟩ := h.own.is
  have := rfind_c a us.length c us who w hI
  rw [h.place] at this
  exact this
/-- Has. -/
theorem rhas_l {w : World} {N : Nat} {v : Value} {L : List Wh} (h : RkW w N v L) {i : Nat} (hi : i < L.length) : Calls Tryd.prog 23 #[v, .int .i64 (i : Int)] w fun e w' => e = .returned (.bool (freeL L i)) ∧ Below w.heap.size w w' := by
  obtain ⟨us, h⟩ := h
  obtain ⟨a, c, rfl, hI, -⟩ := h.own.is
  have hx := List.getElem?_eq_getElem hi
  have := rhas_c a us.length c i us (L.map (·.2)) L[i].2 w hI h.txs (by rw [List.getElem?_map, hx]; rfl) h.fw
  rw [← freeL_at hx] at this
  exact this
end Go.Proofs.YtlhjkacdhfchiaaDoor.Nb
