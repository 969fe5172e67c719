/- LockAlone: who has theirs, in what order, with the map of what was asked for. -/
import Derived.Test.YtlhjkacdhfchiaaDoorLt
import Derived.Test.YtlhjkacdhfchiaaDoorPy
import Derived.Test.YtlhjkacdhfchiaaDoorKm
namespace Go.Proofs.YtlhjkacdhfchiaaDoor.Lu
set_option linter.unusedVariables false
set_option linter.unusedSimpArgs false
set_option maxRecDepth 100000
open Go.RowKit Go.WideShapes Go.ChangeShapes Go.ChangeAt
open Go.Maps (Keyed int_keyed keyOf_int_mk)
open Go.Proofs.YtlhjkacdhfchiaaDoor.Wu Go.Proofs.YtlhjkacdhfchiaaDoor.Ps Go.Proofs.YtlhjkacdhfchiaaDoor.Pd Go.Proofs.YtlhjkacdhfchiaaDoor.Px Go.Proofs.YtlhjkacdhfchiaaDoor.Lb Go.Proofs.YtlhjkacdhfchiaaDoor.Lg Go.Proofs.YtlhjkacdhfchiaaDoor.Lh Go.Proofs.YtlhjkacdhfchiaaDoor.Li Go.Proofs.YtlhjkacdhfchiaaDoor.Lk Go.Proofs.YtlhjkacdhfchiaaDoor.Lm Go.Proofs.YtlhjkacdhfchiaaDoor.Lr Go.Proofs.YtlhjkacdhfchiaaDoor.Lt Go.Proofs.YtlhjkacdhfchiaaDoor.Km
theorem askF_inl {L L' : List Wh} {who : Int} {l : List (List UInt8)} {b : Bool} (h : askF L who l = .inl (L', b)) : L.findIdx? (whoIs who) = none ∧ ∃ S, setF [] 0 l = .inl S ∧ L' = L ++ [(who, S)] := by
  unfold askF at h
  split at h
  · cases h
  rename_i h1
  split at h
  · cases h
  split at h
  · cases h
  have hf : L.findIdx? (whoIs who) = none := by
    cases hx : L.findIdx? (whoIs who) with
    | none => rfl
    | some i => rw [hx] at h1; simp at h1
  cases hS : setF [] 0 l with
  | inl S =>
    rw [hS] at h
    injection h with h
    injection h with h _
    exact ⟨hf, S, rfl, h.symm⟩
  | inr t =>
    obtain ⟨i, c, bb⟩ := t
    rw [hS] at h
    cases bb <;> cases h
theorem set_mem {l S : List (List UInt8)} (h : setF [] 0 l = .inl S) (p : List UInt8) : p ∈ l ↔ p ∈ S := by
  have := (Py.setF_inl (S := []) (by exact List.Pairwise.nil) h).2
  rw [List.nil_append] at this
  exact this.mem_iff.symm
theorem way_iff {P Q : List (List UInt8)} : way P Q = true ↔ ∃ p ∈ P, ∃ q ∈ Q, hits p q = true := by
  unfold way hit
  rw [List.any_eq_true]
  constructor
  · rintro ⟨p, hp, h⟩
    obtain ⟨q, hq, h⟩ := List.any_eq_true.1 h
    exact ⟨p, hp, q, hq, h⟩
  · rintro ⟨p, hp, q, hq, h⟩
    exact ⟨p, hp, List.any_eq_true.2 ⟨q, hq, h⟩⟩
theorem way_mem {P Q P' Q' : List (List UInt8)} (hP : ∀ p, p ∈ P ↔ p ∈ P') (hQ : ∀ q, q ∈ Q ↔ q ∈ Q') : way P Q = way P' Q' := by
  rw [Bool.eq_iff_iff, way_iff, way_iff]
  constructor
  · rintro ⟨p, hp, q, hq, h⟩
    exact ⟨p, (hP p).1 hp, q, (hQ q).1 hq, h⟩
  · rintro ⟨p, hp, q, hq, h⟩
    exact ⟨p, (hP p).2 hp, q, (hQ q).2 hq, h⟩
abbrev Once (L : List Wh) : Prop := L.Pairwise (fun a b => a.1 ≠ b.1)
theorem find_at {L : List Wh} (ho : Once L) {i : Nat} {x : Wh} (hx : L[i]? = some x) : L.findIdx? (whoIs x.1) = some i := by
  rw [List.findIdx?_eq_some_iff_getElem]
  obtain ⟨hi, he⟩ := List.getElem?_eq_some_iff.1 hx
  refine ⟨hi, by rw [he]; simp [whoIs], fun j hj => ?_⟩
  have := List.pairwise_iff_getElem.1 ho j i (by omega) hi hj
  rw [he] at this
  simpa [whoIs] using this
theorem has_at {L : List Wh} (ho : Once L) {i : Nat} {x : Wh} (hx : L[i]? = some x) : hasL L x.1 = freeL L i := by
  unfold hasL
  rw [find_at ho hx]
theorem free_zero {L : List Wh} {x : Wh} (hx : L[0]? = some x) : freeL L 0 = true := by
  unfold freeL
  rw [hx]
  simp
theorem free_way {L : List Wh} {i j : Nat} {x y : Wh} (h : freeL L i = true) (hx : L[i]? = some x) (hy : L[j]? = some y) (hj : j < i) : way x.2 y.2 = false := by
  unfold freeL at h
  rw [hx] at h
  simp only [Bool.not_eq_true'] at h
  have := List.any_eq_false.1 h y (List.mem_of_getElem? (by rw [List.getElem?_take_of_lt hj]; exact hy))
  simpa using this
theorem miss_at {L : List Wh} {who : Int} (h : L.findIdx? (whoIs who) = none) : ∀ x ∈ L, x.1 ≠ who := fun x hx e => by
  have := List.findIdx?_eq_none_iff.1 h x hx
  simp [whoIs, e] at this
/-- An ask, with what was given for it. -/
structure En where
  x : Wh
  a : Option Addr
  m : Nat
  c : Nat
  T : List (List UInt8)
def enV (g : En) : Value × Value := (.int .i64 g.x.1, .slice g.a g.m g.c)
structure OkE (w : World) (g : En) : Prop where
  src : SrcS w g.a g.T
  len : g.T.length = g.m
  cap : g.m ≤ g.c
  max : g.c ≤ 9223372036854775807
  mem : ∀ p, p ∈ g.T ↔ p ∈ g.x.2
  wf : (Lit.int .i64 g.x.1).wf = true
def Ls (G : List En) : List Wh := G.map (·.x)
def Ws (G : List En) : List Int := G.map (·.x.1)
/-- What LockAlone has before each of what is done. -/
structure AS (w w1 : World) (N Mb B : Nat) (G : List En) (v : Value) (wr : World) : Prop where
  lw : Lw w1 N N (Ls G) wr
  mp : MapL Tryd.prog 3 wr Mb (G.map enV)
  ord : OwnN wr B v (Ws G)
  txt : ∀ g ∈ G, OkE w g
  mlow : w1.heap.size ≤ Mb
  blow : w1.heap.size ≤ B
theorem AS.once {w w1 wr : World} {N Mb B : Nat} {G : List En} {v : Value} (h : AS w w1 N Mb B G v wr) : Once (Ls G) := by
  have := List.pairwise_map.1 h.mp.once
  exact List.pairwise_map.2 (this.imp fun {a b} hne e => hne (by unfold enV; rw [e]))
theorem AS.up {w w1 wr wq : World} {N Mb B : Nat} {G : List En} {v : Value} (h : AS w w1 N Mb B G v wr) (hb : Below wr.heap.size wr wq) : AS w w1 N Mb B G v wq :=
  ⟨h.lw.up hb, h.mp.same (hb.block Mb h.mp.lt), h.ord.below hb, h.txt, h.mlow, h.blow⟩
/-- Other blocks than the Locks' own turn. -/
theorem Lw.keep {w1 w w' : World} {N P : Nat} {L : List Wh} {row : Option Nat} (h : Lw w1 N P L w) (hg : w.grownBy w' row) (hr : ∀ (k : Nat) (c : Array Value) (T : TypeId) (f : Nat × Nat), w.heap[k]? = some (Obj.cells c T f) → T ≠ 3 → some k ≠ row) (hlow : ∀ k, row = some k → w1.heap.size ≤ k) : Lw w1 N P L w' := by
  obtain ⟨⟨v, us, hA⟩, h2, h3, h4⟩ := h
  exact ⟨⟨v, us, LkA.same hA fun k c T f hc hT => hg.block k (heap_lt hc) (hr k c T f hc hT)⟩, h2.grown hg h2.size (fun k hk => hlow k hk), h3, Nat.le_trans h4 hg.size⟩
theorem map_ne {w : World} {Mb : Nat} {l : List (Value × Value)} (h : MapL Tryd.prog 3 w Mb l) (k : Nat) (c : Array Value) (T : TypeId) (f : Nat × Nat) (hc : w.heap[k]? = some (Obj.cells c T f)) : some k ≠ some Mb := by
  intro e
  injection e with e
  obtain ⟨es, clock, hb, _⟩ := h
  rw [e, hb] at hc
  cases hc
theorem own_ne {w : World} {B : Nat} {v : Value} {zs : List Int} (h : OwnN w B v zs) (k : Nat) (c : Array Value) (T : TypeId) (f : Nat × Nat) (hc : w.heap[k]? = some (Obj.cells c T f)) (hT : T ≠ 3) : some k ≠ v.ownBlock := by
  intro e
  obtain ⟨_, c', f', hc'⟩ := h.blk e.symm
  exact ne_cells hc hc' hT rfl
theorem AS.kp {w w1 wr wq : World} {N Mb B : Nat} {G : List En} {v : Value} (h : AS w w1 N Mb B G v wr) (hk : Kp wr wq) : MapL Tryd.prog 3 wq Mb (G.map enV) ∧ OwnN wq B v (Ws G) := by
  refine ⟨?_, h.ord.same fun g hg => ?_⟩
  · obtain ⟨es, clock, hb, r⟩ := h.mp
    exact ⟨es, clock, hk Mb _ hb (fun c f e => by cases e) (fun c f e => by cases e), r⟩
  · obtain ⟨_, c, f, hc⟩ := h.ord.blk hg
    rw [hk g _ hc (fun c f e => by injection e with _ e _; exact absurd e (by decide)) (fun c f e => by injection e with _ e _; exact absurd e (by decide)), hc]
theorem ask_k {w0 w : World} {N P : Nat} {L : List Wh} (h : Lw w0 N P L w) (who : Int) (a : Option Addr) (m cap : Nat) (l : List (List UInt8)) (hs : SrcS w a l) (hl : l.length = m) (hc : m ≤ cap) (hm : cap ≤ 9223372036854775807) (hp : ∀ p ∈ l, p.length ≤ 9223372036854775807) {L' : List Wh} {b : Bool} (he : askF L who l = .inl (L', b)) :
    Calls Tryd.prog 22 #[.pointer (some ⟨P, 0, none⟩), .int .i64 who, .slice a m cap] w fun e w' => e = .returned (.tuple #[.bool b, .nilIface]) ∧ Lw w0 N P L' w' ∧ Kp w w' := by
  subst hl
  refine (ask_c h.lk who a cap l hs hc hm hp h.size).mono ?_
  intro e w' hr
  rw [he] at hr
  exact ⟨hr.1, h.next hr.2.1 hr.2.2.2, hr.2.2.1⟩
theorem rel_k {w0 w : World} {N P : Nat} {L : List Wh} (h : Lw w0 N P L w) (who : Int) {i : Nat} {x : Wh} (hf : L.findIdx? (whoIs who) = some i) (hx : L[i]? = some x) :
    Calls Tryd.prog 25 #[.pointer (some ⟨P, 0, none⟩), .int .i64 who] w fun e w' => ∃ v, e = .returned (.tuple #[v, .int .i64 0]) ∧ OwnN w' w.heap.size v (nx (L.take i ++ L.drop (i + 1)) x.2 i (L.length - 1 - i)) ∧ Lw w0 N P (L.take i ++ L.drop (i + 1)) w' ∧ Kp w w' := by
  refine (release_c h.lk who h.size).mono ?_
  intro e w' hr
  unfold RelR at hr
  rw [hf] at hr
  obtain ⟨v, y, h1, h2, h3, h4, h5, h6⟩ := hr
  rw [hx] at h1
  injection h1 with h1
  subst h1
  exact ⟨v, h2, h3, h.next h4 h6, h5⟩
theorem rel_no {w0 w : World} {N P : Nat} {L : List Wh} (h : Lw w0 N P L w) (who : Int) (hf : L.findIdx? (whoIs who) = none) :
    Calls Tryd.prog 25 #[.pointer (some ⟨P, 0, none⟩), .int .i64 who] w fun e w' => e = .returned (.tuple #[.slice none 0 0, .int .i64 4]) ∧ Below w.heap.size w w' := by
  refine (release_c h.lk who h.size).mono ?_
  intro e w' hr
  unfold RelR at hr
  rw [hf] at hr
  exact hr
theorem law_int : Keyed Tryd.prog 3 := int_keyed Tryd.underlying3
theorem key_int {x : Int} (h : (Lit.int .i64 x).wf = true) : keyOf Tryd.prog 3 (.int .i64 x) = some (.int .i64 x) := keyOf_int_mk Tryd.underlying3 h
theorem zero_sl (w : World) : (zeroValue 52).run Tryd.prog w = .ok (.slice none 0 0) w := by kernel_rfl
/-- asked[who] of one who is there. -/
theorem AS.look {w w1 wr : World} {N Mb B : Nat} {G : List En} {v : Value} (h : AS w w1 N Mb B G v wr) {g : En} (hg : g ∈ G) : (Instr.lookup 68 (.map (some Mb)) (.int .i64 g.x.1) false).run Tryd.prog wr = .ok (.slice g.a g.m g.c) wr := by
  rcases h.mp.look false law_int Tryd.underlying68 (zero_sl wr) (key_int (h.txt g hg).wf) with ⟨_, hno⟩ | ⟨y, hy, hr⟩
  · exact absurd rfl (hno (enV g) (List.mem_map_of_mem hg))
  · have : y = .slice g.a g.m g.c := h.mp.one hy (List.mem_map_of_mem (f := enV) hg)
    rw [this] at hr
    simpa using hr
end Go.Proofs.YtlhjkacdhfchiaaDoor.Lu
