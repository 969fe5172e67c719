/- LockEnds: who has theirs, who had it when: rows and maps of the law's own. -/
import Derived.Test.YtlhjkacdhfchiaaDoorLy
namespace Go.Proofs.YtlhjkacdhfchiaaDoor.Lz
set_option linter.unusedVariables false
set_option linter.unusedSimpArgs false
set_option maxRecDepth 100000
open Go.RowKit Go.WideShapes Go.ChangeShapes Go.ChangeAt
open Go.Proofs.YtlhjkacdhfchiaaDoor.Wu Go.Proofs.YtlhjkacdhfchiaaDoor.Ps Go.Proofs.YtlhjkacdhfchiaaDoor.Pd Go.Proofs.YtlhjkacdhfchiaaDoor.Px Go.Proofs.YtlhjkacdhfchiaaDoor.Lb Go.Proofs.YtlhjkacdhfchiaaDoor.Lg Go.Proofs.YtlhjkacdhfchiaaDoor.Lh Go.Proofs.YtlhjkacdhfchiaaDoor.Li Go.Proofs.YtlhjkacdhfchiaaDoor.Lk Go.Proofs.YtlhjkacdhfchiaaDoor.Lm Go.Proofs.YtlhjkacdhfchiaaDoor.Lr Go.Proofs.YtlhjkacdhfchiaaDoor.Lt Go.Proofs.YtlhjkacdhfchiaaDoor.Km Go.Proofs.YtlhjkacdhfchiaaDoor.Lu Go.Proofs.YtlhjkacdhfchiaaDoor.Lv Go.Proofs.YtlhjkacdhfchiaaDoor.Ly
theorem append_atN (w : World) (ty : TypeId) (v : Value) (N : Nat) (L R : List Int) (ad : Addr) (c : Nat) (h : OwnN w N v L) (hN : N ≤ w.heap.size) (hs : ∀ j z, R[j]? = some z → w.cell? (ad.add j) = some (.int .i64 z)) (hbig : L.length + R.length ≤ 1000000) :
    ∃ v' w', (Builtin.append_ #[23, 23] ty #[v, .slice (some ad) R.length c]).run Tryd.prog w = .ok v' w' ∧ OwnN w' N v' (L ++ R) ∧ w.grownBy w' v.ownBlock := by
  obtain ⟨i0, hi0, hz0, hz1, hz2⟩ := info_parts info_int
  obtain ⟨v', w', hr, h1, h2, h3, h4⟩ := run_append_own_at (P := Tryd.prog) w N 23 ty 3 i0 _ 1 8 Tryd.underlying23 hi0 hz0 hz1 hz2 rfl (by omega) v L.length _ h ad R.length c (R.map (Value.int .i64)) (by simp) (fun j u hu => by
      rw [List.getElem?_map] at hu
      cases hz : R[j]? with
      | none => rw [hz] at hu; cases hu
      | some z => rw [hz] at hu; injection hu with hu; rw [← hu]; exact hs j z hz) (fun u hu => by obtain ⟨z, _, rfl⟩ := List.mem_map.1 hu; rfl) (by unfold maxLen; omega) (by omega) hN
  refine ⟨v', w', hr, ?_, h2⟩
  unfold OwnN
  rw [List.length_append, List.map_append]
  exact h1
theorem kUpon_appN {a : Act} {o : Oper} {u u' : World} {K : Value → World → Prop} {v' : Value} (s x : Operand) (ho : o.op = .call { callee := .builtin .append, args := #[s, x], argTypes := #[23, 23] })
    (hrun : (Builtin.append_ #[23, 23] o.type #[a.eval s, a.eval x]).run Tryd.prog u = .ok v' u') (h : K v' u') : Rk.kUpon Tryd.prog K ((execOp a.eval o).run Tryd.prog u) := by
  have e : (execOp a.eval o).run Tryd.prog u = .ok (.value v') u' := by
    simp [execOp, ho, resolve, invoke, builtin, hrun, Result.andThen]
  rw [e]
  exact h
theorem ownN_below {w w' : World} {N : Nat} {v : Value} {L : List Int} (h : OwnN w N v L) (hg : w.grownBy w' v.ownBlock) (hN : N ≤ w.heap.size) : Below N w w' :=
  ⟨hg.os, hg.tape, hg.output, hg.size, fun k hk => hg.block k (by omega) (fun e => absurd (h.blk e.symm).1 (by omega))⟩
/-- The memory while one is taken out. -/
structure T40 (w : World) (F G : List Int) (h : List Value) (u : World) : Prop where
  below : Below w.heap.size w u
  one : h.length = 1 → ∀ v, h[0]? = some v → OwnN u w.heap.size v []
  two : h.length = 2 → ∀ v, h[1]? = some v → OwnN u w.heap.size v F
  three : h.length = 3 → ∀ v, h[2]? = some v → OwnN u w.heap.size v G
/-- had's entries: who, and when. -/
def hadE (H : List Int) : List (Value × Value) := H.zipIdx.map fun p => (.int .i64 p.1, .int .i64 ((p.2 : Int) + 1))
theorem hadE_snoc (H : List Int) (w : Int) : hadE (H ++ [w]) = hadE H ++ [(.int .i64 w, .int .i64 ((H.length : Int) + 1))] := by
  simp [hadE, List.zipIdx_append]
theorem hadE_len (H : List Int) : (hadE H).length = H.length := by simp [hadE]
theorem hadE_mem {H : List Int} {w : Int} {p : Nat} (h : H[p]? = some w) : (Value.int .i64 w, Value.int .i64 ((p : Int) + 1)) ∈ hadE H := by
  unfold hadE
  refine List.mem_map.2 ⟨(w, p), ?_, rfl⟩
  rw [List.mem_zipIdx_iff_getElem?]
  exact h
theorem hadE_key {H : List Int} {q : Value × Value} (h : q ∈ hadE H) : ∃ w ∈ H, q.1 = .int .i64 w := by
  obtain ⟨⟨w, p⟩, hm, rfl⟩ := List.mem_map.1 h
  rw [List.mem_zipIdx_iff_getElem?] at hm
  exact ⟨w, List.mem_of_getElem? hm, rfl⟩
theorem hadE_put {H : List Int} {w : Int} {l' : List (Value × Value)} (h : Put (hadE H) (.int .i64 w) (.int .i64 ((H.length : Int) + 1)) l') (hn : w ∉ H) : l' = hadE (H ++ [w]) := by
  rcases h with ⟨_, rfl⟩ | ⟨l1, v, l2, h1, _⟩
  · rw [hadE_snoc]
  · exfalso
    obtain ⟨x, hx, he⟩ := hadE_key (H := H) (q := (.int .i64 w, v)) (by rw [h1]; simp)
    injection he with _ he
    exact hn (he ▸ hx)
/-- While they are served: the Locks with L, the law's maps and rows. -/
structure E0 (w1 : World) (N Mb sz : Nat) (G : List En) (v : Value) (L : List Wh) (hv : Value) (has : List Int) (wr : World) : Prop where
  lw : Lw w1 N N L wr
  mp : MapL Tryd.prog 3 wr Mb (G.map enV)
  ord : OwnN wr N v (Ws G)
  hs : OwnN wr sz hv has
  hvb : ∀ g, v.ownBlock = some g → g < sz
  szle : sz ≤ wr.heap.size
  mlow : w1.heap.size ≤ Mb
  slow : w1.heap.size ≤ sz
  nlow : w1.heap.size ≤ N
theorem E0.up {w1 wr wq : World} {N Mb sz : Nat} {G : List En} {v hv : Value} {L : List Wh} {has : List Int} (h : E0 w1 N Mb sz G v L hv has wr) (hb : Below wr.heap.size wr wq) : E0 w1 N Mb sz G v L hv has wq :=
  ⟨h.lw.up hb, h.mp.same (hb.block Mb h.mp.lt), h.ord.below hb, h.hs.below hb, h.hvb, Nat.le_trans h.szle hb.size, h.mlow, h.slow, h.nlow⟩
theorem E0.app {w1 wr wq : World} {N Mb sz : Nat} {G : List En} {v hv hv' : Value} {L : List Wh} {has has' : List Int} (h : E0 w1 N Mb sz G v L hv has wr) (ho : OwnN wq sz hv' has') (hg : wr.grownBy wq hv.ownBlock) : E0 w1 N Mb sz G v L hv' has' wq :=
  ⟨Lw.keep h.lw hg (own_ne h.hs) (fun k hk => Nat.le_trans h.slow (h.hs.blk hk).1), h.mp.same (hg.block Mb h.mp.lt (map_own h.mp h.hs)), h.ord.same (fun g hgv => hg.block g (World.ownsRow.lt h.ord g hgv).2 (fun e => by
    have := (h.hs.blk e.symm).1
    have := h.hvb g hgv
    omega)), ho, h.hvb, Nat.le_trans h.szle hg.size, h.mlow, h.slow, h.nlow⟩
/-- A store in another map. -/
theorem E0.put {w1 wr wq : World} {N Mb sz Hb : Nat} {G : List En} {v hv : Value} {L : List Wh} {has : List Int} {l : List (Value × Value)} (h : E0 w1 N Mb sz G v L hv has wr) (hm : MapL Tryd.prog 3 wr Hb l) (hne : Mb ≠ Hb) (hlow : w1.heap.size ≤ Hb) (hg : wr.grownBy wq (some Hb)) : E0 w1 N Mb sz G v L hv has wq :=
  ⟨Lw.keep h.lw hg (fun k c T f hc _ => map_ne hm k c T f hc) (fun k hk => by injection hk with hk; rw [← hk]; exact hlow), h.mp.same (hg.block Mb h.mp.lt (fun e => hne (by injection e))), h.ord.same (fun g hgv => by
    obtain ⟨_, c, f, hc⟩ := h.ord.blk hgv
    exact hg.block g (heap_lt hc) (map_ne hm g c _ f hc)), h.hs.same (fun g hgv => by
    obtain ⟨_, c, f, hc⟩ := h.hs.blk hgv
    exact hg.block g (heap_lt hc) (map_ne hm g c _ f hc)), h.hvb, Nat.le_trans h.szle hg.size, h.mlow, h.slow, h.nlow⟩
theorem kp_own {w w' : World} {B : Nat} {v : Value} {zs : List Int} (h : OwnN w B v zs) (hk : Kp w w') : OwnN w' B v zs := h.same fun g hg => by
  obtain ⟨_, c, f, hc⟩ := h.blk hg
  rw [hk g _ hc (fun c f e => by injection e with _ e _; exact absurd e (by decide)) (fun c f e => by injection e with _ e _; exact absurd e (by decide)), hc]
theorem kp_map {w w' : World} {b : Nat} {l : List (Value × Value)} (h : MapL Tryd.prog 3 w b l) (hk : Kp w w') : MapL Tryd.prog 3 w' b l := by
  obtain ⟨es, clock, hb, r⟩ := h
  exact ⟨es, clock, hk b _ hb (fun c f e => by cases e) (fun c f e => by cases e), r⟩
theorem E0.kp {w1 wr wq : World} {N Mb sz : Nat} {G : List En} {v hv : Value} {L L' : List Wh} {has : List Int} (h : E0 w1 N Mb sz G v L hv has wr) (hl : Lw w1 N N L' wq) (hk : Kp wr wq) (hsz : wr.heap.size ≤ wq.heap.size) : E0 w1 N Mb sz G v L' hv has wq :=
  ⟨hl, kp_map h.mp hk, kp_own h.ord hk, kp_own h.hs hk, h.hvb, Nat.le_trans h.szle hsz, h.mlow, h.slow, h.nlow⟩
/-- has anew, in a row behind all that there is. -/
theorem E0.fresh {w1 wr wq : World} {N Mb sz : Nat} {G : List En} {v hv hv' : Value} {L : List Wh} {has has' : List Int} (h : E0 w1 N Mb sz G v L hv has wr) (hb : Below wr.heap.size wr wq) (ho : OwnN wq wr.heap.size hv' has') : E0 w1 N Mb wr.heap.size G v L hv' has' wq :=
  ⟨h.lw.up hb, h.mp.same (hb.block Mb h.mp.lt), h.ord.below hb, ho, fun g hg => (World.ownsRow.lt h.ord g hg).2, hb.size, h.mlow, Nat.le_trans h.slow h.szle, h.nlow⟩
theorem E0.look {w w1 wr : World} {N Mb sz : Nat} {G : List En} {v hv : Value} {L : List Wh} {has : List Int} (h : E0 w1 N Mb sz G v L hv has wr) (ht : ∀ g ∈ G, OkE w g) {g : En} (hg : g ∈ G) : (Instr.lookup 68 (.map (some Mb)) (.int .i64 g.x.1) false).run Tryd.prog wr = .ok (.slice g.a g.m g.c) wr := by
  rcases h.mp.look false law_int Tryd.underlying68 (zero_sl wr) (key_int (ht g hg).wf) with ⟨_, hno⟩ | ⟨y, hy, hr⟩
  · exact absurd rfl (hno (enV g) (List.mem_map_of_mem hg))
  · have : y = .slice g.a g.m g.c := h.mp.one hy (List.mem_map_of_mem (f := enV) hg)
    rw [this] at hr
    simpa using hr
theorem zero_int (w : World) : (zeroValue 3).run Tryd.prog w = .ok (.int .i64 0) w := by kernel_rfl
theorem had_look {wr : World} {Hb : Nat} {H : List Int} (h : MapL Tryd.prog 3 wr Hb (hadE H)) {w : Int} (hw : (Lit.int .i64 w).wf = true) {p : Nat} (hp : H[p]? = some w) : (Instr.lookup 71 (.map (some Hb)) (.int .i64 w) false).run Tryd.prog wr = .ok (.int .i64 ((p : Int) + 1)) wr := by
  rcases h.look false law_int Tryd.underlying71 (zero_int wr) (key_int hw) with ⟨_, hno⟩ | ⟨y, hy, hr⟩
  · exact absurd rfl (hno _ (hadE_mem hp))
  · have : y = .int .i64 ((p : Int) + 1) := h.one hy (hadE_mem hp)
    rw [this] at hr
    simpa using hr
theorem free_filter {G : List En} (ho : Once (Ls G)) (w : Int) : w ∈ (Ws G).filter (hasL (Ls G)) ↔ Lx.Free (Ls G) w := by
  rw [List.mem_filter]
  constructor
  · rintro ⟨_, h⟩
    unfold hasL at h
    cases hf : (Ls G).findIdx? (whoIs w) with
    | none => rw [hf] at h; cases h
    | some i =>
      rw [hf] at h
      obtain ⟨hi, he, -⟩ := List.findIdx?_eq_some_iff_getElem.1 hf
      exact ⟨i, (Ls G)[i], List.getElem?_eq_getElem hi, by simpa [whoIs] using he, h⟩
  · rintro ⟨i, x, hx, he, hf⟩
    refine ⟨?_, ?_⟩
    · have : x ∈ Ls G := List.mem_of_getElem? hx
      unfold Ls at this
      obtain ⟨g, hg, e⟩ := List.mem_map.1 this
      unfold Ws
      exact List.mem_map.2 ⟨g, hg, by rw [e, he]⟩
    · rw [← he, has_at ho hx]
      exact hf
theorem rel_s {w0 w : World} {N P : Nat} {L : List Wh} (h : Lr.Lw w0 N P L w) (who : Int) {i : Nat} {x : Wh} (hf : L.findIdx? (whoIs who) = some i) (hx : L[i]? = some x) :
    Calls Tryd.prog 25 #[.pointer (some ⟨P, 0, none⟩), .int .i64 who] w fun e w' => ∃ v, e = .returned (.tuple #[v, .int .i64 0]) ∧ OwnN w' w.heap.size v (nx (Lx.cut L i) x.2 i (L.length - 1 - i)) ∧ Lr.Lw w0 N P (Lx.cut L i) w' ∧ Kp w w' ∧ w.heap.size ≤ w'.heap.size := by
  refine (release_c h.lk who h.size).mono ?_
  intro e w' hr
  unfold RelR at hr
  rw [hf] at hr
  obtain ⟨v, y, h1, h2, h3, h4, h5, h6⟩ := hr
  rw [hx] at h1
  injection h1 with h1
  subst h1
  exact ⟨v, h2, h3, h.next h4 h6, h5, h6.size⟩
end Go.Proofs.YtlhjkacdhfchiaaDoor.Lz
