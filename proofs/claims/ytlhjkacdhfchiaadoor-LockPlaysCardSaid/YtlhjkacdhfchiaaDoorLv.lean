/- LockAlone: lists cut by who releases. -/
import Derived.Test.YtlhjkacdhfchiaaDoorLu
namespace Go.Proofs.YtlhjkacdhfchiaaDoor.Lv
set_option linter.unusedVariables false
set_option linter.unusedSimpArgs false
set_option maxRecDepth 100000
open Go.RowKit Go.WideShapes Go.ChangeShapes Go.ChangeAt
open Go.Proofs.YtlhjkacdhfchiaaDoor.Wu Go.Proofs.YtlhjkacdhfchiaaDoor.Ps Go.Proofs.YtlhjkacdhfchiaaDoor.Pd Go.Proofs.YtlhjkacdhfchiaaDoor.Px Go.Proofs.YtlhjkacdhfchiaaDoor.Lb Go.Proofs.YtlhjkacdhfchiaaDoor.Lg Go.Proofs.YtlhjkacdhfchiaaDoor.Lh Go.Proofs.YtlhjkacdhfchiaaDoor.Li Go.Proofs.YtlhjkacdhfchiaaDoor.Lk Go.Proofs.YtlhjkacdhfchiaaDoor.Lm Go.Proofs.YtlhjkacdhfchiaaDoor.Lr Go.Proofs.YtlhjkacdhfchiaaDoor.Lt Go.Proofs.YtlhjkacdhfchiaaDoor.Km Go.Proofs.YtlhjkacdhfchiaaDoor.Lu
theorem errv_shape {w : World} {v : Value} {c : Int} (h : ErrV w v c) : ∃ T x, v = .iface T x := by
  rcases h with rfl | ⟨i, ⟨J, K, b, y, rfl, _⟩, _⟩ | ⟨i, b, rfl, _⟩
  · exact ⟨_, _, rfl⟩
  · exact ⟨_, _, rfl⟩
  · exact ⟨_, _, rfl⟩
def stay (who : Int) (g : En) : Bool := !(g.x.1 == who)
def rest (G : List En) (who : Int) : List En := G.filter (stay who)
theorem cut_rest {G : List En} {who : Int} {i : Nat} {x : Wh} (ho : Once (Ls G)) (hx : (Ls G)[i]? = some x) (he : x.1 = who) : (Ls G).take i ++ (Ls G).drop (i + 1) = Ls (rest G who) := by
  have e1 : Ls (rest G who) = (Ls G).filter (fun x => !(x.1 == who)) := by
    unfold Ls rest
    rw [List.filter_map]
    rfl
  have hs := Km.split_at (Ls G) i x hx
  rw [e1]
  conv => rhs; rw [hs]
  have ho' := ho
  rw [hs] at ho'
  obtain ⟨k1, k2, k3⟩ := List.pairwise_append.1 ho'
  obtain ⟨k4, k5⟩ := List.pairwise_cons.1 k2
  have f1 : ((Ls G).take i).filter (fun x => !(x.1 == who)) = (Ls G).take i := List.filter_eq_self.2 (fun y hy => by
    have := k3 y hy x List.mem_cons_self
    rw [he] at this
    simpa using this)
  have f2 : ((Ls G).drop (i + 1)).filter (fun x => !(x.1 == who)) = (Ls G).drop (i + 1) := List.filter_eq_self.2 (fun y hy => by
    have := k4 y hy
    rw [he] at this
    simp [Ne.symm this])
  rw [List.filter_append, List.filter_cons_of_neg (by simp [he]), f1, f2]
theorem del_rest {G : List En} {who : Int} {l' : List (Value × Value)} (ho : Once (Ls G)) (h : Del (G.map enV) (.int .i64 who) l') : l' = (rest G who).map enV := by
  have ho1 : (G.map En.x).Pairwise (fun a b => a.1 ≠ b.1) := ho
  have ho2 : G.Pairwise (fun a b => a.x.1 ≠ b.x.1) := (List.pairwise_map (f := En.x) (R := fun a b : Wh => a.1 ≠ b.1)).1 ho1
  rcases h with ⟨h1, rfl⟩ | ⟨l1, v, l2, h1, rfl⟩
  · unfold rest
    rw [List.filter_eq_self.2 (fun g hg => by
      have := h1 (enV g) (List.mem_map_of_mem hg)
      unfold stay
      unfold enV at this
      simpa using this)]
  · obtain ⟨A, B, rfl, rfl, hB⟩ := List.map_eq_append_iff.1 h1
    obtain ⟨u, C, rfl, hu, rfl⟩ := List.map_eq_cons_iff.1 hB
    have e : u.x.1 = who := by
      unfold enV at hu
      injection hu with he _
      injection he with _ he
    obtain ⟨k1, k2, k3⟩ := List.pairwise_append.1 ho2
    obtain ⟨k4, k5⟩ := List.pairwise_cons.1 k2
    have f1 : A.filter (stay who) = A := List.filter_eq_self.2 (fun x hx => by
      have := k3 x hx u List.mem_cons_self
      rw [e] at this
      simpa [stay] using this)
    have f2 : C.filter (stay who) = C := List.filter_eq_self.2 (fun x hx => by
      have := k4 x hx
      rw [e] at this
      simp [stay, Ne.symm this])
    unfold rest
    rw [List.filter_append, List.filter_cons_of_neg (by simp [stay, e]), f1, f2, List.map_append]
theorem put_end {G : List En} {g : En} {l' : List (Value × Value)} (h : Put (G.map enV) (.int .i64 g.x.1) (.slice g.a g.m g.c) l') (hn : ∀ x ∈ Ls G, x.1 ≠ g.x.1) : l' = (G ++ [g]).map enV := by
  rcases h with ⟨_, rfl⟩ | ⟨l1, v, l2, h1, _⟩
  · simp [enV]
  · exfalso
    have hm : (Value.int .i64 g.x.1, v) ∈ G.map enV := by rw [h1]; simp
    obtain ⟨u, hu, he⟩ := List.mem_map.1 hm
    unfold enV at he
    injection he with he _
    injection he with _ he
    exact hn u.x (List.mem_map_of_mem (f := En.x) hu) he
def keepZ (who : Int) (z : Int) : Bool := !(z == who)
theorem ws_rest (G : List En) (who : Int) : (Ws G).filter (keepZ who) = Ws (rest G who) := by
  unfold Ws rest
  rw [List.filter_map]
  rfl
theorem keep_take {zs : List Int} {k : Nat} {z : Int} (hz : zs[k]? = some z) (who : Int) : (zs.take (k + 1)).filter (keepZ who) = (zs.take k).filter (keepZ who) ++ (if keepZ who z then [z] else []) := by
  rw [List.take_add_one, hz, List.filter_append]
  simp [List.filter_cons]
/-- While those who stay are gathered. -/
structure A2 (w w1 : World) (N Mb Bo sz : Nat) (G G' : List En) (v : Value) (o : OpL) (wq : World) : Prop where
  lw : Lw w1 N N (Ls G') wq
  mp : MapL Tryd.prog 3 wq Mb (G'.map enV)
  ord : OwnN wq N v (Ws G)
  op : wq.heap[Bo]? = some (.cells #[.int .i64 o.k, .int .i64 o.who, .slice o.a o.m o.c] 54 (0, 0))
  size : sz ≤ wq.heap.size
theorem A2.up {w w1 wq wp : World} {N Mb Bo sz : Nat} {G G' : List En} {v : Value} {o : OpL} (h : A2 w w1 N Mb Bo sz G G' v o wq) (hb : Below wq.heap.size wq wp) : A2 w w1 N Mb Bo sz G G' v o wp :=
  ⟨h.lw.up hb, h.mp.same (hb.block Mb h.mp.lt), h.ord.below hb, below_blk hb (heap_lt h.op) h.op, Nat.le_trans h.size hb.size⟩
theorem map_own {w : World} {Mb : Nat} {l : List (Value × Value)} {B : Nat} {v : Value} {zs : List Int} (h : MapL Tryd.prog 3 w Mb l) (ho : OwnN w B v zs) : some Mb ≠ v.ownBlock := by
  intro e
  obtain ⟨_, c, f, hc⟩ := ho.blk e.symm
  exact map_ne h Mb c _ f hc rfl
theorem A2.app {w w1 wq wp : World} {N Mb Bo sz B : Nat} {G G' : List En} {v lv : Value} {o : OpL} {zs : List Int} (h : A2 w w1 N Mb Bo sz G G' v o wq) (ho : OwnN wq B lv zs) (hB : w1.heap.size ≤ B) (hsz : sz ≤ B) (hv : ∀ g, v.ownBlock = some g → g < sz) (hg : wq.grownBy wp lv.ownBlock) : A2 w w1 N Mb Bo sz G G' v o wp :=
  ⟨Lw.keep h.lw hg (own_ne ho) (fun k hk => Nat.le_trans hB (ho.blk hk).1), h.mp.same (hg.block Mb h.mp.lt (map_own h.mp ho)), h.ord.same (fun g hgv => hg.block g (World.ownsRow.lt h.ord g hgv).2 (fun e => by
    have := (ho.blk e.symm).1
    have := hv g hgv
    omega)), (hg.block Bo (heap_lt h.op) (own_ne ho Bo _ _ _ h.op (by decide))).trans h.op, Nat.le_trans h.size hg.size⟩
theorem OwnN.less {w : World} {N M : Nat} {v : Value} {zs : List Int} (h : OwnN w N v zs) (hM : M ≤ N) : OwnN w M v zs := by
  obtain ⟨h1, h2⟩ := h
  refine ⟨h1, ?_⟩
  rcases h2 with h2 | ⟨g, cap, cur, e, hb, r⟩
  · exact .inl h2
  · exact .inr ⟨g, cap, cur, e, Nat.le_trans hM hb, r⟩
theorem way_no {w : World} {G : List En} {i j : Nat} {x y : En} (ht : ∀ g ∈ G, OkE w g) (hx : G[i]? = some x) (hy : G[j]? = some y) (hj : j < i) (hf : freeL (Ls G) i = true) : way x.T y.T = false := by
  rw [way_mem (ht x (List.mem_of_getElem? hx)).mem (ht y (List.mem_of_getElem? hy)).mem]
  exact free_way hf (by unfold Ls; rw [List.getElem?_map, hx]; rfl) (by unfold Ls; rw [List.getElem?_map, hy]; rfl) hj
end Go.Proofs.YtlhjkacdhfchiaaDoor.Lv
