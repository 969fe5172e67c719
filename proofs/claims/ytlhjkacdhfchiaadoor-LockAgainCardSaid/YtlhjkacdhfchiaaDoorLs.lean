/- LockAgain, plainly: one has a path, others wait for it. -/
import Derived.Test.YtlhjkacdhfchiaaDoorLr
namespace Go.Proofs.YtlhjkacdhfchiaaDoor.Ls
set_option linter.unusedVariables false
set_option linter.unusedSimpArgs false
set_option maxRecDepth 100000
open Go.Proofs.YtlhjkacdhfchiaaDoor.Px Go.Proofs.YtlhjkacdhfchiaaDoor.Lb Go.Proofs.YtlhjkacdhfchiaaDoor.Lg Go.Proofs.YtlhjkacdhfchiaaDoor.Lh Go.Proofs.YtlhjkacdhfchiaaDoor.Li Go.Proofs.YtlhjkacdhfchiaaDoor.Lk Go.Proofs.YtlhjkacdhfchiaaDoor.Lo Go.Proofs.YtlhjkacdhfchiaaDoor.Lq
def X : List UInt8 := [120]
def Y : List UInt8 := [121]
theorem wXX : way [X] [X] = true := by kernel_rfl
theorem wXY : way [X] [Y] = false := by kernel_rfl
theorem wYX : way [Y] [X] = false := by kernel_rfl
def ask (w : Int) : Wh := (w, [X])
def st1 (ws : List Int) : List Wh := (-1, [X]) :: (-2, [Y]) :: ws.map ask
def st2 (ws : List Int) : List Wh := (-2, [Y]) :: (ws.map ask ++ [(-1, [X])])
theorem whoIs_ask (w : Int) : (fun x : Int => whoIs w (ask x)) = fun x => x == w := rfl
theorem find_asks (ws : List Int) (w : Int) : (ws.map ask).findIdx? (whoIs w) = ws.findIdx? (fun x => x == w) := by rw [List.findIdx?_map]; rfl
theorem find_st1 (ws : List Int) (w : Int) (h : 0 ≤ w) : (st1 ws).findIdx? (whoIs w) = (ws.findIdx? (fun x => x == w)).map (· + 2) := by
  unfold st1
  rw [List.findIdx?_cons, show whoIs w (-1, [X]) = false by simp [whoIs]; omega, List.findIdx?_cons, show whoIs w (-2, [Y]) = false by simp [whoIs]; omega, find_asks]
  cases ws.findIdx? (fun x => x == w) <;> simp
theorem free_st1 (ws : List Int) (i : Nat) : freeL (st1 ws) (i + 2) = false := by
  unfold freeL
  cases h : (st1 ws)[i + 2]? with
  | none => rfl
  | some x =>
    have hx : x.2 = [X] := by
      unfold st1 at h
      simp only [List.getElem?_cons_succ, List.getElem?_map] at h
      cases hw : ws[i]? with
      | none => rw [hw] at h; cases h
      | some w => rw [hw] at h; injection h with h; rw [← h]; rfl
    simp only
    rw [hx]
    unfold st1
    rw [show i + 2 = (i + 1) + 1 from rfl, List.take_succ_cons, List.any_cons]
    simp [wXX]
theorem has_st1 (ws : List Int) (w : Int) (h : 0 ≤ w) : hasL (st1 ws) w = false := by
  unfold hasL
  rw [find_st1 ws w h]
  cases ws.findIdx? (fun x => x == w) with
  | none => rfl
  | some i => exact free_st1 ws i
theorem wait_st1 (ws : List Int) (w : Int) (h : 0 ≤ w) : waitL (st1 ws) w = decide (w ∈ ws) := by
  unfold waitL
  rw [find_st1 ws w h]
  cases hf : ws.findIdx? (fun x => x == w) with
  | none =>
    have := List.findIdx?_eq_none_iff.1 hf
    have hn : w ∉ ws := fun hm => by have := this w hm; simp at this
    simp [hn]
  | some i =>
    obtain ⟨hi, he, -⟩ := List.findIdx?_eq_some_iff_getElem.1 hf
    have hm : w ∈ ws := by
      have : ws[i] = w := by simpa using he
      rw [← this]
      exact List.getElem_mem hi
    show (!freeL (st1 ws) (i + 2)) = _
    rw [free_st1]
    simp [hm]
theorem st1_len (ws : List Int) : (st1 ws).length = ws.length + 2 := by simp [st1]
theorem st2_len (ws : List Int) : (st2 ws).length = ws.length + 2 := by simp [st2]
theorem st1_snoc (ws : List Int) (w : Int) : st1 ws ++ [(w, [X])] = st1 (ws ++ [w]) := by simp [st1, ask]
theorem ask_st1 (ws : List Int) (w : Int) (h : 0 ≤ w) (hn : w ∉ ws) (hl : ws.length ≤ 20) : askF (st1 ws) w [X] = .inl (st1 (ws ++ [w]), false) := by
  have hf : ws.findIdx? (fun x => x == w) = none := by
    rw [List.findIdx?_eq_none_iff]
    intro x hx
    have : x ≠ w := fun e => hn (e ▸ hx)
    simpa using this
  unfold askF
  rw [find_st1 ws w h, hf, if_neg (by simp), if_neg (by rw [st1_len]; omega), if_neg (by simp), show setF [] 0 [X] = .inl [X] from s_x]
  simp only
  rw [st1_snoc, st1_len, free_st1]
theorem find_m1 (ws : List Int) : (st1 ws).findIdx? (whoIs (-1)) = some 0 := by
  unfold st1
  rw [List.findIdx?_cons, show whoIs (-1) (-1, [X]) = true by simp [whoIs]]
  rfl
theorem nx_zero (ws : List Int) : nx ((-2, [Y]) :: ws.map ask) [X] 0 1 = [] := by
  simp [nx, wYX]
theorem free_next (w0 : Int) (t : List Int) : freeL ((-2, [Y]) :: (w0 :: t).map ask) 1 = true := by
  unfold freeL
  simp [ask, wXY]
theorem free_later (w0 : Int) (t : List Int) (B : List Wh) (i : Nat) (h : ∀ x, (((-2, [Y]) :: ((w0 :: t).map ask ++ B)) : List Wh)[i + 2]? = some x → x.2 = [X]) : freeL ((-2, [Y]) :: ((w0 :: t).map ask ++ B)) (i + 2) = false := by
  unfold freeL
  cases hx : (((-2, [Y]) :: ((w0 :: t).map ask ++ B)) : List Wh)[i + 2]? with
  | none => rfl
  | some x =>
    simp only
    rw [h x hx]
    simp [ask, wXX]
theorem nx_some (w0 : Int) (t : List Int) : ∀ k, nx ((-2, [Y]) :: (w0 :: t).map ask) [X] 0 (k + 2) = [w0]
  | 0 => by
    rw [nx, nx_zero]
    have := free_next w0 t
    rw [List.map_cons] at this ⊢
    unfold ask at this ⊢
    simp [this, wXX]
  | k + 1 => by
    rw [nx, nx_some w0 t k]
    have h1 : ∀ x, (((-2, [Y]) :: (w0 :: t).map ask) : List Wh)[k + 2]? = some x → x.2 = [X] := fun x hx => by
      rw [List.map_cons, List.getElem?_cons_succ, List.getElem?_cons_succ, List.getElem?_map] at hx
      cases hw : t[k]? with
      | none => rw [hw] at hx; cases hx
      | some w => rw [hw] at hx; injection hx with hx; rw [← hx]; rfl
    have h2 := free_later w0 t [] k (by rw [List.append_nil]; exact h1)
    rw [List.append_nil] at h2
    rw [show 0 + (k + 2) = k + 2 by omega]
    cases hx : (((-2, [Y]) :: (w0 :: t).map ask) : List Wh)[k + 2]? with
    | none => simp
    | some x => rw [List.map_cons] at h2; simp [h2]
/-- Who has it by the release. -/
theorem nx_len1 (ws : List Int) : (nx ((-2, [Y]) :: ws.map ask) [X] 0 (ws.length + 1)).length = if ws.length = 0 then 0 else 1 := by
  cases ws with
  | nil => rw [List.length_nil, nx_zero]; rfl
  | cons w0 t => rw [List.length_cons, nx_some w0 t t.length]; rfl
theorem ask_again (ws : List Int) (hp : ∀ w ∈ ws, 0 ≤ w) (hl : ws.length ≤ 20) : askF ((-2, [Y]) :: ws.map ask) (-1) [X] = .inl (st2 ws, decide (ws.length = 0)) := by
  have hf : (((-2, [Y]) :: ws.map ask) : List Wh).findIdx? (whoIs (-1)) = none := by
    rw [List.findIdx?_eq_none_iff]
    intro x hx
    rcases List.mem_cons.1 hx with rfl | hx
    · simp [whoIs]
    · obtain ⟨w, hw, rfl⟩ := List.mem_map.1 hx
      have := hp w hw
      simp [whoIs, ask]
      omega
  unfold askF
  rw [hf, if_neg (by simp), if_neg (by simp; omega), if_neg (by simp), show setF [] 0 [X] = .inl [X] from s_x]
  simp only
  congr 2
  unfold freeL
  have h1 : (((-2, [Y]) :: ws.map ask ++ [(-1, [X])]) : List Wh)[(((-2, [Y]) :: ws.map ask) : List Wh).length]? = some (-1, [X]) := by
    rw [List.getElem?_append_right (Nat.le_refl _)]
    simp
  rw [h1]
  simp only
  rw [List.take_left' rfl, List.any_cons]
  cases ws with
  | nil => simp [wXY]
  | cons w0 t => simp [wXX, ask]
theorem has_m2 (B : List Wh) : hasL ((-2, [Y]) :: B) (-2) = true := by
  unfold hasL
  rw [List.findIdx?_cons, show whoIs (-2) (-2, [Y]) = true by simp [whoIs]]
  simp [freeL]
theorem hold_st2 (w0 : Int) (t : List Int) : holdL (st2 (w0 :: t)) X = (w0, true) := by
  unfold holdL
  have hf : (st2 (w0 :: t)).findIdx? (fun x => hasP X x.2) = some 1 := by
    unfold st2
    rw [List.findIdx?_cons, show hasP X [Y] = false by kernel_rfl, List.map_cons, List.cons_append, List.findIdx?_cons, show hasP X (ask w0).2 = true from (by kernel_rfl : hasP X [X] = true)]
    rfl
  rw [hf]
  simp only
  have : freeL (st2 (w0 :: t)) 1 = true := by
    unfold freeL st2
    simp [ask, wXY]
  rw [if_pos this]
  rfl
theorem find_st2 (w0 : Int) (t : List Int) (h : 0 ≤ w0) : (st2 (w0 :: t)).findIdx? (whoIs w0) = some 1 ∧ (st2 (w0 :: t))[1]? = some (w0, [X]) := by
  refine ⟨?_, rfl⟩
  unfold st2
  rw [List.findIdx?_cons, show whoIs w0 (-2, [Y]) = false by simp [whoIs]; omega, List.map_cons, List.cons_append, List.findIdx?_cons, show whoIs w0 (ask w0) = true by simp [whoIs, ask]]
  rfl
theorem cut_st2 (w0 : Int) (t : List Int) : (st2 (w0 :: t)).take 1 ++ (st2 (w0 :: t)).drop 2 = st2 t := by simp [st2]
theorem has_end : hasL (st2 []) (-1) = true := by kernel_rfl
theorem qx : askF [] (-1) [X] = .inl ([(-1, [X])], true) := by kernel_rfl
theorem qy : askF [(-1, [X])] (-2) [Y] = .inl (st1 [], true) := by kernel_rfl
end Go.Proofs.YtlhjkacdhfchiaaDoor.Ls
