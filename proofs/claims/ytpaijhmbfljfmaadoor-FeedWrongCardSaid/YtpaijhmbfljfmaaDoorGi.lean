/- Bytes that come in two pieces, in plain numbers; what of a feed stays. -/
import Derived.Test.YtpaijhmbfljfmaaDoorGh
namespace Go.Proofs.YtpaijhmbfljfmaaDoor.Gi
set_option linter.unusedVariables false
set_option linter.unusedSimpArgs false
set_option maxRecDepth 100000
open Go.RowKit
open Go.Proofs.YtpaijhmbfljfmaaDoor.Wu Go.Proofs.YtpaijhmbfljfmaaDoor.Sm Go.Proofs.YtpaijhmbfljfmaaDoor.Sh Go.Proofs.YtpaijhmbfljfmaaDoor.Ba Go.Proofs.YtpaijhmbfljfmaaDoor.Bp Go.Proofs.YtpaijhmbfljfmaaDoor.Bq Go.Proofs.YtpaijhmbfljfmaaDoor.Cm Go.Proofs.YtpaijhmbfljfmaaDoor.Fa Go.Proofs.YtpaijhmbfljfmaaDoor.Fh Go.Proofs.YtpaijhmbfljfmaaDoor.Fi Go.Proofs.YtpaijhmbfljfmaaDoor.Ga Go.Proofs.YtpaijhmbfljfmaaDoor.Gb Go.Proofs.YtpaijhmbfljfmaaDoor.Gc Go.Proofs.YtpaijhmbfljfmaaDoor.Ge Go.Proofs.YtpaijhmbfljfmaaDoor.Gf Go.Proofs.YtpaijhmbfljfmaaDoor.Gh
theorem next_next {s s1 s2 : FS} {A B : List Nat} {fs gs : List Fr} (h1 : s.next A s1 fs) (h2 : s1.next B s2 gs) : s.next (A ++ B) s2 (fs ++ gs) := by
  rcases h1 with ⟨hn, rfl, rfl⟩ | ⟨he, z, c, p, hf, rfl⟩
  · rcases h2 with ⟨_, rfl, rfl⟩ | ⟨h, _⟩
    · exact .inl ⟨hn, rfl, rfl⟩
    · exact absurd h hn
  · by_cases hc : c = 30
    · subst hc
      unfold FS.after at h2
      rw [if_pos rfl] at h2
      rcases h2 with ⟨h, _⟩ | ⟨_, z', c', p', hf', rfl⟩
      · exact absurd rfl h
      · refine .inr ⟨he, z + z', c', p', ?_, ?_⟩
        · rw [← List.append_assoc]
          exact hf.app_short B hf'
        · have hz := hf.fits.1
          unfold FS.after
          simp only
          have e : List.drop z' (List.drop z (s.held ++ A) ++ B) = List.drop (z + z') (s.held ++ (A ++ B)) := by
            rw [← List.append_assoc, ← List.drop_drop, List.drop_append_of_le_length hz]
          rw [e]
          split
          · rw [Nat.add_assoc]
          · rw [Nat.add_assoc]
    · have hne := readR_bad_ne hf.fits.2.2
      have e1 : s.after (s.held ++ A) z c p = ⟨[], s.read + z, ((s.read + z : Nat) : Int) + p, c⟩ := by unfold FS.after; rw [if_neg hc]
      have e2 : s.after (s.held ++ (A ++ B)) z c p = ⟨[], s.read + z, ((s.read + z : Nat) : Int) + p, c⟩ := by unfold FS.after; rw [if_neg hc]
      rw [e1] at h2
      rcases h2 with ⟨_, rfl, rfl⟩ | ⟨h, _⟩
      · refine .inr ⟨he, z, c, p, ?_, e2.symm⟩
        rw [← List.append_assoc, List.append_nil]
        exact hf.app_bad B hc
      · exact absurd h hne
theorem next_fits {s s1 : FS} {A : List Nat} {fs : List Fr} (h : s.next A s1 fs) : s1.held.length + s1.read ≤ s.held.length + A.length + s.read ∧ s.read ≤ s1.read ∧ fs.length ≤ s.held.length + A.length := by
  rcases h with ⟨hn, rfl, rfl⟩ | ⟨he, z, c, p, hf, rfl⟩
  · exact ⟨by omega, Nat.le_refl _, Nat.zero_le _⟩
  · have hz := hf.fits
    rw [List.length_append] at hz
    unfold FS.after
    split
    · refine ⟨?_, ?_, by omega⟩
      · simp only [List.length_drop, List.length_append]; omega
      · simp only; omega
    · refine ⟨?_, ?_, by omega⟩
      · simp only [List.length_nil]; omega
      · simp only; omega
theorem _root_.Go.Proofs.YtpaijhmbfljfmaaDoor.Ge.FeedAt.row {w w' : World} {F : Nat} {v : Value} {N : Nat} {s : FS} {row : Option Nat} (h : FeedAt w F v N s) (hg : w.grownBy w' row) (h1 : row ≠ some F) (h2 : ∀ k, v.ownBlock = some k → row ≠ some k) : FeedAt w' F v N s :=
  ⟨(hg.block F h.lt (fun e => h1 e.symm)).trans h.cells, Buf.same h.buf hg.size (fun g hg' => hg.block g (Buf.own h.buf g hg').2 (fun e => h2 g hg' e.symm)), h.apart⟩
theorem _root_.Go.Proofs.YtpaijhmbfljfmaaDoor.Bp.Dst.keptF {w w' : World} {F g n cap : Nat} {L : List Nat} {ho : Option Nat} (h : Dst w g n cap L) (hk : Kept w w' F ho) (h1 : g ≠ F) (h2 : some g ≠ ho) : Dst w' g n cap L := Dst.same h (hk.block g h.lt h1 h2) hk.size
theorem wpList_append_run2 {P : Program} {w w' : World} {ops : Array Oper} {rest : List Oper} {o : Oper} {a : Act} {Q : Exit → Act → World → Prop} (hgd : o.guard = none) (s x : Operand) (t : TypeId)
    (ho : o.op = .call { callee := .builtin .append, args := #[s, x], argTypes := #[t, t] }) (v xv v' : Value)
    (hs : a.eval s = v) (hx : a.eval x = xv) (hrun : (Builtin.append_ #[t, t] o.type #[v, xv]).run P w = .ok v' w') (h : Hid (wpList P ops Q rest (a.put o.dst v') w')) : wpList P ops Q (o :: rest) a w := by
  refine wpList_plain hgd fun K hK => ?_
  unfold Oper.wp
  simp [execOp, ho, resolve, invoke, builtin, hs, hx, hrun, Result.andThen]
  exact hK _ _ h
/-- A frame, whole. -/
theorem fed_one (k s : Nat) (D : List Nat) (hk1 : 1 ≤ k) (hk2 : k ≤ 31) (hs : s ≤ 7) (hl : D.length ≤ 16384) : Fed (frL k s D) [⟨k, s, D⟩] (frL k s D).length 30 0 := by
  have := fed_bytesOf [⟨k, s, D⟩] (by intro f hf; simp only [List.mem_singleton] at hf; subst hf; exact ⟨hk1, hk2, hs, hl⟩) [] fed_nil
  simpa [bytesOf] using this
end Go.Proofs.YtpaijhmbfljfmaaDoor.Gi
