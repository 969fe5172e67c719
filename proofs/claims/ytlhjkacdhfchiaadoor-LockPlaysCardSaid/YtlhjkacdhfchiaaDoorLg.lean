/- lock: the Locks as a list of who asked for what. -/
import Derived.Test.YtlhjkacdhfchiaaDoorLd
import Derived.Test.YtlhjkacdhfchiaaDoorLe
import Derived.Test.YtlhjkacdhfchiaaDoorLf
import Derived.Test.YtlhjkacdhfchiaaDoorPx
namespace Go.Proofs.YtlhjkacdhfchiaaDoor.Lg
set_option linter.unusedVariables false
set_option linter.unusedSimpArgs false
set_option maxRecDepth 100000
open Go.ChangeShapes Go.WideShapes Go.ChangeAt Go.RowKit
open Go.Proofs.YtlhjkacdhfchiaaDoor.Wu Go.Proofs.YtlhjkacdhfchiaaDoor.Ps Go.Proofs.YtlhjkacdhfchiaaDoor.Pu Go.Proofs.YtlhjkacdhfchiaaDoor.Px Go.Proofs.YtlhjkacdhfchiaaDoor.La Go.Proofs.YtlhjkacdhfchiaaDoor.Lb Go.Proofs.YtlhjkacdhfchiaaDoor.Lc Go.Proofs.YtlhjkacdhfchiaaDoor.Ld Go.Proofs.YtlhjkacdhfchiaaDoor.Le
/-- Who asked for which paths. -/
abbrev Wh := Int × List (List UInt8)
def whoIs (who : Int) (x : Wh) : Bool := x.1 == who
def placeL (L : List Wh) (who : Int) : Int := match L.findIdx? (whoIs who) with
  | some i => (i : Int)
  | none => -1
/-- Does nobody ahead stand in the way of the i-th? -/
def freeL (L : List Wh) (i : Nat) : Bool := match L[i]? with
  | some x => !((L.take i).any fun y => way x.2 y.2)
  | none => false
structure LkA (w : World) (N P : Nat) (v : Value) (us : List La.Ask) (L : List Wh) : Prop where
  obj : w.heap[P]? = some (.cells #[v] 103 (0, 0))
  own : OwnA w N v us
  len : us.length = L.length
  each : ∀ (i : Nat) (u : La.Ask) (x : Wh), us[i]? = some u → L[i]? = some x → u.1 = x.1 ∧ OwnS w N (pv u) x.2
  low : N ≤ P
  few : L.length ≤ 64
def LkW (w : World) (N P : Nat) (L : List Wh) : Prop := ∃ v us, LkA w N P v us L
theorem LkA.below {w w' : World} {N P : Nat} {v : Value} {us : List La.Ask} {L : List Wh} (h : LkA w N P v us L) (hb : Below w.heap.size w w') : LkA w' N P v us L :=
  ⟨(hb.block P (heap_lt h.obj)).trans h.obj, h.own.below hb, h.len, fun i u x h1 h2 => ⟨(h.each i u x h1 h2).1, own_up (h.each i u x h1 h2).2 hb⟩, h.low, h.few⟩
theorem LkW.below {w w' : World} {N P : Nat} {L : List Wh} (h : LkW w N P L) (hb : Below w.heap.size w w') : LkW w' N P L := by
  obtain ⟨v, us, h⟩ := h
  exact ⟨v, us, h.below hb⟩
theorem LkA.place {w : World} {N P : Nat} {v : Value} {us : List La.Ask} {L : List Wh} (h : LkA w N P v us L) (who : Int) : La.place us who = placeL L who := by
  have e : us.map (·.1) = L.map (·.1) := by
    apply List.ext_getElem (by simp [h.len])
    intro i h1 h2
    simp only [List.length_map] at h1 h2
    simp only [List.getElem_map]
    exact (h.each i us[i] L[i] (List.getElem?_eq_getElem h1) (List.getElem?_eq_getElem h2)).1
  have e2 : us.findIdx? (isWho who) = L.findIdx? (whoIs who) := by
    have h1 : (us.map (·.1)).findIdx? (fun n => n == who) = us.findIdx? (isWho who) := by rw [List.findIdx?_map]; rfl
    have h2 : (L.map (·.1)).findIdx? (fun n => n == who) = L.findIdx? (whoIs who) := by rw [List.findIdx?_map]; rfl
    rw [← h1, ← h2, e]
  unfold La.place placeL
  rw [e2]
  cases L.findIdx? (whoIs who) <;> rfl
theorem LkA.txs {w : World} {N P : Nat} {v : Value} {us : List La.Ask} {L : List Wh} (h : LkA w N P v us L) : Txs w us (L.map (·.2)) := by
  refine ⟨by rw [List.length_map, h.len], fun i u t h1 h2 => ?_⟩
  obtain ⟨x, hx, rfl⟩ : ∃ x, L[i]? = some x ∧ x.2 = t := by simpa using h2
  obtain ⟨-, hO⟩ := h.each i u x h1 hx
  obtain ⟨a, cap, e, hl, hm, -, -⟩ := hO.form
  unfold pv at hO e
  injection e with e1 e2 e3
  unfold maxLen at hm
  refine ⟨hO.src, by omega, by omega, by omega⟩
theorem LkA.form {w : World} {N P : Nat} {v : Value} {us : List La.Ask} {L : List Wh} (h : LkA w N P v us L) : ∃ a c, v = .slice a us.length c ∧ IsAs w a us.length c us := h.own.is
theorem placeL_some {L : List Wh} {who : Int} {i : Nat} (h : L.findIdx? (whoIs who) = some i) : placeL L who = (i : Int) ∧ i < L.length := by
  unfold placeL
  rw [h]
  exact ⟨rfl, (List.findIdx?_eq_some_iff_getElem.1 h).1⟩
theorem placeL_none {L : List Wh} {who : Int} (h : L.findIdx? (whoIs who) = none) : placeL L who = -1 := by
  unfold placeL
  rw [h]
theorem freeL_at {L : List Wh} {i : Nat} {x : Wh} (h : L[i]? = some x) : freeL L i = !(((L.map (·.2)).take i).any (way x.2)) := by
  unfold freeL
  rw [h, ← List.map_take, List.any_map]
  rfl
/-- Nothing but the Locks' own blocks turns. -/
def Kp (w w' : World) : Prop := ∀ (k : Nat) (o : Obj), w.heap[k]? = some o → (∀ c f, o ≠ .cells c 103 f) → (∀ c f, o ≠ .cells c 111 f) → w'.heap[k]? = some o
theorem Kp.refl (w : World) : Kp w w := fun _ _ h _ _ => h
theorem Kp.trans {a b c : World} (h : Kp a b) (k : Kp b c) : Kp a c := fun i o h1 h2 h3 => k i o (h i o h1 h2 h3) h2 h3
theorem kp_below {w w' : World} (h : Below w.heap.size w w') : Kp w w' := fun k o ho _ _ => (h.block k (heap_lt ho)).trans ho
end Go.Proofs.YtlhjkacdhfchiaaDoor.Lg
