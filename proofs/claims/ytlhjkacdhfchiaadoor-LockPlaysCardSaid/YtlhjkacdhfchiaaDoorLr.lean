/- law12's first look; the Locks of a law. -/
import Derived.Test.YtlhjkacdhfchiaaDoorLq
namespace Go.Proofs.YtlhjkacdhfchiaaDoor.Lr
set_option linter.unusedVariables false
set_option linter.unusedSimpArgs false
set_option maxRecDepth 100000
open Go.ChangeShapes Go.WideShapes Go.ChangeAt Go.RowKit
open Go.Proofs.YtlhjkacdhfchiaaDoor.Wu Go.Proofs.YtlhjkacdhfchiaaDoor.Ps Go.Proofs.YtlhjkacdhfchiaaDoor.Pu Go.Proofs.YtlhjkacdhfchiaaDoor.Px Go.Proofs.YtlhjkacdhfchiaaDoor.Pd Go.Proofs.YtlhjkacdhfchiaaDoor.Pe Go.Proofs.YtlhjkacdhfchiaaDoor.La Go.Proofs.YtlhjkacdhfchiaaDoor.Lb Go.Proofs.YtlhjkacdhfchiaaDoor.Lc Go.Proofs.YtlhjkacdhfchiaaDoor.Ld Go.Proofs.YtlhjkacdhfchiaaDoor.Le Go.Proofs.YtlhjkacdhfchiaaDoor.Lg Go.Proofs.YtlhjkacdhfchiaaDoor.Lh Go.Proofs.YtlhjkacdhfchiaaDoor.Li Go.Proofs.YtlhjkacdhfchiaaDoor.Lj Go.Proofs.YtlhjkacdhfchiaaDoor.Lk Go.Proofs.YtlhjkacdhfchiaaDoor.Lm Go.Proofs.YtlhjkacdhfchiaaDoor.Lo Go.Proofs.YtlhjkacdhfchiaaDoor.Lq
/-- The Locks that a law has made. -/
structure Lw (w0 : World) (N P : Nat) (L : List Wh) (w : World) : Prop where
  lk : LkW w N P L
  below : Below w0.heap.size w0 w
  low : w0.heap.size ≤ N
  size : N ≤ w.heap.size
theorem Lw.up {w0 w w' : World} {N P : Nat} {L : List Wh} (h : Lw w0 N P L w) (hb : Below w.heap.size w w') : Lw w0 N P L w' := ⟨h.lk.below hb, keepB hb (Nat.le_refl _) h.below, h.low, Nat.le_trans h.size hb.size⟩
theorem Lw.next {w0 w w' : World} {N P : Nat} {L L' : List Wh} (h : Lw w0 N P L w) (hl : LkW w' N P L') (hb : Below N w w') : Lw w0 N P L' w' := ⟨hl, h.below.trans (hb.mono h.low), h.low, Nat.le_trans h.size hb.size⟩
theorem new_w {w0 w : World} (hb : Below w0.heap.size w0 w) : Calls Tryd.prog 20 #[] w fun e w' => e = .returned (.pointer (some ⟨w.heap.size, 0, none⟩)) ∧ Lw w0 w.heap.size w.heap.size [] w' :=
  (new_c w).mono (by
    rintro e w' ⟨rfl, h1, h2⟩
    exact ⟨rfl, h1, keepB h2 (Nat.le_refl _) hb, hb.size, h2.size⟩)
theorem ask_ok {w0 w : World} {N P : Nat} {L : List Wh} (h : Lw w0 N P L w) (who : Int) (a : Option Addr) (m cap : Nat) (l : List (List UInt8)) (hs : SrcS w a l) (hl : l.length = m) (hc : m ≤ cap) (hm : cap ≤ 9223372036854775807) (hp : ∀ p ∈ l, p.length ≤ 9223372036854775807) {L' : List Wh} {b : Bool} (he : askF L who l = .inl (L', b)) :
    Calls Tryd.prog 22 #[.pointer (some ⟨P, 0, none⟩), .int .i64 who, .slice a m cap] w fun e w' => e = .returned (.tuple #[.bool b, .nilIface]) ∧ Lw w0 N P L' w' := by
  subst hl
  refine (ask_c h.lk who a cap l hs hc hm hp h.size).mono ?_
  intro e w' hr
  rw [he] at hr
  exact ⟨hr.1, h.next hr.2.1 hr.2.2.2⟩
theorem ask_no {w0 w : World} {N P : Nat} {L : List Wh} (h : Lw w0 N P L w) (who : Int) (a : Option Addr) (m cap : Nat) (l : List (List UInt8)) (hs : SrcS w a l) (hl : l.length = m) (hc : m ≤ cap) (hm : cap ≤ 9223372036854775807) (hp : ∀ p ∈ l, p.length ≤ 9223372036854775807) {c : Int} (he : askF L who l = .inr c) :
    Calls Tryd.prog 22 #[.pointer (some ⟨P, 0, none⟩), .int .i64 who, .slice a m cap] w fun e w' => ∃ v, e = .returned (.tuple #[.bool false, v]) ∧ ErrV w' v c ∧ Lw w0 N P L w' := by
  subst hl
  refine (ask_c h.lk who a cap l hs hc hm hp h.size).mono ?_
  intro e w' hr
  rw [he] at hr
  obtain ⟨v, h1, h2, h3⟩ := hr
  exact ⟨v, h1, h2, h.up h3⟩
theorem rel_ok {w0 w : World} {N P : Nat} {L : List Wh} (h : Lw w0 N P L w) (who : Int) {i : Nat} {x : Wh} (hf : L.findIdx? (whoIs who) = some i) (hx : L[i]? = some x) :
    Calls Tryd.prog 25 #[.pointer (some ⟨P, 0, none⟩), .int .i64 who] w fun e w' => ∃ v, e = .returned (.tuple #[v, .int .i64 0]) ∧ OwnN w' w.heap.size v (nx (L.take i ++ L.drop (i + 1)) x.2 i (L.length - 1 - i)) ∧ Lw w0 N P (L.take i ++ L.drop (i + 1)) w' := by
  refine (release_c h.lk who h.size).mono ?_
  intro e w' hr
  unfold RelR at hr
  rw [hf] at hr
  obtain ⟨v, y, h1, h2, h3, h4, h5, h6⟩ := hr
  rw [hx] at h1
  injection h1 with h1
  subst h1
  exact ⟨v, h2, h3, h.next h4 h6⟩
theorem src1 {w : World} {B : Nat} {T : TypeId} {f : Nat × Nat} {p : List UInt8} (h : w.heap[B]? = some (.cells #[.string (bs p)] T f)) : SrcS w (some ⟨B, 0, none⟩) [p] := ⟨B, 0, fun _ => rfl, fun i q hq => by
  match i, hq with
  | 0, hq =>
    simp only [List.getElem?_cons_zero, Option.some.injEq] at hq
    subst hq
    exact blk_cell h rfl⟩
theorem src2 {w : World} {B : Nat} {T : TypeId} {f : Nat × Nat} {p r : List UInt8} (h : w.heap[B]? = some (.cells #[.string (bs p), .string (bs r)] T f)) : SrcS w (some ⟨B, 0, none⟩) [p, r] := ⟨B, 0, fun _ => rfl, fun i q hq => by
  match i, hq with
  | 0, hq =>
    simp only [List.getElem?_cons_zero, Option.some.injEq] at hq
    subst hq
    exact blk_cell h rfl
  | 1, hq =>
    simp only [List.getElem?_cons_succ, List.getElem?_cons_zero, Option.some.injEq] at hq
    subst hq
    exact blk_cell h rfl⟩
theorem bs1 (b : UInt8) : (⟨#[b]⟩ : ByteArray) = bs [b] := rfl
set_option maxHeartbeats 1600000 in
theorem locks_c (w : World) : Calls Tryd.prog 18 #[] w fun e w' => e = .returned (.bool true) ∧ Below w.heap.size w w' := by
  have HN := hide (new_w (Below.refl w.heap.size w))
  go_enter Tryd.func18, Tryd.ntmps18
  go_wp2_with fail
  refine HN.out.mono ?_
  rintro e w1 ⟨rfl, h1⟩
  have H1 := hide h1
  clear h1 HN
  generalize hP : w.heap.size = P at *
  go_wp2_with fail
  have H2 := hide (H1.out.up (below_new w1 (.cells #[.string ⟨#[97]⟩, .string ⟨#[98]⟩] 9)))
  have HX : Hid (SrcS (w1.alloc (.cells #[.string ⟨#[97]⟩, .string ⟨#[98]⟩] 9)) (some ⟨w1.heap.size, 0, none⟩) [[97], [98]]) := hide (src2 (heap_last w1 (.cells #[.string (bs [97]), .string (bs [98])] 9)))
  generalize w1.alloc (.cells #[.string ⟨#[97]⟩, .string ⟨#[98]⟩] 9) = w2 at *
  generalize w1.heap.size = X at *
  refine (ask_ok H2.out 1 _ 2 2 _ HX.out rfl (Nat.le_refl _) (by omega) (by simp) qa1).mono ?_
  rintro e w3 ⟨rfl, h3⟩
  have H3 := hide h3
  clear h3 H2 HX H1
  go_wp2_with fail
  have H4 := hide (H3.out.up (below_new w3 (.cells #[.string ⟨#[98]⟩] 9)))
  have HX : Hid (SrcS (w3.alloc (.cells #[.string ⟨#[98]⟩] 9)) (some ⟨w3.heap.size, 0, none⟩) [[98]]) := hide (src1 (heap_last w3 (.cells #[.string (bs [98])] 9)))
  generalize w3.alloc (.cells #[.string ⟨#[98]⟩] 9) = w4 at *
  generalize w3.heap.size = X2 at *
  refine (ask_ok H4.out 2 _ 1 1 _ HX.out rfl (Nat.le_refl _) (by omega) (by simp) qa2).mono ?_
  rintro e w5 ⟨rfl, h5⟩
  have H5 := hide h5
  clear h5 H4 HX H3
  have HC := hide (fun (u : World) (hu : LkW u P P [(1, [[97], [98]]), (2, [[98]])]) => has_c hu 1)
  rw [qh1] at HC
  have HW := hide (fun (u : World) (hu : LkW u P P [(1, [[97], [98]]), (2, [[98]])]) => waits_c hu 2)
  rw [qw2] at HW
  go_wp2_with fail
  refine (HC.out w5 H5.out.lk).mono ?_
  rintro e w6 ⟨rfl, hb⟩
  have H6 := hide (H5.out.up hb)
  clear hb H5 HC
  go_wp2_with fail
  refine (HW.out w6 H6.out.lk).mono ?_
  rintro e w7 ⟨rfl, hb⟩
  have H7 := hide (H6.out.up hb)
  clear hb H6 HW
  go_wp2_with fail
  refine (rel_ok H7.out 1 (i := 0) (x := (1, [[97], [98]])) rfl rfl).mono ?_
  rintro e w8 ⟨v, rfl, ho, h8⟩
  have hO : OwnN w8 w7.heap.size v [2] := by
    have : nx [(2, [[98]])] [[97], [98]] 0 1 = [2] := qn1
    rw [← this]; exact ho
  have H8 : Hid (Lw w P P [(2, [[98]])] w8) := hide h8
  have HO := hide hO
  obtain ⟨av, cv, gv, rfl, -, -, hav, hcv⟩ := hO.form
  obtain rfl := hav (by simp)
  have HC0 := hide (hcv 0 2 rfl)
  clear h8 ho hO hcv hav
  have HH := hide (holder_c H8.out.lk [98])
  rw [qh2] at HH
  have HH2 : Hid (Calls Tryd.prog 31 #[.pointer (some ⟨P, 0, none⟩), .string ⟨#[98]⟩] w8 fun e w' => e = .returned (.tuple #[.int .i64 2, .bool true]) ∧ Below w8.heap.size w8 w') := HH
  clear HH
  go_wp2_with fail
  refine HH2.out.mono ?_
  rintro e w9 ⟨rfl, hb⟩
  have H9 := hide (H8.out.up hb)
  have c9 := keepC hb (Nat.le_refl _) HC0.out
  clear hb HH2 H8
  go_wp2_with fail
  refine (len_c H9.out.lk).mono ?_
  rintro e w10 ⟨rfl, rfl⟩
  have HB := hide H9.out.below
  go_wp2
  go_ret
  exact ⟨rfl, HB.out⟩
end Go.Proofs.YtlhjkacdhfchiaaDoor.Lr
