/- The feed laws' first look. -/
import Derived.Test.YtpaijhmbfljfmaaDoorGf
import Derived.Test.YtpaijhmbfljfmaaDoorBs
import Derived.Lib.SlBytesConst
namespace Go.Proofs.YtpaijhmbfljfmaaDoor.Gh
set_option linter.unusedVariables false
set_option linter.unusedSimpArgs false
set_option maxRecDepth 100000
open Go.ChangeShapes Go.WideShapes Go.ChangeAt Go.RowKit
open Go.Proofs.YtpaijhmbfljfmaaDoor.Wu Go.Proofs.YtpaijhmbfljfmaaDoor.Sm Go.Proofs.YtpaijhmbfljfmaaDoor.Sh Go.Proofs.YtpaijhmbfljfmaaDoor.Ba Go.Proofs.YtpaijhmbfljfmaaDoor.Bp Go.Proofs.YtpaijhmbfljfmaaDoor.Bq Go.Proofs.YtpaijhmbfljfmaaDoor.Bs Go.Proofs.YtpaijhmbfljfmaaDoor.Cm Go.Proofs.YtpaijhmbfljfmaaDoor.Er Go.Proofs.YtpaijhmbfljfmaaDoor.Eu Go.Proofs.YtpaijhmbfljfmaaDoor.Ei Go.Proofs.YtpaijhmbfljfmaaDoor.Cv Go.Proofs.YtpaijhmbfljfmaaDoor.Cw Go.Proofs.YtpaijhmbfljfmaaDoor.Rk Go.Proofs.YtpaijhmbfljfmaaDoor.Fa Go.Proofs.YtpaijhmbfljfmaaDoor.Fh Go.Proofs.YtpaijhmbfljfmaaDoor.Fi Go.Proofs.YtpaijhmbfljfmaaDoor.Ga Go.Proofs.YtpaijhmbfljfmaaDoor.Gb Go.Proofs.YtpaijhmbfljfmaaDoor.Gc Go.Proofs.YtpaijhmbfljfmaaDoor.Gd Go.Proofs.YtpaijhmbfljfmaaDoor.Ge Go.Proofs.YtpaijhmbfljfmaaDoor.Gf
attribute [local go_sem] kUpon_value kUpon_skip kUpon_enter
theorem FrC.at {w : World} {ok : Nat → Prop} {row : Option Nat} : ∀ (fs : List Fr) (xs : List Value), FrC w ok row fs xs → ∀ i f, fs[i]? = some f → ∃ gd capd, xs[3 * i]? = some (.int .i64 (f.k : Int)) ∧ xs[3 * i + 1]? = some (.int .i64 (f.s : Int)) ∧ xs[3 * i + 2]? = some (.slice (some ⟨gd, 0, none⟩) f.d.length capd) ∧ ok gd ∧ Dst w gd f.d.length capd f.d
  | [], xs, h, i, f, hf => by cases hf
  | f0 :: fs, xs, ⟨g, cap, ys, h1, h2, h3, h4, h5⟩, 0, f, hf => by
    simp only [List.getElem?_cons_zero, Option.some.injEq] at hf
    subst hf
    exact ⟨g, cap, by rw [h1]; rfl, by rw [h1]; rfl, by rw [h1]; rfl, h2, h4⟩
  | f0 :: fs, xs, ⟨g, cap, ys, h1, h2, h3, h4, h5⟩, i + 1, f, hf => by
    obtain ⟨gd, capd, q1, q2, q3, q4⟩ := FrC.at fs ys h5 i f (by simpa using hf)
    refine ⟨gd, capd, ?_, ?_, ?_, q4⟩
    · rw [h1, show 3 * (i + 1) = 3 * i + 3 by omega]; simpa using q1
    · rw [h1, show 3 * (i + 1) + 1 = 3 * i + 1 + 3 by omega]; simpa using q2
    · rw [h1, show 3 * (i + 1) + 2 = 3 * i + 2 + 3 by omega]; simpa using q3
theorem Frs.at {w : World} {v : Value} {ok : Nat → Prop} {fs : List Fr} (h : Frs w v ok fs) (i : Nat) (f : Fr) (hf : fs[i]? = some f) :
    ∃ g cap gd capd, v = .slice (some ⟨g, 0, none⟩) fs.length cap ∧ w.cell? ⟨g, 3 * i, none⟩ = some (.int .i64 (f.k : Int)) ∧ w.cell? ⟨g, 3 * i + 1, none⟩ = some (.int .i64 (f.s : Int)) ∧ w.cell? ⟨g, 3 * i + 2, none⟩ = some (.slice (some ⟨gd, 0, none⟩) f.d.length capd) ∧ Dst w gd f.d.length capd f.d ∧ ok gd ∧ ok g := by
  obtain ⟨xs, ho, h0, h3⟩ := h
  obtain ⟨gd, capd, q1, q2, q3, q4, q5⟩ := FrC.at fs xs h3 i f hf
  have ho' := ho
  rcases ho'.2 with ⟨rfl, hn⟩ | ⟨g, cap, cur, rfl, hb, hg, hl, hm, _⟩
  · obtain rfl := List.length_eq_zero_iff.1 hn
    cases hf
  · have hc := ho.cells (g := g) rfl
    refine ⟨g, cap, gd, capd, rfl, ?_, ?_, ?_, q5, q4, h0 g rfl⟩
    · have := hc _ _ q1; rwa [Addr.add_mid, Nat.zero_add] at this
    · have := hc _ _ q2; rwa [Addr.add_mid, Nat.zero_add] at this
    · have := hc _ _ q3; rwa [Addr.add_mid, Nat.zero_add] at this
def z0 : FS := ⟨[], 0, 0, 0⟩
theorem FeedAt.new (w : World) (N : Nat) : FeedAt (w.alloc (.cells #[.slice none 0 0, .int .i64 0, .int .i64 0, .int .i64 0] 43)) w.heap.size (.slice none 0 0) N z0 :=
  ⟨heap_last w _, .inl ⟨rfl, rfl⟩, fun h => by cases h⟩
theorem next_ok {s s' : FS} {B : List Nat} {fs gs : List Fr} {z : Nat} {c p : Int} (h : s.next B s' fs) (he : s.fe = 0) (hf : Fed (s.held ++ B) gs z c p) : fs = gs ∧ s' = s.after (s.held ++ B) z c p := by
  rcases h with ⟨h, _⟩ | ⟨_, z', c', p', h1, h2⟩
  · exact absurd he h
  · obtain ⟨q1, q2, q3, q4⟩ := h1.det hf
    subst q2 q3 q4
    exact ⟨q1, h2⟩
theorem fed1 : Fed [26] [] 0 30 1 := .stop rfl
theorem fed2 : Fed [26, 1, 120, 121] [⟨3, 2, [120]⟩] 3 30 1 := by
  have h1 : readR [26, 1, 120, 121] = .ok 3 2 2 1 := rfl
  have h2 : Fed ([26, 1, 120, 121].drop (2 + 1)) [] 0 30 1 := .stop rfl
  exact Fed.next h1 h2
theorem str120 : strN [120] = ⟨#[120]⟩ := by kernel_rfl
set_option maxHeartbeats 3200000 in
theorem feeds_c (w : World) (he : Et w) : Calls Tryd.prog 21 #[] w fun e w' => e = .returned (.bool true) ∧ Below w.heap.size w w' := by
  have HE : Hid (∀ u, Below w.heap.size w u → Et u) := hide (fun u hu => he.below hu (Nat.le_refl _))
  clear he
  have HF0 := hide (FeedAt.new w w.heap.size)
  have HB0 := hide (below_new w (.cells #[.slice none 0 0, .int .i64 0, .int .i64 0, .int .i64 0] 43))
  go_enter Tryd.func21, Tryd.ntmps21
  go_wp2_with fail
  have hz1 : (w.alloc (.cells #[.slice none 0 0, .int .i64 0, .int .i64 0, .int .i64 0] 43)).heap.size = w.heap.size + 1 := by simp
  generalize w.alloc (.cells #[.slice none 0 0, .int .i64 0, .int .i64 0, .int .i64 0] 43) = w1 at *
  rw [← hz1]
  clear hz1
  rw [Lib.run_convert_bytes_const (P := Tryd.prog) w1 31 5 #[.int .u8 26] 1 1 Tryd.underlying31 Tryd.underlying5]
  have hb1 := below_new w1 (.cells #[.int .u8 ((26 : Nat) : Int)] 5 ((#[.int .u8 26] : Array Value).size, (#[.int .u8 26] : Array Value).size + 1))
  have HS1 := hide (src_one (heap_last w1 (.cells #[.int .u8 ((26 : Nat) : Int)] 5 ((#[.int .u8 26] : Array Value).size, (#[.int .u8 26] : Array Value).size + 1))) (by omega))
  have HF1 := hide (HF0.out.below hb1)
  have HB1 := hide (keepB hb1 (Nat.le_refl _) HB0.out)
  clear hb1 HF0 HB0
  generalize w1.alloc (.cells #[.int .u8 ((26 : Nat) : Int)] 5 ((#[.int .u8 26] : Array Value).size, (#[.int .u8 26] : Array Value).size + 1)) = w2 at *
  go_wp2_with fail
  refine (add_c w2 w.heap.size (.slice none 0 0) w.heap.size z0 (some ⟨w1.heap.size, 0, none⟩) 1 1 [26] HF1.out HS1.out (fun h => by cases h) HB1.out.size (Nat.le_refl _) (fun u hu => HE.out u (HB1.out.trans hu)) (by simp [z0]) (by simp [z0])).mono ?_
  rintro e w3 ⟨u3, v3, s3, fs3, rfl, hn3, hf3, hr3, hk3, -⟩
  obtain ⟨e1, e2⟩ := next_ok hn3 rfl fed1
  have e2 : s3 = ⟨[26], 0, 0, 0⟩ := e2
  subst e1 e2
  have HB3 := hide (hk3.toBelow HB1.out HB1.out.size (Nat.le_refl _) (fun k h => by cases h))
  have HF3 := hide hf3
  obtain ⟨a3, c3, hu3, -, -⟩ := hr3.form
  subst hu3
  clear hn3 hf3 hr3 hk3 HF1 HB1 HS1
  go_wp2_with fail
  rw [Lib.run_convert_bytes_const (P := Tryd.prog) w3 31 5 #[.int .u8 1, .int .u8 120, .int .u8 121] 3 3 Tryd.underlying31 Tryd.underlying5]
  have hb4 := below_new w3 (.cells #[.int .u8 1, .int .u8 120, .int .u8 121] 5 ((#[.int .u8 1, .int .u8 120, .int .u8 121] : Array Value).size, (#[.int .u8 1, .int .u8 120, .int .u8 121] : Array Value).size + 1))
  have hh4 := heap_last w3 (.cells #[.int .u8 1, .int .u8 120, .int .u8 121] 5 ((#[.int .u8 1, .int .u8 120, .int .u8 121] : Array Value).size, (#[.int .u8 1, .int .u8 120, .int .u8 121] : Array Value).size + 1))
  have HF4 := hide (HF3.out.below hb4)
  have HB4 := hide (keepB hb4 (Nat.le_refl _) HB3.out)
  have HH4 := hide hh4
  clear hb4 hh4 HF3 HB3
  generalize w3.alloc (.cells #[.int .u8 1, .int .u8 120, .int .u8 121] 5 ((#[.int .u8 1, .int .u8 120, .int .u8 121] : Array Value).size, (#[.int .u8 1, .int .u8 120, .int .u8 121] : Array Value).size + 1)) = w4 at *
  have HS4 : Hid (SrcB w4 (some ⟨w3.heap.size, 0, none⟩) 3 [1, 120, 121]) := hide ⟨rfl, by intro z hz; simp only [List.mem_cons, List.not_mem_nil, or_false] at hz; omega, w3.heap.size, 0, fun _ => rfl, fun i hi => by
    match i, hi with
    | 0, _ => exact blk_cell HH4.out rfl
    | 1, _ => exact blk_cell HH4.out rfl
    | 2, _ => exact blk_cell HH4.out rfl⟩
  go_wp2_with fail
  refine (add_c w4 w.heap.size v3 w.heap.size _ (some ⟨w3.heap.size, 0, none⟩) 3 3 [1, 120, 121] HF4.out HS4.out (fun h => by cases h) HB4.out.size (Nat.le_refl _) (fun u hu => HE.out u (HB4.out.trans hu)) (by simp) (by simp)).mono ?_
  rintro e w5 ⟨u5, v5, s5, fs5, rfl, hn5, hf5, hr5, hk5, -⟩
  obtain ⟨e1, e2⟩ := next_ok hn5 rfl fed2
  have e2 : s5 = ⟨[121], 3, 0, 0⟩ := e2
  subst e1 e2
  have HB5 := hide (hk5.toBelow HB4.out HB4.out.size (Nat.le_refl _) (fun k h => (Buf.own HF4.out.buf k h).1))
  have HF5 := hide hf5
  obtain ⟨g, cap, gd, capd, hu5, c0, c1, c2, hd, -⟩ := Frs.at hr5 0 _ rfl
  subst hu5
  have hV := conv_src (cap := capd) hd.src
  rw [str120] at hV
  have HV := hide hV
  obtain ⟨av, cv, hv5, -⟩ := hf5.buf.form
  subst hv5
  have HC5 := hide hf5.cells
  clear hn5 hf5 hr5 hk5 HF4 HB4 HS4 HH4 hV hd
  simp only [List.length_cons, List.length_nil, Nat.mul_zero, Nat.zero_add] at c0 c1 c2 HV
  have HHe := hide (held_c HC5.out)
  have HRe := hide (Gc.read_c HC5.out)
  have HEr := hide (Gc.err_c HC5.out)
  clear HC5 HF5
  go_wp2_with fail
  rw [HV.out]
  go_wp2_with fail
  refine HHe.out.mono ?_
  rintro e w6 ⟨rfl, rfl⟩
  go_wp2_with fail
  refine HRe.out.mono ?_
  rintro e w6 ⟨rfl, rfl⟩
  go_wp2_with fail
  refine HEr.out.mono ?_
  rintro e w6 ⟨hb6, v6, rfl, h6⟩
  obtain rfl : v6 = .nilIface := by
    rcases h6 with h | h
    · exact h.2
    · exact absurd rfl h.1
  have HB6 := hide (keepB hb6 (Nat.le_refl _) HB5.out)
  clear hb6 h6 HB5
  go_wp2
  go_ret
  exact ⟨rfl, HB6.out⟩
end Go.Proofs.YtpaijhmbfljfmaaDoor.Gh
