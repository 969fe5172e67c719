/- FeedOwn's walk. -/
import Derived.Test.YtofflmhfffphdaaDoorGi
import Derived.Test.YtofflmhfffphdaaDoorFb
namespace Go.Proofs.YtofflmhfffphdaaDoor.FeedOwnW
set_option linter.unusedVariables false
set_option linter.unusedSimpArgs false
set_option maxRecDepth 100000
open Go.ChangeShapes Go.WideShapes Go.ChangeAt Go.RowKit
open Go.Proofs.YtofflmhfffphdaaDoor.Wu Go.Proofs.YtofflmhfffphdaaDoor.Sm Go.Proofs.YtofflmhfffphdaaDoor.Sh Go.Proofs.YtofflmhfffphdaaDoor.Ba Go.Proofs.YtofflmhfffphdaaDoor.Bp Go.Proofs.YtofflmhfffphdaaDoor.Bq Go.Proofs.YtofflmhfffphdaaDoor.Bs Go.Proofs.YtofflmhfffphdaaDoor.Cm Go.Proofs.YtofflmhfffphdaaDoor.Er Go.Proofs.YtofflmhfffphdaaDoor.Eu Go.Proofs.YtofflmhfffphdaaDoor.Cw Go.Proofs.YtofflmhfffphdaaDoor.Rk Go.Proofs.YtofflmhfffphdaaDoor.Fa Go.Proofs.YtofflmhfffphdaaDoor.Fb Go.Proofs.YtofflmhfffphdaaDoor.Fh Go.Proofs.YtofflmhfffphdaaDoor.Fi Go.Proofs.YtofflmhfffphdaaDoor.Ga Go.Proofs.YtofflmhfffphdaaDoor.Gb Go.Proofs.YtofflmhfffphdaaDoor.Gc Go.Proofs.YtofflmhfffphdaaDoor.Gd Go.Proofs.YtofflmhfffphdaaDoor.Ge Go.Proofs.YtofflmhfffphdaaDoor.Gf Go.Proofs.YtofflmhfffphdaaDoor.Gh Go.Proofs.YtofflmhfffphdaaDoor.Gi
attribute [local go_sem] kUpon_value kUpon_skip kUpon_enter
def Post (w : World) (e : Ending) (w' : World) : Prop := e = .returned (.bool true) ∧ Below w.heap.size w w'
theorem dst_put {w : World} {g n cap : Nat} {L : List Nat} (hd : Dst w g n cap L) {i x : Nat} (hi : i < n) (hx : x < 256) : Dst (w.setCell ⟨g, i, none⟩ (.int .u8 (x : Int))) g n cap (L.set i x) := by
  have hth : w.there g i 1 := fun j hj => by
    obtain rfl : j = 0 := by omega
    exact ⟨by rw [Nat.add_zero, hd.cell hi]; rfl, hd.free _⟩
  have h1 := World.rangeAt_setCells_same w g i [.int .u8 (x : Int)] (by simpa using hth)
  have e : w.setCells g i [.int .u8 (x : Int)] = w.setCell ⟨g, i, none⟩ (.int .u8 (x : Int)) := rfl
  have hfr : ∀ o, (w.setCell ⟨g, i, none⟩ (.int .u8 (x : Int))).frozen? ⟨g, o, none⟩ = false := fun o => by rw [← e, World.frozen?_setCells]; exact hd.free o
  refine ⟨by rw [List.length_set, hd.len], ?_, hd.fit, hd.max, by simpa [World.setCell] using hd.lt, fun j v hv => ?_, fun j hj => ?_, hfr⟩
  · intro z hz
    rcases List.mem_or_eq_of_mem_set hz with h | h
    · exact hd.all z h
    · omega
  · have hj : j < (L.set i x).length := by
      have := (List.getElem?_eq_some_iff.1 hv).1
      simpa [b8] using this
    rw [List.length_set, hd.len] at hj
    by_cases hij : j = i
    · subst hij
      have h2 := h1 0 _ rfl
      rw [e, Nat.add_zero] at h2
      rw [Nat.zero_add, h2, ← hv]
      unfold b8
      simp [List.getElem?_map, hd.len, hj]
    · have hrow : w.rangeAt g j [v] := fun t u hu => by
        have ht : t = 0 := by
          have := (List.getElem?_eq_some_iff.1 hu).1
          simp only [List.length_cons, List.length_nil] at this
          omega
        subst ht
        obtain rfl : v = u := by simpa using hu
        rw [Nat.add_zero]
        have := hd.cells j v (by
          rw [← hv]
          unfold b8
          rw [List.getElem?_map, List.getElem?_map, List.getElem?_set_ne (by omega)])
        rwa [Nat.zero_add] at this
      have h2 := World.rangeAt_setCells_apart hrow g i [.int .u8 (x : Int)] (by right; simp only [List.length_cons, List.length_nil]; omega)
      rw [e] at h2
      have := h2 0 v rfl
      rwa [Nat.add_zero, show j = 0 + j by omega] at this
  · have h2 := World.there_setCells (b' := g) (o' := n) (n := cap - n) hd.spare g i [.int .u8 (x : Int)] j hj
    exact h2
theorem out_walk (a : Option Addr) (l c : Nat) (at_ : Int) (w : World) (he : Et w) (h : 500 < l) (hl : l ≤ 9223372036854775807) :
    Calls Tryd.prog 13 #[.slice a l c, .int .i64 at_] w (Post w) := by
  have HC := hide (feeds_c w he)
  have d1 : decide ((500 : Int) < (l : Int)) = true := by simp; omega
  have d1' : decide (500 < l) = true := by simp; omega
  go_enter Tryd.func13, Tryd.ntmps13
  go_wp2_with fail
  refine HC.out.mono ?_
  rintro e w1 ⟨rfl, hb⟩
  have HB := hide hb
  clear hb HC
  go_wp2
  go_ret
  exact ⟨rfl, HB.out⟩
set_option maxHeartbeats 3200000 in
theorem walk (a : Option Addr) (l c : Nat) (D : List Nat) (at_ : Int) (w : World) (he : Et w) (hs : SrcB w a l D) (hlc : l ≤ c) (hc : c ≤ 9223372036854775807) (hn : a = none → l = 0) (hl : l ≤ 500) :
    Calls Tryd.prog 13 #[.slice a l c, .int .i64 at_] w (Post w) := by
  have HC := hide (feeds_c w he)
  have HE : Hid (∀ u, Below w.heap.size w u → Et u) := hide (fun u hu => he.below hu (Nat.le_refl _))
  have HS := hide hs
  have hDl := hs.1
  clear he hs
  have d1 : decide ((500 : Int) < (l : Int)) = false := by simp; omega
  have d1' : decide (500 < l) = false := by simp; omega
  go_enter Tryd.func13, Tryd.ntmps13
  go_wp2_with fail
  refine HC.out.mono ?_
  rintro e w1 ⟨rfl, hb⟩
  have HB1 := hide hb
  clear hb HC
  go_wp2_with fail
  refine (append_nil 2 0 a l c D w1 (HS.out.below HB1.out) hn (by omega) (by omega) (by omega) (by omega) hlc).mono ?_
  rintro e w2 ⟨v2, rfl, hbuf, hb⟩
  have HB2 := hide (keepB hb (Nat.le_refl _) HB1.out)
  have h1z := HB1.out.size
  have h6 := numL_six D.length (by omega)
  have hpl := numL_pos D.length
  have hfl := frL_length 2 0 D
  have HOne := hide (fed_one 2 0 D (by omega) (by omega) (by omega) (by omega))
  obtain ⟨g2, cap2, rfl, hg2, hd2⟩ : ∃ g2 cap2, v2 = .slice (some ⟨g2, 0, none⟩) (frL 2 0 D).length cap2 ∧ w1.heap.size ≤ g2 ∧ Dst w2 g2 (frL 2 0 D).length cap2 (frL 2 0 D) := by
    rcases hbuf with ⟨_, h⟩ | h
    · exfalso
      have := congrArg List.length h
      rw [hfl] at this
      simp at this
    · exact h
  have hbc := hd2.fit
  have hbm := hd2.max
  unfold maxLen at hbm
  have hbm' : cap2 ≤ 9223372036854775807 := by omega
  clear hbm
  have HD2 := hide hd2
  clear hb hbuf hd2 HB1
  obtain ⟨X, hX⟩ : ∃ X, X = frL 2 0 D := ⟨_, rfl⟩
  rw [← hX] at HD2 hbc hfl HOne ⊢
  clear hX
  obtain ⟨q, hq⟩ : ∃ q, q = X.length := ⟨_, rfl⟩
  rw [← hq] at HD2 hbc hfl HOne ⊢
  have Hq := hide hq
  have hq1 : q ≤ 600 := by omega
  clear hq hfl h6
  by_cases hat : at_ < 0 ∨ (q : Int) < at_
  · have hcs : (decide (at_ < 0) = true) ∨ (decide (at_ < 0) = false ∧ decide ((q : Int) < at_) = true) := by
      by_cases h : at_ < 0
      · left; simp [h]
      · right; constructor
        · simp; omega
        · simp; omega
    clear hat
    rcases hcs with e1 | ⟨e1, e2⟩
    all_goals
      go_wp2
      go_ret
      exact ⟨rfl, HB2.out⟩
  · obtain ⟨n, rfl⟩ := Int.eq_ofNat_of_zero_le (a := at_) (by omega)
    have hnq : n ≤ q := by omega
    clear hat
    have e1 : decide ((n : Int) < 0) = false := by simp
    have e2 : decide ((q : Int) < (n : Int)) = false := by simp; omega
    have e2' : decide (q < n) = false := by simp; omega
    have hnc : n ≤ cap2 := by omega
    have hg2w : w.heap.size ≤ g2 := by omega
    obtain ⟨o3, ho3⟩ : ∃ o3 : Obj, o3 = .cells #[.slice none 0 0, .int .i64 0, .int .i64 0, .int .i64 0] 44 := ⟨_, rfl⟩
    have hF3 := FeedAt.new w2 w.heap.size
    rw [← ho3] at hF3
    have hb3 := below_new w2 o3
    have hb4 := below_new (w2.alloc o3) (.cells #[] 5)
    have HF4 := hide (hF3.below hb4)
    have HB4 := hide (keepB hb4 (Nat.le_refl _) (keepB hb3 (Nat.le_refl _) HB2.out))
    have HD4 := hide ((HD2.out.below hb3 HD2.out.lt).below hb4 (HD2.out.below hb3 HD2.out.lt).lt)
    have HS4 := hide (src_mid HD4.out.src 0 n (by omega))
    have HE4 : Hid (Dst ((w2.alloc o3).alloc (.cells #[] 5)) (w2.alloc o3).heap.size 0 0 []) := hide (dst_new (w2.alloc o3) [] #[] 5 (0, 0) rfl (by intro x hx; cases hx) (by simp [maxLen]))
    have h2z := HB2.out.size
    have hz3 : (w2.alloc o3).heap.size = w2.heap.size + 1 := by simp
    have hgF : g2 < w2.heap.size := HD2.out.lt
    rw [hz3] at HE4
    simp only [Option.map_some, Addr.add_mid, Nat.zero_add, List.drop_zero] at HS4
    clear hb3 hb4 hF3 HD2 HB2
    have hw4 : w2.heap.size + 2 ≤ ((w2.alloc o3).alloc (.cells #[] 5)).heap.size := by simp
    rw [ho3] at HE4 HS4 HD4 HF4 HB4 hw4
    clear hz3 ho3
    go_wp2_with (refine wpList_append_dst rfl (.tmp 30) (.tmp 33) rfl (w2.heap.size + 1) 0 0 [] (some ⟨g2, 0, none⟩) n cap2 (X.take n) rfl rfl ?_ ?_ (by omega) (fun h => by cases h) ?_)
    · exact HE4.out
    · exact HS4.out
    intro g5 cap5 w5 HD5 HG5 hgg5 HK5
    refine of_hid ?_
    obtain ⟨F, hFe⟩ : ∃ F, F = w2.heap.size := ⟨_, rfl⟩
    have hFn : w.heap.size ≤ F := by omega
    have hg5 : F < g5 := by omega
    have HB5 := hide (belowG HB4.out HG5.out (by omega) HB4.out.size)
    have HF5 : Hid (FeedAt w5 F (.slice none 0 0) w.heap.size z0) := hide (by rw [hFe]; exact HF4.out.row HG5.out (by intro e; injection e with e; omega) (fun k h => by cases h))
    have HD5b := hide (HD4.out.kept HG5.out (by omega))
    have hD5 := HD5.out
    rw [← hFe]
    have HX5 := hide hD5
    have hg5w : g5 < w5.heap.size := hD5.lt
    have hcap5 := hD5.max
    have hfit5 := hD5.fit
    unfold maxLen at hcap5
    have hcap5' : cap5 ≤ 9223372036854775807 := by omega
    have hg2F : g2 < F := by omega
    have hFw5 : F < w5.heap.size := HF5.out.lt
    clear hD5 HD5 hcap5 HG5 HK5 hgg5 HF4 HB4 HD4 HE4 HS4 hw4 hFe hgF h2z hg2
    go_wp2_with fail
    refine (add_c w5 F (.slice none 0 0) w.heap.size z0 (some ⟨g5, 0, none⟩) n cap5 (X.take n) HF5.out HX5.out.src (fun h => by cases h) HB5.out.size hFn (fun u hu => HE.out u (HB5.out.trans hu)) (by have := Hq.out; simp [z0]; omega) (by simp [z0])).mono ?_
    rintro e w6 ⟨u6, v6, s6, fs6, rfl, hn6, hf6, hr6, hk6, ho6⟩
    have HB6 := hide (hk6.toBelow HB5.out HB5.out.size hFn (fun k h => by cases h))
    have HF6 := hide hf6
    have HR6 := hide hr6
    have HN6 := hide hn6
    have HX6 := hide (HX5.out.keptF hk6 (by omega) (fun h => by cases h))
    have HD6 := hide (HD5b.out.keptF hk6 (by omega) (fun h => by cases h))
    have ho6' : v6.ownBlock ≠ some g5 := by
      rcases ho6 with h | h
      · rw [h]; intro e; cases e
      · intro e; have := h g5 e; omega
    have HO6 := hide ho6'
    obtain ⟨au, cu, hu6, -, -⟩ := hr6.form
    have HU6 := hide hu6
    have h56 := hk6.size
    have hown6 := fun g (hg : u6.ownBlock = some g) => Frs.own hr6 g hg
    have HW6 := hide hown6
    clear hn6 hf6 hr6 hk6 ho6 ho6' HF5 HB5 HX5 HD5b hu6 hown6
    go_wp2_with fail
    go_loopw [39, 10] (fun j _ wr => ∃ k L, j = .int .i64 ((k : Nat) : Int) ∧ k ≤ n ∧ Dst wr g5 n cap5 L ∧ w6.grownBy wr (some g5)) (fun j _ _ => n - (intOf j).toNat)
    case atStart => exact ⟨0, _, rfl, Nat.zero_le _, HX6.out, World.grownBy.refl w6 _⟩
    case round =>
      obtain ⟨k, L, rfl, hk, hd, hg⟩ := hrel
      have HDr := hide hd
      have HGr := hide hg
      clear hd hg
      by_cases hlt : k < n
      · have hc0 := HDr.out.cell hlt
        have hz0 := HDr.out.free k
        have HP := hide (dst_put HDr.out hlt (show 0 < 256 by omega))
        go_wp2
        go_roundw
        case rel => exact ⟨k + 1, _, by go_num, by omega, HP.out, grown_setCell HGr.out k _⟩
        case measure => simp [intOf]; omega
      · obtain rfl : k = n := by omega
        have HFr := hide (HF6.out.kept HGr.out (by omega) HO6.out)
        have HRr := hide (HR6.out.kept HGr.out (fun h => by have := h.1; omega))
        have HBr := hide (belowG HB6.out HGr.out (by omega) HB6.out.size)
        have HDb := hide (HD6.out.kept HGr.out (by omega))
        have h6r := HGr.out.size
        have HSb : Hid (SrcB wr (if cap2 = k then some ⟨g2, 0, none⟩ else some ⟨g2, k, none⟩) (q - k) (X.drop k)) := hide (by
          by_cases hck : cap2 = k
          · rw [if_pos hck]
            have e : X.drop k = [] := List.drop_eq_nil_of_le (by have := Hq.out; omega)
            rw [e, show q - k = 0 by omega]
            exact SrcB.nil _ _
          · rw [if_neg hck]
            have h1 := src_mid HDb.out.src k (q - k) (by omega)
            rw [List.take_of_length_le (by rw [List.length_drop, ← Hq.out]; exact Nat.le_refl _)] at h1
            rw [Option.map_some, Addr.add_mid, Nat.zero_add] at h1
            exact h1)
        have Hsl := hide (fun u : World => slice_from u (some ⟨g2, 0, none⟩) q cap2 k (by omega))
        have hsb : ∃ ab, (if cap2 = k then some (⟨g2, 0, none⟩ : Addr) else some ⟨g2, k, none⟩) = some ab := by split <;> exact ⟨_, rfl⟩
        obtain ⟨ab, hab⟩ := hsb
        rw [hab] at HSb
        have hsl : ∀ u : World, Sem.run Tryd.prog (Instr.slice 31 (.slice (some ⟨g2, 0, none⟩) q cap2) (some (.int .i64 (k : Int))) none none) u = .ok (.slice (some ab) (q - k) (cap2 - k)) u := fun u => by
          have := Hsl.out u
          simp only [Option.map_some, Addr.add_mid, Nat.zero_add] at this
          rw [hab] at this
          exact this
        have hfit2 := next_fits HN6.out
        simp only [z0, List.length_nil, List.length_take] at hfit2
        clear hab Hsl HF6 HR6 HB6 HX6 HD6 HDb HDr
        go_wp2_with fail
        with_reducible refine Calls.mono (add_c wr F v6 w.heap.size s6 (some ab) (q - k) (cap2 - k) (X.drop k) HFr.out HSb.out (fun h => by cases h) HBr.out.size hFn (fun u hu => HE.out u (HBr.out.trans hu)) (by have := Hq.out; rw [List.length_drop]; omega) (by omega)) ?_
        rintro e w7 ⟨u7, v7, s7, fs7, rfl, hn7, hf7, hr7, hk7, ho7⟩
        have hnn := next_next HN6.out hn7
        rw [List.take_append_drop] at hnn
        obtain ⟨e3, e4⟩ := next_ok hnn rfl HOne.out
        have e5 : s7.fe = 0 ∧ s7.held = [] ∧ s7.read ≤ 600 := by
          rw [e4]
          unfold FS.after
          rw [if_pos rfl]
          refine ⟨rfl, ?_, ?_⟩
          · show List.drop q ([] ++ X) = []
            exact List.drop_eq_nil_of_le (by have := Hq.out; simp; omega)
          · show 0 + q ≤ 600; omega
        have HB7 := hide (hk7.toBelow HBr.out HBr.out.size hFn (fun k h => (Buf.own HFr.out.buf k h).1))
        have hrr7 : Frs w7 u6 (fun g => w5.heap.size ≤ g ∧ some g ≠ v6.ownBlock) fs6 := HRr.out.same hk7.size (fun g h1 h2 => ⟨h1, hk7.block g h2 (by omega) h1.2⟩)
        have h7z := hk7.size
        have hl7 := congrArg List.length e3
        simp only [List.length_append, List.length_cons, List.length_nil] at hl7
        have hu6lt : ∀ g, u6.ownBlock = some g → g < w6.heap.size := fun g hg => (HW6.out g hg).2
        obtain ⟨u8, w8, hrun, hf8, hg8, ho8⟩ := append_frs2 w7 45 u6 u7 (fun g => w5.heap.size ≤ g) _ _ fs6 fs7 hrr7 hr7 (by omega) (fun g h => h.1) (fun g h => ⟨by have := h.1; omega, fun e => by have := hu6lt g e.symm; have := h.1; omega⟩) (by omega)
        have HF8 : Hid (FeedAt w8 F v7 w.heap.size s7) := hide (hf7.row hg8 (fun e => by have := (HW6.out F e).1.1; omega) (fun j hj e => by
          have hj6 := HW6.out j e
          rcases ho7 with h | h
          · exact hj6.1.2 (by rw [← h]; exact hj.symm)
          · have := h j hj; omega))
        have HB8 : Hid (Below w.heap.size w w8) := hide (HB7.out.trans ⟨hg8.os, hg8.tape, hg8.output, hg8.size, fun j hj => hg8.block j (by have := HB7.out.size; omega) (fun e => by have := (HW6.out j e.symm).1.1; have := HB7.out.size; omega)⟩)
        rw [e3] at hf8
        have HFs := hide hf8
        have HRun := hide hrun
        have Hs7 := hide e5
        clear hrun hf8 hg8 ho8 hrr7 hn7 hf7 hr7 hk7 ho7 hnn e3 e4 e5 HB7 hl7 hu6lt h7z hsl
        clear HFr HRr HBr HSb HN6
        go_wp2_with (refine wpList_append_run2 rfl (.tmp 46) (.tmp 50) 45 rfl u6 u7 u8 rfl rfl HRun.out ?_)
        refine of_hid ?_
        obtain ⟨g9, cap9, gd9, capd9, hu8, c0, c1, c2, hd9, -⟩ := Frs.at HFs.out 0 _ rfl
        subst hu8
        simp only [List.length_cons, List.length_nil, Nat.mul_zero, Nat.zero_add] at c0 c1 c2 hd9 ⊢
        obtain ⟨av, cv, hv7, -⟩ := HF8.out.buf.form
        subst hv7
        have HV1 := hide (fun u (hu : Below w8.heap.size w8 u) => conv_src (cap := capd9) (hd9.src.below hu))
        have HV2 := hide (fun u (hu : Below w8.heap.size w8 u) => conv_src (cap := c) (HS.out.below (keepB hu (Nat.le_refl _) HB8.out)))
        have HC2 := hide c2
        have HEn := hide (fun u (hu : Below w8.heap.size w8 u) => Gc.end_c s7 (HF8.out.cells.below hu) (by have := Hs7.out.2.1; rw [this]; simp) (by have := Hs7.out.2.2; omega))
        have hE0 : endE s7 = 0 := by unfold endE; rw [Hs7.out.1, Hs7.out.2.1]; simp
        rw [hE0] at HEn
        rw [hDl] at HV1 HC2
        clear c0 c1 c2 hd9 HRun HFs hE0
        go_wp2_with fail
        have mixed : Tryd.prog.follows Departure.mixedOrders = true := by kernel_rfl
        refine wp_region_keep (fun u => Below w8.heap.size w8 u) mixed (by kernel_rfl) (Below.refl _ _).drew ?_
        repeat (first
          | (refine keep_step (v := ?_) (by rfl) (fun u K hS hK => ?_) ?_
             rotate_left
             · have cc := keepC hS (Nat.le_refl _) HC2.out
               (go_simp; first
                 | (with_reducible exact hK _ hS)
                 | (rw [HV1.out u hS]; go_simp; (with_reducible exact hK _ hS))
                 | (rw [HV2.out u hS]; go_simp; (with_reducible exact hK _ hS))
                 | (go_at_call 31; (with_reducible refine Calls.mono (HEn.out u hS) ?_); rintro e u2 ⟨hb, v9, rfl, h9⟩
                    obtain rfl : v9 = .nilIface := by
                      rcases h9 with h | h
                      · exact h.2
                      · exact absurd rfl h.1
                    exact hK _ (keepB hb (Nat.le_refl _) hS)))
             simp only [Act.put, List.setIfInBounds_toArray, List.set_cons_zero, List.set_cons_succ]))
        refine keep_nil (fun w9 hS9 => ?_)
        have HB9 := hide (keepB hS9 (Nat.le_refl _) HB8.out)
        clear hS9
        go_wp2
        go_ret
        exact ⟨rfl, HB9.out⟩
end Go.Proofs.YtofflmhfffphdaaDoor.FeedOwnW
