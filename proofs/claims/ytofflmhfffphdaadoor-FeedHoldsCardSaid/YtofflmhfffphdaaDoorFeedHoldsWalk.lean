/- FeedHolds' walk. -/
import Derived.Test.YtofflmhfffphdaaDoorGj
namespace Go.Proofs.YtofflmhfffphdaaDoor.FeedHoldsW
set_option linter.unusedVariables false
set_option linter.unusedSimpArgs false
set_option maxRecDepth 100000
open Go.ChangeShapes Go.WideShapes Go.ChangeAt Go.RowKit
open Go.Proofs.YtofflmhfffphdaaDoor.Wu Go.Proofs.YtofflmhfffphdaaDoor.Sm Go.Proofs.YtofflmhfffphdaaDoor.Sh Go.Proofs.YtofflmhfffphdaaDoor.Ba Go.Proofs.YtofflmhfffphdaaDoor.Bp Go.Proofs.YtofflmhfffphdaaDoor.Bq Go.Proofs.YtofflmhfffphdaaDoor.Bs Go.Proofs.YtofflmhfffphdaaDoor.Cm Go.Proofs.YtofflmhfffphdaaDoor.Er Go.Proofs.YtofflmhfffphdaaDoor.Eu Go.Proofs.YtofflmhfffphdaaDoor.Cw Go.Proofs.YtofflmhfffphdaaDoor.Rk Go.Proofs.YtofflmhfffphdaaDoor.Fa Go.Proofs.YtofflmhfffphdaaDoor.Fb Go.Proofs.YtofflmhfffphdaaDoor.Fh Go.Proofs.YtofflmhfffphdaaDoor.Fi Go.Proofs.YtofflmhfffphdaaDoor.Fo Go.Proofs.YtofflmhfffphdaaDoor.Fq Go.Proofs.YtofflmhfffphdaaDoor.Ga Go.Proofs.YtofflmhfffphdaaDoor.Gb Go.Proofs.YtofflmhfffphdaaDoor.Gc Go.Proofs.YtofflmhfffphdaaDoor.Gd Go.Proofs.YtofflmhfffphdaaDoor.Ge Go.Proofs.YtofflmhfffphdaaDoor.Gf Go.Proofs.YtofflmhfffphdaaDoor.Gh Go.Proofs.YtofflmhfffphdaaDoor.Gi Go.Proofs.YtofflmhfffphdaaDoor.Gj
attribute [local go_sem] kUpon_value kUpon_skip kUpon_enter
def Post (w : World) (e : Ending) (w' : World) : Prop := e = .returned (.bool true) ∧ Below w.heap.size w w'
theorem out_walk (a : Option Addr) (l c : Nat) (piece : Int) (w : World) (he : Et w) (h : 8 < l ∨ piece < 1 ∨ 5000 < piece) (hl : l ≤ 9223372036854775807) :
    Calls Tryd.prog 10 #[.slice a l c, .int .i64 piece] w (Post w) := by
  have HC := hide (feeds_c w he)
  have hcs : (decide ((8 : Int) < (l : Int)) = true ∧ decide (8 < l) = true) ∨ (decide ((8 : Int) < (l : Int)) = false ∧ decide (8 < l) = false ∧ decide (piece < 1) = true) ∨ (decide ((8 : Int) < (l : Int)) = false ∧ decide (8 < l) = false ∧ decide (piece < 1) = false ∧ decide (5000 < piece) = true) := by
    by_cases h1 : 8 < l
    · left; exact ⟨by simp; omega, by simp; omega⟩
    · by_cases h2 : piece < 1
      · right; left; exact ⟨by simp; omega, by simp; omega, by simp; omega⟩
      · right; right; exact ⟨by simp; omega, by simp; omega, by simp; omega, by simp; omega⟩
  clear h
  go_enter Tryd.func10, Tryd.ntmps10
  go_wp2_with fail
  refine HC.out.mono ?_
  rintro e w1 ⟨rfl, hb⟩
  have HB := hide hb
  clear hb HC
  rcases hcs with ⟨e1, e1'⟩ | ⟨e1, e1', e2⟩ | ⟨e1, e1', e2, e3⟩
  all_goals
    go_wp2
    go_ret
    exact ⟨rfl, HB.out⟩
/-- Frames written so far. -/
structure W1 (w : World) (i : Nat) (fs : List Fr) (b : Value) (wr : World) : Prop where
  good : ∀ f ∈ fs, f.good
  few : fs.length ≤ i
  buf : Buf wr b w.heap.size (bytesOf fs)
  len : (bytesOf fs).length ≤ i * 16400
  below : Below w.heap.size w wr
/-- Bytes fed so far. -/
structure W2 (w : World) (F : Nat) (X : List Nat) (z : Nat) (s : FS) (gs : List Fr) (v : Value) (rb : Option Addr) (rc : Nat) (wr : World) : Prop where
  fit : z ≤ X.length
  next : z0.next (X.take z) s gs
  feed : FeedAt wr F v w.heap.size s
  high : ∀ g, v.ownBlock = some g → F < g
  src : SrcB wr rb (X.length - z) (X.drop z)
  room : X.length - z ≤ rc
  max : rc ≤ 9223372036854775807
  low : ∀ ad, rb = some ad → ad.block < F
  non : rb = none → X = []
  below : Below w.heap.size w wr
theorem W2.step {w wr w' : World} {F : Nat} {X : List Nat} {z k : Nat} {s s' : FS} {gs fs' : List Fr} {v v' : Value} {ad : Addr} {rc : Nat} (h : W2 w F X z s gs v (some ad) rc wr) (hk : k ≤ X.length - z) (hFn : w.heap.size ≤ F)
    (hn : s.next ((X.drop z).take k) s' fs') (hf : FeedAt w' F v' w.heap.size s') (hK : Kept wr w' F v.ownBlock) (ho : v'.ownBlock = v.ownBlock ∨ ∀ g, v'.ownBlock = some g → wr.heap.size ≤ g) :
    W2 w F X (z + k) s' (gs ++ fs') v' (if rc = k then some ad else (some ad).map (·.add k)) (rc - k) w' := by
  have hz := h.fit
  have hFw := h.feed.lt
  have hroom := h.room
  have hmax := h.max
  have hsame : ∀ a', some ad = some a' → w'.heap[a'.block]? = wr.heap[a'.block]? := fun a' e => by
    have hl := h.low a' e
    exact hK.block a'.block (by omega) (by omega) (fun e => by have := h.high _ e.symm; omega)
  refine ⟨by omega, ?_, hf, ?_, ?_, by omega, by omega, ?_, ?_, hK.toBelow h.below h.below.size hFn (fun j hj => (Buf.own h.feed.buf j hj).1)⟩
  · have := next_next h.next hn
    rwa [← List.take_add] at this
  · intro g hg
    rcases ho with e | e
    · rw [e] at hg; exact h.high g hg
    · have := e g hg; omega
  · by_cases hc : rc = k
    · rw [if_pos hc]
      have e : X.drop (z + k) = [] := List.drop_eq_nil_of_le (by omega)
      rw [e, show X.length - (z + k) = 0 by omega]
      exact SrcB.nil _ _
    · rw [if_neg hc]
      have h1 := src_mid (h.src.same hsame) k (X.length - z - k) (by omega)
      rw [List.drop_drop, List.take_of_length_le (by rw [List.length_drop]; omega)] at h1
      rw [show X.length - (z + k) = X.length - z - k by omega]
      exact h1
  · intro a' ha'
    split at ha'
    · exact h.low a' ha'
    · simp only [Option.map_some, Option.some.injEq] at ha'
      have := h.low ad rfl
      rw [← ha']
      unfold Addr.add
      split <;> exact this
  · intro e
    split at e <;> cases e
set_option maxHeartbeats 3200000 in
theorem walk (a : Option Addr) (len cap : Nat) (p : Nat) (w : World) (he : Et w) (hf : IsFrames w a len cap) (hl : len ≤ 8) (hp1 : 1 ≤ p) (hp2 : p ≤ 5000) :
    Calls Tryd.prog 10 #[.slice a len cap, .int .i64 (p : Int)] w (Post w) := by
  have HC := hide (feeds_c w he)
  have HE : Hid (∀ u, Below w.heap.size w u → Et u) := hide (fun u hu => he.below hu (Nat.le_refl _))
  have HFs := hide hf.2.2
  have hcap := hf.1
  have hcap2 := hf.2.1
  clear he hf
  have d1 : decide ((8 : Int) < (len : Int)) = false := by simp; omega
  have d1' : decide (8 < len) = false := by simp; omega
  have d2 : decide ((p : Int) < 1) = false := by simp; omega
  have d3 : decide ((5000 : Int) < (p : Int)) = false := by simp; omega
  have d3' : decide (5000 < p) = false := by simp; omega
  go_enter Tryd.func10, Tryd.ntmps10
  go_wp2_with fail
  refine HC.out.mono ?_
  rintro e w1 ⟨rfl, hb⟩
  have HB1 := hide hb
  clear hb HC
  go_wp2_with fail
  have H0 : Hid (W1 w 0 [] (.slice none 0 0) w1) := hide ⟨(by intro f hf; cases hf), Nat.le_refl _, .inl ⟨rfl, rfl⟩, (by simp [bytesOf]), HB1.out⟩
  go_loopw [29, 5, 6] (fun j b n wr => ∃ i fs, j = .int .i64 ((i : Nat) : Int) ∧ i ≤ len ∧ n = .int .i64 ((fs.length : Nat) : Int) ∧ W1 w i fs b wr) (fun j _ _ _ => len - (intOf j).toNat)
  case atStart => exact ⟨0, [], rfl, Nat.zero_le _, rfl, H0.out⟩
  case round =>
    clear H0 HB1
    obtain ⟨i, fs, rfl, hi, rfl, hW⟩ := hrel
    have HW := hide hW
    have hfew := hW.few
    clear hW
    by_cases hlt : i < len
    · obtain ⟨xb, xo, ha, hcells⟩ := HFs.out (by omega)
      obtain ⟨k, s, b, l, c, D, c0, c1, c2, hd⟩ := hcells i hlt
      subst ha
      have k0 := keepC HW.out.below (Nat.le_refl _) c0
      have k1 := keepC HW.out.below (Nat.le_refl _) c1
      have k2 := keepC HW.out.below (Nat.le_refl _) c2
      have HD := hide hd
      clear hcells c0 c1 c2 hd
      rw [Nat.add_zero] at k0
      have hb8 := below_new wr (.cells #[.int .i64 k, .int .i64 s, .slice b l c] 56)
      have hB8 := keepB hb8 (Nat.le_refl _) HW.out.below
      have hlD := HD.out.1.1
      have hlm : l ≤ 9223372036854775807 := by have := HD.out.2.1; have := HD.out.2.2.1; omega
      by_cases hk : chk k s l = 0
      · obtain ⟨g1, g2, g3, g4, g5⟩ := chk_good hk
        obtain ⟨k, rfl⟩ := Int.eq_ofNat_of_zero_le (a := k) (by omega)
        obtain ⟨s, rfl⟩ := Int.eq_ofNat_of_zero_le (a := s) (by omega)
        have HA := hide (append_buf k s b l c w.heap.size u5 (bytesOf fs) D _ (HW.out.buf.up hb8) hB8.size ((HD.out.1.below HW.out.below).below hb8) HD.out.2.2.2 (by have := HW.out.len; omega) (by omega) (by omega) (by omega) g5 HD.out.2.1)
        have HB8 := hide hB8
        clear hb8 hB8 hk
        go_wp2_with fail
        generalize wr.alloc (.cells #[.int .i64 (k : Int), .int .i64 (s : Int), .slice b l c] 56) = w8 at *
        refine HA.out.mono ?_
        rintro e w9 ⟨v9, rfl, hbuf, hb9⟩
        have hgood : Fr.good ⟨k, s, D⟩ := ⟨show 1 ≤ k by omega, show k ≤ 31 by omega, show s ≤ 7 by omega, show D.length ≤ 16384 by omega⟩
        have HN : Hid (W1 w (i + 1) (fs ++ [⟨k, s, D⟩]) v9 w9) := hide ⟨by
            intro f hf
            rcases List.mem_append.1 hf with h | h
            · exact HW.out.good f h
            · simp only [List.mem_singleton] at h; subst h; exact hgood, by simp only [List.length_append, List.length_cons, List.length_nil]; omega, by rw [bytesOf_snoc]; exact hbuf, by
            rw [bytesOf_snoc, List.length_append]
            have := frL_max ⟨k, s, D⟩ hgood
            have := HW.out.len
            simp only at *
            omega, HB8.out.trans hb9⟩
        clear hbuf hb9 hgood HA HB8 k0 k1 k2
        go_wp2
        go_roundw
        case rel => exact ⟨i + 1, _, by go_num, by omega, by simp, HN.out⟩
        case measure => simp [intOf]; omega
      · have HA := hide (append_bad k s b l c u5 (wr.alloc (.cells #[.int .i64 k, .int .i64 s, .slice b l c] 56)) hlm hk)
        have HN : Hid (∀ u, Below (wr.alloc (.cells #[.int .i64 k, .int .i64 s, .slice b l c] 56)).heap.size (wr.alloc (.cells #[.int .i64 k, .int .i64 s, .slice b l c] 56)) u → W1 w (i + 1) fs u5 u) := hide (fun u hu => ⟨HW.out.good, by omega, (HW.out.buf.up hb8).up hu, by have := HW.out.len; omega, keepB hu (Nat.le_refl _) hB8⟩)
        obtain ⟨z, hz⟩ : ∃ z, z = chk k s l := ⟨_, rfl⟩
        rw [← hz] at hk HA
        have e1 : (z == 0) = false := by simp; exact hk
        clear hz hk hb8 hB8
        go_wp2_with fail
        refine HA.out.mono ?_
        rintro e w9 ⟨rfl, hb9⟩
        have HN9 := hide (HN.out w9 hb9)
        clear hb9 HA HN k0 k1 k2
        go_wp2
        go_roundw
        case rel => exact ⟨i + 1, fs, by go_num, by omega, rfl, HN9.out⟩
        case measure => simp [intOf]; omega
    · have hil : i = len := by omega
      subst hil
      have hgood := HW.out.good
      have hXl : (bytesOf fs).length ≤ 131200 := by have := HW.out.len; omega
      have HAll := hide (fed_all fs hgood)
      have hF := FeedAt.new wr w.heap.size
      have hbF := below_new wr (.cells #[.slice none 0 0, .int .i64 0, .int .i64 0, .int .i64 0] 44)
      obtain ⟨X, hX⟩ : ∃ X, X = bytesOf fs := ⟨_, rfl⟩
      have hbuf := HW.out.buf
      rw [← hX] at HAll hXl hbuf
      clear hX hgood
      have hown := Buf.own hbuf
      obtain ⟨rb, rc, rfl, hsrc, hroom, hmax, hnil⟩ := hbuf.form
      unfold maxLen at hmax
      have hFw : w.heap.size ≤ wr.heap.size := HW.out.below.size
      have H0 : Hid (W2 w wr.heap.size X 0 z0 [] (.slice none 0 0) rb rc (wr.alloc (.cells #[.slice none 0 0, .int .i64 0, .int .i64 0, .int .i64 0] 44))) := hide ⟨Nat.zero_le _, .inr ⟨rfl, 0, 30, 0, fed_nil, rfl⟩, hF, (fun g hg => by cases hg), by simpa using hsrc.below hbF, by omega, by omega, (fun ad e => (hown ad.block (by rw [e]; rfl)).2), (fun e => List.length_eq_zero_iff.1 (hnil e).1), keepB hbF (Nat.le_refl _) HW.out.below⟩
      clear hF hbF hown hsrc hroom hmax hnil hbuf HW
      have hflen : fs.length ≤ 8 := by omega
      go_wp2_with fail
      generalize wr.alloc (.cells #[.slice none 0 0, .int .i64 0, .int .i64 0, .int .i64 0] 44) = w2 at *
      generalize wr.heap.size = F at *
      go_loopw [5, 12] (fun b got wr => ∃ z s gs v rb rc, b = .slice rb (X.length - z) rc ∧ got = .int .i64 ((gs.length : Nat) : Int) ∧ W2 w F X z s gs v rb rc wr) (fun b _ _ => match b with | .slice _ n _ => n | _ => 0)
      case atStart => exact ⟨0, z0, [], _, rb, rc, by simp, rfl, H0.out⟩
      case round =>
        clear H0
        obtain ⟨z, s, gs, v, rb, rc, rfl, rfl, hW⟩ := hrel
        have HW := hide hW
        have hz := hW.fit
        have hroom := hW.room
        have hmax := hW.max
        have hnf := next_fits hW.next
        simp only [z0, List.length_nil, List.length_take] at hnf
        clear hW
        obtain ⟨n0, hn0⟩ : ∃ n0, n0 = X.length - z := ⟨_, rfl⟩
        rw [← hn0] at hroom ⊢
        have Hn0 := hide hn0
        by_cases h0 : 0 < n0
        · obtain ⟨ad, hrb⟩ : ∃ ad, rb = some ad := by
            cases hrb : rb with
            | none =>
              have := HW.out.non hrb
              rw [this] at hn0
              simp at hn0
              omega
            | some ad => exact ⟨ad, rfl⟩
          subst hrb
          clear hn0
          obtain ⟨b0, o0, hbo⟩ : ∃ b0 o0, ad = ⟨b0, o0, none⟩ := by
            obtain ⟨_, _, b0, o0, hab, _⟩ := HW.out.src
            have := hab (by have := Hn0.out; omega)
            injection this with this
            exact ⟨b0, o0, this⟩
          subst hbo
          have hn0b : n0 ≤ 131200 := by have := Hn0.out; omega
          have e0 : decide ((0 : Int) < (n0 : Int)) = true := by simp; omega
          have e0' : decide (0 < n0) = true := by simp; omega
          obtain ⟨k, hk⟩ : ∃ k : Nat, min (p : Int) (n0 : Int) = (k : Int) := ⟨min p n0, by omega⟩
          have hk1 : 1 ≤ k := by omega
          have hk2 : k ≤ n0 := by omega
          have hsl0 : ∀ u : World, _ := fun u => slice_from u (some ⟨b0, o0, none⟩) n0 rc k hk2
          obtain ⟨ra, hra⟩ : ∃ ra : Option Addr, ra = (if rc = k then some (⟨b0, o0, none⟩ : Addr) else (some (⟨b0, o0, none⟩ : Addr)).map (·.add k)) := ⟨_, rfl⟩
          rw [← hra] at hsl0
          have HSt := hide (fun (w' : World) (s' : FS) (fs' : List Fr) (v' : Value) => W2.step (k := k) (w' := w') (s' := s') (fs' := fs') (v' := v') HW.out (by have := Hn0.out; omega))
          rw [← hra] at HSt
          clear hra
          have hkc : k ≤ rc := by omega
          have HS1 := hide (src_mid HW.out.src 0 k (by have := Hn0.out; omega))
          rw [List.drop_zero] at HS1
          simp only [Option.map_some, Addr.add_mid, Nat.add_zero] at HS1
          have hFn : w.heap.size ≤ F := hFw
          have hzz := HW.out.feed.lt
          go_wp2_with fail
          (with_reducible refine Calls.mono (add_c wr F v w.heap.size s (some ⟨b0, o0, none⟩) k rc ((X.drop z).take k) HW.out.feed HS1.out (fun h => by cases h) HW.out.below.size hFn (fun u hu => HE.out u (HW.out.below.trans hu)) (by rw [List.length_take, List.length_drop]; omega) (by omega)) ?_)
          rintro e w7 ⟨u7, v7, s7, fs7, rfl, hn7, hf7, hr7, hk7, ho7⟩
          have HN := hide (HSt.out _ _ _ _ hFn hn7 hf7 hk7 ho7)
          obtain ⟨au, cu, hu7, -, -⟩ := hr7.form
          subst hu7
          have hfs7 := (next_fits hn7).2.2
          rw [List.length_take, List.length_drop] at hfs7
          have hheld := next_held HN.out.next (by simp [z0])
          obtain ⟨av, cv, hv7, -⟩ := hf7.buf.form
          subst hv7
          have HH := hide (held_c hf7.cells)
          obtain ⟨hl7, hhl⟩ : ∃ hl7, hl7 = s7.held.length := ⟨_, rfl⟩
          rw [← hhl] at HH hheld
          have e5 : decide ((16391 : Int) < (hl7 : Int)) = false := by simp; omega
          have e5' : decide (16391 < hl7) = false := by simp; omega
          have hgl := hnf.2.2
          clear hhl hn7 hf7 hr7 hk7 ho7 HSt HS1 HW
          go_wp2_with fail
          refine HH.out.mono ?_
          rintro e w8 ⟨rfl, rfl⟩
          clear HH
          go_wp2
          go_roundw
          case rel =>
            refine ⟨z + k, s7, gs ++ fs7, _, ra, rc - k, ?_, ?_, HN.out⟩
            · rw [show X.length - (z + k) = n0 - k by have := Hn0.out; omega]
            · rw [List.length_append]; simp
          case measure => show n0 - k < n0; omega
        · have hzX : z = X.length := by omega
          have hn := HW.out.next
          rw [hzX, List.take_length] at hn
          obtain ⟨e1, e2⟩ := next_ok hn rfl HAll.out
          have e3 : s.held = [] ∧ s.fe = 0 := by
            rw [e2]
            unfold FS.after
            rw [if_pos rfl]
            exact ⟨List.drop_eq_nil_of_le (by simp [z0]), rfl⟩
          subst e1
          obtain ⟨av, cv, hv, -⟩ := HW.out.feed.buf.form
          have hcell := HW.out.feed.cells
          rw [hv] at hcell
          have hEn := Gc.end_c s hcell (by rw [e3.1]; simp) (by omega)
          have hE0 : endE s = 0 := by unfold endE; rw [e3.1, e3.2]; simp
          rw [hE0] at hEn
          have hHe := held_c hcell
          rw [e3.1] at hHe
          have HEn := hide hEn
          have HHe := hide hHe
          have HB := hide HW.out.below
          have hn00 : n0 = 0 := by omega
          clear hn0 Hn0
          subst hn00
          clear hn e2 e3 hv hcell hEn hE0 hHe HW hroom
          go_wp2_with fail
          refine HHe.out.mono ?_
          rintro e w8 ⟨rfl, rfl⟩
          go_wp2_with fail
          refine HEn.out.mono ?_
          rintro e w8 ⟨hb8, v8, rfl, h8⟩
          obtain rfl : v8 = .nilIface := by
            rcases h8 with h | h
            · exact h.2
            · exact absurd rfl h.1
          have HB8 := hide (keepB hb8 (Nat.le_refl _) HB.out)
          clear hb8 h8 HB
          go_wp2
          go_ret
          exact ⟨rfl, HB8.out⟩
end Go.Proofs.YtofflmhfffphdaaDoor.FeedHoldsW
