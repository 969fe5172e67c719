/- The reference's rounds. -/
import Derived.Test.YtpaijhmbfljfmaaDoorSza
namespace Go.Proofs.YtpaijhmbfljfmaaDoor.Sz7
set_option linter.unusedVariables false
set_option linter.unusedSimpArgs false
set_option maxRecDepth 1000000
open Go.ChangeShapes Go.WideShapes Go.ChangeAt Go.RowKit
open Go.Proofs.YtpaijhmbfljfmaaDoor.Wu Go.Proofs.YtpaijhmbfljfmaaDoor.Sm Go.Proofs.YtpaijhmbfljfmaaDoor.Sk Go.Proofs.YtpaijhmbfljfmaaDoor.Sc Go.Proofs.YtpaijhmbfljfmaaDoor.Sxa Go.Proofs.YtpaijhmbfljfmaaDoor.Sh Go.Proofs.YtpaijhmbfljfmaaDoor.Sn Go.Proofs.YtpaijhmbfljfmaaDoor.Sw0 Go.Proofs.YtpaijhmbfljfmaaDoor.Sf Go.Proofs.YtpaijhmbfljfmaaDoor.So Go.Proofs.YtpaijhmbfljfmaaDoor.Sv Go.Proofs.YtpaijhmbfljfmaaDoor.Ap Go.Proofs.YtpaijhmbfljfmaaDoor.Sr Go.Proofs.YtpaijhmbfljfmaaDoor.Srf0 Go.Proofs.YtpaijhmbfljfmaaDoor.Srf1 Go.Proofs.YtpaijhmbfljfmaaDoor.Rk Go.Proofs.YtpaijhmbfljfmaaDoor.Sza
attribute [local go_sem] kUpon_value kUpon_skip kUpon_enter
set_option maxHeartbeats 12800000 in
theorem loop7 (c0 c1 c4 c5 c11 c12 c13 c14 c15 c22 c23 c24 c25 c26 c27 c28 c29 c30 c31 c32 c33 c34 c35 c36 c37 c38 c39 c40 c41 c42 c43 c44 c45 c46 c47 c48 c49 c50 c51 c52 c53 c54 c55 c56 c57 c58 c59 c60 c61 c62 c63 c64 c65 c66 c67 c68 c69 c70 c71 c72 c73 c74 c75 c76 c77 c78 c79 c80 c81 c82 c83 c84 c85 c86 c87 c88 c89 c90 c91 c92 c93 c94 c95 c96 c97 c98 c99 c100 c101 c102 c103 c104 c105 c106 c107 c108 c109 c110 c111 c112 c113 c114 c115 c116 c117 c118 c119 c120 c121 c122 c123 c124 c125 c126 c127 c128 c129 c130 c131 c132 c133 c134 c135 c136 c137 c138 c261 c262 c263 c264 c265 c266 c267 c268 c269 c270 c271 c272 c273 c274 c275 c276 c277 c278 c279 c280 c281 c282 c283 c284 c285 c286 c287 c288 c289 c290 c291 c292 c293 c294 c295 c296 c297 c298 u18 u19 u20 u21 u139 u140 u141 u142 u143 u144 u145 u146 u147 u148 u149 u150 u151 u152 u153 u154 u155 u156 u157 u158 u159 u160 u161 u162 u163 u164 u165 u166 u167 u168 u169 u170 u171 u172 u173 u174 u175 u176 u177 u178 u179 u180 u181 u182 u183 u184 u185 u186 u187 u188 u189 u190 u191 u192 u193 u194 u195 u196 u197 u198 u199 u200 u201 u202 u203 u204 u205 u206 u207 u208 u209 u210 u211 u212 u213 u214 u215 u216 u217 u218 u219 u220 u221 u222 u223 u224 u225 u226 u227 u228 u229 u230 u231 u232 u233 u234 u235 u236 u237 u238 u239 u240 u241 u242 u243 u244 u245 u246 u247 u248 u249 u250 u251 u252 u253 u254 u255 u256 u257 u258 u259 u260 : Value) (w wr : World) (KB HB g nb cap q WB P n : Nat) (PM : List Nat) (s : S8) (Q : Exit → Act → World → Prop) (hP : P = 64 * q) (hn : n = 64 * nb) (VB vc : Nat) (hvc : 8 ≤ vc) (hvm : vc ≤ 9223372036854775807) (hE : E2 w wr KB HB g nb cap PM s WB (sched (blk PM q))) (hV : V8 wr VB s) (hs : s.ok) (h8 : All8 PM)
    (hexit : ∀ (x17 x18 x19 x20 x21 x139 x140 x141 x142 x143 x144 x145 x146 x147 x148 x149 x150 x151 x152 x153 x154 x155 x156 x157 x158 x159 x160 x161 x162 x163 x164 x165 x166 x167 x168 x169 x170 x171 x172 x173 x174 x175 x176 x177 x178 x179 x180 x181 x182 x183 x184 x185 x186 x187 x188 x189 x190 x191 x192 x193 x194 x195 x196 x197 x198 x199 x200 x201 x202 x203 x204 x205 x206 x207 x208 x209 x210 x211 x212 x213 x214 x215 x216 x217 x218 x219 x220 x221 x222 x223 x224 x225 x226 x227 x228 x229 x230 x231 x232 x233 x234 x235 x236 x237 x238 x239 x240 x241 x242 x243 x244 x245 x246 x247 x248 x249 x250 x251 x252 x253 x254 x255 x256 x257 x258 x259 x260 : Value) (vb vx : Nat) (wx : World), 8 ≤ vx → vx ≤ 9223372036854775807 → E2 w wx KB HB g nb cap PM s WB (sched (blk PM q)) → V8 wx vb (rounds (sched (blk PM q)) s 64) → vb ≠ HB → Q (.exit 12) ⟨List.toArray (c0 :: c1 :: (.pointer (some ⟨w.heap.size, 0, none⟩) : Value) :: (.slice (some ⟨g, 0, none⟩) n cap : Value) :: c4 :: c5 :: (.slice (some ⟨KB, 0, none⟩) 64 64 : Value) :: (.int .u64 4294967296 : Value) :: (.slice (some ⟨HB, 0, none⟩) 8 8 : Value) :: (.int .i64 (P : Int) : Value) :: (.slice (some ⟨WB, 0, none⟩) 64 64 : Value) :: c11 :: c12 :: c13 :: c14 :: c15 :: (.slice (some ⟨vb, 0, none⟩) 8 vx : Value) :: x17 :: x18 :: x19 :: x20 :: x21 :: c22 :: c23 :: c24 :: c25 :: c26 :: c27 :: c28 :: c29 :: c30 :: c31 :: c32 :: c33 :: c34 :: c35 :: c36 :: c37 :: c38 :: c39 :: c40 :: c41 :: c42 :: c43 :: c44 :: c45 :: c46 :: c47 :: c48 :: c49 :: c50 :: c51 :: c52 :: c53 :: c54 :: c55 :: c56 :: c57 :: c58 :: c59 :: c60 :: c61 :: c62 :: c63 :: c64 :: c65 :: c66 :: c67 :: c68 :: c69 :: c70 :: c71 :: c72 :: c73 :: c74 :: c75 :: c76 :: c77 :: c78 :: c79 :: c80 :: c81 :: c82 :: c83 :: c84 :: c85 :: c86 :: c87 :: c88 :: c89 :: c90 :: c91 :: c92 :: c93 :: c94 :: c95 :: c96 :: c97 :: c98 :: c99 :: c100 :: c101 :: c102 :: c103 :: c104 :: c105 :: c106 :: c107 :: c108 :: c109 :: c110 :: c111 :: c112 :: c113 :: c114 :: c115 :: c116 :: c117 :: c118 :: c119 :: c120 :: c121 :: c122 :: c123 :: c124 :: c125 :: c126 :: c127 :: c128 :: c129 :: c130 :: c131 :: c132 :: c133 :: c134 :: c135 :: c136 :: c137 :: c138 :: x139 :: x140 :: x141 :: x142 :: x143 :: x144 :: x145 :: x146 :: x147 :: x148 :: x149 :: x150 :: x151 :: x152 :: x153 :: x154 :: x155 :: x156 :: x157 :: x158 :: x159 :: x160 :: x161 :: x162 :: x163 :: x164 :: x165 :: x166 :: x167 :: x168 :: x169 :: x170 :: x171 :: x172 :: x173 :: x174 :: x175 :: x176 :: x177 :: x178 :: x179 :: x180 :: x181 :: x182 :: x183 :: x184 :: x185 :: x186 :: x187 :: x188 :: x189 :: x190 :: x191 :: x192 :: x193 :: x194 :: x195 :: x196 :: x197 :: x198 :: x199 :: x200 :: x201 :: x202 :: x203 :: x204 :: x205 :: x206 :: x207 :: x208 :: x209 :: x210 :: x211 :: x212 :: x213 :: x214 :: x215 :: x216 :: x217 :: x218 :: x219 :: x220 :: x221 :: x222 :: x223 :: x224 :: x225 :: x226 :: x227 :: x228 :: x229 :: x230 :: x231 :: x232 :: x233 :: x234 :: x235 :: x236 :: x237 :: x238 :: x239 :: x240 :: x241 :: x242 :: x243 :: x244 :: x245 :: x246 :: x247 :: x248 :: x249 :: x250 :: x251 :: x252 :: x253 :: x254 :: x255 :: x256 :: x257 :: x258 :: x259 :: x260 :: c261 :: c262 :: c263 :: c264 :: c265 :: c266 :: c267 :: c268 :: c269 :: c270 :: c271 :: c272 :: c273 :: c274 :: c275 :: c276 :: c277 :: c278 :: c279 :: c280 :: c281 :: c282 :: c283 :: c284 :: c285 :: c286 :: c287 :: c288 :: c289 :: c290 :: c291 :: c292 :: c293 :: c294 :: c295 :: c296 :: c297 :: c298 :: []), []⟩ wx) (hvh : VB ≠ HB) :
    Code.wp Tryd.prog (lc 6) Q ⟨List.toArray (c0 :: c1 :: (.pointer (some ⟨w.heap.size, 0, none⟩) : Value) :: (.slice (some ⟨g, 0, none⟩) n cap : Value) :: c4 :: c5 :: (.slice (some ⟨KB, 0, none⟩) 64 64 : Value) :: (.int .u64 4294967296 : Value) :: (.slice (some ⟨HB, 0, none⟩) 8 8 : Value) :: (.int .i64 (P : Int) : Value) :: (.slice (some ⟨WB, 0, none⟩) 64 64 : Value) :: c11 :: c12 :: c13 :: c14 :: c15 :: (.slice (some ⟨VB, 0, none⟩) 8 vc : Value) :: (.int .i64 0 : Value) :: u18 :: u19 :: u20 :: u21 :: c22 :: c23 :: c24 :: c25 :: c26 :: c27 :: c28 :: c29 :: c30 :: c31 :: c32 :: c33 :: c34 :: c35 :: c36 :: c37 :: c38 :: c39 :: c40 :: c41 :: c42 :: c43 :: c44 :: c45 :: c46 :: c47 :: c48 :: c49 :: c50 :: c51 :: c52 :: c53 :: c54 :: c55 :: c56 :: c57 :: c58 :: c59 :: c60 :: c61 :: c62 :: c63 :: c64 :: c65 :: c66 :: c67 :: c68 :: c69 :: c70 :: c71 :: c72 :: c73 :: c74 :: c75 :: c76 :: c77 :: c78 :: c79 :: c80 :: c81 :: c82 :: c83 :: c84 :: c85 :: c86 :: c87 :: c88 :: c89 :: c90 :: c91 :: c92 :: c93 :: c94 :: c95 :: c96 :: c97 :: c98 :: c99 :: c100 :: c101 :: c102 :: c103 :: c104 :: c105 :: c106 :: c107 :: c108 :: c109 :: c110 :: c111 :: c112 :: c113 :: c114 :: c115 :: c116 :: c117 :: c118 :: c119 :: c120 :: c121 :: c122 :: c123 :: c124 :: c125 :: c126 :: c127 :: c128 :: c129 :: c130 :: c131 :: c132 :: c133 :: c134 :: c135 :: c136 :: c137 :: c138 :: u139 :: u140 :: u141 :: u142 :: u143 :: u144 :: u145 :: u146 :: u147 :: u148 :: u149 :: u150 :: u151 :: u152 :: u153 :: u154 :: u155 :: u156 :: u157 :: u158 :: u159 :: u160 :: u161 :: u162 :: u163 :: u164 :: u165 :: u166 :: u167 :: u168 :: u169 :: u170 :: u171 :: u172 :: u173 :: u174 :: u175 :: u176 :: u177 :: u178 :: u179 :: u180 :: u181 :: u182 :: u183 :: u184 :: u185 :: u186 :: u187 :: u188 :: u189 :: u190 :: u191 :: u192 :: u193 :: u194 :: u195 :: u196 :: u197 :: u198 :: u199 :: u200 :: u201 :: u202 :: u203 :: u204 :: u205 :: u206 :: u207 :: u208 :: u209 :: u210 :: u211 :: u212 :: u213 :: u214 :: u215 :: u216 :: u217 :: u218 :: u219 :: u220 :: u221 :: u222 :: u223 :: u224 :: u225 :: u226 :: u227 :: u228 :: u229 :: u230 :: u231 :: u232 :: u233 :: u234 :: u235 :: u236 :: u237 :: u238 :: u239 :: u240 :: u241 :: u242 :: u243 :: u244 :: u245 :: u246 :: u247 :: u248 :: u249 :: u250 :: u251 :: u252 :: u253 :: u254 :: u255 :: u256 :: u257 :: u258 :: u259 :: u260 :: c261 :: c262 :: c263 :: c264 :: c265 :: c266 :: c267 :: c268 :: c269 :: c270 :: c271 :: c272 :: c273 :: c274 :: c275 :: c276 :: c277 :: c278 :: c279 :: c280 :: c281 :: c282 :: c283 :: c284 :: c285 :: c286 :: c287 :: c288 :: c289 :: c290 :: c291 :: c292 :: c293 :: c294 :: c295 :: c296 :: c297 :: c298 :: []), []⟩ wr := by
  conv => arg 2; whnf
  have HE := hide hE
  have HV := hide hV
  have Hx := hide hexit
  clear hE hV hexit hP hn
  go_loopw [17, 16] (fun c v wr => ∃ i VB vc : Nat, c = .int .i64 (i : Int) ∧ v = .slice (some ⟨VB, 0, none⟩) 8 vc ∧ i ≤ 64 ∧ 8 ≤ vc ∧ vc ≤ 9223372036854775807 ∧ VB ≠ HB ∧ E2 w wr KB HB g nb cap PM s WB (sched (blk PM q)) ∧ V8 wr VB (rounds (sched (blk PM q)) s i)) (fun c _ _ => 64 - (intOf c).toNat)
  case atStart => exact ⟨0, VB, vc, rfl, rfl, Nat.zero_le _, hvc, hvm, hvh, HE.out, HV.out⟩
  case round =>
    clear HE HV hvh hvc hvm
    obtain ⟨i, VB, vc, rfl, rfl, hi, hvc, hvm, hvh, hE, hV⟩ := hrel
    have HE := hide hE
    have HV := hide hV
    clear hE hV
    by_cases hlt : i < 64
    · have d1 : decide ((i : Int) < 64) = true := by simp; omega
      have d1' : decide (i < 64) = true := by simp; omega
      have li : (i : Int) < 64 := by omega
      have hsl := sched_length (blk PM q)
      have bW := all32_getD (sched_all (all8_blk h8 q)) i
      have bK := all32_getD Ks_all i
      have XW := hide (row64 HE.out.row (i := i) (by rw [hsl]; exact hlt))
      have XK := hide (row64 HE.out.env.ks (i := i) (by rw [Ks_length]; exact hlt))
      have hro : rounds (sched (blk PM q)) s (i + 1) = (rounds (sched (blk PM q)) s i).step (Ks.getD i 0) ((sched (blk PM q)).getD i 0) := rfl
      have HRo := hide hro
      have tok := rounds_ok hs (sched (blk PM q)) i
      generalize rounds (sched (blk PM q)) s i = t at *
      generalize (sched (blk PM q)).getD i 0 = X at *
      generalize Ks.getD i 0 = K at *
      obtain ⟨ba, bb, bc, bd, be, bf, bg, bh⟩ := S8.bd tok
      obtain ⟨ta, tb, tc, td, te, tf, tg, th⟩ := t
      simp only at ba bb bc bd be bf bg bh
      clear hro hsl tok
      go_wp2_with fail
      have mixed : Tryd.prog.follows Departure.mixedOrders = true := by kernel_rfl
      have HR := hide (fun (x n k : Nat) (hx : x < 4294967296) (hn : 1 ≤ n) (hn' : n ≤ 31) => right_c x n (wr.drewN k) hx hn hn')
      refine wp_region_keep (fun u => ∃ k, u = wr.drewN k) mixed (by kernel_rfl) ⟨1, rfl⟩ ?_
      repeat (first
        | (refine keep_step (v := ?_) (by rfl) (fun u K hS hK => ?_) ?_
           rotate_left
           · obtain ⟨nn, rfl⟩ := hS
             have ye : (wr.drewN nn).cell? ⟨VB, 4, none⟩ = _ := HV.out.e
             have yf : (wr.drewN nn).cell? ⟨VB, 5, none⟩ = _ := HV.out.f
             have yg : (wr.drewN nn).cell? ⟨VB, 6, none⟩ = _ := HV.out.g
             (go_simp; first
               | (with_reducible exact hK _ ⟨nn, rfl⟩))
           simp only [Act.put, List.setIfInBounds_toArray, List.set_cons_zero, List.set_cons_succ]))
      refine keep_nil (fun w3 hS3 => ?_)
      obtain ⟨k3, rfl⟩ := hS3
      rw [chs_eq te tf tg be bf bg]
      have bC := chs_lt (x := te) bf bg
      obtain ⟨C, hC⟩ : ∃ C, C = chs te tf tg := ⟨_, rfl⟩
      rw [← hC] at bC ⊢
      have HC := hide hC
      clear hC
      go_wp2_with fail
      refine wp_region_keep (fun u => ∃ k, u = wr.drewN k) mixed (by kernel_rfl) ⟨k3 + 1, rfl⟩ ?_
      repeat (first
        | (refine keep_step (v := ?_) (by rfl) (fun u K hS hK => ?_) ?_
           rotate_left
           · obtain ⟨nn, rfl⟩ := hS
             have ya : (wr.drewN nn).cell? ⟨VB, 0, none⟩ = _ := HV.out.a
             have yb : (wr.drewN nn).cell? ⟨VB, 1, none⟩ = _ := HV.out.b
             have yc : (wr.drewN nn).cell? ⟨VB, 2, none⟩ = _ := HV.out.c
             (go_simp; first
               | (with_reducible exact hK _ ⟨nn, rfl⟩))
           simp only [Act.put, List.setIfInBounds_toArray, List.set_cons_zero, List.set_cons_succ]))
      refine keep_nil (fun w3 hS3 => ?_)
      obtain ⟨k4, rfl⟩ := hS3
      rw [maj_eq ta tb tc ba bb bc]
      have bM := maj_lt (x := ta) bb bc
      obtain ⟨M, hM⟩ : ∃ M, M = maj ta tb tc := ⟨_, rfl⟩
      rw [← hM] at bM ⊢
      have HM := hide hM
      clear hM
      go_wp2_with fail
      refine wp_region_keep (fun u => ∃ k, u = wr.drewN k) mixed (by kernel_rfl) ⟨k4 + 1, rfl⟩ ?_
      repeat (first
        | (refine keep_step (v := ?_) (by rfl) (fun u K hS hK => ?_) ?_
           rotate_left
           · obtain ⟨nn, rfl⟩ := hS
             have yh : (wr.drewN nn).cell? ⟨VB, 7, none⟩ = _ := HV.out.h
             have ye : (wr.drewN nn).cell? ⟨VB, 4, none⟩ = _ := HV.out.e
             have yK : (wr.drewN nn).cell? ⟨KB, i, none⟩ = _ := XK.out
             have yW : (wr.drewN nn).cell? ⟨WB, i, none⟩ = _ := XW.out
             (go_simp; first
               | (with_reducible exact hK _ ⟨nn, rfl⟩)
               | (go_at_call 61; (with_reducible refine Calls.mono (HR.out te 6 nn be (by omega) (by omega)) ?_); rintro e u2 ⟨rfl, kk, rfl⟩; exact hK _ ⟨nn + kk, drewN_add _ _ _⟩)
               | (go_at_call 61; (with_reducible refine Calls.mono (HR.out te 11 nn be (by omega) (by omega)) ?_); rintro e u2 ⟨rfl, kk, rfl⟩; exact hK _ ⟨nn + kk, drewN_add _ _ _⟩)
               | (go_at_call 61; (with_reducible refine Calls.mono (HR.out te 25 nn be (by omega) (by omega)) ?_); rintro e u2 ⟨rfl, kk, rfl⟩; exact hK _ ⟨nn + kk, drewN_add _ _ _⟩))
           simp only [Act.put, List.setIfInBounds_toArray, List.set_cons_zero, List.set_cons_succ]))
      refine keep_nil (fun w3 hS3 => ?_)
      obtain ⟨k5, rfl⟩ := hS3
      rw [one_eq th te C K X bh be bC bK bW]
      have b1 := bS1_lt be
      obtain ⟨O, hO⟩ : ∃ O, O = th + bS1 te + C + K + X := ⟨_, rfl⟩
      rw [← hO]
      have bO : O < 68719476736 := by omega
      have HO := hide hO
      clear hO
      go_wp2_with fail
      refine wp_region_keep (fun u => ∃ k, u = wr.drewN k) mixed (by kernel_rfl) ⟨k5 + 1, rfl⟩ ?_
      repeat (first
        | (refine keep_step (v := ?_) (by rfl) (fun u K hS hK => ?_) ?_
           rotate_left
           · obtain ⟨nn, rfl⟩ := hS
             have ya : (wr.drewN nn).cell? ⟨VB, 0, none⟩ = _ := HV.out.a
             (go_simp; first
               | (with_reducible exact hK _ ⟨nn, rfl⟩)
               | (go_at_call 61; (with_reducible refine Calls.mono (HR.out ta 2 nn ba (by omega) (by omega)) ?_); rintro e u2 ⟨rfl, kk, rfl⟩; exact hK _ ⟨nn + kk, drewN_add _ _ _⟩)
               | (go_at_call 61; (with_reducible refine Calls.mono (HR.out ta 13 nn ba (by omega) (by omega)) ?_); rintro e u2 ⟨rfl, kk, rfl⟩; exact hK _ ⟨nn + kk, drewN_add _ _ _⟩)
               | (go_at_call 61; (with_reducible refine Calls.mono (HR.out ta 22 nn ba (by omega) (by omega)) ?_); rintro e u2 ⟨rfl, kk, rfl⟩; exact hK _ ⟨nn + kk, drewN_add _ _ _⟩))
           simp only [Act.put, List.setIfInBounds_toArray, List.set_cons_zero, List.set_cons_succ]))
      refine keep_nil (fun w3 hS3 => ?_)
      obtain ⟨k6, rfl⟩ := hS3
      rw [two_eq ta M ba bM]
      have b0 := bS0_lt ba
      obtain ⟨T, hT⟩ : ∃ T, T = bS0 ta + M := ⟨_, rfl⟩
      rw [← hT]
      have bT : T < 68719476736 := by omega
      have HT := hide hT
      clear hT
      go_wp2_with fail
      refine wp_region_keep_tail 30 (fun u => ∃ k, u = wr.drewN k) mixed (by kernel_rfl) ⟨k6 + 1, rfl⟩ ?_
      simp only [List.take_succ_cons, List.take_zero]
      repeat (first
        | (refine keep_step (v := ?_) (by rfl) (fun u K hS hK => ?_) ?_
           rotate_left
           · obtain ⟨nn, rfl⟩ := hS
             have ya : (wr.drewN nn).cell? ⟨VB, 0, none⟩ = _ := HV.out.a
             have yb : (wr.drewN nn).cell? ⟨VB, 1, none⟩ = _ := HV.out.b
             have yc : (wr.drewN nn).cell? ⟨VB, 2, none⟩ = _ := HV.out.c
             have yd : (wr.drewN nn).cell? ⟨VB, 3, none⟩ = _ := HV.out.d
             have ye : (wr.drewN nn).cell? ⟨VB, 4, none⟩ = _ := HV.out.e
             have yf : (wr.drewN nn).cell? ⟨VB, 5, none⟩ = _ := HV.out.f
             have yg : (wr.drewN nn).cell? ⟨VB, 6, none⟩ = _ := HV.out.g
             (go_simp; first
               | (with_reducible exact hK _ ⟨nn, rfl⟩))
           simp only [Act.put, List.setIfInBounds_toArray, List.set_cons_zero, List.set_cons_succ]))
      refine keep_nil (fun w3 hS3 => ?_)
      obtain ⟨k7, rfl⟩ := hS3
      simp only [List.drop_succ_cons, List.drop_zero]
      rw [sum_eq2 O T bO bT, sum_eq2 td O (by omega) bO]
      have hnew := v8_new (wr.drewN k7) 100 ((O + T) % 4294967296) ta tb tc ((td + O) % 4294967296) te tf tg
      rw [← step_is ta tb tc td te tf tg th K X O T (by rw [HO.out, HC.out]) (by rw [HT.out, HM.out]), ← HRo.out] at hnew
      have HN := hide hnew
      have HE2 := hide ((HE.out.drewN k7).up (below_new (wr.drewN k7) (.cells #[.int .u64 (((O + T) % 4294967296 : Nat) : Int), .int .u64 (ta : Int), .int .u64 (tb : Int), .int .u64 (tc : Int), .int .u64 (((td + O) % 4294967296 : Nat) : Int), .int .u64 (te : Int), .int .u64 (tf : Int), .int .u64 (tg : Int)] 100)))
      have hne : (wr.drewN k7).heap.size ≠ HB := by have := HE.out.env.lts.2.1; show wr.heap.size ≠ HB; omega
      clear hnew HE HV HR XW XK HRo HO HT HC HM
      generalize (O + T) % 4294967296 = p1 at *
      generalize (td + O) % 4294967296 = p2 at *
      generalize wr.drewN k7 = w3 at *
      go_wp2_with (refine wpList_buildSlice_to rfl 105 8 _ rfl (some 260) rfl _ (by as_aux_lemma => kernel_rfl) _ _ (build_s8 _ _ _ _ _ _ _ _ _) ?_)
      refine of_hid ?_
      generalize w3.alloc _ = w4 at *
      generalize w3.heap.size = NB at *
      go_wp2
      go_roundw
      case rel => exact ⟨i + 1, NB, 8, by go_num, rfl, by omega, by omega, by omega, hne, HE2.out, HN.out⟩
      case measure => simp [intOf]; omega
    · have hj4 : i = 64 := by omega
      subst hj4
      have hx := Hx.out
      go_wp2_with fail
      exact hx _ _ _ _ _ _ _ _ _ _ _ _ _ _ _ _ _ _ _ _ _ _ _ _ _ _ _ _ _ _ _ _ _ _ _ _ _ _ _ _ _ _ _ _ _ _ _ _ _ _ _ _ _ _ _ _ _ _ _ _ _ _ _ _ _ _ _ _ _ _ _ _ _ _ _ _ _ _ _ _ _ _ _ _ _ _ _ _ _ _ _ _ _ _ _ _ _ _ _ _ _ _ _ _ _ _ _ _ _ _ _ _ _ _ _ _ _ _ _ _ _ _ _ _ _ _ _ VB vc wr hvc hvm HE.out HV.out hvh
end Go.Proofs.YtpaijhmbfljfmaaDoor.Sz7
