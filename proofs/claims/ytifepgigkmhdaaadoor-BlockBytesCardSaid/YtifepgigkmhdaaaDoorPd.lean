/- Several texts, one behind the other. -/
import Derived.Test.YtifepgigkmhdaaaDoorPc
import Derived.Maps.AppendAt
/- The reference's rounds. -/
namespace Go.Proofs.YtifepgigkmhdaaaDoor.Sz7
set_option linter.unusedVariables false
set_option linter.unusedSimpArgs false
set_option maxRecDepth 1000000
open Go.ChangeShapes Go.WideShapes Go.ChangeAt Go.RowKit
open Go.Proofs.YtifepgigkmhdaaaDoor.Wu Go.Proofs.YtifepgigkmhdaaaDoor.Sm Go.Proofs.YtifepgigkmhdaaaDoor.Sk Go.Proofs.YtifepgigkmhdaaaDoor.Sc Go.Proofs.YtifepgigkmhdaaaDoor.Sxa Go.Proofs.YtifepgigkmhdaaaDoor.Sh Go.Proofs.YtifepgigkmhdaaaDoor.Sn Go.Proofs.YtifepgigkmhdaaaDoor.Sw0 Go.Proofs.YtifepgigkmhdaaaDoor.Sf Go.Proofs.YtifepgigkmhdaaaDoor.So Go.Proofs.YtifepgigkmhdaaaDoor.Sv Go.Proofs.YtifepgigkmhdaaaDoor.Ap Go.Proofs.YtifepgigkmhdaaaDoor.Sr Go.Proofs.YtifepgigkmhdaaaDoor.Srf0 Go.Proofs.YtifepgigkmhdaaaDoor.Srf1 Go.Proofs.YtifepgigkmhdaaaDoor.Rk Go.Proofs.YtifepgigkmhdaaaDoor.Sza
attribute [local go_sem] kUpon_value kUpon_skip kUpon_enter
set_option maxHeartbeats 12800000 in
theorem loop7 (c0 c1 c4 c5 c11 c12 c13 c14 c15 c22 c23 c24 c25 c26 c27 c28 c29 c30 c31 c32 c33 c34 c35 c36 c37 c38 c39 c40 c41 c42 c43 c44 c45 c46 c47 c48 c49 c50 c51 c52 c53 c54 c55 c56 c57 c58 c59 c60 c61 c62 c63 c64 c65 c66 c67 c68 c69 c70 c71 c72 c73 c74 c75 c76 c77 c78 c79 c80 c81 c82 c83 c84 c85 c86 c87 c88 c89 c90 c91 c92 c93 c94 c95 c96 c97 c98 c99 c100 c101 c102 c103 c104 c105 c106 c107 c108 c109 c110 c111 c112 c113 c114 c115 c116 c117 c118 c119 c120 c121 c122 c123 c124 c125 c126 c127 c128 c129 c130 c131 c132 c133 c134 c135 c136 c137 c138 c261 c262 c263 c264 c265 c266 c267 c268 c269 c270 c271 c272 c273 c274 c275 c276 c277 c278 c279 c280 c281 c282 c283 c284 c285 c286 c287 c288 c289 c290 c291 c292 c293 c294 c295 c296 c297 c298 u18 u19 u20 u21 u139 u140 u141 u142 u143 u144 u145 u146 u147 u148 u149 u150 u151 u152 u153 u154 u155 u156 u157 u158 u159 u160 u161 u162 u163 u164 u165 u166 u167 u168 u169 u170 u171 u172 u173 u174 u175 u176 u177 u178 u179 u180 u181 u182 u183 u184 u185 u186 u187 u188 u189 u190 u191 u192 u193 u194 u195 u196 u197 u198 u199 u200 u201 u202 u203 u204 u205 u206 u207 u208 u209 u210 u211 u212 u213 u214 u215 u216 u217 u218 u219 u220 u221 u222 u223 u224 u225 u226 u227 u228 u229 u230 u231 u232 u233 u234 u235 u236 u237 u238 u239 u240 u241 u242 u243 u244 u245 u246 u247 u248 u249 u250 u251 u252 u253 u254 u255 u256 u257 u258 u259 u260 : Value) (w wr : World) (KB HB g nb cap q WB P n : Nat) (PM : List Nat) (s : S8) (Q : Exit → Act → World → Prop) (hP : P = 64 * q) (hn : n = 64 * nb) (VB vc : Nat) (hvc : 8 ≤ vc) (hvm : vc ≤ 9223372036854775807) (hE : E2 w wr KB HB g nb cap PM s WB (sched (blk PM q))) (hV : V8 wr VB s) (hs : s.ok) (h8 : All8 PM)
    (hexit : ∀ (x17 x18 x19 x20 x21 x139 x140 x141 x142 x143 x144 x145 x146 x147 x148 x149 x150 x151 x152 x153 x154 x155 x156 x157 x158 x159 x160 x161 x162 x163 x164 x165 x166 x167 x168 x169 x170 x171 x172 x173 x174 x175 x176 x177 x178 x179 x180 x181 x182 x183 x184 x185 x186 x187 x188 x189 x190 x191 x192 x193 x194 x195 x196 x197 x198 x199 x200 x201 x202 x203 x204 x205 x206 x207 x208 x209 x210 x211 x212 x213 x214 x215 x216 x217 x218 x219 x220 x221 x222 x223 x224 x225 x226 x227 x228 x229 x230 x231 x232 x233 x234 x235 x236 x237 x238 x239 x240 x241 x242 x243 x244 x245 x246 x247 x248 x249 x250 x251 x252 x253 x254 x255 x256 x257 x258 x259 x260 : Value) (vb vx : Nat) (wx : World), 8 ≤ vx → vx ≤ 9223372036854775807 → E2 w wx KB HB g nb cap PM s WB (sched (blk PM q)) → V8 wx vb (rounds (sched (blk PM q)) s 64) → vb ≠ HB → Q (.exit 12) ⟨List.toArray (c0 :: c1 :: (.pointer (some ⟨w.heap.size, 0, none⟩) : Value) :: (.slice (some ⟨g, 0, none⟩) n cap : Value) :: c4 :: c5 :: (.slice (some ⟨KB, 0, none⟩) 64 64 : Value) :: (.int .u64 4294967296 : Value) :: (.slice (some ⟨HB, 0, none⟩) 8 8 : Value) :: (.int .i64 (P : Int) : Value) :: (.slice (some ⟨WB, 0, none⟩) 64 64 : Value) :: c11 :: c12 :: c13 :: c14 :: c15 :: (.slice (some ⟨vb, 0, none⟩) 8 vx : Value) :: x17 :: x18 :: x19 :: x20 :: x21 :: c22 :: c23 :: c24 :: c25 :: c26 :: c27 :: c28 :: c29 :: c30 :: c31 :: c32 :: c33 :: c34 :: c35 :: c36 :: c37 :: c38 :: c39 :: c40 :: c41 :: c42 :: c43 :: c44 :: c45 :: c46 :: c47 :: c48 :: c49 :: c50 :: c51 :: c52 :: c53 :: c54 :: c55 :: c56 :: c57 :: c58 :: c59 :: c60 :: c61 :: c62 :: c63 :: c64 :: c65 :: c66 :: c67 :: c68 :: c69 :: c70 :: c71 :: c72 :: c73 :: c74 :: c75 :: c76 :: c77 :: c78 :: c79 :: c80 :: c81 :: c82 :: c83 :: c84 :: c85 :: c86 :: c87 :: c88 :: c89 :: c90 :: c91 :: c92 :: c93 :: c94 :: c95 :: c96 :: c97 :: c98 :: c99 :: c100 :: c101 :: c102 :: c103 :: c104 :: c105 :: c106 :: c107 :: c108 :: c109 :: c110 :: c111 :: c112 :: c113 :: c114 :: c115 :: c116 :: c117 :: c118 :: c119 :: c120 :: c121 :: c122 :: c123 :: c124 :: c125 :: c126 :: c127 :: c128 :: c129 :: c130 :: c131 :: c132 :: c133 :: c134 :: c135 :: c136 :: c137 :: c138 :: x139 :: x140 :: x141 :: x142 :: x143 :: x144 :: x145 :: x146 :: x147 :: x148 :: x149 :: x150 :: x151 :: x152 :: x153 :: x154 :: x155 :: x156 :: x157 :: x158 :: x159 :: x160 :: x161 :: x162 :: x163 :: x164 :: x165 :: x166 :: x167 :: x168 :: x169 :: x170 :: x171 :: x172 :: x173 :: x174 :: x175 :: x176 :: x177 :: x178 :: x179 :: x180 :: x181 :: x182 :: x183 :: x184 :: x185 :: x186 :: x187 :: x188 :: x189 :: x190 :: x191 :: x192 :: x193 :: x194 :: x195 :: x196 :: x197 :: x198 :: x199 :: x200 :: x201 :: x202 :: x203 :: x204 :: x205 :: x206 :: x207 :: x208 :: x209 :: x210 :: x211 :: x212 :: x213 :: x214 :: x215 :: x216 :: x217 :: x218 :: x219 :: x220 :: x221 :: x222 :: x223 :: x224 :: x225 :: x226 :: x227 :: x228 :: x229 :: x230 :: x231 :: x232 :: x233 :: x234 :: x235 :: x236 :: x237 :: x238 :: x239 :: x240 :: x241 :: x242 :: x243 :: x244 :: x245 :: x246 :: x247 :: x248 :: x249 :: x250 :: x251 :: x252 :: x253 :: x254 :: x255 :: x256 :: x257 :: x258 :: x259 :: x260 :: c261 :: c262 :: c263 :: c264 :: c265 :: c266 :: c267 :: c268 :: c269 :: c270 :: c271 :: c272 :: c273 :: c274 :: c275 :: c276 :: c277 :: c278 :: c279 :: c280 :: c281 :: c282 :: c283 :: c284 :: c285 :: c286 :: c287 :: c288 :: c289 :: c290 :: c291 :: c292 :: c293 :: c294 :: c295 :: c296 :: c297 :: c298 :: []), []⟩ wx) (hvh : VB ≠ HB) :
    Code.wp Tryd.prog (lc 6) Q ⟨List.toArray (c0 :: c1 :: (.pointer (some ⟨w.heap.size, 0, none⟩) : Value) :: (.slice (some ⟨g, 0, none⟩) n cap : Value) :: c4 :: c5 :: (.slice (some ⟨KB, 0, none⟩) 64 64 : Value) :: (.int .u64 4294967296 : Value) :: (.slice (some ⟨HB, 0, none⟩) 8 8 : Value) :: (.int .i64 (P : Int) : Value) :: (.slice (some ⟨WB, 0, none⟩) 64 64 : Value) :: c11 :: c12 :: c13 :: c14 :: c15 :: (.slice (some ⟨VB, 0, none⟩) 8 vc : Value) :: (.int .i64 0 : Value) :: u18 :: u19 :: u20 :: u21 :: c22 :: c23 :: c24 :: c25 :: c26 :: c27 :: c28 :: c29 :: c30 :: c31 :: c32 :: c33 :: c34 :: c35 :: c36 :: c37 :: c38 :: c39 :: c40 :: c41 :: c42 :: c43 :: c44 :: c45 :: c46 :: c47 :: c48 :: c49 :: c50 :: c51 :: c52 :: c53 :: c54 :: c55 :: c56 :: c57 :: c58 :: c59 :: c60 :: c61 :: c62 :: c63 :: c64 :: c65 :: c66 :: c67 :: c68 :: c69 :: c70 :: c71 :: c72 :: c73 :: c74 :: c75 :: c76 :: c77 :: c78 :: c79 :: c80 :: c81 :: c82 :: c83 :: c84 :: c85 :: c86 :: c87 :: c88 :: c89 :: c90 :: c91 :: c92 :: c93 :: c94 :: c95 :: c96 :: c97 :: c98 :: c99 :: c100 :: c101 :: c102 :: c103 :: c104 :: c105 :: c106 :: c107 :: c108 :: c109 :: c110 :: c111 :: c112 :: c113 :: c114 :: c115 :: c116 :: c117 :: c118 :: c119 :: c120 :: c121 :: c122 :: c123 :: c124 :: c125 :: c126 :: c127 :: c128 :: c129 :: c130 :: c131 :: c132 :: c133 :: c134 :: c135 :: c136 :: c137 :: c138 :: u139 :: u140 :: u141 :: u142 :: u143 :: u144 :: u145 :: u146 :: u147 :: u148 :: u149 :: u150 :: u151 :: u152 :: u153 :: u154 :: u155 :: u156 :: u157 :: u158 :: u159 :: u160 :: u161 :: u162 :: u163 :: u164 :: u165 :: u166 :: u167 :: u168 :: u169 :: u170 :: u171 :: u172 :: u173 :: u174 :: u175 :: u176 :: u177 :: u178 :: u179 :: u180 :: u181 :: u182 :: u183 :: u184 :: u185 :: u186 :: u187 :: u188 :: u189 :: u190 :: u191 :: u192 :: u193 :: u194 :: u195 :: u196 :: u197 :: u198 :: u199 :: u200 :: u201 :: u202 :: u203 :: u204 :: u205 :: u206 :: u207 :: u208 :: u209 :: u210 :: u211 :: u212 :: u213 :: u214 :: u215 :: u216 :: u217 :: u218 :: u219 :: u220 :: u221 :: u222 :: u223 :: u224 :: u225 :: u226 :: u227 :: u228 :: u229 :: u230 :: u231 :: u232 :: u233 :: u234 :: u235 :: u236 :: u237 :: u238 :: u239 :: u240 :: u241 :: u242 :: u243 :: u244 :: u245 :: u246 :: u247 :: u248 :: u249 :: u250 :: u251 :: u252 :: u253 :: u254 :: u255 :: u256 :: u257 :: u258 :: u259 :: u260 :: c261 :: c262 :: c263 :: c264 :: c265 :: c266 :: c267 :: c268 :: c269 :: c270 :: c271 :: c272 :: c273 :: c274 :: c275 :: c276 :: c277 :: c278 :: c279 :: c280 :: c281 :: c282 :: c283 :: c284 :: c285 :: c286 :: c287 :: c288 :: c289 :: c290 :: c291 :: c292 :: c293 :: c294 :: c295 :: c296 :: c297 :: c298 :: []), []⟩ wr := by
  conv => arg 2; whnf
  have HE := hide hE
  have HV := hide hV
  have Hx := hide hexit
  clear hE hV hexit hP hn
  go_loopw [17, 16] (fun c v wr => ∃ i VB vc : Nat, c = .int .i64 (i : Int) ∧ v = .slice (some ⟨VB, 0, none⟩) 8 vc ∧ i ≤ 64 ∧ 8 ≤ vc ∧ vc ≤ 9223372036854775807 ∧ VB ≠ HB ∧ E2 w wr KB HB g nb cap PM s WB (sched (blk PM q)) ∧ V8 wr VB (rounds (sched (blk PM q)) s i)) (fun c _ _ => 64 - (intOf c).toNat)
  case atStart => exact ⟨0, VB, vc, rfl, rfl, Nat.zero_le _, hvc, hvm, hvh, HE.out, HV.out⟩
  case round =>
    clear HE HV hvh hvc hvm
    obtain ⟨i, VB, vc, rfl, rfl, hi, hvc, hvm, hvh, hE, hV⟩ := hrel
    have HE := hide hE
    have HV := hide hV
    clear hE hV
    by_cases hlt : i < 64
    · have d1 : decide ((i : Int) < 64) = true := by simp; omega
      have d1' : decide (i < 64) = true := by simp; omega
      have li : (i : Int) < 64 := by omega
      have hsl := sched_length (blk PM q)
      have bW := all32_getD (sched_all (all8_blk h8 q)) i
      have bK := all32_getD Ks_all i
      have XW := hide (row64 HE.out.row (i := i) (by rw [hsl]; exact hlt))
      have XK := hide (row64 HE.out.env.ks (i := i) (by rw [Ks_length]; exact hlt))
      have hro : rounds (sched (blk PM q)) s (i + 1) = (rounds (sched (blk PM q)) s i).step (Ks.getD i 0) ((sched (blk PM q)).getD i 0) := rfl
      have HRo := hide hro
      have tok := rounds_ok hs (sched (blk PM q)) i
      generalize rounds (sched (blk PM q)) s i = t at *
      generalize (sched (blk PM q)).getD i 0 = X at *
      generalize Ks.getD i 0 = K at *
      obtain ⟨ba, bb, bc, bd, be, bf, bg, bh⟩ := S8.bd tok
      obtain ⟨ta, tb, tc, td, te, tf, tg, th⟩ := t
      simp only at ba bb bc bd be bf bg bh
      clear hro hsl tok
      go_wp2_with fail
      have mixed : Tryd.prog.follows Departure.mixedOrders = true := by kernel_rfl
      have HR := hide (fun (x n k : Nat) (hx : x < 4294967296) (hn : 1 ≤ n) (hn' : n ≤ 31) => right_c x n (wr.drewN k) hx hn hn')
      refine wp_region_keep (fun u => ∃ k, u = wr.drewN k) mixed (by kernel_rfl) ⟨1, rfl⟩ ?_
      repeat (first
        | (refine keep_step (v := ?_) (by rfl) (fun u K hS hK => ?_) ?_
           rotate_left
           · obtain ⟨nn, rfl⟩ := hS
             have ye : (wr.drewN nn).cell? ⟨VB, 4, none⟩ = _ := HV.out.e
             have yf : (wr.drewN nn).cell? ⟨VB, 5, none⟩ = _ := HV.out.f
             have yg : (wr.drewN nn).cell? ⟨VB, 6, none⟩ = _ := HV.out.g
             (go_simp; first
               | (with_reducible exact hK _ ⟨nn, rfl⟩))
           simp only [Act.put, List.setIfInBounds_toArray, List.set_cons_zero, List.set_cons_succ]))
      refine keep_nil (fun w3 hS3 => ?_)
      obtain ⟨k3, rfl⟩ := hS3
      rw [chs_eq te tf tg be bf bg]
      have bC := chs_lt (x := te) bf bg
      obtain ⟨C, hC⟩ : ∃ C, C = chs te tf tg := ⟨_, rfl⟩
      rw [← hC] at bC ⊢
      have HC := hide hC
      clear hC
      go_wp2_with fail
      refine wp_region_keep (fun u => ∃ k, u = wr.drewN k) mixed (by kernel_rfl) ⟨k3 + 1, rfl⟩ ?_
      repeat (first
        | (refine keep_step (v := ?_) (by rfl) (fun u K hS hK => ?_) ?_
           rotate_left
           · obtain ⟨nn, rfl⟩ := hS
             have ya : (wr.drewN nn).cell? ⟨VB, 0, none⟩ = _ := HV.out.a
             have yb : (wr.drewN nn).cell? ⟨VB, 1, none⟩ = _ := HV.out.b
             have yc : (wr.drewN nn).cell? ⟨VB, 2, none⟩ = _ := HV.out.c
             (go_simp; first
               | (with_reducible exact hK _ ⟨nn, rfl⟩))
           simp only [Act.put, List.setIfInBounds_toArray, List.set_cons_zero, List.set_cons_succ]))
      refine keep_nil (fun w3 hS3 => ?_)
      obtain ⟨k4, rfl⟩ := hS3
      rw [maj_eq ta tb tc ba bb bc]
      have bM := maj_lt (x := ta) bb bc
      obtain ⟨M, hM⟩ : ∃ M, M = maj ta tb tc := ⟨_, rfl⟩
      rw [← hM] at bM ⊢
      have HM := hide hM
      clear hM
      go_wp2_with fail
      refine wp_region_keep (fun u => ∃ k, u = wr.drewN k) mixed (by kernel_rfl) ⟨k4 + 1, rfl⟩ ?_
      repeat (first
        | (refine keep_step (v := ?_) (by rfl) (fun u K hS hK => ?_) ?_
           rotate_left
           · obtain ⟨nn, rfl⟩ := hS
             have yh : (wr.drewN nn).cell? ⟨VB, 7, none⟩ = _ := HV.out.h
             have ye : (wr.drewN nn).cell? ⟨VB, 4, none⟩ = _ := HV.out.e
             have yK : (wr.drewN nn).cell? ⟨KB, i, none⟩ = _ := XK.out
             have yW : (wr.drewN nn).cell? ⟨WB, i, none⟩ = _ := XW.out
             (go_simp; first
               | (with_reducible exact hK _ ⟨nn, rfl⟩)
               | (go_at_call 121; (with_reducible refine Calls.mono (HR.out te 6 nn be (by omega) (by omega)) ?_); rintro e u2 ⟨rfl, kk, rfl⟩; exact hK _ ⟨nn + kk, drewN_add _ _ _⟩)
               | (go_at_call 121; (with_reducible refine Calls.mono (HR.out te 11 nn be (by omega) (by omega)) ?_); rintro e u2 ⟨rfl, kk, rfl⟩; exact hK _ ⟨nn + kk, drewN_add _ _ _⟩)
               | (go_at_call 121; (with_reducible refine Calls.mono (HR.out te 25 nn be (by omega) (by omega)) ?_); rintro e u2 ⟨rfl, kk, rfl⟩; exact hK _ ⟨nn + kk, drewN_add _ _ _⟩))
           simp only [Act.put, List.setIfInBounds_toArray, List.set_cons_zero, List.set_cons_succ]))
      refine keep_nil (fun w3 hS3 => ?_)
      obtain ⟨k5, rfl⟩ := hS3
      rw [one_eq th te C K X bh be bC bK bW]
      have b1 := bS1_lt be
      obtain ⟨O, hO⟩ : ∃ O, O = th + bS1 te + C + K + X := ⟨_, rfl⟩
      rw [← hO]
      have bO : O < 68719476736 := by omega
      have HO := hide hO
      clear hO
      go_wp2_with fail
      refine wp_region_keep (fun u => ∃ k, u = wr.drewN k) mixed (by kernel_rfl) ⟨k5 + 1, rfl⟩ ?_
      repeat (first
        | (refine keep_step (v := ?_) (by rfl) (fun u K hS hK => ?_) ?_
           rotate_left
           · obtain ⟨nn, rfl⟩ := hS
             have ya : (wr.drewN nn).cell? ⟨VB, 0, none⟩ = _ := HV.out.a
             (go_simp; first
               | (with_reducible exact hK _ ⟨nn, rfl⟩)
               | (go_at_call 121; (with_reducible refine Calls.mono (HR.out ta 2 nn ba (by omega) (by omega)) ?_); rintro e u2 ⟨rfl, kk, rfl⟩; exact hK _ ⟨nn + kk, drewN_add _ _ _⟩)
               | (go_at_call 121; (with_reducible refine Calls.mono (HR.out ta 13 nn ba (by omega) (by omega)) ?_); rintro e u2 ⟨rfl, kk, rfl⟩; exact hK _ ⟨nn + kk, drewN_add _ _ _⟩)
               | (go_at_call 121; (with_reducible refine Calls.mono (HR.out ta 22 nn ba (by omega) (by omega)) ?_); rintro e u2 ⟨rfl, kk, rfl⟩; exact hK _ ⟨nn + kk, drewN_add _ _ _⟩))
           simp only [Act.put, List.setIfInBounds_toArray, List.set_cons_zero, List.set_cons_succ]))
      refine keep_nil (fun w3 hS3 => ?_)
      obtain ⟨k6, rfl⟩ := hS3
      rw [two_eq ta M ba bM]
      have b0 := bS0_lt ba
      obtain ⟨T, hT⟩ : ∃ T, T = bS0 ta + M := ⟨_, rfl⟩
      rw [← hT]
      have bT : T < 68719476736 := by omega
      have HT := hide hT
      clear hT
      go_wp2_with fail
      refine wp_region_keep_tail 30 (fun u => ∃ k, u = wr.drewN k) mixed (by kernel_rfl) ⟨k6 + 1, rfl⟩ ?_
      simp only [List.take_succ_cons, List.take_zero]
      repeat (first
        | (refine keep_step (v := ?_) (by rfl) (fun u K hS hK => ?_) ?_
           rotate_left
           · obtain ⟨nn, rfl⟩ := hS
             have ya : (wr.drewN nn).cell? ⟨VB, 0, none⟩ = _ := HV.out.a
             have yb : (wr.drewN nn).cell? ⟨VB, 1, none⟩ = _ := HV.out.b
             have yc : (wr.drewN nn).cell? ⟨VB, 2, none⟩ = _ := HV.out.c
             have yd : (wr.drewN nn).cell? ⟨VB, 3, none⟩ = _ := HV.out.d
             have ye : (wr.drewN nn).cell? ⟨VB, 4, none⟩ = _ := HV.out.e
             have yf : (wr.drewN nn).cell? ⟨VB, 5, none⟩ = _ := HV.out.f
             have yg : (wr.drewN nn).cell? ⟨VB, 6, none⟩ = _ := HV.out.g
             (go_simp; first
               | (with_reducible exact hK _ ⟨nn, rfl⟩))
           simp only [Act.put, List.setIfInBounds_toArray, List.set_cons_zero, List.set_cons_succ]))
      refine keep_nil (fun w3 hS3 => ?_)
      obtain ⟨k7, rfl⟩ := hS3
      simp only [List.drop_succ_cons, List.drop_zero]
      rw [sum_eq2 O T bO bT, sum_eq2 td O (by omega) bO]
      have hnew := v8_new (wr.drewN k7) 194 ((O + T) % 4294967296) ta tb tc ((td + O) % 4294967296) te tf tg
      rw [← step_is ta tb tc td te tf tg th K X O T (by rw [HO.out, HC.out]) (by rw [HT.out, HM.out]), ← HRo.out] at hnew
      have HN := hide hnew
      have HE2 := hide ((HE.out.drewN k7).up (below_new (wr.drewN k7) (.cells #[.int .u64 (((O + T) % 4294967296 : Nat) : Int), .int .u64 (ta : Int), .int .u64 (tb : Int), .int .u64 (tc : Int), .int .u64 (((td + O) % 4294967296 : Nat) : Int), .int .u64 (te : Int), .int .u64 (tf : Int), .int .u64 (tg : Int)] 194)))
      have hne : (wr.drewN k7).heap.size ≠ HB := by have := HE.out.env.lts.2.1; show wr.heap.size ≠ HB; omega
      clear hnew HE HV HR XW XK HRo HO HT HC HM
      generalize (O + T) % 4294967296 = p1 at *
      generalize (td + O) % 4294967296 = p2 at *
      generalize wr.drewN k7 = w3 at *
      go_wp2_with (refine wpList_buildSlice_to rfl 213 8 _ rfl (some 260) rfl _ (by as_aux_lemma => kernel_rfl) _ _ (build_s8 _ _ _ _ _ _ _ _ _) ?_)
      refine of_hid ?_
      generalize w3.alloc _ = w4 at *
      generalize w3.heap.size = NB at *
      go_wp2
      go_roundw
      case rel => exact ⟨i + 1, NB, 8, by go_num, rfl, by omega, by omega, by omega, hne, HE2.out, HN.out⟩
      case measure => simp [intOf]; omega
    · have hj4 : i = 64 := by omega
      subst hj4
      have hx := Hx.out
      go_wp2_with fail
      exact hx _ _ _ _ _ _ _ _ _ _ _ _ _ _ _ _ _ _ _ _ _ _ _ _ _ _ _ _ _ _ _ _ _ _ _ _ _ _ _ _ _ _ _ _ _ _ _ _ _ _ _ _ _ _ _ _ _ _ _ _ _ _ _ _ _ _ _ _ _ _ _ _ _ _ _ _ _ _ _ _ _ _ _ _ _ _ _ _ _ _ _ _ _ _ _ _ _ _ _ _ _ _ _ _ _ _ _ _ _ _ _ _ _ _ _ _ _ _ _ _ _ _ _ _ _ _ _ VB vc wr hvc hvm HE.out HV.out hvh
end Go.Proofs.YtifepgigkmhdaaaDoor.Sz7
/- The reference's state while a block's words are added to it. -/
namespace Go.Proofs.YtifepgigkmhdaaaDoor.Szb
set_option linter.unusedVariables false
set_option linter.unusedSimpArgs false
set_option maxRecDepth 100000
open Go.RowKit
open Go.Proofs.YtifepgigkmhdaaaDoor.Wu Go.Proofs.YtifepgigkmhdaaaDoor.Sm Go.Proofs.YtifepgigkmhdaaaDoor.Sk Go.Proofs.YtifepgigkmhdaaaDoor.Sc Go.Proofs.YtifepgigkmhdaaaDoor.Sxa Go.Proofs.YtifepgigkmhdaaaDoor.Sh Go.Proofs.YtifepgigkmhdaaaDoor.Sn Go.Proofs.YtifepgigkmhdaaaDoor.Sw0 Go.Proofs.YtifepgigkmhdaaaDoor.Sf Go.Proofs.YtifepgigkmhdaaaDoor.So Go.Proofs.YtifepgigkmhdaaaDoor.Sv Go.Proofs.YtifepgigkmhdaaaDoor.Ap Go.Proofs.YtifepgigkmhdaaaDoor.Sr Go.Proofs.YtifepgigkmhdaaaDoor.Srf0 Go.Proofs.YtifepgigkmhdaaaDoor.Srf1 Go.Proofs.YtifepgigkmhdaaaDoor.Sza
def hRow (s v : S8) (i : Nat) : List Nat := (s.add v).list.take i ++ s.list.drop i
theorem hRow_zero (s v : S8) : hRow s v 0 = s.list := by simp [hRow]
theorem hRow_end (s v : S8) : hRow s v 8 = (s.add v).list := by simp [hRow, S8.list]
theorem hRow_length (s v : S8) (i : Nat) (h : i ≤ 8) : (hRow s v i).length = 8 := by simp [hRow, S8.list]; omega
theorem hRow_at (s v : S8) (i : Nat) (h : i < 8) : (hRow s v i).getD i 0 = s.list.getD i 0 := by
  match i, h with
  | 0, _ => rfl
  | 1, _ => rfl
  | 2, _ => rfl
  | 3, _ => rfl
  | 4, _ => rfl
  | 5, _ => rfl
  | 6, _ => rfl
  | 7, _ => rfl
theorem hRow_step (s v : S8) (i : Nat) (h : i < 8) : (hRow s v i).set i ((s.list.getD i 0 + v.list.getD i 0) % 4294967296) = hRow s v (i + 1) := by
  match i, h with
  | 0, _ => rfl
  | 1, _ => rfl
  | 2, _ => rfl
  | 3, _ => rfl
  | 4, _ => rfl
  | 5, _ => rfl
  | 6, _ => rfl
  | 7, _ => rfl
theorem V8.at {wr : World} {VB : Nat} {v : S8} (h : V8 wr VB v) (i : Nat) (hi : i < 8) : wr.cell? ⟨VB, i, none⟩ = some (.int .u64 ((v.list.getD i 0 : Nat) : Int)) := by
  match i, hi with
  | 0, _ => exact h.a
  | 1, _ => exact h.b
  | 2, _ => exact h.c
  | 3, _ => exact h.d
  | 4, _ => exact h.e
  | 5, _ => exact h.f
  | 6, _ => exact h.g
  | 7, _ => exact h.h
/-- The memory, the state's row told by a list. -/
structure E3 (w wr : World) (KB HB g nb cap : Nat) (PM : List Nat) (row : List Nat) : Prop where
  ks : wr.heap[KB]? = some (.cells (u64s Ks) 194 (0, 0))
  hs : wr.heap[HB]? = some (.cells (u64s row) 194 (0, 0))
  msg : Dst wr g (64 * nb) cap PM
  res : wr.heap[w.heap.size]? = some (.cells (u8s (zeros 32)) 79 (0, 0))
  below : Below w.heap.size w wr
  nk : KB ≠ HB
  ng : g ≠ HB
  nr : w.heap.size < HB
section
variable {w wr : World} {KB HB g nb cap : Nat} {PM : List Nat} {s : S8} {row row' : List Nat}
theorem E3.env (h : E3 w wr KB HB g nb cap PM s.list) : Env w wr KB HB g (64 * nb) cap PM s := ⟨h.ks, h.hs, h.msg, h.res, h.below⟩
theorem E3.step {i x : Nat} (h : E3 w wr KB HB g nb cap PM row) (hr : row.set i x = row') : ∀ k : Nat, E3 w ((wr.drewN k).setCell ⟨HB, i, none⟩ (.int .u64 (x : Int))) KB HB g nb cap PM row' := by
  intro k
  have hg := grown_setCell (World.grownBy.refl (wr.drewN k) (some HB)) i (.int .u64 (x : Int))
  have hb : Below w.heap.size w (wr.drewN k) := below_drewN h.below k
  have hh : (wr.drewN k).heap[HB]? = some (.cells (u64s row) 194 (0, 0)) := h.hs
  have hd : Dst (wr.drewN k) g (64 * nb) cap PM := ⟨h.msg.len, h.msg.all, h.msg.fit, h.msg.max, h.msg.lt, h.msg.cells, h.msg.spare⟩
  refine ⟨keepG hg h.nk h.ks, ?_, hd.kept hg h.ng, keepG hg (by have := h.nr; omega) h.res, belowG hb hg (by have := h.nr; omega) hb.size, h.nk, h.ng, h.nr⟩
  rw [blk_set hh, u64s_set, hr]
theorem V8.kept {VB i : Nat} {x : Value} {v : S8} (h : V8 wr VB v) (hne : VB ≠ HB) : ∀ k : Nat, V8 ((wr.drewN k).setCell ⟨HB, i, none⟩ x) VB v := by
  intro k
  have hg := grown_setCell (World.grownBy.refl (wr.drewN k) (some HB)) i x
  have h' := h.drewN k
  exact ⟨grown_cell hg hne h'.a, grown_cell hg hne h'.b, grown_cell hg hne h'.c, grown_cell hg hne h'.d, grown_cell hg hne h'.e, grown_cell hg hne h'.f, grown_cell hg hne h'.g, grown_cell hg hne h'.h⟩
theorem list_lt {s : S8} (h : s.ok) (i : Nat) : s.list.getD i 0 < 4294967296 := all32_getD h i
end
def oRow (s : S8) (i : Nat) : List Nat := (bytes8 s).take i ++ zeros (32 - i)
theorem oRow_length (s : S8) (i : Nat) (h : i ≤ 32) : (oRow s i).length = 32 := by simp [oRow, bytes8_length, zeros]; omega
theorem oRow_end (s : S8) : oRow s 32 = bytes8 s := by unfold oRow; rw [List.take_of_length_le (by rw [bytes8_length]; omega)]; simp [zeros]
theorem oRow_zero (s : S8) : oRow s 0 = zeros 32 := by simp [oRow]
theorem bytes8_at (s : S8) (i : Nat) (h : i < 32) : (bytes8 s).getD i 0 = (s.list.getD (i / 4) 0 >>> (24 - 8 * (i % 4))) % 256 := by
  obtain ⟨a, b, ha, hb, rfl⟩ : ∃ a b, a < 8 ∧ b < 4 ∧ i = 4 * a + b := ⟨i / 4, i % 4, by omega, by omega, by omega⟩
  rw [show (4 * a + b) / 4 = a by omega, show (4 * a + b) % 4 = b by omega]
  match a, ha with
  | 0, _ => match b, hb with
    | 0, _ => simp [bytes8, S8.list, four, List.getD, Nat.shiftRight_eq_div_pow]
    | 1, _ => simp [bytes8, S8.list, four, List.getD, Nat.shiftRight_eq_div_pow]
    | 2, _ => simp [bytes8, S8.list, four, List.getD, Nat.shiftRight_eq_div_pow]
    | 3, _ => simp [bytes8, S8.list, four, List.getD, Nat.shiftRight_eq_div_pow]
  | 1, _ => match b, hb with
    | 0, _ => simp [bytes8, S8.list, four, List.getD, Nat.shiftRight_eq_div_pow]
    | 1, _ => simp [bytes8, S8.list, four, List.getD, Nat.shiftRight_eq_div_pow]
    | 2, _ => simp [bytes8, S8.list, four, List.getD, Nat.shiftRight_eq_div_pow]
    | 3, _ => simp [bytes8, S8.list, four, List.getD, Nat.shiftRight_eq_div_pow]
  | 2, _ => match b, hb with
    | 0, _ => simp [bytes8, S8.list, four, List.getD, Nat.shiftRight_eq_div_pow]
    | 1, _ => simp [bytes8, S8.list, four, List.getD, Nat.shiftRight_eq_div_pow]
    | 2, _ => simp [bytes8, S8.list, four, List.getD, Nat.shiftRight_eq_div_pow]
    | 3, _ => simp [bytes8, S8.list, four, List.getD, Nat.shiftRight_eq_div_pow]
  | 3, _ => match b, hb with
    | 0, _ => simp [bytes8, S8.list, four, List.getD, Nat.shiftRight_eq_div_pow]
    | 1, _ => simp [bytes8, S8.list, four, List.getD, Nat.shiftRight_eq_div_pow]
    | 2, _ => simp [bytes8, S8.list, four, List.getD, Nat.shiftRight_eq_div_pow]
    | 3, _ => simp [bytes8, S8.list, four, List.getD, Nat.shiftRight_eq_div_pow]
  | 4, _ => match b, hb with
    | 0, _ => simp [bytes8, S8.list, four, List.getD, Nat.shiftRight_eq_div_pow]
    | 1, _ => simp [bytes8, S8.list, four, List.getD, Nat.shiftRight_eq_div_pow]
    | 2, _ => simp [bytes8, S8.list, four, List.getD, Nat.shiftRight_eq_div_pow]
    | 3, _ => simp [bytes8, S8.list, four, List.getD, Nat.shiftRight_eq_div_pow]
  | 5, _ => match b, hb with
    | 0, _ => simp [bytes8, S8.list, four, List.getD, Nat.shiftRight_eq_div_pow]
    | 1, _ => simp [bytes8, S8.list, four, List.getD, Nat.shiftRight_eq_div_pow]
    | 2, _ => simp [bytes8, S8.list, four, List.getD, Nat.shiftRight_eq_div_pow]
    | 3, _ => simp [bytes8, S8.list, four, List.getD, Nat.shiftRight_eq_div_pow]
  | 6, _ => match b, hb with
    | 0, _ => simp [bytes8, S8.list, four, List.getD, Nat.shiftRight_eq_div_pow]
    | 1, _ => simp [bytes8, S8.list, four, List.getD, Nat.shiftRight_eq_div_pow]
    | 2, _ => simp [bytes8, S8.list, four, List.getD, Nat.shiftRight_eq_div_pow]
    | 3, _ => simp [bytes8, S8.list, four, List.getD, Nat.shiftRight_eq_div_pow]
  | 7, _ => match b, hb with
    | 0, _ => simp [bytes8, S8.list, four, List.getD, Nat.shiftRight_eq_div_pow]
    | 1, _ => simp [bytes8, S8.list, four, List.getD, Nat.shiftRight_eq_div_pow]
    | 2, _ => simp [bytes8, S8.list, four, List.getD, Nat.shiftRight_eq_div_pow]
    | 3, _ => simp [bytes8, S8.list, four, List.getD, Nat.shiftRight_eq_div_pow]
theorem oRow_step (s : S8) (i : Nat) (h : i < 32) : (oRow s i).set i ((s.list.getD (i / 4) 0 >>> (24 - 8 * (i % 4))) % 256) = oRow s (i + 1) := by
  rw [← bytes8_at s i h]
  unfold oRow
  have hl : ((bytes8 s).take i).length = i := by rw [List.length_take, bytes8_length]; omega
  rw [List.set_append_right _ _ (by omega), hl, Nat.sub_self, show 32 - i = (32 - (i + 1)) + 1 by omega]
  have e : (bytes8 s).take (i + 1) = (bytes8 s).take i ++ [(bytes8 s).getD i 0] := by
    have hb : i < (bytes8 s).length := by rw [bytes8_length]; exact h
    rw [List.take_succ_eq_append_getElem hb]
    simp only [List.getD, List.getElem?_eq_getElem hb, Option.getD_some]
  rw [e]
  simp [zeros, List.replicate_succ]
theorem shr_mod (A k : Nat) : ((A : Int) / 2 ^ k).tmod 256 % 256 = (((A >>> k) % 256 : Nat) : Int) := by
  have e : (A : Int) / 2 ^ k = ((A >>> k : Nat) : Int) := by rw [Nat.shiftRight_eq_div_pow, Int.natCast_ediv, Int.natCast_pow]; rfl
  rw [e]
  generalize A >>> k = y
  rw [Int.tmod_eq_emod_of_nonneg (by omega)]
  omega
theorem make64 (u : World) : Sem.run Tryd.prog (Instr.makeSlice 213 (.int .i64 64) (.int .i64 64)) u = .ok (.slice (some ⟨u.heap.size, 0, none⟩) 64 64) (u.alloc (.cells (u64s (zeros 64)) 194)) := by kernel_rfl
theorem info_u64 : (Tryd.prog.info? 194).map (fun i => (i.zero, i.size, i.bytes)) = some (some (.int .u64 0), 1, 8) := by kernel_rfl
theorem append_h (u : World) (ty : TypeId) (EB HB : Nat) (s : S8) (he : u.heap[EB]? = some (.cells #[] 194 (0, 0))) (hs : u.heap[HB]? = some (.cells (u64s s.list) 194 (0, 0))) (hlt : HB < EB) (hE : EB < u.heap.size) :
    ∃ VB vc u', (Builtin.append_ #[213, 213] ty #[.slice (some ⟨EB, 0, none⟩) 0 0, .slice (some ⟨HB, 0, none⟩) 8 8]).run Tryd.prog u = .ok (.slice (some ⟨VB, 0, none⟩) 8 vc) u' ∧ V8 u' VB s ∧ 8 ≤ vc ∧ vc ≤ 9223372036854775807 ∧ VB ≠ HB ∧ u.grownBy u' (some EB) := by
  obtain ⟨i0, hi0, hz0, hz1, hz2⟩ := info_parts info_u64
  have hown : u.ownsRow 0 194 1 (.slice (some ⟨EB, 0, none⟩) 0 0) 0 [] := ⟨by simp, .inr ⟨EB, 0, #[], rfl, Nat.zero_le _, he, Nat.le_refl _, Nat.zero_le _, by simp, by simp⟩⟩
  have hnews : ∀ j v, (u64s s.list).toList[j]? = some v → u.cell? ((⟨HB, 0, none⟩ : Addr).add j) = some v := by
    intro j v hv
    rw [Addr.add_mid, Nat.zero_add]
    exact blk_cell hs (by simpa using hv)
  obtain ⟨v', w', hr, h1, h2, h3, h4⟩ := run_append_own_at (P := Tryd.prog) u 0 213 ty 194 i0 _ 1 8 Tryd.underlying213 hi0 hz0 hz1 hz2 rfl (by omega) _ 0 [] hown ⟨HB, 0, none⟩ 8 8 (u64s s.list).toList rfl hnews (by
    intro v hv
    simp only [u64s, S8.list, List.map_cons, List.map_nil, List.mem_cons, List.not_mem_nil, or_false] at hv
    rcases hv with rfl | rfl | rfl | rfl | rfl | rfl | rfl | rfl <;> rfl) (by unfold maxLen; omega) (by omega) (Nat.zero_le _)
  simp only [Nat.zero_add, List.nil_append] at h1
  rcases h1.2 with ⟨_, hn⟩ | ⟨g, cap, cur, rfl, hb, hg, hl, hm, _⟩
  · omega
  · have hc := h1.cells (g := g) rfl
    have hc' : ∀ (j : Nat) (v : Value), (u64s s.list).toList[j]? = some v → w'.cell? ⟨g, j, none⟩ = some v := by
      intro j v hv
      have := hc j v hv
      rwa [Addr.add_mid, Nat.zero_add] at this
    unfold maxLen at hm
    refine ⟨g, cap, w', hr, ⟨hc' 0 _ rfl, hc' 1 _ rfl, hc' 2 _ rfl, hc' 3 _ rfl, hc' 4 _ rfl, hc' 5 _ rfl, hc' 6 _ rfl, hc' 7 _ rfl⟩, hl, by omega, ?_, h2⟩
    rcases h4 with e | e
    · injection e with e; have e : g = EB := e; omega
    · injection e with e; have e : g = u.heap.size := e; omega
theorem wpList_append_run3 {P : Program} {w w' : World} {ops : Array Oper} {rest : List Oper} {o : Oper} {a : Act} {Q : Exit → Act → World → Prop} (hgd : o.guard = none) (s x : Operand) (t : TypeId)
    (ho : o.op = .call { callee := .builtin .append, args := #[s, x], argTypes := #[t, t] }) (v xv v' : Value)
    (hs : a.eval s = v) (hx : a.eval x = xv) (hrun : (Builtin.append_ #[t, t] o.type #[v, xv]).run P w = .ok v' w') (h : Hid (wpList P ops Q rest (a.put o.dst v') w')) : wpList P ops Q (o :: rest) a w := by
  refine wpList_plain hgd fun K hK => ?_
  unfold Oper.wp
  simp [execOp, ho, resolve, invoke, builtin, hs, hx, hrun, Result.andThen]
  exact hK _ _ h
theorem _root_.Go.Proofs.YtifepgigkmhdaaaDoor.Sza.E2.grown {w wr wr' : World} {KB HB g nb cap : Nat} {PM : List Nat} {s : S8} {WB : Nat} {row : List Nat} {EB : Nat} (h : E2 w wr KB HB g nb cap PM s WB row) (hg : wr.grownBy wr' (some EB)) (h1 : KB ≠ EB) (h2 : HB ≠ EB) (h3 : g ≠ EB) (h4 : w.heap.size < EB) (h5 : WB ≠ EB) : E2 w wr' KB HB g nb cap PM s WB row :=
  ⟨h.env.grown hg h1 h2 h3 h4, keepG hg h5 h.row, h.nk, h.nh, h.ng, h.nr⟩
end Go.Proofs.YtifepgigkmhdaaaDoor.Szb
/- The reference's state: a block's words are added. -/
namespace Go.Proofs.YtifepgigkmhdaaaDoor.Sz8
set_option linter.unusedVariables false
set_option linter.unusedSimpArgs false
set_option maxRecDepth 1000000
open Go.ChangeShapes Go.WideShapes Go.ChangeAt Go.RowKit
open Go.Proofs.YtifepgigkmhdaaaDoor.Wu Go.Proofs.YtifepgigkmhdaaaDoor.Sm Go.Proofs.YtifepgigkmhdaaaDoor.Sk Go.Proofs.YtifepgigkmhdaaaDoor.Sc Go.Proofs.YtifepgigkmhdaaaDoor.Sxa Go.Proofs.YtifepgigkmhdaaaDoor.Sh Go.Proofs.YtifepgigkmhdaaaDoor.Sn Go.Proofs.YtifepgigkmhdaaaDoor.Sw0 Go.Proofs.YtifepgigkmhdaaaDoor.Sf Go.Proofs.YtifepgigkmhdaaaDoor.So Go.Proofs.YtifepgigkmhdaaaDoor.Sv Go.Proofs.YtifepgigkmhdaaaDoor.Ap Go.Proofs.YtifepgigkmhdaaaDoor.Sr Go.Proofs.YtifepgigkmhdaaaDoor.Srf0 Go.Proofs.YtifepgigkmhdaaaDoor.Srf1 Go.Proofs.YtifepgigkmhdaaaDoor.Rk Go.Proofs.YtifepgigkmhdaaaDoor.Sza Go.Proofs.YtifepgigkmhdaaaDoor.Szb
attribute [local go_sem] kUpon_value kUpon_skip kUpon_enter
set_option maxHeartbeats 6400000 in
theorem loop8 (c0 c1 c4 c5 c10 c11 c12 c13 c14 c15 c17 c18 c19 c20 c21 c23 c24 c25 c26 c27 c28 c29 c30 c31 c32 c33 c34 c35 c36 c37 c38 c39 c40 c41 c42 c43 c44 c45 c46 c47 c48 c49 c50 c51 c52 c53 c54 c55 c56 c57 c58 c59 c60 c61 c62 c63 c64 c65 c66 c67 c68 c69 c70 c71 c72 c73 c74 c75 c76 c77 c78 c79 c80 c81 c82 c83 c84 c85 c86 c87 c88 c89 c90 c91 c92 c93 c94 c95 c96 c97 c98 c99 c100 c101 c102 c103 c104 c105 c106 c107 c108 c109 c110 c111 c112 c113 c114 c115 c116 c117 c118 c119 c120 c121 c122 c123 c124 c125 c126 c127 c128 c129 c130 c131 c132 c133 c134 c135 c136 c137 c138 c139 c140 c141 c142 c143 c144 c145 c146 c147 c148 c149 c150 c151 c152 c153 c154 c155 c156 c157 c158 c159 c160 c161 c162 c163 c164 c165 c166 c167 c168 c169 c170 c171 c172 c173 c174 c175 c176 c177 c178 c179 c180 c181 c182 c183 c184 c185 c186 c187 c188 c189 c190 c191 c192 c193 c194 c195 c196 c197 c198 c199 c200 c201 c202 c203 c204 c205 c206 c207 c208 c209 c210 c211 c212 c213 c214 c215 c216 c217 c218 c219 c220 c221 c222 c223 c224 c225 c226 c227 c228 c229 c230 c231 c232 c233 c234 c235 c236 c237 c238 c239 c240 c241 c242 c243 c244 c245 c246 c247 c248 c249 c250 c251 c252 c253 c254 c255 c256 c257 c258 c259 c260 c279 c280 c281 c282 c283 c284 c285 c286 c287 c288 c289 c290 c291 c292 c293 c294 c295 c296 c297 c298 u261 u262 u263 u264 u265 u266 u267 u268 u269 u270 u271 u272 u273 u274 u275 u276 u277 u278 : Value) (w wr : World) (KB HB g nb cap P n : Nat) (PM : List Nat) (s : S8) (Q : Exit → Act → World → Prop) (VB vc : Nat) (v : S8) (hvc : 8 ≤ vc) (hvm : vc ≤ 9223372036854775807) (hE : E3 w wr KB HB g nb cap PM s.list) (hV : V8 wr VB v) (hvh : VB ≠ HB) (hs : s.ok) (hv : v.ok)
    (hexit : ∀ (x22 x261 x262 x263 x264 x265 x266 x267 x268 x269 x270 x271 x272 x273 x274 x275 x276 x277 x278 : Value) (wx : World), E3 w wx KB HB g nb cap PM (s.add v).list → Q (.exit 14) ⟨List.toArray (c0 :: c1 :: (.pointer (some ⟨w.heap.size, 0, none⟩) : Value) :: (.slice (some ⟨g, 0, none⟩) n cap : Value) :: c4 :: c5 :: (.slice (some ⟨KB, 0, none⟩) 64 64 : Value) :: (.int .u64 4294967296 : Value) :: (.slice (some ⟨HB, 0, none⟩) 8 8 : Value) :: (.int .i64 (P : Int) : Value) :: c10 :: c11 :: c12 :: c13 :: c14 :: c15 :: (.slice (some ⟨VB, 0, none⟩) 8 vc : Value) :: c17 :: c18 :: c19 :: c20 :: c21 :: x22 :: c23 :: c24 :: c25 :: c26 :: c27 :: c28 :: c29 :: c30 :: c31 :: c32 :: c33 :: c34 :: c35 :: c36 :: c37 :: c38 :: c39 :: c40 :: c41 :: c42 :: c43 :: c44 :: c45 :: c46 :: c47 :: c48 :: c49 :: c50 :: c51 :: c52 :: c53 :: c54 :: c55 :: c56 :: c57 :: c58 :: c59 :: c60 :: c61 :: c62 :: c63 :: c64 :: c65 :: c66 :: c67 :: c68 :: c69 :: c70 :: c71 :: c72 :: c73 :: c74 :: c75 :: c76 :: c77 :: c78 :: c79 :: c80 :: c81 :: c82 :: c83 :: c84 :: c85 :: c86 :: c87 :: c88 :: c89 :: c90 :: c91 :: c92 :: c93 :: c94 :: c95 :: c96 :: c97 :: c98 :: c99 :: c100 :: c101 :: c102 :: c103 :: c104 :: c105 :: c106 :: c107 :: c108 :: c109 :: c110 :: c111 :: c112 :: c113 :: c114 :: c115 :: c116 :: c117 :: c118 :: c119 :: c120 :: c121 :: c122 :: c123 :: c124 :: c125 :: c126 :: c127 :: c128 :: c129 :: c130 :: c131 :: c132 :: c133 :: c134 :: c135 :: c136 :: c137 :: c138 :: c139 :: c140 :: c141 :: c142 :: c143 :: c144 :: c145 :: c146 :: c147 :: c148 :: c149 :: c150 :: c151 :: c152 :: c153 :: c154 :: c155 :: c156 :: c157 :: c158 :: c159 :: c160 :: c161 :: c162 :: c163 :: c164 :: c165 :: c166 :: c167 :: c168 :: c169 :: c170 :: c171 :: c172 :: c173 :: c174 :: c175 :: c176 :: c177 :: c178 :: c179 :: c180 :: c181 :: c182 :: c183 :: c184 :: c185 :: c186 :: c187 :: c188 :: c189 :: c190 :: c191 :: c192 :: c193 :: c194 :: c195 :: c196 :: c197 :: c198 :: c199 :: c200 :: c201 :: c202 :: c203 :: c204 :: c205 :: c206 :: c207 :: c208 :: c209 :: c210 :: c211 :: c212 :: c213 :: c214 :: c215 :: c216 :: c217 :: c218 :: c219 :: c220 :: c221 :: c222 :: c223 :: c224 :: c225 :: c226 :: c227 :: c228 :: c229 :: c230 :: c231 :: c232 :: c233 :: c234 :: c235 :: c236 :: c237 :: c238 :: c239 :: c240 :: c241 :: c242 :: c243 :: c244 :: c245 :: c246 :: c247 :: c248 :: c249 :: c250 :: c251 :: c252 :: c253 :: c254 :: c255 :: c256 :: c257 :: c258 :: c259 :: c260 :: x261 :: x262 :: x263 :: x264 :: x265 :: x266 :: x267 :: x268 :: x269 :: x270 :: x271 :: x272 :: x273 :: x274 :: x275 :: x276 :: x277 :: x278 :: c279 :: c280 :: c281 :: c282 :: c283 :: c284 :: c285 :: c286 :: c287 :: c288 :: c289 :: c290 :: c291 :: c292 :: c293 :: c294 :: c295 :: c296 :: c297 :: c298 :: []), []⟩ wx) :
    Code.wp Tryd.prog (lc 7) Q ⟨List.toArray (c0 :: c1 :: (.pointer (some ⟨w.heap.size, 0, none⟩) : Value) :: (.slice (some ⟨g, 0, none⟩) n cap : Value) :: c4 :: c5 :: (.slice (some ⟨KB, 0, none⟩) 64 64 : Value) :: (.int .u64 4294967296 : Value) :: (.slice (some ⟨HB, 0, none⟩) 8 8 : Value) :: (.int .i64 (P : Int) : Value) :: c10 :: c11 :: c12 :: c13 :: c14 :: c15 :: (.slice (some ⟨VB, 0, none⟩) 8 vc : Value) :: c17 :: c18 :: c19 :: c20 :: c21 :: (.int .i64 0 : Value) :: c23 :: c24 :: c25 :: c26 :: c27 :: c28 :: c29 :: c30 :: c31 :: c32 :: c33 :: c34 :: c35 :: c36 :: c37 :: c38 :: c39 :: c40 :: c41 :: c42 :: c43 :: c44 :: c45 :: c46 :: c47 :: c48 :: c49 :: c50 :: c51 :: c52 :: c53 :: c54 :: c55 :: c56 :: c57 :: c58 :: c59 :: c60 :: c61 :: c62 :: c63 :: c64 :: c65 :: c66 :: c67 :: c68 :: c69 :: c70 :: c71 :: c72 :: c73 :: c74 :: c75 :: c76 :: c77 :: c78 :: c79 :: c80 :: c81 :: c82 :: c83 :: c84 :: c85 :: c86 :: c87 :: c88 :: c89 :: c90 :: c91 :: c92 :: c93 :: c94 :: c95 :: c96 :: c97 :: c98 :: c99 :: c100 :: c101 :: c102 :: c103 :: c104 :: c105 :: c106 :: c107 :: c108 :: c109 :: c110 :: c111 :: c112 :: c113 :: c114 :: c115 :: c116 :: c117 :: c118 :: c119 :: c120 :: c121 :: c122 :: c123 :: c124 :: c125 :: c126 :: c127 :: c128 :: c129 :: c130 :: c131 :: c132 :: c133 :: c134 :: c135 :: c136 :: c137 :: c138 :: c139 :: c140 :: c141 :: c142 :: c143 :: c144 :: c145 :: c146 :: c147 :: c148 :: c149 :: c150 :: c151 :: c152 :: c153 :: c154 :: c155 :: c156 :: c157 :: c158 :: c159 :: c160 :: c161 :: c162 :: c163 :: c164 :: c165 :: c166 :: c167 :: c168 :: c169 :: c170 :: c171 :: c172 :: c173 :: c174 :: c175 :: c176 :: c177 :: c178 :: c179 :: c180 :: c181 :: c182 :: c183 :: c184 :: c185 :: c186 :: c187 :: c188 :: c189 :: c190 :: c191 :: c192 :: c193 :: c194 :: c195 :: c196 :: c197 :: c198 :: c199 :: c200 :: c201 :: c202 :: c203 :: c204 :: c205 :: c206 :: c207 :: c208 :: c209 :: c210 :: c211 :: c212 :: c213 :: c214 :: c215 :: c216 :: c217 :: c218 :: c219 :: c220 :: c221 :: c222 :: c223 :: c224 :: c225 :: c226 :: c227 :: c228 :: c229 :: c230 :: c231 :: c232 :: c233 :: c234 :: c235 :: c236 :: c237 :: c238 :: c239 :: c240 :: c241 :: c242 :: c243 :: c244 :: c245 :: c246 :: c247 :: c248 :: c249 :: c250 :: c251 :: c252 :: c253 :: c254 :: c255 :: c256 :: c257 :: c258 :: c259 :: c260 :: u261 :: u262 :: u263 :: u264 :: u265 :: u266 :: u267 :: u268 :: u269 :: u270 :: u271 :: u272 :: u273 :: u274 :: u275 :: u276 :: u277 :: u278 :: c279 :: c280 :: c281 :: c282 :: c283 :: c284 :: c285 :: c286 :: c287 :: c288 :: c289 :: c290 :: c291 :: c292 :: c293 :: c294 :: c295 :: c296 :: c297 :: c298 :: []), []⟩ wr := by
  conv => arg 2; whnf
  have HE := hide hE
  have HV := hide hV
  have Hx := hide hexit
  clear hE hV hexit
  go_loopw [22] (fun c wr => ∃ i : Nat, c = .int .i64 (i : Int) ∧ i ≤ 8 ∧ E3 w wr KB HB g nb cap PM (hRow s v i) ∧ V8 wr VB v) (fun c _ => 8 - (intOf c).toNat)
  case atStart => exact ⟨0, rfl, Nat.zero_le _, by rw [hRow_zero]; exact HE.out, HV.out⟩
  case round =>
    clear HE HV
    obtain ⟨i, rfl, hi, hE, hV⟩ := hrel
    have HE := hide hE
    have HV := hide hV
    clear hE hV
    by_cases hlt : i < 8
    · have d1 : decide ((i : Int) < 8) = true := by simp; omega
      have d1' : decide (i < 8) = true := by simp; omega
      have li : (i : Int) < 8 := by omega
      have x0 := row64 HE.out.hs (i := i) (by rw [hRow_length _ _ _ hi]; exact hlt)
      rw [hRow_at _ _ _ hlt] at x0
      have z0 : wr.frozen? ⟨HB, i, none⟩ = false := blk_free HE.out.hs
      have v0 := V8.at HV.out i hlt
      have hst := HE.out.step (hRow_step s v i hlt)
      have hvk := fun x => V8.kept (i := i) (x := x) HV.out hvh
      have bA := list_lt hs i
      have bB := list_lt hv i
      generalize s.list.getD i 0 = A at *
      generalize v.list.getD i 0 = B at *
      have HSt := hide hst
      have HVk := hide hvk
      have X0 := hide x0
      have V0 := hide v0
      clear hst hvk x0 v0
      go_wp2_with fail
      have mixed : Tryd.prog.follows Departure.mixedOrders = true := by kernel_rfl
      refine wp_region_keep_tail 14 (fun u => ∃ k, u = wr.drewN k) mixed (by kernel_rfl) ⟨1, rfl⟩ ?_
      simp only [List.take_succ_cons, List.take_zero]
      repeat (first
        | (refine keep_step (v := ?_) (by rfl) (fun u K hS hK => ?_) ?_
           rotate_left
           · obtain ⟨nn, rfl⟩ := hS
             have x1 : (wr.drewN nn).cell? ⟨HB, i, none⟩ = _ := X0.out
             have y1 : (wr.drewN nn).cell? ⟨VB, i, none⟩ = _ := V0.out
             (go_simp; with_reducible exact hK _ ⟨nn, rfl⟩)
           simp only [Act.put, List.setIfInBounds_toArray, List.set_cons_zero, List.set_cons_succ]))
      refine keep_nil (fun w3 hS3 => ?_)
      obtain ⟨k3, rfl⟩ := hS3
      simp only [List.drop_succ_cons, List.drop_zero]
      rw [sum_eq2 A B (by omega) (by omega)]
      have HS2 := hide (HSt.out k3)
      have HV2 := hide (HVk.out (.int .u64 (((A + B) % 4294967296 : Nat) : Int)) k3)
      have x2 : (wr.drewN k3).cell? ⟨HB, i, none⟩ = _ := X0.out
      have z2 : (wr.drewN k3).frozen? ⟨HB, i, none⟩ = false := z0
      clear HSt HVk X0 V0 HE HV z0
      generalize (A + B) % 4294967296 = R at *
      generalize wr.drewN k3 = w3 at *
      go_wp2
      go_roundw
      case rel => exact ⟨i + 1, by go_num, by omega, HS2.out, HV2.out⟩
      case measure => simp [intOf]; omega
    · have hk4 : i = 8 := by omega
      subst hk4
      have hE := HE.out
      rw [hRow_end] at hE
      have HE2 := hide hE
      clear hE
      have hx := Hx.out
      go_wp2
      exact HE2.out
end Go.Proofs.YtifepgigkmhdaaaDoor.Sz8
/- The reference's sum: block by block. -/
namespace Go.Proofs.YtifepgigkmhdaaaDoor.Sz3
set_option linter.unusedVariables false
set_option linter.unusedSimpArgs false
set_option maxRecDepth 1000000
open Go.ChangeShapes Go.WideShapes Go.ChangeAt Go.RowKit
open Go.Proofs.YtifepgigkmhdaaaDoor.Wu Go.Proofs.YtifepgigkmhdaaaDoor.Sm Go.Proofs.YtifepgigkmhdaaaDoor.Sk Go.Proofs.YtifepgigkmhdaaaDoor.Sc Go.Proofs.YtifepgigkmhdaaaDoor.Sxa Go.Proofs.YtifepgigkmhdaaaDoor.Sh Go.Proofs.YtifepgigkmhdaaaDoor.Sn Go.Proofs.YtifepgigkmhdaaaDoor.Sw0 Go.Proofs.YtifepgigkmhdaaaDoor.Sf Go.Proofs.YtifepgigkmhdaaaDoor.So Go.Proofs.YtifepgigkmhdaaaDoor.Sv Go.Proofs.YtifepgigkmhdaaaDoor.Ap Go.Proofs.YtifepgigkmhdaaaDoor.Sr Go.Proofs.YtifepgigkmhdaaaDoor.Srf0 Go.Proofs.YtifepgigkmhdaaaDoor.Srf1 Go.Proofs.YtifepgigkmhdaaaDoor.Rk Go.Proofs.YtifepgigkmhdaaaDoor.Sza Go.Proofs.YtifepgigkmhdaaaDoor.Szb
attribute [local go_sem] kUpon_value kUpon_skip kUpon_enter
set_option maxHeartbeats 12800000 in
theorem loop3 (c0 c1 c4 c5 c23 c24 c25 c26 c27 c28 c29 c30 c31 c32 c33 c34 c35 c36 c37 c38 c39 c40 c41 c42 c43 c44 c45 c46 c47 c48 c49 c50 c51 c52 c53 c279 c280 c281 c282 c283 c284 c285 c286 c287 c288 c289 c290 c291 c292 c293 c294 c295 c296 c297 c298 u10 u11 u12 u13 u14 u15 u16 u17 u18 u19 u20 u21 u22 u54 u55 u56 u57 u58 u59 u60 u61 u62 u63 u64 u65 u66 u67 u68 u69 u70 u71 u72 u73 u74 u75 u76 u77 u78 u79 u80 u81 u82 u83 u84 u85 u86 u87 u88 u89 u90 u91 u92 u93 u94 u95 u96 u97 u98 u99 u100 u101 u102 u103 u104 u105 u106 u107 u108 u109 u110 u111 u112 u113 u114 u115 u116 u117 u118 u119 u120 u121 u122 u123 u124 u125 u126 u127 u128 u129 u130 u131 u132 u133 u134 u135 u136 u137 u138 u139 u140 u141 u142 u143 u144 u145 u146 u147 u148 u149 u150 u151 u152 u153 u154 u155 u156 u157 u158 u159 u160 u161 u162 u163 u164 u165 u166 u167 u168 u169 u170 u171 u172 u173 u174 u175 u176 u177 u178 u179 u180 u181 u182 u183 u184 u185 u186 u187 u188 u189 u190 u191 u192 u193 u194 u195 u196 u197 u198 u199 u200 u201 u202 u203 u204 u205 u206 u207 u208 u209 u210 u211 u212 u213 u214 u215 u216 u217 u218 u219 u220 u221 u222 u223 u224 u225 u226 u227 u228 u229 u230 u231 u232 u233 u234 u235 u236 u237 u238 u239 u240 u241 u242 u243 u244 u245 u246 u247 u248 u249 u250 u251 u252 u253 u254 u255 u256 u257 u258 u259 u260 u261 u262 u263 u264 u265 u266 u267 u268 u269 u270 u271 u272 u273 u274 u275 u276 u277 u278 : Value) (w wr : World) (KB HB g nb cap n : Nat) (PM : List Nat) (Q : Exit → Act → World → Prop) (hn : n = 64 * nb) (hE : Env w wr KB HB g (64 * nb) cap PM H0) (h8 : All8 PM) (hnb : nb ≤ 40000) (nk : KB ≠ HB) (ng : g ≠ HB) (nr : w.heap.size < HB) (hgs : w.heap.size < g)
    (hexit : ∀ (x9 x10 x11 x12 x13 x14 x15 x16 x17 x18 x19 x20 x21 x22 x54 x55 x56 x57 x58 x59 x60 x61 x62 x63 x64 x65 x66 x67 x68 x69 x70 x71 x72 x73 x74 x75 x76 x77 x78 x79 x80 x81 x82 x83 x84 x85 x86 x87 x88 x89 x90 x91 x92 x93 x94 x95 x96 x97 x98 x99 x100 x101 x102 x103 x104 x105 x106 x107 x108 x109 x110 x111 x112 x113 x114 x115 x116 x117 x118 x119 x120 x121 x122 x123 x124 x125 x126 x127 x128 x129 x130 x131 x132 x133 x134 x135 x136 x137 x138 x139 x140 x141 x142 x143 x144 x145 x146 x147 x148 x149 x150 x151 x152 x153 x154 x155 x156 x157 x158 x159 x160 x161 x162 x163 x164 x165 x166 x167 x168 x169 x170 x171 x172 x173 x174 x175 x176 x177 x178 x179 x180 x181 x182 x183 x184 x185 x186 x187 x188 x189 x190 x191 x192 x193 x194 x195 x196 x197 x198 x199 x200 x201 x202 x203 x204 x205 x206 x207 x208 x209 x210 x211 x212 x213 x214 x215 x216 x217 x218 x219 x220 x221 x222 x223 x224 x225 x226 x227 x228 x229 x230 x231 x232 x233 x234 x235 x236 x237 x238 x239 x240 x241 x242 x243 x244 x245 x246 x247 x248 x249 x250 x251 x252 x253 x254 x255 x256 x257 x258 x259 x260 x261 x262 x263 x264 x265 x266 x267 x268 x269 x270 x271 x272 x273 x274 x275 x276 x277 x278 : Value) (wx : World), Env w wx KB HB g (64 * nb) cap PM (fold H0 PM nb) → Q (.exit 4) ⟨List.toArray (c0 :: c1 :: (.pointer (some ⟨w.heap.size, 0, none⟩) : Value) :: (.slice (some ⟨g, 0, none⟩) n cap : Value) :: c4 :: c5 :: (.slice (some ⟨KB, 0, none⟩) 64 64 : Value) :: (.int .u64 4294967296 : Value) :: (.slice (some ⟨HB, 0, none⟩) 8 8 : Value) :: x9 :: x10 :: x11 :: x12 :: x13 :: x14 :: x15 :: x16 :: x17 :: x18 :: x19 :: x20 :: x21 :: x22 :: c23 :: c24 :: c25 :: c26 :: c27 :: c28 :: c29 :: c30 :: c31 :: c32 :: c33 :: c34 :: c35 :: c36 :: c37 :: c38 :: c39 :: c40 :: c41 :: c42 :: c43 :: c44 :: c45 :: c46 :: c47 :: c48 :: c49 :: c50 :: c51 :: c52 :: c53 :: x54 :: x55 :: x56 :: x57 :: x58 :: x59 :: x60 :: x61 :: x62 :: x63 :: x64 :: x65 :: x66 :: x67 :: x68 :: x69 :: x70 :: x71 :: x72 :: x73 :: x74 :: x75 :: x76 :: x77 :: x78 :: x79 :: x80 :: x81 :: x82 :: x83 :: x84 :: x85 :: x86 :: x87 :: x88 :: x89 :: x90 :: x91 :: x92 :: x93 :: x94 :: x95 :: x96 :: x97 :: x98 :: x99 :: x100 :: x101 :: x102 :: x103 :: x104 :: x105 :: x106 :: x107 :: x108 :: x109 :: x110 :: x111 :: x112 :: x113 :: x114 :: x115 :: x116 :: x117 :: x118 :: x119 :: x120 :: x121 :: x122 :: x123 :: x124 :: x125 :: x126 :: x127 :: x128 :: x129 :: x130 :: x131 :: x132 :: x133 :: x134 :: x135 :: x136 :: x137 :: x138 :: x139 :: x140 :: x141 :: x142 :: x143 :: x144 :: x145 :: x146 :: x147 :: x148 :: x149 :: x150 :: x151 :: x152 :: x153 :: x154 :: x155 :: x156 :: x157 :: x158 :: x159 :: x160 :: x161 :: x162 :: x163 :: x164 :: x165 :: x166 :: x167 :: x168 :: x169 :: x170 :: x171 :: x172 :: x173 :: x174 :: x175 :: x176 :: x177 :: x178 :: x179 :: x180 :: x181 :: x182 :: x183 :: x184 :: x185 :: x186 :: x187 :: x188 :: x189 :: x190 :: x191 :: x192 :: x193 :: x194 :: x195 :: x196 :: x197 :: x198 :: x199 :: x200 :: x201 :: x202 :: x203 :: x204 :: x205 :: x206 :: x207 :: x208 :: x209 :: x210 :: x211 :: x212 :: x213 :: x214 :: x215 :: x216 :: x217 :: x218 :: x219 :: x220 :: x221 :: x222 :: x223 :: x224 :: x225 :: x226 :: x227 :: x228 :: x229 :: x230 :: x231 :: x232 :: x233 :: x234 :: x235 :: x236 :: x237 :: x238 :: x239 :: x240 :: x241 :: x242 :: x243 :: x244 :: x245 :: x246 :: x247 :: x248 :: x249 :: x250 :: x251 :: x252 :: x253 :: x254 :: x255 :: x256 :: x257 :: x258 :: x259 :: x260 :: x261 :: x262 :: x263 :: x264 :: x265 :: x266 :: x267 :: x268 :: x269 :: x270 :: x271 :: x272 :: x273 :: x274 :: x275 :: x276 :: x277 :: x278 :: c279 :: c280 :: c281 :: c282 :: c283 :: c284 :: c285 :: c286 :: c287 :: c288 :: c289 :: c290 :: c291 :: c292 :: c293 :: c294 :: c295 :: c296 :: c297 :: c298 :: []), []⟩ wx) :
    Code.wp Tryd.prog (lc 2) Q ⟨List.toArray (c0 :: c1 :: (.pointer (some ⟨w.heap.size, 0, none⟩) : Value) :: (.slice (some ⟨g, 0, none⟩) n cap : Value) :: c4 :: c5 :: (.slice (some ⟨KB, 0, none⟩) 64 64 : Value) :: (.int .u64 4294967296 : Value) :: (.slice (some ⟨HB, 0, none⟩) 8 8 : Value) :: (.int .i64 0 : Value) :: u10 :: u11 :: u12 :: u13 :: u14 :: u15 :: u16 :: u17 :: u18 :: u19 :: u20 :: u21 :: u22 :: c23 :: c24 :: c25 :: c26 :: c27 :: c28 :: c29 :: c30 :: c31 :: c32 :: c33 :: c34 :: c35 :: c36 :: c37 :: c38 :: c39 :: c40 :: c41 :: c42 :: c43 :: c44 :: c45 :: c46 :: c47 :: c48 :: c49 :: c50 :: c51 :: c52 :: c53 :: u54 :: u55 :: u56 :: u57 :: u58 :: u59 :: u60 :: u61 :: u62 :: u63 :: u64 :: u65 :: u66 :: u67 :: u68 :: u69 :: u70 :: u71 :: u72 :: u73 :: u74 :: u75 :: u76 :: u77 :: u78 :: u79 :: u80 :: u81 :: u82 :: u83 :: u84 :: u85 :: u86 :: u87 :: u88 :: u89 :: u90 :: u91 :: u92 :: u93 :: u94 :: u95 :: u96 :: u97 :: u98 :: u99 :: u100 :: u101 :: u102 :: u103 :: u104 :: u105 :: u106 :: u107 :: u108 :: u109 :: u110 :: u111 :: u112 :: u113 :: u114 :: u115 :: u116 :: u117 :: u118 :: u119 :: u120 :: u121 :: u122 :: u123 :: u124 :: u125 :: u126 :: u127 :: u128 :: u129 :: u130 :: u131 :: u132 :: u133 :: u134 :: u135 :: u136 :: u137 :: u138 :: u139 :: u140 :: u141 :: u142 :: u143 :: u144 :: u145 :: u146 :: u147 :: u148 :: u149 :: u150 :: u151 :: u152 :: u153 :: u154 :: u155 :: u156 :: u157 :: u158 :: u159 :: u160 :: u161 :: u162 :: u163 :: u164 :: u165 :: u166 :: u167 :: u168 :: u169 :: u170 :: u171 :: u172 :: u173 :: u174 :: u175 :: u176 :: u177 :: u178 :: u179 :: u180 :: u181 :: u182 :: u183 :: u184 :: u185 :: u186 :: u187 :: u188 :: u189 :: u190 :: u191 :: u192 :: u193 :: u194 :: u195 :: u196 :: u197 :: u198 :: u199 :: u200 :: u201 :: u202 :: u203 :: u204 :: u205 :: u206 :: u207 :: u208 :: u209 :: u210 :: u211 :: u212 :: u213 :: u214 :: u215 :: u216 :: u217 :: u218 :: u219 :: u220 :: u221 :: u222 :: u223 :: u224 :: u225 :: u226 :: u227 :: u228 :: u229 :: u230 :: u231 :: u232 :: u233 :: u234 :: u235 :: u236 :: u237 :: u238 :: u239 :: u240 :: u241 :: u242 :: u243 :: u244 :: u245 :: u246 :: u247 :: u248 :: u249 :: u250 :: u251 :: u252 :: u253 :: u254 :: u255 :: u256 :: u257 :: u258 :: u259 :: u260 :: u261 :: u262 :: u263 :: u264 :: u265 :: u266 :: u267 :: u268 :: u269 :: u270 :: u271 :: u272 :: u273 :: u274 :: u275 :: u276 :: u277 :: u278 :: c279 :: c280 :: c281 :: c282 :: c283 :: c284 :: c285 :: c286 :: c287 :: c288 :: c289 :: c290 :: c291 :: c292 :: c293 :: c294 :: c295 :: c296 :: c297 :: c298 :: []), []⟩ wr := by
  conv => arg 2; whnf
  have HE := hide hE
  have Hx := hide hexit
  have Hn := hide hn
  clear hE hexit hn
  go_loopw [9] (fun c wr => ∃ q P : Nat, c = .int .i64 (P : Int) ∧ P = 64 * q ∧ q ≤ nb ∧ Env w wr KB HB g (64 * nb) cap PM (fold H0 PM q)) (fun c _ => 64 * nb - (intOf c).toNat)
  case atStart => exact ⟨0, 0, rfl, rfl, Nat.zero_le _, HE.out⟩
  case round =>
    clear HE
    obtain ⟨q, P, rfl, hP, hq, hE⟩ := hrel
    have HE := hide hE
    have HP := hide hP
    clear hE
    by_cases hlt : q < nb
    · have d1 : decide ((P : Int) < (n : Int)) = true := by have := Hn.out; simp; omega
      have d1' : decide (P < n) = true := by have := Hn.out; simp; omega
      have hso := fold_ok H0_ok PM q
      have hfo : fold H0 PM (q + 1) = compress (fold H0 PM q) (blk PM q) := rfl
      have HFo := hide hfo
      have hPb : P ≤ 2560000 := by omega
      clear hfo hP
      generalize fold H0 PM q = s at *
      obtain ⟨lK, lH, lg, lr⟩ := HE.out.lts
      go_wp2_with fail
      rw [make64]
      have hb1 := below_new wr (.cells (u64s (zeros 64)) 194)
      have HE1 : Hid (E2 w (wr.alloc (.cells (u64s (zeros 64)) 194)) KB HB g nb cap PM s wr.heap.size (wHead (blk PM q) 0)) := hide ⟨HE.out.up hb1, by
        have := heap_last wr (.cells (u64s (zeros 64)) 194)
        rw [this]
        unfold wHead
        simp, by omega, by omega, by omega, by omega⟩
      clear hb1 HE
      generalize wr.alloc (.cells (u64s (zeros 64)) 194) = w1 at *
      generalize wr.heap.size = WB at *
      go_wp2_with fail
      refine Sz4.loop4 _ _ _ _ _ _ _ _ _ _ _ _ _ _ _ _ _ _ _ _ _ _ _ _ _ _ _ _ _ _ _ _ _ _ _ _ _ _ _ _ _ _ _ _ _ _ _ _ _ _ _ _ _ _ _ _ _ _ _ _ _ _ _ _ _ _ _ _ _ _ _ _ _ _ _ _ _ _ _ _ _ _ _ _ _ _ _ _ _ _ _ _ _ _ _ _ _ _ _ _ _ _ _ _ _ _ _ _ _ _ _ _ _ _ _ _ _ _ _ _ _ _ _ _ _ _ _ _ _ _ _ _ _ _ _ _ _ _ _ _ _ _ _ _ _ _ _ _ _ _ _ _ _ _ _ _ _ _ _ _ _ _ _ _ _ _ _ _ _ _ _ _ _ _ _ _ _ _ _ _ _ _ _ _ _ _ _ _ _ _ _ _ _ _ _ _ _ _ _ _ _ _ _ _ _ _ _ _ _ _ _ _ _ _ _ _ _ _ _ _ _ _ _ _ _ _ _ _ _ _ _ _ _ _ _ _ _ _ _ _ _ _ _ _ _ _ _ _ _ _ _ _ _ _ _ _ _ _ _ _ _ _ _ _ _ _ _ _ _ _ _ _ _ _ _ _ _ _ _ _ _ _ _ _ _ _ _ _ _ _ _ w w1 KB HB g nb cap q WB P n PM s _ HP.out Hn.out HE1.out h8 hlt hnb ?_
      intro x11 x12 x61 x62 x63 x64 x65 x66 x67 x68 x69 x70 x71 x72 x73 x74 x75 x76 x77 x78 x79 x80 x81 x82 x83 x84 x85 x86 x87 w2 hE2
      rw [eRow_zero] at hE2
      have HE2 := hide hE2
      clear hE2 HE1
      go_wp2_with fail
      refine Sz6.loop6 _ _ _ _ _ _ _ _ _ _ _ _ _ _ _ _ _ _ _ _ _ _ _ _ _ _ _ _ _ _ _ _ _ _ _ _ _ _ _ _ _ _ _ _ _ _ _ _ _ _ _ _ _ _ _ _ _ _ _ _ _ _ _ _ _ _ _ _ _ _ _ _ _ _ _ _ _ _ _ _ _ _ _ _ _ _ _ _ _ _ _ _ _ _ _ _ _ _ _ _ _ _ _ _ _ _ _ _ _ _ _ _ _ _ _ _ _ _ _ _ _ _ _ _ _ _ _ _ _ _ _ _ _ _ _ _ _ _ _ _ _ _ _ _ _ _ _ _ _ _ _ _ _ _ _ _ _ _ _ _ _ _ _ _ _ _ _ _ _ _ _ _ _ _ _ _ _ _ _ _ _ _ _ _ _ _ _ _ _ _ _ _ _ _ _ _ _ _ _ _ _ _ _ _ _ _ _ _ _ _ _ _ _ _ _ _ _ _ _ _ _ _ _ _ _ _ _ _ _ _ _ _ _ _ _ _ _ _ _ _ _ _ _ _ _ _ _ _ _ _ _ _ _ _ _ _ _ _ _ _ _ _ _ _ _ _ _ _ _ _ _ _ _ _ _ _ _ _ _ _ _ _ _ _ _ _ _ _ _ _ _ w w2 KB HB g nb cap q WB P n PM s _ HP.out Hn.out HE2.out h8 ?_
      intro x13 x14 x15 x88 x89 x90 x91 x92 x93 x94 x95 x96 x97 x98 x99 x100 x101 x102 x103 x104 x105 x106 x107 x108 x109 x110 x111 x112 x113 x114 x115 x116 x117 x118 x119 x120 x121 x122 x123 x124 x125 x126 x127 x128 x129 x130 x131 x132 x133 x134 x135 w3 hE3
      have HE3 := hide hE3
      clear hE3 HE2
      obtain ⟨lK3, lH3, lg3, lr3⟩ := HE3.out.env.lts
      have lW3 := heap_lt HE3.out.row
      have hb4 := below_new w3 (.cells #[] 194)
      have HE4 := hide (HE3.out.up hb4)
      have hz4 : w3.heap.size < (w3.alloc (.cells #[] 194)).heap.size := by simp
      obtain ⟨VB, vc, w5, hrun, hV5, hvc, hvm, hvh, hg5⟩ := append_h (w3.alloc (.cells #[] 194)) 213 w3.heap.size HB s (heap_last _ _) (HE4.out.env.hs) lH3 hz4
      have HE5 := hide (HE4.out.grown hg5 (by omega) (by omega) (by omega) (by omega) (by omega))
      have HV5 := hide hV5
      have HRun := hide hrun
      clear hb4 hz4 hrun hV5 hg5 HE3 HE4
      go_wp2_with (refine wpList_append_run3 rfl (.tmp 136) (.tmp 137) 213 rfl _ _ _ rfl rfl HRun.out ?_)
      refine of_hid ?_
      go_wp2_with fail
      refine Sz7.loop7 _ _ _ _ _ _ _ _ _ _ _ _ _ _ _ _ _ _ _ _ _ _ _ _ _ _ _ _ _ _ _ _ _ _ _ _ _ _ _ _ _ _ _ _ _ _ _ _ _ _ _ _ _ _ _ _ _ _ _ _ _ _ _ _ _ _ _ _ _ _ _ _ _ _ _ _ _ _ _ _ _ _ _ _ _ _ _ _ _ _ _ _ _ _ _ _ _ _ _ _ _ _ _ _ _ _ _ _ _ _ _ _ _ _ _ _ _ _ _ _ _ _ _ _ _ _ _ _ _ _ _ _ _ _ _ _ _ _ _ _ _ _ _ _ _ _ _ _ _ _ _ _ _ _ _ _ _ _ _ _ _ _ _ _ _ _ _ _ _ _ _ _ _ _ _ _ _ _ _ _ _ _ _ _ _ _ _ _ _ _ _ _ _ _ _ _ _ _ _ _ _ _ _ _ _ _ _ _ _ _ _ _ _ _ _ _ _ _ _ _ _ _ _ _ _ _ _ _ _ _ _ _ _ _ _ _ _ _ _ _ _ _ _ _ _ _ _ _ _ _ _ _ _ _ _ _ _ _ _ _ _ _ _ _ _ _ _ _ _ _ _ _ _ _ _ _ _ _ _ _ _ _ _ _ _ _ _ _ _ _ w w5 KB HB g nb cap q WB P n PM s _ HP.out Hn.out VB vc hvc hvm HE5.out HV5.out hso h8 ?_ hvh
      intro x17 x18 x19 x20 x21 x139 x140 x141 x142 x143 x144 x145 x146 x147 x148 x149 x150 x151 x152 x153 x154 x155 x156 x157 x158 x159 x160 x161 x162 x163 x164 x165 x166 x167 x168 x169 x170 x171 x172 x173 x174 x175 x176 x177 x178 x179 x180 x181 x182 x183 x184 x185 x186 x187 x188 x189 x190 x191 x192 x193 x194 x195 x196 x197 x198 x199 x200 x201 x202 x203 x204 x205 x206 x207 x208 x209 x210 x211 x212 x213 x214 x215 x216 x217 x218 x219 x220 x221 x222 x223 x224 x225 x226 x227 x228 x229 x230 x231 x232 x233 x234 x235 x236 x237 x238 x239 x240 x241 x242 x243 x244 x245 x246 x247 x248 x249 x250 x251 x252 x253 x254 x255 x256 x257 x258 x259 x260 vb vx w6 hvx hvxm hE6 hV6 hvbh
      have HE6 : Hid (E3 w w6 KB HB g nb cap PM s.list) := hide ⟨hE6.env.ks, hE6.env.hs, hE6.env.msg, hE6.env.res, hE6.env.below, nk, ng, nr⟩
      have HV6 := hide hV6
      have hvo := rounds_ok hso (sched (blk PM q)) 64
      have hco : compress s (blk PM q) = s.add (rounds (sched (blk PM q)) s 64) := rfl
      have HCo := hide hco
      clear hE6 hV6 HE5 HV5 HRun hco
      go_wp2_with fail
      refine Sz8.loop8 _ _ _ _ _ _ _ _ _ _ _ _ _ _ _ _ _ _ _ _ _ _ _ _ _ _ _ _ _ _ _ _ _ _ _ _ _ _ _ _ _ _ _ _ _ _ _ _ _ _ _ _ _ _ _ _ _ _ _ _ _ _ _ _ _ _ _ _ _ _ _ _ _ _ _ _ _ _ _ _ _ _ _ _ _ _ _ _ _ _ _ _ _ _ _ _ _ _ _ _ _ _ _ _ _ _ _ _ _ _ _ _ _ _ _ _ _ _ _ _ _ _ _ _ _ _ _ _ _ _ _ _ _ _ _ _ _ _ _ _ _ _ _ _ _ _ _ _ _ _ _ _ _ _ _ _ _ _ _ _ _ _ _ _ _ _ _ _ _ _ _ _ _ _ _ _ _ _ _ _ _ _ _ _ _ _ _ _ _ _ _ _ _ _ _ _ _ _ _ _ _ _ _ _ _ _ _ _ _ _ _ _ _ _ _ _ _ _ _ _ _ _ _ _ _ _ _ _ _ _ _ _ _ _ _ _ _ _ _ _ _ _ _ _ _ _ _ _ _ _ _ _ _ _ _ _ _ _ _ _ _ _ _ _ _ _ _ _ _ _ _ _ _ _ _ _ _ _ _ _ _ _ _ _ _ _ _ _ _ _ _ w w6 KB HB g nb cap P n PM s _ vb vx (rounds (sched (blk PM q)) s 64) hvx hvxm HE6.out HV6.out hvbh hso hvo ?_
      intro x22 x261 x262 x263 x264 x265 x266 x267 x268 x269 x270 x271 x272 x273 x274 x275 x276 x277 x278 w7 hE7
      rw [← HCo.out, ← HFo.out] at hE7
      have HE7 := hide hE7.env
      clear hE7 HE6 HV6
      go_wp2
      go_roundw
      case rel => exact ⟨q + 1, P + 64, by go_num, by have := HP.out; omega, by omega, HE7.out⟩
      case measure => have := HP.out; simp [intOf]; omega
    · have d1 : decide ((P : Int) < (n : Int)) = false := by have := Hn.out; simp; omega
      have d1' : decide (P < n) = false := by have := Hn.out; simp; omega
      have hqn : q = nb := by omega
      clear hP
      subst hqn
      have hx := Hx.out
      go_wp2
      exact HE.out
end Go.Proofs.YtifepgigkmhdaaaDoor.Sz3
/- The reference's sum: its bytes. -/
namespace Go.Proofs.YtifepgigkmhdaaaDoor.Sz9
set_option linter.unusedVariables false
set_option linter.unusedSimpArgs false
set_option maxRecDepth 1000000
open Go.ChangeShapes Go.WideShapes Go.ChangeAt Go.RowKit
open Go.Proofs.YtifepgigkmhdaaaDoor.Wu Go.Proofs.YtifepgigkmhdaaaDoor.Sm Go.Proofs.YtifepgigkmhdaaaDoor.Sk Go.Proofs.YtifepgigkmhdaaaDoor.Sc Go.Proofs.YtifepgigkmhdaaaDoor.Sxa Go.Proofs.YtifepgigkmhdaaaDoor.Sh Go.Proofs.YtifepgigkmhdaaaDoor.Sn Go.Proofs.YtifepgigkmhdaaaDoor.Sw0 Go.Proofs.YtifepgigkmhdaaaDoor.Sf Go.Proofs.YtifepgigkmhdaaaDoor.So Go.Proofs.YtifepgigkmhdaaaDoor.Sv Go.Proofs.YtifepgigkmhdaaaDoor.Ap Go.Proofs.YtifepgigkmhdaaaDoor.Sr Go.Proofs.YtifepgigkmhdaaaDoor.Srf0 Go.Proofs.YtifepgigkmhdaaaDoor.Srf1 Go.Proofs.YtifepgigkmhdaaaDoor.Rk Go.Proofs.YtifepgigkmhdaaaDoor.Sza Go.Proofs.YtifepgigkmhdaaaDoor.Szb
attribute [local go_sem] kUpon_value kUpon_skip kUpon_enter
set_option maxHeartbeats 6400000 in
theorem loop9 (c0 c1 c2 c3 c4 c5 c6 c7 c9 c10 c11 c12 c13 c14 c15 c16 c17 c18 c19 c20 c21 c22 c25 c26 c27 c28 c29 c30 c31 c32 c33 c34 c35 c36 c37 c38 c39 c40 c41 c42 c43 c44 c45 c46 c47 c48 c49 c50 c51 c52 c53 c54 c55 c56 c57 c58 c59 c60 c61 c62 c63 c64 c65 c66 c67 c68 c69 c70 c71 c72 c73 c74 c75 c76 c77 c78 c79 c80 c81 c82 c83 c84 c85 c86 c87 c88 c89 c90 c91 c92 c93 c94 c95 c96 c97 c98 c99 c100 c101 c102 c103 c104 c105 c106 c107 c108 c109 c110 c111 c112 c113 c114 c115 c116 c117 c118 c119 c120 c121 c122 c123 c124 c125 c126 c127 c128 c129 c130 c131 c132 c133 c134 c135 c136 c137 c138 c139 c140 c141 c142 c143 c144 c145 c146 c147 c148 c149 c150 c151 c152 c153 c154 c155 c156 c157 c158 c159 c160 c161 c162 c163 c164 c165 c166 c167 c168 c169 c170 c171 c172 c173 c174 c175 c176 c177 c178 c179 c180 c181 c182 c183 c184 c185 c186 c187 c188 c189 c190 c191 c192 c193 c194 c195 c196 c197 c198 c199 c200 c201 c202 c203 c204 c205 c206 c207 c208 c209 c210 c211 c212 c213 c214 c215 c216 c217 c218 c219 c220 c221 c222 c223 c224 c225 c226 c227 c228 c229 c230 c231 c232 c233 c234 c235 c236 c237 c238 c239 c240 c241 c242 c243 c244 c245 c246 c247 c248 c249 c250 c251 c252 c253 c254 c255 c256 c257 c258 c259 c260 c261 c262 c263 c264 c265 c266 c267 c268 c269 c270 c271 c272 c273 c274 c275 c276 c277 c278 c279 c298 u280 u281 u282 u283 u284 u285 u286 u287 u288 u289 u290 u291 u292 u293 u294 u295 u296 u297 : Value) (wr : World) (HB OB : Nat) (s : S8) (Q : Exit → Act → World → Prop) (hs : wr.heap[HB]? = some (.cells (u64s s.list) 194 (0, 0))) (ho : wr.heap[OB]? = some (.cells (u8s (oRow s 0)) 79 (0, 0))) (hne : HB ≠ OB) (hok : s.ok)
    (hexit : ∀ (x24 x280 x281 x282 x283 x284 x285 x286 x287 x288 x289 x290 x291 x292 x293 x294 x295 x296 x297 : Value) (wx : World), wx.heap[OB]? = some (.cells (u8s (bytes8 s)) 79 (0, 0)) ∧ wr.grownBy wx (some OB) → Q (.exit 16) ⟨List.toArray (c0 :: c1 :: c2 :: c3 :: c4 :: c5 :: c6 :: c7 :: (.slice (some ⟨HB, 0, none⟩) 8 8 : Value) :: c9 :: c10 :: c11 :: c12 :: c13 :: c14 :: c15 :: c16 :: c17 :: c18 :: c19 :: c20 :: c21 :: c22 :: (.pointer (some ⟨OB, 0, none⟩) : Value) :: x24 :: c25 :: c26 :: c27 :: c28 :: c29 :: c30 :: c31 :: c32 :: c33 :: c34 :: c35 :: c36 :: c37 :: c38 :: c39 :: c40 :: c41 :: c42 :: c43 :: c44 :: c45 :: c46 :: c47 :: c48 :: c49 :: c50 :: c51 :: c52 :: c53 :: c54 :: c55 :: c56 :: c57 :: c58 :: c59 :: c60 :: c61 :: c62 :: c63 :: c64 :: c65 :: c66 :: c67 :: c68 :: c69 :: c70 :: c71 :: c72 :: c73 :: c74 :: c75 :: c76 :: c77 :: c78 :: c79 :: c80 :: c81 :: c82 :: c83 :: c84 :: c85 :: c86 :: c87 :: c88 :: c89 :: c90 :: c91 :: c92 :: c93 :: c94 :: c95 :: c96 :: c97 :: c98 :: c99 :: c100 :: c101 :: c102 :: c103 :: c104 :: c105 :: c106 :: c107 :: c108 :: c109 :: c110 :: c111 :: c112 :: c113 :: c114 :: c115 :: c116 :: c117 :: c118 :: c119 :: c120 :: c121 :: c122 :: c123 :: c124 :: c125 :: c126 :: c127 :: c128 :: c129 :: c130 :: c131 :: c132 :: c133 :: c134 :: c135 :: c136 :: c137 :: c138 :: c139 :: c140 :: c141 :: c142 :: c143 :: c144 :: c145 :: c146 :: c147 :: c148 :: c149 :: c150 :: c151 :: c152 :: c153 :: c154 :: c155 :: c156 :: c157 :: c158 :: c159 :: c160 :: c161 :: c162 :: c163 :: c164 :: c165 :: c166 :: c167 :: c168 :: c169 :: c170 :: c171 :: c172 :: c173 :: c174 :: c175 :: c176 :: c177 :: c178 :: c179 :: c180 :: c181 :: c182 :: c183 :: c184 :: c185 :: c186 :: c187 :: c188 :: c189 :: c190 :: c191 :: c192 :: c193 :: c194 :: c195 :: c196 :: c197 :: c198 :: c199 :: c200 :: c201 :: c202 :: c203 :: c204 :: c205 :: c206 :: c207 :: c208 :: c209 :: c210 :: c211 :: c212 :: c213 :: c214 :: c215 :: c216 :: c217 :: c218 :: c219 :: c220 :: c221 :: c222 :: c223 :: c224 :: c225 :: c226 :: c227 :: c228 :: c229 :: c230 :: c231 :: c232 :: c233 :: c234 :: c235 :: c236 :: c237 :: c238 :: c239 :: c240 :: c241 :: c242 :: c243 :: c244 :: c245 :: c246 :: c247 :: c248 :: c249 :: c250 :: c251 :: c252 :: c253 :: c254 :: c255 :: c256 :: c257 :: c258 :: c259 :: c260 :: c261 :: c262 :: c263 :: c264 :: c265 :: c266 :: c267 :: c268 :: c269 :: c270 :: c271 :: c272 :: c273 :: c274 :: c275 :: c276 :: c277 :: c278 :: c279 :: x280 :: x281 :: x282 :: x283 :: x284 :: x285 :: x286 :: x287 :: x288 :: x289 :: x290 :: x291 :: x292 :: x293 :: x294 :: x295 :: x296 :: x297 :: c298 :: []), []⟩ wx) :
    Code.wp Tryd.prog (lc 8) Q ⟨List.toArray (c0 :: c1 :: c2 :: c3 :: c4 :: c5 :: c6 :: c7 :: (.slice (some ⟨HB, 0, none⟩) 8 8 : Value) :: c9 :: c10 :: c11 :: c12 :: c13 :: c14 :: c15 :: c16 :: c17 :: c18 :: c19 :: c20 :: c21 :: c22 :: (.pointer (some ⟨OB, 0, none⟩) : Value) :: (.int .i64 0 : Value) :: c25 :: c26 :: c27 :: c28 :: c29 :: c30 :: c31 :: c32 :: c33 :: c34 :: c35 :: c36 :: c37 :: c38 :: c39 :: c40 :: c41 :: c42 :: c43 :: c44 :: c45 :: c46 :: c47 :: c48 :: c49 :: c50 :: c51 :: c52 :: c53 :: c54 :: c55 :: c56 :: c57 :: c58 :: c59 :: c60 :: c61 :: c62 :: c63 :: c64 :: c65 :: c66 :: c67 :: c68 :: c69 :: c70 :: c71 :: c72 :: c73 :: c74 :: c75 :: c76 :: c77 :: c78 :: c79 :: c80 :: c81 :: c82 :: c83 :: c84 :: c85 :: c86 :: c87 :: c88 :: c89 :: c90 :: c91 :: c92 :: c93 :: c94 :: c95 :: c96 :: c97 :: c98 :: c99 :: c100 :: c101 :: c102 :: c103 :: c104 :: c105 :: c106 :: c107 :: c108 :: c109 :: c110 :: c111 :: c112 :: c113 :: c114 :: c115 :: c116 :: c117 :: c118 :: c119 :: c120 :: c121 :: c122 :: c123 :: c124 :: c125 :: c126 :: c127 :: c128 :: c129 :: c130 :: c131 :: c132 :: c133 :: c134 :: c135 :: c136 :: c137 :: c138 :: c139 :: c140 :: c141 :: c142 :: c143 :: c144 :: c145 :: c146 :: c147 :: c148 :: c149 :: c150 :: c151 :: c152 :: c153 :: c154 :: c155 :: c156 :: c157 :: c158 :: c159 :: c160 :: c161 :: c162 :: c163 :: c164 :: c165 :: c166 :: c167 :: c168 :: c169 :: c170 :: c171 :: c172 :: c173 :: c174 :: c175 :: c176 :: c177 :: c178 :: c179 :: c180 :: c181 :: c182 :: c183 :: c184 :: c185 :: c186 :: c187 :: c188 :: c189 :: c190 :: c191 :: c192 :: c193 :: c194 :: c195 :: c196 :: c197 :: c198 :: c199 :: c200 :: c201 :: c202 :: c203 :: c204 :: c205 :: c206 :: c207 :: c208 :: c209 :: c210 :: c211 :: c212 :: c213 :: c214 :: c215 :: c216 :: c217 :: c218 :: c219 :: c220 :: c221 :: c222 :: c223 :: c224 :: c225 :: c226 :: c227 :: c228 :: c229 :: c230 :: c231 :: c232 :: c233 :: c234 :: c235 :: c236 :: c237 :: c238 :: c239 :: c240 :: c241 :: c242 :: c243 :: c244 :: c245 :: c246 :: c247 :: c248 :: c249 :: c250 :: c251 :: c252 :: c253 :: c254 :: c255 :: c256 :: c257 :: c258 :: c259 :: c260 :: c261 :: c262 :: c263 :: c264 :: c265 :: c266 :: c267 :: c268 :: c269 :: c270 :: c271 :: c272 :: c273 :: c274 :: c275 :: c276 :: c277 :: c278 :: c279 :: u280 :: u281 :: u282 :: u283 :: u284 :: u285 :: u286 :: u287 :: u288 :: u289 :: u290 :: u291 :: u292 :: u293 :: u294 :: u295 :: u296 :: u297 :: c298 :: []), []⟩ wr := by
  conv => arg 2; whnf
  have HS := hide hs
  have HO := hide ho
  have Hx := hide hexit
  clear hs ho hexit
  go_loopw [24] (fun c wx => ∃ i : Nat, c = .int .i64 (i : Int) ∧ i ≤ 32 ∧ wx.heap[OB]? = some (.cells (u8s (oRow s i)) 79 (0, 0)) ∧ wr.grownBy wx (some OB)) (fun c _ => 32 - (intOf c).toNat)
  case atStart => exact ⟨0, rfl, Nat.zero_le _, HO.out, World.grownBy.refl _ _⟩
  case round =>
    clear HO
    obtain ⟨i, rfl, hi, hO, hG⟩ := hrel
    by_cases hlt : i < 32
    · have d1 : decide ((i : Int) < 32) = true := by simp; omega
      have d1' : decide (i < 32) = true := by simp; omega
      have li : (i : Int) < 32 := by omega
      have x0 := row64 (keepG hG hne HS.out) (i := i / 4) (by show i / 4 < 8; omega)
      have y0 := row8 hO (i := i) (by rw [oRow_length _ _ hi]; exact hlt)
      have z0 := blk_free (i := i) hO
      have hst := blk_set (i := i) hO (.int .u8 ((((s.list.getD (i / 4) 0 >>> (24 - 8 * (i % 4))) % 256 : Nat)) : Int))
      rw [u8s_set, oRow_step s i hlt] at hst
      have hg2 := grown_setCell hG i (.int .u8 ((((s.list.getD (i / 4) 0 >>> (24 - 8 * (i % 4))) % 256 : Nat)) : Int))
      have bA := list_lt hok (i / 4)
      generalize s.list.getD (i / 4) 0 = A at *
      generalize (oRow s i).getD i 0 = O at *
      have HSt := hide hst
      have HG2 := hide hg2
      clear hst hg2 hO hG
      have e1 : (i : Int).tdiv 4 = ((i / 4 : Nat) : Int) := by rw [Int.tdiv_eq_ediv_of_nonneg (by omega)]; omega
      have e2 : (i : Int).tmod 4 = ((i % 4 : Nat) : Int) := by rw [Int.tmod_eq_emod_of_nonneg (by omega)]; omega
      have e3 : ((i / 4 : Nat) : Int) < 8 := by omega
      obtain ⟨q4, hq4⟩ : ∃ q4, q4 = i / 4 := ⟨_, rfl⟩
      obtain ⟨r4, hr4⟩ : ∃ r4, r4 = i % 4 := ⟨_, rfl⟩
      have hr4b : r4 < 4 := by omega
      go_wp2
      go_roundw
      case rel =>
        rw [shr_mod]
        exact ⟨i + 1, by go_num, by omega, HSt.out, HG2.out⟩
      case measure => simp [intOf]; omega
    · have hk4 : i = 32 := by omega
      subst hk4
      rw [oRow_end] at hO
      have HOe := hide hO
      have HGe := hide hG
      clear hO hG
      have hx := Hx.out
      go_wp2
      exact ⟨HOe.out, HGe.out⟩
end Go.Proofs.YtifepgigkmhdaaaDoor.Sz9
