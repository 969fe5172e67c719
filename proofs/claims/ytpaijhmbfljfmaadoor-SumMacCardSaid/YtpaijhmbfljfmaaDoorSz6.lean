/- The reference's words: the others. -/
import Derived.Test.YtpaijhmbfljfmaaDoorSza
namespace Go.Proofs.YtpaijhmbfljfmaaDoor.Sz6
set_option linter.unusedVariables false
set_option linter.unusedSimpArgs false
set_option maxRecDepth 1000000
open Go.ChangeShapes Go.WideShapes Go.ChangeAt Go.RowKit
open Go.Proofs.YtpaijhmbfljfmaaDoor.Wu Go.Proofs.YtpaijhmbfljfmaaDoor.Sm Go.Proofs.YtpaijhmbfljfmaaDoor.Sk Go.Proofs.YtpaijhmbfljfmaaDoor.Sc Go.Proofs.YtpaijhmbfljfmaaDoor.Sxa Go.Proofs.YtpaijhmbfljfmaaDoor.Sh Go.Proofs.YtpaijhmbfljfmaaDoor.Sn Go.Proofs.YtpaijhmbfljfmaaDoor.Sw0 Go.Proofs.YtpaijhmbfljfmaaDoor.Sf Go.Proofs.YtpaijhmbfljfmaaDoor.So Go.Proofs.YtpaijhmbfljfmaaDoor.Sv Go.Proofs.YtpaijhmbfljfmaaDoor.Ap Go.Proofs.YtpaijhmbfljfmaaDoor.Sr Go.Proofs.YtpaijhmbfljfmaaDoor.Srf0 Go.Proofs.YtpaijhmbfljfmaaDoor.Srf1 Go.Proofs.YtpaijhmbfljfmaaDoor.Rk Go.Proofs.YtpaijhmbfljfmaaDoor.Sza
attribute [local go_sem] kUpon_value kUpon_skip kUpon_enter
set_option maxHeartbeats 6400000 in
theorem loop6 (c0 c1 c4 c5 c11 c12 c16 c17 c18 c19 c20 c21 c22 c23 c24 c25 c26 c27 c28 c29 c30 c31 c32 c33 c34 c35 c36 c37 c38 c39 c40 c41 c42 c43 c44 c45 c46 c47 c48 c49 c50 c51 c52 c53 c54 c55 c56 c57 c58 c59 c60 c61 c62 c63 c64 c65 c66 c67 c68 c69 c70 c71 c72 c73 c74 c75 c76 c77 c78 c79 c80 c81 c82 c83 c84 c85 c86 c87 c136 c137 c138 c139 c140 c141 c142 c143 c144 c145 c146 c147 c148 c149 c150 c151 c152 c153 c154 c155 c156 c157 c158 c159 c160 c161 c162 c163 c164 c165 c166 c167 c168 c169 c170 c171 c172 c173 c174 c175 c176 c177 c178 c179 c180 c181 c182 c183 c184 c185 c186 c187 c188 c189 c190 c191 c192 c193 c194 c195 c196 c197 c198 c199 c200 c201 c202 c203 c204 c205 c206 c207 c208 c209 c210 c211 c212 c213 c214 c215 c216 c217 c218 c219 c220 c221 c222 c223 c224 c225 c226 c227 c228 c229 c230 c231 c232 c233 c234 c235 c236 c237 c238 c239 c240 c241 c242 c243 c244 c245 c246 c247 c248 c249 c250 c251 c252 c253 c254 c255 c256 c257 c258 c259 c260 c261 c262 c263 c264 c265 c266 c267 c268 c269 c270 c271 c272 c273 c274 c275 c276 c277 c278 c279 c280 c281 c282 c283 c284 c285 c286 c287 c288 c289 c290 c291 c292 c293 c294 c295 c296 c297 c298 u14 u15 u88 u89 u90 u91 u92 u93 u94 u95 u96 u97 u98 u99 u100 u101 u102 u103 u104 u105 u106 u107 u108 u109 u110 u111 u112 u113 u114 u115 u116 u117 u118 u119 u120 u121 u122 u123 u124 u125 u126 u127 u128 u129 u130 u131 u132 u133 u134 u135 : Value) (w wr : World) (KB HB g nb cap q WB P n : Nat) (PM : List Nat) (s : S8) (Q : Exit → Act → World → Prop) (hP : P = 64 * q) (hn : n = 64 * nb) (hE : E2 w wr KB HB g nb cap PM s WB (eRow (blk PM q) 0)) (h8 : All8 PM)
    (hexit : ∀ (x13 x14 x15 x88 x89 x90 x91 x92 x93 x94 x95 x96 x97 x98 x99 x100 x101 x102 x103 x104 x105 x106 x107 x108 x109 x110 x111 x112 x113 x114 x115 x116 x117 x118 x119 x120 x121 x122 x123 x124 x125 x126 x127 x128 x129 x130 x131 x132 x133 x134 x135 : Value) (wx : World), E2 w wx KB HB g nb cap PM s WB (sched (blk PM q)) → Q (.exit 10) ⟨List.toArray (c0 :: c1 :: (.pointer (some ⟨w.heap.size, 0, none⟩) : Value) :: (.slice (some ⟨g, 0, none⟩) n cap : Value) :: c4 :: c5 :: (.slice (some ⟨KB, 0, none⟩) 64 64 : Value) :: (.int .u64 4294967296 : Value) :: (.slice (some ⟨HB, 0, none⟩) 8 8 : Value) :: (.int .i64 (P : Int) : Value) :: (.slice (some ⟨WB, 0, none⟩) 64 64 : Value) :: c11 :: c12 :: x13 :: x14 :: x15 :: c16 :: c17 :: c18 :: c19 :: c20 :: c21 :: c22 :: c23 :: c24 :: c25 :: c26 :: c27 :: c28 :: c29 :: c30 :: c31 :: c32 :: c33 :: c34 :: c35 :: c36 :: c37 :: c38 :: c39 :: c40 :: c41 :: c42 :: c43 :: c44 :: c45 :: c46 :: c47 :: c48 :: c49 :: c50 :: c51 :: c52 :: c53 :: c54 :: c55 :: c56 :: c57 :: c58 :: c59 :: c60 :: c61 :: c62 :: c63 :: c64 :: c65 :: c66 :: c67 :: c68 :: c69 :: c70 :: c71 :: c72 :: c73 :: c74 :: c75 :: c76 :: c77 :: c78 :: c79 :: c80 :: c81 :: c82 :: c83 :: c84 :: c85 :: c86 :: c87 :: x88 :: x89 :: x90 :: x91 :: x92 :: x93 :: x94 :: x95 :: x96 :: x97 :: x98 :: x99 :: x100 :: x101 :: x102 :: x103 :: x104 :: x105 :: x106 :: x107 :: x108 :: x109 :: x110 :: x111 :: x112 :: x113 :: x114 :: x115 :: x116 :: x117 :: x118 :: x119 :: x120 :: x121 :: x122 :: x123 :: x124 :: x125 :: x126 :: x127 :: x128 :: x129 :: x130 :: x131 :: x132 :: x133 :: x134 :: x135 :: c136 :: c137 :: c138 :: c139 :: c140 :: c141 :: c142 :: c143 :: c144 :: c145 :: c146 :: c147 :: c148 :: c149 :: c150 :: c151 :: c152 :: c153 :: c154 :: c155 :: c156 :: c157 :: c158 :: c159 :: c160 :: c161 :: c162 :: c163 :: c164 :: c165 :: c166 :: c167 :: c168 :: c169 :: c170 :: c171 :: c172 :: c173 :: c174 :: c175 :: c176 :: c177 :: c178 :: c179 :: c180 :: c181 :: c182 :: c183 :: c184 :: c185 :: c186 :: c187 :: c188 :: c189 :: c190 :: c191 :: c192 :: c193 :: c194 :: c195 :: c196 :: c197 :: c198 :: c199 :: c200 :: c201 :: c202 :: c203 :: c204 :: c205 :: c206 :: c207 :: c208 :: c209 :: c210 :: c211 :: c212 :: c213 :: c214 :: c215 :: c216 :: c217 :: c218 :: c219 :: c220 :: c221 :: c222 :: c223 :: c224 :: c225 :: c226 :: c227 :: c228 :: c229 :: c230 :: c231 :: c232 :: c233 :: c234 :: c235 :: c236 :: c237 :: c238 :: c239 :: c240 :: c241 :: c242 :: c243 :: c244 :: c245 :: c246 :: c247 :: c248 :: c249 :: c250 :: c251 :: c252 :: c253 :: c254 :: c255 :: c256 :: c257 :: c258 :: c259 :: c260 :: c261 :: c262 :: c263 :: c264 :: c265 :: c266 :: c267 :: c268 :: c269 :: c270 :: c271 :: c272 :: c273 :: c274 :: c275 :: c276 :: c277 :: c278 :: c279 :: c280 :: c281 :: c282 :: c283 :: c284 :: c285 :: c286 :: c287 :: c288 :: c289 :: c290 :: c291 :: c292 :: c293 :: c294 :: c295 :: c296 :: c297 :: c298 :: []), []⟩ wx) :
    Code.wp Tryd.prog (lc 5) Q ⟨List.toArray (c0 :: c1 :: (.pointer (some ⟨w.heap.size, 0, none⟩) : Value) :: (.slice (some ⟨g, 0, none⟩) n cap : Value) :: c4 :: c5 :: (.slice (some ⟨KB, 0, none⟩) 64 64 : Value) :: (.int .u64 4294967296 : Value) :: (.slice (some ⟨HB, 0, none⟩) 8 8 : Value) :: (.int .i64 (P : Int) : Value) :: (.slice (some ⟨WB, 0, none⟩) 64 64 : Value) :: c11 :: c12 :: (.int .i64 16 : Value) :: u14 :: u15 :: c16 :: c17 :: c18 :: c19 :: c20 :: c21 :: c22 :: c23 :: c24 :: c25 :: c26 :: c27 :: c28 :: c29 :: c30 :: c31 :: c32 :: c33 :: c34 :: c35 :: c36 :: c37 :: c38 :: c39 :: c40 :: c41 :: c42 :: c43 :: c44 :: c45 :: c46 :: c47 :: c48 :: c49 :: c50 :: c51 :: c52 :: c53 :: c54 :: c55 :: c56 :: c57 :: c58 :: c59 :: c60 :: c61 :: c62 :: c63 :: c64 :: c65 :: c66 :: c67 :: c68 :: c69 :: c70 :: c71 :: c72 :: c73 :: c74 :: c75 :: c76 :: c77 :: c78 :: c79 :: c80 :: c81 :: c82 :: c83 :: c84 :: c85 :: c86 :: c87 :: u88 :: u89 :: u90 :: u91 :: u92 :: u93 :: u94 :: u95 :: u96 :: u97 :: u98 :: u99 :: u100 :: u101 :: u102 :: u103 :: u104 :: u105 :: u106 :: u107 :: u108 :: u109 :: u110 :: u111 :: u112 :: u113 :: u114 :: u115 :: u116 :: u117 :: u118 :: u119 :: u120 :: u121 :: u122 :: u123 :: u124 :: u125 :: u126 :: u127 :: u128 :: u129 :: u130 :: u131 :: u132 :: u133 :: u134 :: u135 :: c136 :: c137 :: c138 :: c139 :: c140 :: c141 :: c142 :: c143 :: c144 :: c145 :: c146 :: c147 :: c148 :: c149 :: c150 :: c151 :: c152 :: c153 :: c154 :: c155 :: c156 :: c157 :: c158 :: c159 :: c160 :: c161 :: c162 :: c163 :: c164 :: c165 :: c166 :: c167 :: c168 :: c169 :: c170 :: c171 :: c172 :: c173 :: c174 :: c175 :: c176 :: c177 :: c178 :: c179 :: c180 :: c181 :: c182 :: c183 :: c184 :: c185 :: c186 :: c187 :: c188 :: c189 :: c190 :: c191 :: c192 :: c193 :: c194 :: c195 :: c196 :: c197 :: c198 :: c199 :: c200 :: c201 :: c202 :: c203 :: c204 :: c205 :: c206 :: c207 :: c208 :: c209 :: c210 :: c211 :: c212 :: c213 :: c214 :: c215 :: c216 :: c217 :: c218 :: c219 :: c220 :: c221 :: c222 :: c223 :: c224 :: c225 :: c226 :: c227 :: c228 :: c229 :: c230 :: c231 :: c232 :: c233 :: c234 :: c235 :: c236 :: c237 :: c238 :: c239 :: c240 :: c241 :: c242 :: c243 :: c244 :: c245 :: c246 :: c247 :: c248 :: c249 :: c250 :: c251 :: c252 :: c253 :: c254 :: c255 :: c256 :: c257 :: c258 :: c259 :: c260 :: c261 :: c262 :: c263 :: c264 :: c265 :: c266 :: c267 :: c268 :: c269 :: c270 :: c271 :: c272 :: c273 :: c274 :: c275 :: c276 :: c277 :: c278 :: c279 :: c280 :: c281 :: c282 :: c283 :: c284 :: c285 :: c286 :: c287 :: c288 :: c289 :: c290 :: c291 :: c292 :: c293 :: c294 :: c295 :: c296 :: c297 :: c298 :: []), []⟩ wr := by
  conv => arg 2; whnf
  have HE := hide hE
  have Hx := hide hexit
  clear hE hexit hP hn
  go_loopw [13] (fun c wr => ∃ j i : Nat, c = .int .i64 (i : Int) ∧ i = 16 + j ∧ j ≤ 48 ∧ E2 w wr KB HB g nb cap PM s WB (eRow (blk PM q) j)) (fun c _ => 64 - (intOf c).toNat)
  case atStart => exact ⟨0, 16, rfl, rfl, Nat.zero_le _, HE.out⟩
  case round =>
    clear HE
    obtain ⟨j, i, rfl, hi, hj, hE⟩ := hrel
    have HE := hide hE
    clear hE
    by_cases hlt : j < 48
    · have d1 : decide ((i : Int) < 64) = true := by simp; omega
      have d1' : decide (i < 64) = true := by simp; omega
      have hrow := HE.out.row
      have a32 := eRow_all (all8_blk h8 q) j
      have rl := eRow_length (blk PM q) j hj
      have x15 := row64 hrow (i := j + 1) (by rw [rl]; omega)
      have x2 := row64 hrow (i := j + 14) (by rw [rl]; omega)
      have x16 := row64 hrow (i := j) (by rw [rl]; omega)
      have x7 := row64 hrow (i := j + 9) (by rw [rl]; omega)
      have xi := row64 hrow (i := i) (by rw [rl]; omega)
      have zi : wr.frozen? ⟨WB, i, none⟩ = false := blk_free hrow
      have hnx := nxt_is (blk PM q) j
      have b15 := all32_getD a32 (j + 1)
      have b2 := all32_getD a32 (j + 14)
      have b16 := all32_getD a32 j
      have b7 := all32_getD a32 (j + 9)
      have hst := HE.out.step (eRow_step (blk PM q) j hlt) (by rw [rl]; omega)
      rw [hnx, ← hi] at hst
      generalize (eRow (blk PM q) j).getD (j + 1) 0 = X at *
      generalize (eRow (blk PM q) j).getD (j + 14) 0 = Y at *
      generalize (eRow (blk PM q) j).getD j 0 = A at *
      generalize (eRow (blk PM q) j).getD (j + 9) 0 = B at *
      generalize (eRow (blk PM q) j).getD i 0 = O at *
      have HSt := hide hst
      clear hst hnx a32 rl hrow
      have X15 : Hid (wr.cell? ⟨WB, i - 15, none⟩ = some (.int .u64 (X : Int))) := hide (by rw [show i - 15 = j + 1 by omega]; exact x15)
      have X2 : Hid (wr.cell? ⟨WB, i - 2, none⟩ = some (.int .u64 (Y : Int))) := hide (by rw [show i - 2 = j + 14 by omega]; exact x2)
      have X16 : Hid (wr.cell? ⟨WB, i - 16, none⟩ = some (.int .u64 (A : Int))) := hide (by rw [show i - 16 = j by omega]; exact x16)
      have X7 : Hid (wr.cell? ⟨WB, i - 7, none⟩ = some (.int .u64 (B : Int))) := hide (by rw [show i - 7 = j + 9 by omega]; exact x7)
      have XI := hide xi
      have hi1 : 16 ≤ i := by omega
      have hi2 : i < 64 := by omega
      have Hi := hide hi
      clear x15 x2 x16 x7 xi hi
      have e15 : IntKind.i64.wrap ((i : Int) - 15) = (i : Int) - 15 := IntWalk.i64_in _ (by omega)
      have e2 : IntKind.i64.wrap ((i : Int) - 2) = (i : Int) - 2 := IntWalk.i64_in _ (by omega)
      have e16 : IntKind.i64.wrap ((i : Int) - 16) = (i : Int) - 16 := IntWalk.i64_in _ (by omega)
      have e7 : IntKind.i64.wrap ((i : Int) - 7) = (i : Int) - 7 := IntWalk.i64_in _ (by omega)
      have n15 : (0 : Int) ≤ (i : Int) - 15 := by omega
      have n2 : (0 : Int) ≤ (i : Int) - 2 := by omega
      have n16 : (0 : Int) ≤ (i : Int) - 16 := by omega
      have n7 : (0 : Int) ≤ (i : Int) - 7 := by omega
      have m15 : (15 : Int) ≤ (i : Int) := by omega
      have m2 : (2 : Int) ≤ (i : Int) := by omega
      have m16 : (16 : Int) ≤ (i : Int) := by omega
      have m7 : (7 : Int) ≤ (i : Int) := by omega
      have li : (i : Int) < 64 := by omega
      have l15 : (i : Int) - 15 < 64 := by omega
      have l2 : (i : Int) - 2 < 64 := by omega
      have l16 : (i : Int) - 16 < 64 := by omega
      have l7 : (i : Int) - 7 < 64 := by omega
      have t15 : ((i : Int) - 15).toNat = i - 15 := by omega
      have t2 : ((i : Int) - 2).toNat = i - 2 := by omega
      have t16 : ((i : Int) - 16).toNat = i - 16 := by omega
      have t7 : ((i : Int) - 7).toNat = i - 7 := by omega
      go_wp2_with fail
      have mixed : Tryd.prog.follows Departure.mixedOrders = true := by kernel_rfl
      refine wp_region_keep (fun u => ∃ k, u = wr.drewN k) mixed (by kernel_rfl) ⟨1, rfl⟩ ?_
      repeat (first
        | (refine keep_step (v := ?_) (by rfl) (fun u K hS hK => ?_) ?_
           rotate_left
           · obtain ⟨nn, rfl⟩ := hS
             have y15 : (wr.drewN nn).cell? ⟨WB, i - 15, none⟩ = _ := X15.out
             have y2 : (wr.drewN nn).cell? ⟨WB, i - 2, none⟩ = _ := X2.out
             (go_simp; with_reducible exact hK _ ⟨nn, rfl⟩)
           simp only [Act.put, List.setIfInBounds_toArray, List.set_cons_zero, List.set_cons_succ]))
      refine keep_nil (fun w3 hS3 => ?_)
      obtain ⟨k3, rfl⟩ := hS3
      go_wp2_with fail
      have HR := hide (fun (x n k : Nat) (hx : x < 4294967296) (hn : 1 ≤ n) (hn' : n ≤ 31) => right_c x n (wr.drewN k) hx hn hn')
      refine wp_region_keep_tail 34 (fun u => ∃ k, u = wr.drewN k) mixed (by kernel_rfl) ⟨k3 + 1, rfl⟩ ?_
      simp only [List.take_succ_cons, List.take_zero]
      repeat (first
        | (refine keep_step (v := ?_) (by rfl) (fun u K hS hK => ?_) ?_
           rotate_left
           · obtain ⟨nn, rfl⟩ := hS
             have y16 : (wr.drewN nn).cell? ⟨WB, i - 16, none⟩ = _ := X16.out
             have y7 : (wr.drewN nn).cell? ⟨WB, i - 7, none⟩ = _ := X7.out
             (go_simp; first
               | (with_reducible exact hK _ ⟨nn, rfl⟩)
               | (go_at_call 61; (with_reducible refine Calls.mono (HR.out X 7 nn b15 (by omega) (by omega)) ?_); rintro e u2 ⟨rfl, kk, rfl⟩; exact hK _ ⟨nn + kk, drewN_add _ _ _⟩)
               | (go_at_call 61; (with_reducible refine Calls.mono (HR.out X 18 nn b15 (by omega) (by omega)) ?_); rintro e u2 ⟨rfl, kk, rfl⟩; exact hK _ ⟨nn + kk, drewN_add _ _ _⟩)
               | (go_at_call 61; (with_reducible refine Calls.mono (HR.out Y 17 nn b2 (by omega) (by omega)) ?_); rintro e u2 ⟨rfl, kk, rfl⟩; exact hK _ ⟨nn + kk, drewN_add _ _ _⟩)
               | (go_at_call 61; (with_reducible refine Calls.mono (HR.out Y 19 nn b2 (by omega) (by omega)) ?_); rintro e u2 ⟨rfl, kk, rfl⟩; exact hK _ ⟨nn + kk, drewN_add _ _ _⟩))
           simp only [Act.put, List.setIfInBounds_toArray, List.set_cons_zero, List.set_cons_succ]))
      refine keep_nil (fun w3 hS3 => ?_)
      obtain ⟨k4, rfl⟩ := hS3
      simp only [List.drop_succ_cons, List.drop_zero]
      have y3 : (wr.drewN k4).cell? ⟨WB, i, none⟩ = _ := XI.out
      have z2 : (wr.drewN k4).frozen? ⟨WB, i, none⟩ = false := zi
      have HS2 := hide (HSt.out k4)
      generalize wr.drewN k4 = w3 at *
      clear X15 X2 X16 X7 XI HE HR HSt
      go_wp2
      go_roundw
      case rel =>
        refine ⟨j + 1, i + 1, by go_num, by have := Hi.out; omega, by omega, ?_⟩
        rw [word_eq A X B Y b16 b15 b7 b2]
        exact HS2.out
      case measure => simp [intOf]; omega
    · have hj4 : j = 48 := by omega
      subst hj4
      subst hi
      have hE := HE.out
      rw [eRow_end] at hE
      have HE := hide hE
      clear hE
      have hx := Hx.out
      go_wp2
      exact HE.out
end Go.Proofs.YtpaijhmbfljfmaaDoor.Sz6
