/- The reference's sum of a text. -/
import Derived.Test.YtpaijhmbfljfmaaDoorSrf1
import Derived.Test.YtpaijhmbfljfmaaDoorSv
import Derived.OwnWalk
import Derived.Test.YtpaijhmbfljfmaaDoorSz3
import Derived.Test.YtpaijhmbfljfmaaDoorSz9
namespace Go.Proofs.YtpaijhmbfljfmaaDoor.Srf
set_option linter.unusedVariables false
set_option linter.unusedSimpArgs false
set_option maxRecDepth 100000
open Go.ChangeShapes Go.WideShapes Go.ChangeAt Go.RowKit
open Go.Proofs.YtpaijhmbfljfmaaDoor.Wu Go.Proofs.YtpaijhmbfljfmaaDoor.Sm Go.Proofs.YtpaijhmbfljfmaaDoor.Sk Go.Proofs.YtpaijhmbfljfmaaDoor.Sc Go.Proofs.YtpaijhmbfljfmaaDoor.Sxa Go.Proofs.YtpaijhmbfljfmaaDoor.Sh Go.Proofs.YtpaijhmbfljfmaaDoor.Sn Go.Proofs.YtpaijhmbfljfmaaDoor.Sw0 Go.Proofs.YtpaijhmbfljfmaaDoor.Sf Go.Proofs.YtpaijhmbfljfmaaDoor.So Go.Proofs.YtpaijhmbfljfmaaDoor.St Go.Proofs.YtpaijhmbfljfmaaDoor.Sv Go.Proofs.YtpaijhmbfljfmaaDoor.Ap Go.Proofs.YtpaijhmbfljfmaaDoor.Sr Go.Proofs.YtpaijhmbfljfmaaDoor.Srf0 Go.Proofs.YtpaijhmbfljfmaaDoor.Srf1 Go.Proofs.YtpaijhmbfljfmaaDoor.Rk Go.Proofs.YtpaijhmbfljfmaaDoor.Sza Go.Proofs.YtpaijhmbfljfmaaDoor.Szb
attribute [local go_sem] kUpon_value kUpon_skip kUpon_enter

theorem gap_no (n k : Nat) (h : k < gap n) : (n + 1 + k) % 64 ≠ 56 := by unfold gap at h; omega
theorem gap_yes (n : Nat) : (n + 1 + gap n) % 64 = 56 := by unfold gap; omega
theorem src_one {w : World} {B : Nat} {x : Nat} {T : TypeId} {f : Nat × Nat} (h : w.heap[B]? = some (.cells #[.int .u8 (x : Int)] T f)) (hx : x < 256) : SrcB w (some ⟨B, 0, none⟩) 1 [x] :=
  ⟨rfl, by intro z hz; simp only [List.mem_singleton] at hz; omega, B, 0, fun _ => rfl, fun i hi => by
    obtain rfl : i = 0 := by omega
    exact blk_cell h rfl⟩
theorem len8_take (c j : Nat) (h : j < 8) : (len8 c).take (j + 1) = (len8 c).take j ++ [c / 2 ^ (8 * (7 - j)) % 256] := by
  match j, h with
  | 0, _ => simp [len8]
  | 1, _ => simp [len8]
  | 2, _ => simp [len8]
  | 3, _ => simp [len8]
  | 4, _ => simp [len8]
  | 5, _ => simp [len8]
  | 6, _ => simp [len8]
  | 7, _ => simp [len8]
/-- The message behind j of the length's bytes. -/
def padR (M : List Nat) (j : Nat) : List Nat := M ++ 128 :: (zeros (gap M.length) ++ (len8 (8 * M.length)).take j)
theorem padR_zero (M : List Nat) : padR M 0 = M ++ 128 :: zeros (gap M.length) := by simp [padR]
theorem padR_step (M : List Nat) (j : Nat) (h : j < 8) : padR M (j + 1) = padR M j ++ [8 * M.length / 2 ^ (8 * (7 - j)) % 256] := by
  unfold padR; rw [len8_take _ _ h]; simp
theorem padR_end (M : List Nat) (h : M.length ≤ 1000000) : padR M 8 = padded M := by
  unfold padR padded tail
  rw [Nat.mod_eq_of_lt (by omega)]
  rfl
theorem padR_all {M : List Nat} (h : All8 M) (j : Nat) : All8 (padR M j) := by
  refine all8_append h ?_
  intro z hz
  simp only [List.mem_cons, List.mem_append] at hz
  rcases hz with rfl | hz | hz
  · omega
  · exact all8_zeros _ z hz
  · exact all8_len8 _ z (List.mem_of_mem_take hz)
set_option maxHeartbeats 3200000 in
theorem loop3c {code : Code} (hcode : lc 2 = code) (c0 c1 c4 c5 c23 c24 c25 c26 c27 c28 c29 c30 c31 c32 c33 c34 c35 c36 c37 c38 c39 c40 c41 c42 c43 c44 c45 c46 c47 c48 c49 c50 c51 c52 c53 c279 c280 c281 c282 c283 c284 c285 c286 c287 c288 c289 c290 c291 c292 c293 c294 c295 c296 c297 c298 u10 u11 u12 u13 u14 u15 u16 u17 u18 u19 u20 u21 u22 u54 u55 u56 u57 u58 u59 u60 u61 u62 u63 u64 u65 u66 u67 u68 u69 u70 u71 u72 u73 u74 u75 u76 u77 u78 u79 u80 u81 u82 u83 u84 u85 u86 u87 u88 u89 u90 u91 u92 u93 u94 u95 u96 u97 u98 u99 u100 u101 u102 u103 u104 u105 u106 u107 u108 u109 u110 u111 u112 u113 u114 u115 u116 u117 u118 u119 u120 u121 u122 u123 u124 u125 u126 u127 u128 u129 u130 u131 u132 u133 u134 u135 u136 u137 u138 u139 u140 u141 u142 u143 u144 u145 u146 u147 u148 u149 u150 u151 u152 u153 u154 u155 u156 u157 u158 u159 u160 u161 u162 u163 u164 u165 u166 u167 u168 u169 u170 u171 u172 u173 u174 u175 u176 u177 u178 u179 u180 u181 u182 u183 u184 u185 u186 u187 u188 u189 u190 u191 u192 u193 u194 u195 u196 u197 u198 u199 u200 u201 u202 u203 u204 u205 u206 u207 u208 u209 u210 u211 u212 u213 u214 u215 u216 u217 u218 u219 u220 u221 u222 u223 u224 u225 u226 u227 u228 u229 u230 u231 u232 u233 u234 u235 u236 u237 u238 u239 u240 u241 u242 u243 u244 u245 u246 u247 u248 u249 u250 u251 u252 u253 u254 u255 u256 u257 u258 u259 u260 u261 u262 u263 u264 u265 u266 u267 u268 u269 u270 u271 u272 u273 u274 u275 u276 u277 u278 : Value) (w wr : World) (KB HB g nb cap n : Nat) (PM : List Nat) (Q : Exit → Act → World → Prop) (hn : n = 64 * nb) (hE : Env w wr KB HB g (64 * nb) cap PM H0) (h8 : All8 PM) (hnb : nb ≤ 40000) (nk : KB ≠ HB) (ng : g ≠ HB) (nr : w.heap.size < HB) (hgs : w.heap.size < g)
    (hexit : ∀ (x9 x10 x11 x12 x13 x14 x15 x16 x17 x18 x19 x20 x21 x22 x54 x55 x56 x57 x58 x59 x60 x61 x62 x63 x64 x65 x66 x67 x68 x69 x70 x71 x72 x73 x74 x75 x76 x77 x78 x79 x80 x81 x82 x83 x84 x85 x86 x87 x88 x89 x90 x91 x92 x93 x94 x95 x96 x97 x98 x99 x100 x101 x102 x103 x104 x105 x106 x107 x108 x109 x110 x111 x112 x113 x114 x115 x116 x117 x118 x119 x120 x121 x122 x123 x124 x125 x126 x127 x128 x129 x130 x131 x132 x133 x134 x135 x136 x137 x138 x139 x140 x141 x142 x143 x144 x145 x146 x147 x148 x149 x150 x151 x152 x153 x154 x155 x156 x157 x158 x159 x160 x161 x162 x163 x164 x165 x166 x167 x168 x169 x170 x171 x172 x173 x174 x175 x176 x177 x178 x179 x180 x181 x182 x183 x184 x185 x186 x187 x188 x189 x190 x191 x192 x193 x194 x195 x196 x197 x198 x199 x200 x201 x202 x203 x204 x205 x206 x207 x208 x209 x210 x211 x212 x213 x214 x215 x216 x217 x218 x219 x220 x221 x222 x223 x224 x225 x226 x227 x228 x229 x230 x231 x232 x233 x234 x235 x236 x237 x238 x239 x240 x241 x242 x243 x244 x245 x246 x247 x248 x249 x250 x251 x252 x253 x254 x255 x256 x257 x258 x259 x260 x261 x262 x263 x264 x265 x266 x267 x268 x269 x270 x271 x272 x273 x274 x275 x276 x277 x278 : Value) (wx : World), Env w wx KB HB g (64 * nb) cap PM (fold H0 PM nb) → Q (.exit 4) ⟨List.toArray (c0 :: c1 :: (.pointer (some ⟨w.heap.size, 0, none⟩) : Value) :: (.slice (some ⟨g, 0, none⟩) n cap : Value) :: c4 :: c5 :: (.slice (some ⟨KB, 0, none⟩) 64 64 : Value) :: (.int .u64 4294967296 : Value) :: (.slice (some ⟨HB, 0, none⟩) 8 8 : Value) :: x9 :: x10 :: x11 :: x12 :: x13 :: x14 :: x15 :: x16 :: x17 :: x18 :: x19 :: x20 :: x21 :: x22 :: c23 :: c24 :: c25 :: c26 :: c27 :: c28 :: c29 :: c30 :: c31 :: c32 :: c33 :: c34 :: c35 :: c36 :: c37 :: c38 :: c39 :: c40 :: c41 :: c42 :: c43 :: c44 :: c45 :: c46 :: c47 :: c48 :: c49 :: c50 :: c51 :: c52 :: c53 :: x54 :: x55 :: x56 :: x57 :: x58 :: x59 :: x60 :: x61 :: x62 :: x63 :: x64 :: x65 :: x66 :: x67 :: x68 :: x69 :: x70 :: x71 :: x72 :: x73 :: x74 :: x75 :: x76 :: x77 :: x78 :: x79 :: x80 :: x81 :: x82 :: x83 :: x84 :: x85 :: x86 :: x87 :: x88 :: x89 :: x90 :: x91 :: x92 :: x93 :: x94 :: x95 :: x96 :: x97 :: x98 :: x99 :: x100 :: x101 :: x102 :: x103 :: x104 :: x105 :: x106 :: x107 :: x108 :: x109 :: x110 :: x111 :: x112 :: x113 :: x114 :: x115 :: x116 :: x117 :: x118 :: x119 :: x120 :: x121 :: x122 :: x123 :: x124 :: x125 :: x126 :: x127 :: x128 :: x129 :: x130 :: x131 :: x132 :: x133 :: x134 :: x135 :: x136 :: x137 :: x138 :: x139 :: x140 :: x141 :: x142 :: x143 :: x144 :: x145 :: x146 :: x147 :: x148 :: x149 :: x150 :: x151 :: x152 :: x153 :: x154 :: x155 :: x156 :: x157 :: x158 :: x159 :: x160 :: x161 :: x162 :: x163 :: x164 :: x165 :: x166 :: x167 :: x168 :: x169 :: x170 :: x171 :: x172 :: x173 :: x174 :: x175 :: x176 :: x177 :: x178 :: x179 :: x180 :: x181 :: x182 :: x183 :: x184 :: x185 :: x186 :: x187 :: x188 :: x189 :: x190 :: x191 :: x192 :: x193 :: x194 :: x195 :: x196 :: x197 :: x198 :: x199 :: x200 :: x201 :: x202 :: x203 :: x204 :: x205 :: x206 :: x207 :: x208 :: x209 :: x210 :: x211 :: x212 :: x213 :: x214 :: x215 :: x216 :: x217 :: x218 :: x219 :: x220 :: x221 :: x222 :: x223 :: x224 :: x225 :: x226 :: x227 :: x228 :: x229 :: x230 :: x231 :: x232 :: x233 :: x234 :: x235 :: x236 :: x237 :: x238 :: x239 :: x240 :: x241 :: x242 :: x243 :: x244 :: x245 :: x246 :: x247 :: x248 :: x249 :: x250 :: x251 :: x252 :: x253 :: x254 :: x255 :: x256 :: x257 :: x258 :: x259 :: x260 :: x261 :: x262 :: x263 :: x264 :: x265 :: x266 :: x267 :: x268 :: x269 :: x270 :: x271 :: x272 :: x273 :: x274 :: x275 :: x276 :: x277 :: x278 :: c279 :: c280 :: c281 :: c282 :: c283 :: c284 :: c285 :: c286 :: c287 :: c288 :: c289 :: c290 :: c291 :: c292 :: c293 :: c294 :: c295 :: c296 :: c297 :: c298 :: []), []⟩ wx) :
    Code.wp Tryd.prog code Q ⟨List.toArray (c0 :: c1 :: (.pointer (some ⟨w.heap.size, 0, none⟩) : Value) :: (.slice (some ⟨g, 0, none⟩) n cap : Value) :: c4 :: c5 :: (.slice (some ⟨KB, 0, none⟩) 64 64 : Value) :: (.int .u64 4294967296 : Value) :: (.slice (some ⟨HB, 0, none⟩) 8 8 : Value) :: (.int .i64 0 : Value) :: u10 :: u11 :: u12 :: u13 :: u14 :: u15 :: u16 :: u17 :: u18 :: u19 :: u20 :: u21 :: u22 :: c23 :: c24 :: c25 :: c26 :: c27 :: c28 :: c29 :: c30 :: c31 :: c32 :: c33 :: c34 :: c35 :: c36 :: c37 :: c38 :: c39 :: c40 :: c41 :: c42 :: c43 :: c44 :: c45 :: c46 :: c47 :: c48 :: c49 :: c50 :: c51 :: c52 :: c53 :: u54 :: u55 :: u56 :: u57 :: u58 :: u59 :: u60 :: u61 :: u62 :: u63 :: u64 :: u65 :: u66 :: u67 :: u68 :: u69 :: u70 :: u71 :: u72 :: u73 :: u74 :: u75 :: u76 :: u77 :: u78 :: u79 :: u80 :: u81 :: u82 :: u83 :: u84 :: u85 :: u86 :: u87 :: u88 :: u89 :: u90 :: u91 :: u92 :: u93 :: u94 :: u95 :: u96 :: u97 :: u98 :: u99 :: u100 :: u101 :: u102 :: u103 :: u104 :: u105 :: u106 :: u107 :: u108 :: u109 :: u110 :: u111 :: u112 :: u113 :: u114 :: u115 :: u116 :: u117 :: u118 :: u119 :: u120 :: u121 :: u122 :: u123 :: u124 :: u125 :: u126 :: u127 :: u128 :: u129 :: u130 :: u131 :: u132 :: u133 :: u134 :: u135 :: u136 :: u137 :: u138 :: u139 :: u140 :: u141 :: u142 :: u143 :: u144 :: u145 :: u146 :: u147 :: u148 :: u149 :: u150 :: u151 :: u152 :: u153 :: u154 :: u155 :: u156 :: u157 :: u158 :: u159 :: u160 :: u161 :: u162 :: u163 :: u164 :: u165 :: u166 :: u167 :: u168 :: u169 :: u170 :: u171 :: u172 :: u173 :: u174 :: u175 :: u176 :: u177 :: u178 :: u179 :: u180 :: u181 :: u182 :: u183 :: u184 :: u185 :: u186 :: u187 :: u188 :: u189 :: u190 :: u191 :: u192 :: u193 :: u194 :: u195 :: u196 :: u197 :: u198 :: u199 :: u200 :: u201 :: u202 :: u203 :: u204 :: u205 :: u206 :: u207 :: u208 :: u209 :: u210 :: u211 :: u212 :: u213 :: u214 :: u215 :: u216 :: u217 :: u218 :: u219 :: u220 :: u221 :: u222 :: u223 :: u224 :: u225 :: u226 :: u227 :: u228 :: u229 :: u230 :: u231 :: u232 :: u233 :: u234 :: u235 :: u236 :: u237 :: u238 :: u239 :: u240 :: u241 :: u242 :: u243 :: u244 :: u245 :: u246 :: u247 :: u248 :: u249 :: u250 :: u251 :: u252 :: u253 :: u254 :: u255 :: u256 :: u257 :: u258 :: u259 :: u260 :: u261 :: u262 :: u263 :: u264 :: u265 :: u266 :: u267 :: u268 :: u269 :: u270 :: u271 :: u272 :: u273 :: u274 :: u275 :: u276 :: u277 :: u278 :: c279 :: c280 :: c281 :: c282 :: c283 :: c284 :: c285 :: c286 :: c287 :: c288 :: c289 :: c290 :: c291 :: c292 :: c293 :: c294 :: c295 :: c296 :: c297 :: c298 :: []), []⟩ wr  := by
  subst hcode
  exact Sz3.loop3 c0 c1 c4 c5 c23 c24 c25 c26 c27 c28 c29 c30 c31 c32 c33 c34 c35 c36 c37 c38 c39 c40 c41 c42 c43 c44 c45 c46 c47 c48 c49 c50 c51 c52 c53 c279 c280 c281 c282 c283 c284 c285 c286 c287 c288 c289 c290 c291 c292 c293 c294 c295 c296 c297 c298 u10 u11 u12 u13 u14 u15 u16 u17 u18 u19 u20 u21 u22 u54 u55 u56 u57 u58 u59 u60 u61 u62 u63 u64 u65 u66 u67 u68 u69 u70 u71 u72 u73 u74 u75 u76 u77 u78 u79 u80 u81 u82 u83 u84 u85 u86 u87 u88 u89 u90 u91 u92 u93 u94 u95 u96 u97 u98 u99 u100 u101 u102 u103 u104 u105 u106 u107 u108 u109 u110 u111 u112 u113 u114 u115 u116 u117 u118 u119 u120 u121 u122 u123 u124 u125 u126 u127 u128 u129 u130 u131 u132 u133 u134 u135 u136 u137 u138 u139 u140 u141 u142 u143 u144 u145 u146 u147 u148 u149 u150 u151 u152 u153 u154 u155 u156 u157 u158 u159 u160 u161 u162 u163 u164 u165 u166 u167 u168 u169 u170 u171 u172 u173 u174 u175 u176 u177 u178 u179 u180 u181 u182 u183 u184 u185 u186 u187 u188 u189 u190 u191 u192 u193 u194 u195 u196 u197 u198 u199 u200 u201 u202 u203 u204 u205 u206 u207 u208 u209 u210 u211 u212 u213 u214 u215 u216 u217 u218 u219 u220 u221 u222 u223 u224 u225 u226 u227 u228 u229 u230 u231 u232 u233 u234 u235 u236 u237 u238 u239 u240 u241 u242 u243 u244 u245 u246 u247 u248 u249 u250 u251 u252 u253 u254 u255 u256 u257 u258 u259 u260 u261 u262 u263 u264 u265 u266 u267 u268 u269 u270 u271 u272 u273 u274 u275 u276 u277 u278 w wr KB HB g nb cap n PM Q hn hE h8 hnb nk ng nr hgs hexit
set_option maxHeartbeats 3200000 in
set_option maxRecDepth 100000 in
theorem refOf_c (M : List Nat) (w : World) (h8 : All8 M) (hbig : M.length ≤ 1000000) :
    Calls Tryd.prog 18 #[.string (strN M)] w fun e w' => e = .returned (.agg (u8s (sha M))) ∧ Below w.heap.size w w' := by
  obtain ⟨cap0, w0, hcv, hD0, hB0⟩ := conv_bytes (w.alloc (.cells (u8s (zeros 32)) 27)) M h8 (by omega)
  have HR0 := hide (below_blk hB0 (by simp) (heap_last w (.cells (u8s (zeros 32)) 27)))
  have HB0 := hide ((below_new w (.cells (u8s (zeros 32)) 27)).trans (hB0.mono (by simp)))
  have HD0 := hide hD0
  rw [zlit8.symm] at hcv
  clear hB0 hD0
  go_enter Tryd.func18, Tryd.ntmps18
  have HS0 := hide (src_one (heap_last w0 (.cells #[.int .u8 ((128 : Nat) : Int)] 5)) (by omega))
  have HD1 := hide (HD0.out.below (below_new w0 (.cells #[.int .u8 ((128 : Nat) : Int)] 5)) HD0.out.lt)
  have HR1 := hide (heap_old HR0.out (.cells #[.int .u8 ((128 : Nat) : Int)] 5))
  have HB1 := hide (HB0.out.alloc HB0.out.size (.cells #[.int .u8 ((128 : Nat) : Int)] 5))
  simp only [World.size_alloc] at HD1
  clear HD0 HR0 HB0
  go_wp2_with (refine wpList_append_dst rfl (.tmp 26) (.tmp 27) rfl (w.heap.size + 1) M.length cap0 M (some ⟨w0.heap.size, 0, none⟩) 1 1 [128] rfl rfl HD1.out HS0.out (by omega) (fun h => by cases h) ?_)
  intro g1 cap1 w1 HD2 HG2 hg
  clear hcv
  have HR2 := hide (keepG HG2.out (by omega) HR1.out)
  have HB2 := hide (belowG HB1.out HG2.out (by omega) HB1.out.size)
  have hg1 : w.heap.size < g1 := by
    have := heap_lt HR1.out
    simp only [World.size_alloc] at this hg
    rcases hg with h | h <;> omega
  clear HD1 HR1 HB1 HG2 hg HS0
  refine of_hid ?_
  as_aux_lemma =>
    have hgl := gap_lt M.length
    go_wp2_with fail
    go_loopw [3] (fun b wr => ∃ k g cap : Nat, k ≤ gap M.length ∧ b = .slice (some ⟨g, 0, none⟩) (M.length + 1 + k) cap ∧ w.heap.size < g ∧ Dst wr g (M.length + 1 + k) cap (M ++ 128 :: zeros k) ∧ wr.heap[w.heap.size]? = some (.cells (u8s (zeros 32)) 27 (0, 0)) ∧ Below w.heap.size w wr) (fun b _ => match b with | .slice _ n _ => M.length + 1 + gap M.length - n | _ => 0)
    case atStart => exact ⟨0, g1, cap1, by omega, rfl, hg1, HD2.out, HR2.out, HB2.out⟩
    case round =>
      clear HD2 HR2 HB2 hg1
      obtain ⟨k, g, cap, hk, rfl, hg, hd, hr, hb⟩ := hrel
      have HD := hide hd
      have HR := hide hr
      have HB := hide hb
      clear hd hr hb
      obtain ⟨n, hn⟩ : ∃ n, n = M.length + 1 + k := ⟨_, rfl⟩
      by_cases hlt : k < gap M.length
      · have h56 := gap_no M.length k hlt
        rw [← hn] at h56 HD ⊢
        have hnb : n ≤ 2000000 := by omega
        have HN := hide hn
        clear hn
        have q1 : ((n : Int) % 64 == 56) = false := by simp; omega
        have q2 : ((n : Int) % 64 != 56) = true := by simp; omega
        have HS := hide (src_one (heap_last wr (.cells #[.int .u8 ((0 : Nat) : Int)] 5)) (by omega))
        have HD1 := hide (HD.out.below (below_new wr (.cells #[.int .u8 ((0 : Nat) : Int)] 5)) HD.out.lt)
        have HR1 := hide (heap_old HR.out (.cells #[.int .u8 ((0 : Nat) : Int)] 5))
        have HB1 := hide (HB.out.alloc HB.out.size (.cells #[.int .u8 ((0 : Nat) : Int)] 5))
        clear HD HR HB
        go_wp2_with (refine wpList_append_dst rfl (.tmp 33) (.tmp 34) rfl g n cap _ (some ⟨wr.heap.size, 0, none⟩) 1 1 [0] rfl rfl HD1.out HS.out (by omega) (fun h => by cases h) ?_)
        intro g2 cap2 w2 HD3 HG3 hgg
        have HR3 := hide (keepG HG3.out (by omega) HR1.out)
        have HB3 := hide (belowG HB1.out HG3.out (by omega) HB1.out.size)
        have hg2 : w.heap.size < g2 := by
          have := heap_lt HR1.out
          simp only [World.size_alloc] at this hgg
          rcases hgg with h | h <;> omega
        clear HD1 HR1 HB1 HG3 hgg HS
        refine of_hid ?_
        go_wp2
        go_roundw
        case rel =>
          refine ⟨k + 1, g2, cap2, by omega, ?_, hg2, ?_, HR3.out, HB3.out⟩
          · rw [show M.length + 1 + (k + 1) = n + 1 by have := HN.out; omega]
          · have e : M ++ 128 :: zeros (k + 1) = M ++ 128 :: (zeros k ++ [0]) := by
              rw [show zeros (k + 1) = zeros k ++ [0] by unfold zeros; rw [List.replicate_succ']]
            rw [e, show M.length + 1 + (k + 1) = n + 1 by have := HN.out; omega]
            exact HD3.out
        case measure => show M.length + 1 + gap M.length - (n + 1) < M.length + 1 + gap M.length - n; have := HN.out; omega
      · have hkg : k = gap M.length := by omega
        have h56 := gap_yes M.length
        rw [← hkg, ← hn] at h56
        rw [← hn] at HD ⊢
        have hnb : n ≤ 2000000 := by omega
        have q1 : ((n : Int) % 64 == 56) = true := by simp; omega
        have q2 : ((n : Int) % 64 != 56) = false := by simp; omega
        have HN : Hid (n = M.length + 1 + gap M.length) := by show _ = _; rw [hn, hkg]
        rw [hkg] at HD
        clear hn hkg hlt hk
        have HD' := HD.out
        rw [← padR_zero] at HD'
        have HDz := hide HD'
        clear HD HD'
        have hsz : (strN M).size = M.length := Srt.strN_size M
        as_aux_lemma =>
        go_wp2_with fail
        clear hsz q1 q2
        go_loopw [5, 3] (fun i b wr => ∃ j g cap : Nat, j ≤ 8 ∧ i = .int .i64 (7 - (j : Int)) ∧ b = .slice (some ⟨g, 0, none⟩) (n + j) cap ∧ w.heap.size < g ∧ Dst wr g (n + j) cap (padR M j) ∧ wr.heap[w.heap.size]? = some (.cells (u8s (zeros 32)) 27 (0, 0)) ∧ Below w.heap.size w wr) (fun _ b _ => match b with | .slice _ l _ => n + 8 - l | _ => 0)
        case atStart => exact ⟨0, g, cap, by omega, rfl, rfl, hg, HDz.out, HR.out, HB.out⟩
        case round =>
          clear HDz HR HB hg
          obtain ⟨j, g, cap, hj, rfl, rfl, hg, hd, hr, hb⟩ := hrel
          have HD := hide hd
          have HR := hide hr
          have HB := hide hb
          clear hd hr hb
          by_cases hlt : j < 8
          · obtain ⟨t, ht⟩ : ∃ t, t = 7 - j := ⟨_, rfl⟩
            have htj : (7 : Int) - (j : Int) = (t : Int) := by omega
            rw [htj]
            have ht7 : t ≤ 7 := by omega
            have Htj := hide htj
            have Hps := hide (padR_step M j hlt)
            rw [← ht] at Hps
            have Ht := hide ht
            clear htj ht
            have c0 : (0 : Int) ≤ (M.length : Int) * 8 := by omega
            have d0 : decide ((0 : Int) ≤ (t : Int)) = true := by simp
            have hev : ((M.length : Int) * 8 / 2 ^ (8 * t)) % 256 = ((8 * M.length / 2 ^ (8 * t) % 256 : Nat) : Int) := by
              rw [Int.natCast_emod, Int.natCast_ediv, Int.natCast_mul, Int.natCast_pow, Int.mul_comm]; rfl
            have hx : 8 * M.length / 2 ^ (8 * t) % 256 < 256 := Nat.mod_lt _ (by omega)
            obtain ⟨x, hxd⟩ : ∃ x, x = 8 * M.length / 2 ^ (8 * t) % 256 := ⟨_, rfl⟩
            rw [← hxd] at hev hx Hps
            clear hxd
            have HS := hide (src_one (heap_last wr (.cells #[.int .u8 (x : Int)] 5)) hx)
            have HD1 := hide (HD.out.below (below_new wr (.cells #[.int .u8 (x : Int)] 5)) HD.out.lt)
            have HR1 := hide (heap_old HR.out (.cells #[.int .u8 (x : Int)] 5))
            have HB1 := hide (HB.out.alloc HB.out.size (.cells #[.int .u8 (x : Int)] 5))
            clear HD HR HB
            as_aux_lemma =>
              go_wp2_with (refine wpList_append_dst rfl (.tmp 44) (.tmp 50) rfl g (n + j) cap _ (some ⟨wr.heap.size, 0, none⟩) 1 1 [x] rfl rfl HD1.out HS.out (by omega) (fun h => by cases h) ?_)
              intro g2 cap2 w2 HD3 HG3 hgg
              have HR3 := hide (keepG HG3.out (by omega) HR1.out)
              have HB3 := hide (belowG HB1.out HG3.out (by omega) HB1.out.size)
              have hg2 : w.heap.size < g2 := by
                have := heap_lt HR1.out
                simp only [World.size_alloc] at this hgg
                rcases hgg with h | h <;> omega
              clear HD1 HR1 HB1 HG3 hgg HS hev
              refine of_hid ?_
              go_wp2
              go_roundw
              case rel =>
                refine ⟨j + 1, g2, cap2, by omega, ?_, rfl, hg2, ?_, HR3.out, HB3.out⟩
                · refine congrArg (Value.int .i64) ?_
                  have := Htj.out
                  omega
                · rw [Hps.out]
                  exact HD3.out
              case measure => show n + 8 - (n + j + 1) < n + 8 - (n + j); omega
          · have hj8 : j = 8 := by omega
            subst hj8
            have HD' := HD.out
            rw [padR_end M hbig] at HD'
            have HDp := hide HD'
            have hpl : n + 8 = (padded M).length := HD'.len.symm
            have HP8 := hide HD'.all
            obtain ⟨PM, hPM⟩ : ∃ PM, PM = padded M := ⟨_, rfl⟩
            have HPM := hide hPM
            have hmod := padded_mod M
            rw [← hPM] at HDp HP8 hpl hmod
            have HPl := hide hpl
            clear HD HD' hpl hPM
            obtain ⟨nb, hnb2⟩ : ∃ nb, n + 8 = 64 * nb := ⟨(n + 8) / 64, by have := HPl.out; omega⟩
            have Hnb := hide hnb2
            rw [hnb2] at HDp HPl ⊢
            have hnb3 : nb ≤ 40000 := by omega
            clear hnb2 HN hmod h56
            as_aux_lemma =>
              have d0 : decide ((0 : Int) ≤ 7 - ((8 : Nat) : Int)) = false := by simp
              go_wp2_with fail
              refine (parts_c wr).mono ?_
              rintro e w3 ⟨rfl, hw3⟩
              have hKs := heap_last wr (.cells (u64s Ks) 100)
              have hEb := below_new wr (.cells (u64s Ks) 100)
              rw [hw3] at hKs hEb
              have hz3 := heap_lt hKs
              have hk3 : wr.heap.size < w3.heap.size := hz3
              have hHs := heap_last w3 (.cells (u64s H0.list) 100)
              have hEc := below_new w3 (.cells (u64s H0.list) 100)
              have HE : Hid (Env w (w3.alloc (.cells (u64s H0.list) 100)) wr.heap.size w3.heap.size g (64 * nb) cap PM H0) :=
                ⟨heap_old hKs _, hHs, (HDp.out.below hEb HDp.out.lt).below hEc (HDp.out.below hEb HDp.out.lt).lt, heap_old (below_blk hEb (heap_lt HR.out) HR.out) _, keepB hEc (Nat.le_refl _) (keepB hEb (Nat.le_refl _) HB.out)⟩
              have hgK : g < wr.heap.size := HDp.out.lt
              clear hHs hEc hKs hEb hw3 HDp HR HB
              have hKH : wr.heap.size < w3.heap.size := hk3
              clear hz3 hk3
              clear d0
              rw [show (7 : Int) - ((8 : Nat) : Int) = -1 from rfl]
              go_wp2_with (refine wpList_buildSlice_to rfl 105 8 _ rfl (some 53) rfl _ (by as_aux_lemma => kernel_rfl) _ _ (build_h0 _) ?_)
              generalize (w3.alloc (.cells (u64s H0.list) 100)) = w4 at *
              generalize w3.heap.size = HB at *
              generalize wr.heap.size = KB at *
              refine of_hid ?_
              go_wp2_with fail
              as_aux_lemma =>
                have hkh : KB ≠ HB := by as_aux_lemma => omega
                have hgh : g ≠ HB := by as_aux_lemma => omega
                have hwh : w.heap.size < HB := by as_aux_lemma => omega
                refine loop3c (by as_aux_lemma => rfl) _ _ _ _ _ _ _ _ _ _ _ _ _ _ _ _ _ _ _ _ _ _ _ _ _ _ _ _ _ _ _ _ _ _ _ _ _ _ _ _ _ _ _ _ _ _ _ _ _ _ _ _ _ _ _ _ _ _ _ _ _ _ _ _ _ _ _ _ _ _ _ _ _ _ _ _ _ _ _ _ _ _ _ _ _ _ _ _ _ _ _ _ _ _ _ _ _ _ _ _ _ _ _ _ _ _ _ _ _ _ _ _ _ _ _ _ _ _ _ _ _ _ _ _ _ _ _ _ _ _ _ _ _ _ _ _ _ _ _ _ _ _ _ _ _ _ _ _ _ _ _ _ _ _ _ _ _ _ _ _ _ _ _ _ _ _ _ _ _ _ _ _ _ _ _ _ _ _ _ _ _ _ _ _ _ _ _ _ _ _ _ _ _ _ _ _ _ _ _ _ _ _ _ _ _ _ _ _ _ _ _ _ _ _ _ _ _ _ _ _ _ _ _ _ _ _ _ _ _ _ _ _ _ _ _ _ _ _ _ _ _ _ _ _ _ _ _ _ _ _ _ _ _ _ _ _ _ _ _ _ _ _ _ _ _ _ _ _ _ _ _ _ _ _ _ _ _ _ _ _ _ _ _ _ _ _ _ _ _ _ _ _ _ w w4 KB HB g nb cap (64 * nb) PM _ rfl HE.out HP8.out hnb3 hkh hgh hwh hg ?_
                intro x9 x10 x11 x12 x13 x14 x15 x16 x17 x18 x19 x20 x21 x22 x54 x55 x56 x57 x58 x59 x60 x61 x62 x63 x64 x65 x66 x67 x68 x69 x70 x71 x72 x73 x74 x75 x76 x77 x78 x79 x80 x81 x82 x83 x84 x85 x86 x87 x88 x89 x90 x91 x92 x93 x94 x95 x96 x97 x98 x99 x100 x101 x102 x103 x104 x105 x106 x107 x108 x109 x110 x111 x112 x113 x114 x115 x116 x117 x118 x119 x120 x121 x122 x123 x124 x125 x126 x127 x128 x129 x130 x131 x132 x133 x134 x135 x136 x137 x138 x139 x140 x141 x142 x143 x144 x145 x146 x147 x148 x149 x150 x151 x152 x153 x154 x155 x156 x157 x158 x159 x160 x161 x162 x163 x164 x165 x166 x167 x168 x169 x170 x171 x172 x173 x174 x175 x176 x177 x178 x179 x180 x181 x182 x183 x184 x185 x186 x187 x188 x189 x190 x191 x192 x193 x194 x195 x196 x197 x198 x199 x200 x201 x202 x203 x204 x205 x206 x207 x208 x209 x210 x211 x212 x213 x214 x215 x216 x217 x218 x219 x220 x221 x222 x223 x224 x225 x226 x227 x228 x229 x230 x231 x232 x233 x234 x235 x236 x237 x238 x239 x240 x241 x242 x243 x244 x245 x246 x247 x248 x249 x250 x251 x252 x253 x254 x255 x256 x257 x258 x259 x260 x261 x262 x263 x264 x265 x266 x267 x268 x269 x270 x271 x272 x273 x274 x275 x276 x277 x278 w5 hE5
                have HE5 := hide hE5
                clear hE5 HE
                as_aux_lemma =>
                  have hst : bytes8 (fold H0 PM nb) = sha M := by
                    as_aux_lemma =>
                      have h1 := HPl.out
                      unfold sha st
                      rw [← HPM.out, ← h1, show 64 * nb / 64 = nb by omega]
                  have hok := fold_ok H0_ok PM nb
                  obtain ⟨s, hs⟩ : ∃ s, s = fold H0 PM nb := ⟨_, rfl⟩
                  rw [← hs] at hst hok HE5
                  have Hst := hide hst
                  clear hst hs
                  have hb6 := below_new w5 (.cells (u8s (zeros 32)) 27)
                  have HE6 := hide (HE5.out.up hb6)
                  have HO6 := hide (heap_last w5 (.cells (u8s (zeros 32)) 27))
                  obtain ⟨lK5, lH5, lg5, lr5⟩ := HE5.out.lts
                  clear hb6 HE5
                  as_aux_lemma =>
                    go_wp2_with (refine wpList_store_whole rfl 27 (.tmp 23) (.tmp 279) rfl w5.heap.size (zeros 32) (zeros 32) 27 rfl (by rw [← zlit8]; rfl) ?_ rfl (by rw [infoS, zeros_length]) ?_; rw [zlit8]; exact HO6.out)
                    intro w6 HO7 HG6
                    refine of_hid ?_
                    rw [zlit8] at HG6
                    have HE7 := hide (HE6.out.grown HG6.out (by omega) (by omega) (by omega) (by omega))
                    clear HE6 HO6 HG6
                    as_aux_lemma =>
                      generalize w5.heap.size = OB at *
                      have HO6 := HO7
                      have HE6 := HE7
                      clear HO7 HE7
                      go_wp2_with fail
                      as_aux_lemma =>
                        refine Sz9.loop9 _ _ _ _ _ _ _ _ _ _ _ _ _ _ _ _ _ _ _ _ _ _ _ _ _ _ _ _ _ _ _ _ _ _ _ _ _ _ _ _ _ _ _ _ _ _ _ _ _ _ _ _ _ _ _ _ _ _ _ _ _ _ _ _ _ _ _ _ _ _ _ _ _ _ _ _ _ _ _ _ _ _ _ _ _ _ _ _ _ _ _ _ _ _ _ _ _ _ _ _ _ _ _ _ _ _ _ _ _ _ _ _ _ _ _ _ _ _ _ _ _ _ _ _ _ _ _ _ _ _ _ _ _ _ _ _ _ _ _ _ _ _ _ _ _ _ _ _ _ _ _ _ _ _ _ _ _ _ _ _ _ _ _ _ _ _ _ _ _ _ _ _ _ _ _ _ _ _ _ _ _ _ _ _ _ _ _ _ _ _ _ _ _ _ _ _ _ _ _ _ _ _ _ _ _ _ _ _ _ _ _ _ _ _ _ _ _ _ _ _ _ _ _ _ _ _ _ _ _ _ _ _ _ _ _ _ _ _ _ _ _ _ _ _ _ _ _ _ _ _ _ _ _ _ _ _ _ _ _ _ _ _ _ _ _ _ _ _ _ _ _ _ _ _ _ _ _ _ _ _ _ _ _ _ _ _ _ _ _ _ _ _ _ _ _ _ w6 HB OB s _ HE6.out.hs (by rw [oRow_zero]; exact HO6.out) (by omega) hok ?_
                        rintro y24 y280 y281 y282 y283 y284 y285 y286 y287 y288 y289 y290 y291 y292 y293 y294 y295 y296 y297 w7 ⟨hO7, hG7⟩
                        have HO7 := hide hO7
                        have HR7 := hide (keepG hG7 (by omega) HE6.out.res)
                        have HB7 := hide (belowG HE6.out.below hG7 (by omega) HE6.out.below.size)
                        have HXl : Hid ((bytes8 s).length = 32) := hide (bytes8_length s)
                        clear hO7 hG7 HE6 HO6
                        obtain ⟨X, hX⟩ : ∃ X, X = bytes8 s := ⟨_, rfl⟩
                        rw [← hX] at HO7 HXl Hst
                        clear hX
                        go_wp2_with (first
                          | (refine wpList_load_whole rfl 27 (.tmp 23) rfl OB X 27 (0, 0) rfl HO7.out _ Tryd.underlying27 rfl (by rw [infoS, HXl.out]) ?_)
                          | (refine wpList_store_whole rfl 27 (.tmp 2) (.tmp 298) rfl w.heap.size X (zeros 32) 27 rfl rfl HR7.out HXl.out (by rw [infoS, HXl.out]) ?_))
                        intro w8 HR8 HG8
                        refine of_hid ?_
                        have HB8 := hide (belowG HB7.out HG8.out (Nat.le_refl _) HB7.out.size)
                        go_wp2_with fail
                        exact ret_whole Tryd.results18 w.heap.size X 27 (0, 0) rfl HR8.out _ Tryd.underlying27 rfl (by rw [infoS, HXl.out]) rfl ⟨by rw [Hst.out], HB8.out⟩
end Go.Proofs.YtpaijhmbfljfmaaDoor.Srf
