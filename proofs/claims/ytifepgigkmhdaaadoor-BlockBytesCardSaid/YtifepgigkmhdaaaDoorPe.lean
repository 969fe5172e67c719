/- Several texts, one behind the other. -/
import Derived.Test.YtifepgigkmhdaaaDoorPc
import Derived.Test.YtifepgigkmhdaaaDoorPb
import Derived.OwnWalk
import Derived.Test.YtifepgigkmhdaaaDoorPd
/- The reference's sum of a text. -/
namespace Go.Proofs.YtifepgigkmhdaaaDoor.Srf
set_option linter.unusedVariables false
set_option linter.unusedSimpArgs false
set_option maxRecDepth 100000
open Go.ChangeShapes Go.WideShapes Go.ChangeAt Go.RowKit
open Go.Proofs.YtifepgigkmhdaaaDoor.Wu Go.Proofs.YtifepgigkmhdaaaDoor.Sm Go.Proofs.YtifepgigkmhdaaaDoor.Sk Go.Proofs.YtifepgigkmhdaaaDoor.Sc Go.Proofs.YtifepgigkmhdaaaDoor.Sxa Go.Proofs.YtifepgigkmhdaaaDoor.Sh Go.Proofs.YtifepgigkmhdaaaDoor.Sn Go.Proofs.YtifepgigkmhdaaaDoor.Sw0 Go.Proofs.YtifepgigkmhdaaaDoor.Sf Go.Proofs.YtifepgigkmhdaaaDoor.So Go.Proofs.YtifepgigkmhdaaaDoor.St Go.Proofs.YtifepgigkmhdaaaDoor.Sv Go.Proofs.YtifepgigkmhdaaaDoor.Ap Go.Proofs.YtifepgigkmhdaaaDoor.Sr Go.Proofs.YtifepgigkmhdaaaDoor.Srf0 Go.Proofs.YtifepgigkmhdaaaDoor.Srf1 Go.Proofs.YtifepgigkmhdaaaDoor.Rk Go.Proofs.YtifepgigkmhdaaaDoor.Sza Go.Proofs.YtifepgigkmhdaaaDoor.Szb
attribute [local go_sem] kUpon_value kUpon_skip kUpon_enter

theorem gap_no (n k : Nat) (h : k < gap n) : (n + 1 + k) % 64 ≠ 56 := by unfold gap at h; omega
theorem gap_yes (n : Nat) : (n + 1 + gap n) % 64 = 56 := by unfold gap; omega
theorem src_one {w : World} {B : Nat} {x : Nat} {T : TypeId} {f : Nat × Nat} (h : w.heap[B]? = some (.cells #[.int .u8 (x : Int)] T f)) (hx : x < 256) : SrcB w (some ⟨B, 0, none⟩) 1 [x] :=
  ⟨rfl, by intro z hz; simp only [List.mem_singleton] at hz; omega, B, 0, fun _ => rfl, fun i hi => by
    obtain rfl : i = 0 := by omega
    exact blk_cell h rfl⟩
theorem len8_take (c j : Nat) (h : j < 8) : (len8 c).take (j + 1) = (len8 c).take j ++ [c / 2 ^ (8 * (7 - j)) % 256] := by
  match j, h with
  | 0, _ => simp [len8]
  | 1, _ => simp [len8]
  | 2, _ => simp [len8]
  | 3, _ => simp [len8]
  | 4, _ => simp [len8]
  | 5, _ => simp [len8]
  | 6, _ => simp [len8]
  | 7, _ => simp [len8]
/-- The message behind j of the length's bytes. -/
def padR (M : List Nat) (j : Nat) : List Nat := M ++ 128 :: (zeros (gap M.length) ++ (len8 (8 * M.length)).take j)
theorem padR_zero (M : List Nat) : padR M 0 = M ++ 128 :: zeros (gap M.length) := by simp [padR]
theorem padR_step (M : List Nat) (j : Nat) (h : j < 8) : padR M (j + 1) = padR M j ++ [8 * M.length / 2 ^ (8 * (7 - j)) % 256] := by
  unfold padR; rw [len8_take _ _ h]; simp
theorem padR_end (M : List Nat) (h : M.length ≤ 1000000) : padR M 8 = padded M := by
  unfold padR padded tail
  rw [Nat.mod_eq_of_lt (by omega)]
  rfl
theorem padR_all {M : List Nat} (h : All8 M) (j : Nat) : All8 (padR M j) := by
  refine all8_append h ?_
  intro z hz
  simp only [List.mem_cons, List.mem_append] at hz
  rcases hz with rfl | hz | hz
  · omega
  · exact all8_zeros _ z hz
  · exact all8_len8 _ z (List.mem_of_mem_take hz)
set_option maxHeartbeats 3200000 in
theorem loop3c {code : Code} (hcode : lc 2 = code) (c0 c1 c4 c5 c23 c24 c25 c26 c27 c28 c29 c30 c31 c32 c33 c34 c35 c36 c37 c38 c39 c40 c41 c42 c43 c44 c45 c46 c47 c48 c49 c50 c51 c52 c53 c279 c280 c281 c282 c283 c284 c285 c286 c287 c288 c289 c290 c291 c292 c293 c294 c295 c296 c297 c298 u10 u11 u12 u13 u14 u15 u16 u17 u18 u19 u20 u21 u22 u54 u55 u56 u57 u58 u59 u60 u61 u62 u63 u64 u65 u66 u67 u68 u69 u70 u71 u72 u73 u74 u75 u76 u77 u78 u79 u80 u81 u82 u83 u84 u85 u86 u87 u88 u89 u90 u91 u92 u93 u94 u95 u96 u97 u98 u99 u100 u101 u102 u103 u104 u105 u106 u107 u108 u109 u110 u111 u112 u113 u114 u115 u116 u117 u118 u119 u120 u121 u122 u123 u124 u125 u126 u127 u128 u129 u130 u131 u132 u133 u134 u135 u136 u137 u138 u139 u140 u141 u142 u143 u144 u145 u146 u147 u148 u149 u150 u151 u152 u153 u154 u155 u156 u157 u158 u159 u160 u161 u162 u163 u164 u165 u166 u167 u168 u169 u170 u171 u172 u173 u174 u175 u176 u177 u178 u179 u180 u181 u182 u183 u184 u185 u186 u187 u188 u189 u190 u191 u192 u193 u194 u195 u196 u197 u198 u199 u200 u201 u202 u203 u204 u205 u206 u207 u208 u209 u210 u211 u212 u213 u214 u215 u216 u217 u218 u219 u220 u221 u222 u223 u224 u225 u226 u227 u228 u229 u230 u231 u232 u233 u234 u235 u236 u237 u238 u239 u240 u241 u242 u243 u244 u245 u246 u247 u248 u249 u250 u251 u252 u253 u254 u255 u256 u257 u258 u259 u260 u261 u262 u263 u264 u265 u266 u267 u268 u269 u270 u271 u272 u273 u274 u275 u276 u277 u278 : Value) (w wr : World) (KB HB g nb cap n : Nat) (PM : List Nat) (Q : Exit → Act → World → Prop) (hn : n = 64 * nb) (hE : Env w wr KB HB g (64 * nb) cap PM H0) (h8 : All8 PM) (hnb : nb ≤ 40000) (nk : KB ≠ HB) (ng : g ≠ HB) (nr : w.heap.size < HB) (hgs : w.heap.size < g)
    (hexit : ∀ (x9 x10 x11 x12 x13 x14 x15 x16 x17 x18 x19 x20 x21 x22 x54 x55 x56 x57 x58 x59 x60 x61 x62 x63 x64 x65 x66 x67 x68 x69 x70 x71 x72 x73 x74 x75 x76 x77 x78 x79 x80 x81 x82 x83 x84 x85 x86 x87 x88 x89 x90 x91 x92 x93 x94 x95 x96 x97 x98 x99 x100 x101 x102 x103 x104 x105 x106 x107 x108 x109 x110 x111 x112 x113 x114 x115 x116 x117 x118 x119 x120 x121 x122 x123 x124 x125 x126 x127 x128 x129 x130 x131 x132 x133 x134 x135 x136 x137 x138 x139 x140 x141 x142 x143 x144 x145 x146 x147 x148 x149 x150 x151 x152 x153 x154 x155 x156 x157 x158 x159 x160 x161 x162 x163 x164 x165 x166 x167 x168 x169 x170 x171 x172 x173 x174 x175 x176 x177 x178 x179 x180 x181 x182 x183 x184 x185 x186 x187 x188 x189 x190 x191 x192 x193 x194 x195 x196 x197 x198 x199 x200 x201 x202 x203 x204 x205 x206 x207 x208 x209 x210 x211 x212 x213 x214 x215 x216 x217 x218 x219 x220 x221 x222 x223 x224 x225 x226 x227 x228 x229 x230 x231 x232 x233 x234 x235 x236 x237 x238 x239 x240 x241 x242 x243 x244 x245 x246 x247 x248 x249 x250 x251 x252 x253 x254 x255 x256 x257 x258 x259 x260 x261 x262 x263 x264 x265 x266 x267 x268 x269 x270 x271 x272 x273 x274 x275 x276 x277 x278 : Value) (wx : World), Env w wx KB HB g (64 * nb) cap PM (fold H0 PM nb) → Q (.exit 4) ⟨List.toArray (c0 :: c1 :: (.pointer (some ⟨w.heap.size, 0, none⟩) : Value) :: (.slice (some ⟨g, 0, none⟩) n cap : Value) :: c4 :: c5 :: (.slice (some ⟨KB, 0, none⟩) 64 64 : Value) :: (.int .u64 4294967296 : Value) :: (.slice (some ⟨HB, 0, none⟩) 8 8 : Value) :: x9 :: x10 :: x11 :: x12 :: x13 :: x14 :: x15 :: x16 :: x17 :: x18 :: x19 :: x20 :: x21 :: x22 :: c23 :: c24 :: c25 :: c26 :: c27 :: c28 :: c29 :: c30 :: c31 :: c32 :: c33 :: c34 :: c35 :: c36 :: c37 :: c38 :: c39 :: c40 :: c41 :: c42 :: c43 :: c44 :: c45 :: c46 :: c47 :: c48 :: c49 :: c50 :: c51 :: c52 :: c53 :: x54 :: x55 :: x56 :: x57 :: x58 :: x59 :: x60 :: x61 :: x62 :: x63 :: x64 :: x65 :: x66 :: x67 :: x68 :: x69 :: x70 :: x71 :: x72 :: x73 :: x74 :: x75 :: x76 :: x77 :: x78 :: x79 :: x80 :: x81 :: x82 :: x83 :: x84 :: x85 :: x86 :: x87 :: x88 :: x89 :: x90 :: x91 :: x92 :: x93 :: x94 :: x95 :: x96 :: x97 :: x98 :: x99 :: x100 :: x101 :: x102 :: x103 :: x104 :: x105 :: x106 :: x107 :: x108 :: x109 :: x110 :: x111 :: x112 :: x113 :: x114 :: x115 :: x116 :: x117 :: x118 :: x119 :: x120 :: x121 :: x122 :: x123 :: x124 :: x125 :: x126 :: x127 :: x128 :: x129 :: x130 :: x131 :: x132 :: x133 :: x134 :: x135 :: x136 :: x137 :: x138 :: x139 :: x140 :: x141 :: x142 :: x143 :: x144 :: x145 :: x146 :: x147 :: x148 :: x149 :: x150 :: x151 :: x152 :: x153 :: x154 :: x155 :: x156 :: x157 :: x158 :: x159 :: x160 :: x161 :: x162 :: x163 :: x164 :: x165 :: x166 :: x167 :: x168 :: x169 :: x170 :: x171 :: x172 :: x173 :: x174 :: x175 :: x176 :: x177 :: x178 :: x179 :: x180 :: x181 :: x182 :: x183 :: x184 :: x185 :: x186 :: x187 :: x188 :: x189 :: x190 :: x191 :: x192 :: x193 :: x194 :: x195 :: x196 :: x197 :: x198 :: x199 :: x200 :: x201 :: x202 :: x203 :: x204 :: x205 :: x206 :: x207 :: x208 :: x209 :: x210 :: x211 :: x212 :: x213 :: x214 :: x215 :: x216 :: x217 :: x218 :: x219 :: x220 :: x221 :: x222 :: x223 :: x224 :: x225 :: x226 :: x227 :: x228 :: x229 :: x230 :: x231 :: x232 :: x233 :: x234 :: x235 :: x236 :: x237 :: x238 :: x239 :: x240 :: x241 :: x242 :: x243 :: x244 :: x245 :: x246 :: x247 :: x248 :: x249 :: x250 :: x251 :: x252 :: x253 :: x254 :: x255 :: x256 :: x257 :: x258 :: x259 :: x260 :: x261 :: x262 :: x263 :: x264 :: x265 :: x266 :: x267 :: x268 :: x269 :: x270 :: x271 :: x272 :: x273 :: x274 :: x275 :: x276 :: x277 :: x278 :: c279 :: c280 :: c281 :: c282 :: c283 :: c284 :: c285 :: c286 :: c287 :: c288 :: c289 :: c290 :: c291 :: c292 :: c293 :: c294 :: c295 :: c296 :: c297 :: c298 :: []), []⟩ wx) :
    Code.wp Tryd.prog code Q ⟨List.toArray (c0 :: c1 :: (.pointer (some ⟨w.heap.size, 0, none⟩) : Value) :: (.slice (some ⟨g, 0, none⟩) n cap : Value) :: c4 :: c5 :: (.slice (some ⟨KB, 0, none⟩) 64 64 : Value) :: (.int .u64 4294967296 : Value) :: (.slice (some ⟨HB, 0, none⟩) 8 8 : Value) :: (.int .i64 0 : Value) :: u10 :: u11 :: u12 :: u13 :: u14 :: u15 :: u16 :: u17 :: u18 :: u19 :: u20 :: u21 :: u22 :: c23 :: c24 :: c25 :: c26 :: c27 :: c28 :: c29 :: c30 :: c31 :: c32 :: c33 :: c34 :: c35 :: c36 :: c37 :: c38 :: c39 :: c40 :: c41 :: c42 :: c43 :: c44 :: c45 :: c46 :: c47 :: c48 :: c49 :: c50 :: c51 :: c52 :: c53 :: u54 :: u55 :: u56 :: u57 :: u58 :: u59 :: u60 :: u61 :: u62 :: u63 :: u64 :: u65 :: u66 :: u67 :: u68 :: u69 :: u70 :: u71 :: u72 :: u73 :: u74 :: u75 :: u76 :: u77 :: u78 :: u79 :: u80 :: u81 :: u82 :: u83 :: u84 :: u85 :: u86 :: u87 :: u88 :: u89 :: u90 :: u91 :: u92 :: u93 :: u94 :: u95 :: u96 :: u97 :: u98 :: u99 :: u100 :: u101 :: u102 :: u103 :: u104 :: u105 :: u106 :: u107 :: u108 :: u109 :: u110 :: u111 :: u112 :: u113 :: u114 :: u115 :: u116 :: u117 :: u118 :: u119 :: u120 :: u121 :: u122 :: u123 :: u124 :: u125 :: u126 :: u127 :: u128 :: u129 :: u130 :: u131 :: u132 :: u133 :: u134 :: u135 :: u136 :: u137 :: u138 :: u139 :: u140 :: u141 :: u142 :: u143 :: u144 :: u145 :: u146 :: u147 :: u148 :: u149 :: u150 :: u151 :: u152 :: u153 :: u154 :: u155 :: u156 :: u157 :: u158 :: u159 :: u160 :: u161 :: u162 :: u163 :: u164 :: u165 :: u166 :: u167 :: u168 :: u169 :: u170 :: u171 :: u172 :: u173 :: u174 :: u175 :: u176 :: u177 :: u178 :: u179 :: u180 :: u181 :: u182 :: u183 :: u184 :: u185 :: u186 :: u187 :: u188 :: u189 :: u190 :: u191 :: u192 :: u193 :: u194 :: u195 :: u196 :: u197 :: u198 :: u199 :: u200 :: u201 :: u202 :: u203 :: u204 :: u205 :: u206 :: u207 :: u208 :: u209 :: u210 :: u211 :: u212 :: u213 :: u214 :: u215 :: u216 :: u217 :: u218 :: u219 :: u220 :: u221 :: u222 :: u223 :: u224 :: u225 :: u226 :: u227 :: u228 :: u229 :: u230 :: u231 :: u232 :: u233 :: u234 :: u235 :: u236 :: u237 :: u238 :: u239 :: u240 :: u241 :: u242 :: u243 :: u244 :: u245 :: u246 :: u247 :: u248 :: u249 :: u250 :: u251 :: u252 :: u253 :: u254 :: u255 :: u256 :: u257 :: u258 :: u259 :: u260 :: u261 :: u262 :: u263 :: u264 :: u265 :: u266 :: u267 :: u268 :: u269 :: u270 :: u271 :: u272 :: u273 :: u274 :: u275 :: u276 :: u277 :: u278 :: c279 :: c280 :: c281 :: c282 :: c283 :: c284 :: c285 :: c286 :: c287 :: c288 :: c289 :: c290 :: c291 :: c292 :: c293 :: c294 :: c295 :: c296 :: c297 :: c298 :: []), []⟩ wr  := by
  subst hcode
  exact Sz3.loop3 c0 c1 c4 c5 c23 c24 c25 c26 c27 c28 c29 c30 c31 c32 c33 c34 c35 c36 c37 c38 c39 c40 c41 c42 c43 c44 c45 c46 c47 c48 c49 c50 c51 c52 c53 c279 c280 c281 c282 c283 c284 c285 c286 c287 c288 c289 c290 c291 c292 c293 c294 c295 c296 c297 c298 u10 u11 u12 u13 u14 u15 u16 u17 u18 u19 u20 u21 u22 u54 u55 u56 u57 u58 u59 u60 u61 u62 u63 u64 u65 u66 u67 u68 u69 u70 u71 u72 u73 u74 u75 u76 u77 u78 u79 u80 u81 u82 u83 u84 u85 u86 u87 u88 u89 u90 u91 u92 u93 u94 u95 u96 u97 u98 u99 u100 u101 u102 u103 u104 u105 u106 u107 u108 u109 u110 u111 u112 u113 u114 u115 u116 u117 u118 u119 u120 u121 u122 u123 u124 u125 u126 u127 u128 u129 u130 u131 u132 u133 u134 u135 u136 u137 u138 u139 u140 u141 u142 u143 u144 u145 u146 u147 u148 u149 u150 u151 u152 u153 u154 u155 u156 u157 u158 u159 u160 u161 u162 u163 u164 u165 u166 u167 u168 u169 u170 u171 u172 u173 u174 u175 u176 u177 u178 u179 u180 u181 u182 u183 u184 u185 u186 u187 u188 u189 u190 u191 u192 u193 u194 u195 u196 u197 u198 u199 u200 u201 u202 u203 u204 u205 u206 u207 u208 u209 u210 u211 u212 u213 u214 u215 u216 u217 u218 u219 u220 u221 u222 u223 u224 u225 u226 u227 u228 u229 u230 u231 u232 u233 u234 u235 u236 u237 u238 u239 u240 u241 u242 u243 u244 u245 u246 u247 u248 u249 u250 u251 u252 u253 u254 u255 u256 u257 u258 u259 u260 u261 u262 u263 u264 u265 u266 u267 u268 u269 u270 u271 u272 u273 u274 u275 u276 u277 u278 w wr KB HB g nb cap n PM Q hn hE h8 hnb nk ng nr hgs hexit
set_option maxHeartbeats 3200000 in
set_option maxRecDepth 100000 in
theorem refOf_c (M : List Nat) (w : World) (h8 : All8 M) (hbig : M.length ≤ 1000000) :
    Calls Tryd.prog 90 #[.string (strN M)] w fun e w' => e = .returned (.agg (u8s (sha M))) ∧ Below w.heap.size w w' := by
  obtain ⟨cap0, w0, hcv, hD0, hB0⟩ := conv_bytes (w.alloc (.cells (u8s (zeros 32)) 79)) M h8 (by omega)
  have HR0 := hide (below_blk hB0 (by simp) (heap_last w (.cells (u8s (zeros 32)) 79)))
  have HB0 := hide ((below_new w (.cells (u8s (zeros 32)) 79)).trans (hB0.mono (by simp)))
  have HD0 := hide hD0
  rw [zlit8.symm] at hcv
  clear hB0 hD0
  go_enter Tryd.func90, Tryd.ntmps90
  have HS0 := hide (src_one (heap_last w0 (.cells #[.int .u8 ((128 : Nat) : Int)] 5)) (by omega))
  have HD1 := hide (HD0.out.below (below_new w0 (.cells #[.int .u8 ((128 : Nat) : Int)] 5)) HD0.out.lt)
  have HR1 := hide (heap_old HR0.out (.cells #[.int .u8 ((128 : Nat) : Int)] 5))
  have HB1 := hide (HB0.out.alloc HB0.out.size (.cells #[.int .u8 ((128 : Nat) : Int)] 5))
  simp only [World.size_alloc] at HD1
  clear HD0 HR0 HB0
  go_wp2_with (refine wpList_append_dst rfl (.tmp 26) (.tmp 27) rfl (w.heap.size + 1) M.length cap0 M (some ⟨w0.heap.size, 0, none⟩) 1 1 [128] rfl rfl HD1.out HS0.out (by omega) (fun h => by cases h) ?_)
  intro g1 cap1 w1 HD2 HG2 hg
  clear hcv
  have HR2 := hide (keepG HG2.out (by omega) HR1.out)
  have HB2 := hide (belowG HB1.out HG2.out (by omega) HB1.out.size)
  have hg1 : w.heap.size < g1 := by
    have := heap_lt HR1.out
    simp only [World.size_alloc] at this hg
    rcases hg with h | h <;> omega
  clear HD1 HR1 HB1 HG2 hg HS0
  refine of_hid ?_
  as_aux_lemma =>
    have hgl := gap_lt M.length
    go_wp2_with fail
    go_loopw [3] (fun b wr => ∃ k g cap : Nat, k ≤ gap M.length ∧ b = .slice (some ⟨g, 0, none⟩) (M.length + 1 + k) cap ∧ w.heap.size < g ∧ Dst wr g (M.length + 1 + k) cap (M ++ 128 :: zeros k) ∧ wr.heap[w.heap.size]? = some (.cells (u8s (zeros 32)) 79 (0, 0)) ∧ Below w.heap.size w wr) (fun b _ => match b with | .slice _ n _ => M.length + 1 + gap M.length - n | _ => 0)
    case atStart => exact ⟨0, g1, cap1, by omega, rfl, hg1, HD2.out, HR2.out, HB2.out⟩
    case round =>
      clear HD2 HR2 HB2 hg1
      obtain ⟨k, g, cap, hk, rfl, hg, hd, hr, hb⟩ := hrel
      have HD := hide hd
      have HR := hide hr
      have HB := hide hb
      clear hd hr hb
      obtain ⟨n, hn⟩ : ∃ n, n = M.length + 1 + k := ⟨_, rfl⟩
      by_cases hlt : k < gap M.length
      · have h56 := gap_no M.length k hlt
        rw [← hn] at h56 HD ⊢
        have hnb : n ≤ 2000000 := by omega
        have HN := hide hn
        clear hn
        have q1 : ((n : Int) % 64 == 56) = false := by simp; omega
        have q2 : ((n : Int) % 64 != 56) = true := by simp; omega
        have HS := hide (src_one (heap_last wr (.cells #[.int .u8 ((0 : Nat) : Int)] 5)) (by omega))
        have HD1 := hide (HD.out.below (below_new wr (.cells #[.int .u8 ((0 : Nat) : Int)] 5)) HD.out.lt)
        have HR1 := hide (heap_old HR.out (.cells #[.int .u8 ((0 : Nat) : Int)] 5))
        have HB1 := hide (HB.out.alloc HB.out.size (.cells #[.int .u8 ((0 : Nat) : Int)] 5))
        clear HD HR HB
        go_wp2_with (refine wpList_append_dst rfl (.tmp 33) (.tmp 34) rfl g n cap _ (some ⟨wr.heap.size, 0, none⟩) 1 1 [0] rfl rfl HD1.out HS.out (by omega) (fun h => by cases h) ?_)
        intro g2 cap2 w2 HD3 HG3 hgg
        have HR3 := hide (keepG HG3.out (by omega) HR1.out)
        have HB3 := hide (belowG HB1.out HG3.out (by omega) HB1.out.size)
        have hg2 : w.heap.size < g2 := by
          have := heap_lt HR1.out
          simp only [World.size_alloc] at this hgg
          rcases hgg with h | h <;> omega
        clear HD1 HR1 HB1 HG3 hgg HS
        refine of_hid ?_
        go_wp2
        go_roundw
        case rel =>
          refine ⟨k + 1, g2, cap2, by omega, ?_, hg2, ?_, HR3.out, HB3.out⟩
          · rw [show M.length + 1 + (k + 1) = n + 1 by have := HN.out; omega]
          · have e : M ++ 128 :: zeros (k + 1) = M ++ 128 :: (zeros k ++ [0]) := by
              rw [show zeros (k + 1) = zeros k ++ [0] by unfold zeros; rw [List.replicate_succ']]
            rw [e, show M.length + 1 + (k + 1) = n + 1 by have := HN.out; omega]
            exact HD3.out
        case measure => show M.length + 1 + gap M.length - (n + 1) < M.length + 1 + gap M.length - n; have := HN.out; omega
      · have hkg : k = gap M.length := by omega
        have h56 := gap_yes M.length
        rw [← hkg, ← hn] at h56
        rw [← hn] at HD ⊢
        have hnb : n ≤ 2000000 := by omega
        have q1 : ((n : Int) % 64 == 56) = true := by simp; omega
        have q2 : ((n : Int) % 64 != 56) = false := by simp; omega
        have HN : Hid (n = M.length + 1 + gap M.length) := by show _ = _; rw [hn, hkg]
        rw [hkg] at HD
        clear hn hkg hlt hk
        have HD' := HD.out
        rw [← padR_zero] at HD'
        have HDz := hide HD'
        clear HD HD'
        have hsz : (strN M).size = M.length := Srt.strN_size M
        as_aux_lemma =>
        go_wp2_with fail
        clear hsz q1 q2
        go_loopw [5, 3] (fun i b wr => ∃ j g cap : Nat, j ≤ 8 ∧ i = .int .i64 (7 - (j : Int)) ∧ b = .slice (some ⟨g, 0, none⟩) (n + j) cap ∧ w.heap.size < g ∧ Dst wr g (n + j) cap (padR M j) ∧ wr.heap[w.heap.size]? = some (.cells (u8s (zeros 32)) 79 (0, 0)) ∧ Below w.heap.size w wr) (fun _ b _ => match b with | .slice _ l _ => n + 8 - l | _ => 0)
        case atStart => exact ⟨0, g, cap, by omega, rfl, rfl, hg, HDz.out, HR.out, HB.out⟩
        case round =>
          clear HDz HR HB hg
          obtain ⟨j, g, cap, hj, rfl, rfl, hg, hd, hr, hb⟩ := hrel
          have HD := hide hd
          have HR := hide hr
          have HB := hide hb
          clear hd hr hb
          by_cases hlt : j < 8
          · obtain ⟨t, ht⟩ : ∃ t, t = 7 - j := ⟨_, rfl⟩
            have htj : (7 : Int) - (j : Int) = (t : Int) := by omega
            rw [htj]
            have ht7 : t ≤ 7 := by omega
            have Htj := hide htj
            have Hps := hide (padR_step M j hlt)
            rw [← ht] at Hps
            have Ht := hide ht
            clear htj ht
            have c0 : (0 : Int) ≤ (M.length : Int) * 8 := by omega
            have d0 : decide ((0 : Int) ≤ (t : Int)) = true := by simp
            have hev : ((M.length : Int) * 8 / 2 ^ (8 * t)) % 256 = ((8 * M.length / 2 ^ (8 * t) % 256 : Nat) : Int) := by
              rw [Int.natCast_emod, Int.natCast_ediv, Int.natCast_mul, Int.natCast_pow, Int.mul_comm]; rfl
            have hx : 8 * M.length / 2 ^ (8 * t) % 256 < 256 := Nat.mod_lt _ (by omega)
            obtain ⟨x, hxd⟩ : ∃ x, x = 8 * M.length / 2 ^ (8 * t) % 256 := ⟨_, rfl⟩
            rw [← hxd] at hev hx Hps
            clear hxd
            have HS := hide (src_one (heap_last wr (.cells #[.int .u8 (x : Int)] 5)) hx)
            have HD1 := hide (HD.out.below (below_new wr (.cells #[.int .u8 (x : Int)] 5)) HD.out.lt)
            have HR1 := hide (heap_old HR.out (.cells #[.int .u8 (x : Int)] 5))
            have HB1 := hide (HB.out.alloc HB.out.size (.cells #[.int .u8 (x : Int)] 5))
            clear HD HR HB
            as_aux_lemma =>
              go_wp2_with (refine wpList_append_dst rfl (.tmp 44) (.tmp 50) rfl g (n + j) cap _ (some ⟨wr.heap.size, 0, none⟩) 1 1 [x] rfl rfl HD1.out HS.out (by omega) (fun h => by cases h) ?_)
              intro g2 cap2 w2 HD3 HG3 hgg
              have HR3 := hide (keepG HG3.out (by omega) HR1.out)
              have HB3 := hide (belowG HB1.out HG3.out (by omega) HB1.out.size)
              have hg2 : w.heap.size < g2 := by
                have := heap_lt HR1.out
                simp only [World.size_alloc] at this hgg
                rcases hgg with h | h <;> omega
              clear HD1 HR1 HB1 HG3 hgg HS hev
              refine of_hid ?_
              go_wp2
              go_roundw
              case rel =>
                refine ⟨j + 1, g2, cap2, by omega, ?_, rfl, hg2, ?_, HR3.out, HB3.out⟩
                · refine congrArg (Value.int .i64) ?_
                  have := Htj.out
                  omega
                · rw [Hps.out]
                  exact HD3.out
              case measure => show n + 8 - (n + j + 1) < n + 8 - (n + j); omega
          · have hj8 : j = 8 := by omega
            subst hj8
            have HD' := HD.out
            rw [padR_end M hbig] at HD'
            have HDp := hide HD'
            have hpl : n + 8 = (padded M).length := HD'.len.symm
            have HP8 := hide HD'.all
            obtain ⟨PM, hPM⟩ : ∃ PM, PM = padded M := ⟨_, rfl⟩
            have HPM := hide hPM
            have hmod := padded_mod M
            rw [← hPM] at HDp HP8 hpl hmod
            have HPl := hide hpl
            clear HD HD' hpl hPM
            obtain ⟨nb, hnb2⟩ : ∃ nb, n + 8 = 64 * nb := ⟨(n + 8) / 64, by have := HPl.out; omega⟩
            have Hnb := hide hnb2
            rw [hnb2] at HDp HPl ⊢
            have hnb3 : nb ≤ 40000 := by omega
            clear hnb2 HN hmod h56
            as_aux_lemma =>
              have d0 : decide ((0 : Int) ≤ 7 - ((8 : Nat) : Int)) = false := by simp
              go_wp2_with fail
              refine (parts_c wr).mono ?_
              rintro e w3 ⟨rfl, hw3⟩
              have hKs := heap_last wr (.cells (u64s Ks) 194)
              have hEb := below_new wr (.cells (u64s Ks) 194)
              rw [hw3] at hKs hEb
              have hz3 := heap_lt hKs
              have hk3 : wr.heap.size < w3.heap.size := hz3
              have hHs := heap_last w3 (.cells (u64s H0.list) 194)
              have hEc := below_new w3 (.cells (u64s H0.list) 194)
              have HE : Hid (Env w (w3.alloc (.cells (u64s H0.list) 194)) wr.heap.size w3.heap.size g (64 * nb) cap PM H0) :=
                ⟨heap_old hKs _, hHs, (HDp.out.below hEb HDp.out.lt).below hEc (HDp.out.below hEb HDp.out.lt).lt, heap_old (below_blk hEb (heap_lt HR.out) HR.out) _, keepB hEc (Nat.le_refl _) (keepB hEb (Nat.le_refl _) HB.out)⟩
              have hgK : g < wr.heap.size := HDp.out.lt
              clear hHs hEc hKs hEb hw3 HDp HR HB
              have hKH : wr.heap.size < w3.heap.size := hk3
              clear hz3 hk3
              clear d0
              rw [show (7 : Int) - ((8 : Nat) : Int) = -1 from rfl]
              go_wp2_with (refine wpList_buildSlice_to rfl 213 8 _ rfl (some 53) rfl _ (by as_aux_lemma => kernel_rfl) _ _ (build_h0 _) ?_)
              generalize (w3.alloc (.cells (u64s H0.list) 194)) = w4 at *
              generalize w3.heap.size = HB at *
              generalize wr.heap.size = KB at *
              refine of_hid ?_
              go_wp2_with fail
              as_aux_lemma =>
                have hkh : KB ≠ HB := by as_aux_lemma => omega
                have hgh : g ≠ HB := by as_aux_lemma => omega
                have hwh : w.heap.size < HB := by as_aux_lemma => omega
                refine loop3c (by as_aux_lemma => rfl) _ _ _ _ _ _ _ _ _ _ _ _ _ _ _ _ _ _ _ _ _ _ _ _ _ _ _ _ _ _ _ _ _ _ _ _ _ _ _ _ _ _ _ _ _ _ _ _ _ _ _ _ _ _ _ _ _ _ _ _ _ _ _ _ _ _ _ _ _ _ _ _ _ _ _ _ _ _ _ _ _ _ _ _ _ _ _ _ _ _ _ _ _ _ _ _ _ _ _ _ _ _ _ _ _ _ _ _ _ _ _ _ _ _ _ _ _ _ _ _ _ _ _ _ _ _ _ _ _ _ _ _ _ _ _ _ _ _ _ _ _ _ _ _ _ _ _ _ _ _ _ _ _ _ _ _ _ _ _ _ _ _ _ _ _ _ _ _ _ _ _ _ _ _ _ _ _ _ _ _ _ _ _ _ _ _ _ _ _ _ _ _ _ _ _ _ _ _ _ _ _ _ _ _ _ _ _ _ _ _ _ _ _ _ _ _ _ _ _ _ _ _ _ _ _ _ _ _ _ _ _ _ _ _ _ _ _ _ _ _ _ _ _ _ _ _ _ _ _ _ _ _ _ _ _ _ _ _ _ _ _ _ _ _ _ _ _ _ _ _ _ _ _ _ _ _ _ _ _ _ _ _ _ _ _ _ _ _ _ _ _ _ _ w w4 KB HB g nb cap (64 * nb) PM _ rfl HE.out HP8.out hnb3 hkh hgh hwh hg ?_
                intro x9 x10 x11 x12 x13 x14 x15 x16 x17 x18 x19 x20 x21 x22 x54 x55 x56 x57 x58 x59 x60 x61 x62 x63 x64 x65 x66 x67 x68 x69 x70 x71 x72 x73 x74 x75 x76 x77 x78 x79 x80 x81 x82 x83 x84 x85 x86 x87 x88 x89 x90 x91 x92 x93 x94 x95 x96 x97 x98 x99 x100 x101 x102 x103 x104 x105 x106 x107 x108 x109 x110 x111 x112 x113 x114 x115 x116 x117 x118 x119 x120 x121 x122 x123 x124 x125 x126 x127 x128 x129 x130 x131 x132 x133 x134 x135 x136 x137 x138 x139 x140 x141 x142 x143 x144 x145 x146 x147 x148 x149 x150 x151 x152 x153 x154 x155 x156 x157 x158 x159 x160 x161 x162 x163 x164 x165 x166 x167 x168 x169 x170 x171 x172 x173 x174 x175 x176 x177 x178 x179 x180 x181 x182 x183 x184 x185 x186 x187 x188 x189 x190 x191 x192 x193 x194 x195 x196 x197 x198 x199 x200 x201 x202 x203 x204 x205 x206 x207 x208 x209 x210 x211 x212 x213 x214 x215 x216 x217 x218 x219 x220 x221 x222 x223 x224 x225 x226 x227 x228 x229 x230 x231 x232 x233 x234 x235 x236 x237 x238 x239 x240 x241 x242 x243 x244 x245 x246 x247 x248 x249 x250 x251 x252 x253 x254 x255 x256 x257 x258 x259 x260 x261 x262 x263 x264 x265 x266 x267 x268 x269 x270 x271 x272 x273 x274 x275 x276 x277 x278 w5 hE5
                have HE5 := hide hE5
                clear hE5 HE
                as_aux_lemma =>
                  have hst : bytes8 (fold H0 PM nb) = sha M := by
                    as_aux_lemma =>
                      have h1 := HPl.out
                      unfold sha st
                      rw [← HPM.out, ← h1, show 64 * nb / 64 = nb by omega]
                  have hok := fold_ok H0_ok PM nb
                  obtain ⟨s, hs⟩ : ∃ s, s = fold H0 PM nb := ⟨_, rfl⟩
                  rw [← hs] at hst hok HE5
                  have Hst := hide hst
                  clear hst hs
                  have hb6 := below_new w5 (.cells (u8s (zeros 32)) 79)
                  have HE6 := hide (HE5.out.up hb6)
                  have HO6 := hide (heap_last w5 (.cells (u8s (zeros 32)) 79))
                  obtain ⟨lK5, lH5, lg5, lr5⟩ := HE5.out.lts
                  clear hb6 HE5
                  as_aux_lemma =>
                    go_wp2_with (refine wpList_store_whole rfl 79 (.tmp 23) (.tmp 279) rfl w5.heap.size (zeros 32) (zeros 32) 79 rfl (by rw [← zlit8]; rfl) ?_ rfl (by rw [infoS, zeros_length]) ?_; rw [zlit8]; exact HO6.out)
                    intro w6 HO7 HG6
                    refine of_hid ?_
                    rw [zlit8] at HG6
                    have HE7 := hide (HE6.out.grown HG6.out (by omega) (by omega) (by omega) (by omega))
                    clear HE6 HO6 HG6
                    as_aux_lemma =>
                      generalize w5.heap.size = OB at *
                      have HO6 := HO7
                      have HE6 := HE7
                      clear HO7 HE7
                      go_wp2_with fail
                      as_aux_lemma =>
                        refine Sz9.loop9 _ _ _ _ _ _ _ _ _ _ _ _ _ _ _ _ _ _ _ _ _ _ _ _ _ _ _ _ _ _ _ _ _ _ _ _ _ _ _ _ _ _ _ _ _ _ _ _ _ _ _ _ _ _ _ _ _ _ _ _ _ _ _ _ _ _ _ _ _ _ _ _ _ _ _ _ _ _ _ _ _ _ _ _ _ _ _ _ _ _ _ _ _ _ _ _ _ _ _ _ _ _ _ _ _ _ _ _ _ _ _ _ _ _ _ _ _ _ _ _ _ _ _ _ _ _ _ _ _ _ _ _ _ _ _ _ _ _ _ _ _ _ _ _ _ _ _ _ _ _ _ _ _ _ _ _ _ _ _ _ _ _ _ _ _ _ _ _ _ _ _ _ _ _ _ _ _ _ _ _ _ _ _ _ _ _ _ _ _ _ _ _ _ _ _ _ _ _ _ _ _ _ _ _ _ _ _ _ _ _ _ _ _ _ _ _ _ _ _ _ _ _ _ _ _ _ _ _ _ _ _ _ _ _ _ _ _ _ _ _ _ _ _ _ _ _ _ _ _ _ _ _ _ _ _ _ _ _ _ _ _ _ _ _ _ _ _ _ _ _ _ _ _ _ _ _ _ _ _ _ _ _ _ _ _ _ _ _ _ _ _ _ _ _ _ _ w6 HB OB s _ HE6.out.hs (by rw [oRow_zero]; exact HO6.out) (by omega) hok ?_
                        rintro y24 y280 y281 y282 y283 y284 y285 y286 y287 y288 y289 y290 y291 y292 y293 y294 y295 y296 y297 w7 ⟨hO7, hG7⟩
                        have HO7 := hide hO7
                        have HR7 := hide (keepG hG7 (by omega) HE6.out.res)
                        have HB7 := hide (belowG HE6.out.below hG7 (by omega) HE6.out.below.size)
                        have HXl : Hid ((bytes8 s).length = 32) := hide (bytes8_length s)
                        clear hO7 hG7 HE6 HO6
                        obtain ⟨X, hX⟩ : ∃ X, X = bytes8 s := ⟨_, rfl⟩
                        rw [← hX] at HO7 HXl Hst
                        clear hX
                        go_wp2_with (first
                          | (refine wpList_load_whole rfl 79 (.tmp 23) rfl OB X 79 (0, 0) rfl HO7.out _ Tryd.underlying79 rfl (by rw [infoS, HXl.out]) ?_)
                          | (refine wpList_store_whole rfl 79 (.tmp 2) (.tmp 298) rfl w.heap.size X (zeros 32) 79 rfl rfl HR7.out HXl.out (by rw [infoS, HXl.out]) ?_))
                        intro w8 HR8 HG8
                        refine of_hid ?_
                        have HB8 := hide (belowG HB7.out HG8.out (Nat.le_refl _) HB7.out.size)
                        go_wp2_with fail
                        exact ret_whole Tryd.results90 w.heap.size X 79 (0, 0) rfl HR8.out _ Tryd.underlying79 rfl (by rw [infoS, HXl.out]) rfl ⟨by rw [Hst.out], HB8.out⟩
end Go.Proofs.YtifepgigkmhdaaaDoor.Srf
/- The reference's Cut. -/
namespace Go.Proofs.YtifepgigkmhdaaaDoor.Sct
set_option linter.unusedVariables false
set_option linter.unusedSimpArgs false
set_option maxRecDepth 100000
open Go.ChangeShapes Go.WideShapes Go.ChangeAt Go.RowKit
open Go.Proofs.YtifepgigkmhdaaaDoor.Wu Go.Proofs.YtifepgigkmhdaaaDoor.Sm Go.Proofs.YtifepgigkmhdaaaDoor.Sk Go.Proofs.YtifepgigkmhdaaaDoor.Sc Go.Proofs.YtifepgigkmhdaaaDoor.Sxa Go.Proofs.YtifepgigkmhdaaaDoor.Sh Go.Proofs.YtifepgigkmhdaaaDoor.Sn Go.Proofs.YtifepgigkmhdaaaDoor.Sw0 Go.Proofs.YtifepgigkmhdaaaDoor.Sx Go.Proofs.YtifepgigkmhdaaaDoor.Sw Go.Proofs.YtifepgigkmhdaaaDoor.Sb Go.Proofs.YtifepgigkmhdaaaDoor.Sf Go.Proofs.YtifepgigkmhdaaaDoor.So Go.Proofs.YtifepgigkmhdaaaDoor.Su Go.Proofs.YtifepgigkmhdaaaDoor.Sv Go.Proofs.YtifepgigkmhdaaaDoor.Ap Go.Proofs.YtifepgigkmhdaaaDoor.Sr Go.Proofs.YtifepgigkmhdaaaDoor.Srf0 Go.Proofs.YtifepgigkmhdaaaDoor.Srf1 Go.Proofs.YtifepgigkmhdaaaDoor.Rk Go.Proofs.YtifepgigkmhdaaaDoor.Sza Go.Proofs.YtifepgigkmhdaaaDoor.Szb Go.Proofs.YtifepgigkmhdaaaDoor.Srf Go.Proofs.YtifepgigkmhdaaaDoor.St
attribute [local go_sem] kUpon_value kUpon_skip kUpon_enter

/-- The row when the bytes from k up to i are noughts. -/
def cutR (k i : Nat) (X : List Nat) : List Nat := X.take k ++ zeros (min i 32 - k) ++ X.drop i
theorem cutR_length (k i : Nat) (X : List Nat) (hX : X.length = 32) (hk : k ≤ 32) (hi : k ≤ i) : (cutR k i X).length = 32 := by
  simp [cutR, zeros, hX]; omega
theorem cutR_start (k i : Nat) (X : List Nat) (hX : X.length = 32) (h : (i ≤ 32 ∧ k = i) ∨ (32 < i ∧ k = 32)) : cutR k i X = X := by
  unfold cutR
  rcases h with ⟨h1, rfl⟩ | ⟨h1, rfl⟩
  · rw [show min k 32 - k = 0 by omega]; simp [zeros]
  · rw [show min i 32 - 32 = 0 by omega, List.take_of_length_le (by omega), List.drop_eq_nil_of_le (by omega)]; simp [zeros]
theorem cutR_end (k i : Nat) (X : List Nat) (hX : X.length = 32) (hk : k ≤ 32) (hi : 32 ≤ i) : cutR k i X = cutL k X := by
  unfold cutR cutL
  rw [show min i 32 = 32 by omega, List.drop_eq_nil_of_le (by omega), List.append_nil]
theorem cutR_step (k i : Nat) (X : List Nat) (hX : X.length = 32) (hk : k ≤ i) (hi : i < 32) : (cutR k i X).set i 0 = cutR k (i + 1) X := by
  unfold cutR
  have hl : (X.take k ++ zeros (min i 32 - k)).length = i := by simp [zeros, hX]; omega
  rw [List.set_append_right _ _ (by omega), hl, Nat.sub_self, List.drop_eq_getElem_cons (by omega), List.set_cons_zero, show min (i + 1) 32 - k = (min i 32 - k) + 1 by omega]
  have hz : zeros (min i 32 - k + 1) = zeros (min i 32 - k) ++ [0] := by unfold zeros; exact List.replicate_succ'
  rw [hz]
  simp
set_option maxHeartbeats 3200000 in
theorem refCut_c (n : Int) (k : Nat) (M : List Nat) (w : World) (hk : Cnt n k) (h8 : All8 M) (hbig : M.length ≤ 1000000) (hn : n ≤ 9223372036854775807) :
    Calls Tryd.prog 64 #[.int .i64 n, .string (strN M)] w fun e w' => e = .returned (.agg (u8s (cutL k (sha M)))) ∧ Below w.heap.size w w' := by
  have HR0 := hide (heap_last w (.cells (u8s (zeros 32)) 79))
  have HB0 := hide (below_new w (.cells (u8s (zeros 32)) 79))
  have hk32 : k ≤ 32 := by unfold Cnt at hk; omega
  have hc : (n < 0 ∧ k = 0) ∨ (¬ n < 0 ∧ ∃ j : Nat, n = (j : Int) ∧ ((j ≤ 32 ∧ k = j) ∨ (32 < j ∧ k = 32))) := by
    unfold Cnt at hk
    by_cases h : n < 0
    · left; omega
    · right; exact ⟨h, n.toNat, by omega, by omega⟩
  clear hk
  go_enter Tryd.func64, Tryd.ntmps64
  go_wp2_with fail
  rw [zlit8]
  generalize (w.alloc (.cells (u8s (zeros 32)) 79)) = w0 at *
  refine (refOf_c M w0 h8 hbig).mono ?_
  rintro e w1 ⟨rfl, hb1⟩
  obtain ⟨X, hX⟩ : ∃ X, X = sha M := ⟨_, rfl⟩
  have hXl : X.length = 32 := by rw [hX]; rfl
  have HX := hide hX
  rw [← hX]
  clear hX
  have HXl := hide hXl
  clear hXl
  have HR1 := hide (below_blk hb1 (heap_lt HR0.out) HR0.out)
  have HB1 := hide (keepB hb1 (Nat.le_refl _) HB0.out)
  have hz1 := heap_lt HR1.out
  clear hb1 HB0 HR0
  have Hz := hide (heap_last w1 (.cells (u8s (zeros 32)) 79))
  have Hzr := hide (heap_old HR1.out (.cells (u8s (zeros 32)) 79))
  have Hzb := hide (HB1.out.alloc HB1.out.size (.cells (u8s (zeros 32)) 79))
  go_wp2_with (refine wpList_store_whole rfl 79 (.tmp 5) (.tmp 9) rfl w1.heap.size X (zeros 32) 79 rfl rfl ?_ (by rw [HXl.out, zeros_length]) (by rw [infoS, HXl.out]) ?_; rw [zlit8]; exact Hz.out)
  rw [zlit8]
  intro w2 HW2 HG2
  have HR2 := hide (keepG HG2.out (by omega) Hzr.out)
  have HB2 := hide (belowG Hzb.out HG2.out (by omega) Hzb.out.size)
  refine of_hid ?_
  clear Hz Hzr Hzb HR1 HB1 HG2
  have hw2 := HB2.out.size
  generalize w1.heap.size = WB at *
  obtain ⟨j0, hj0, hst⟩ : ∃ j : Nat, ((n < 0 ∧ j = 0) ∨ (¬ n < 0 ∧ n = (j : Int))) ∧ ((j ≤ 32 ∧ k = j) ∨ (32 < j ∧ k = 32)) := by
    rcases hc with ⟨h1, h2⟩ | ⟨h1, j, h2, h3⟩
    · exact ⟨0, .inl ⟨h1, rfl⟩, .inl ⟨by omega, h2⟩⟩
    · exact ⟨j, .inr ⟨by omega, h2⟩, h3⟩
  have Hst := hide (cutR_start k j0 X HXl.out hst)
  have hkj : k ≤ j0 := by omega
  have hjb : j0 ≤ 9223372036854775807 := by omega
  clear hc hst
  rw [← Hst.out] at HW2
  rcases hj0 with ⟨hneg, rfl⟩ | ⟨hneg, rfl⟩
  all_goals
    go_wp2_with fail
    go_loopw [7] (fun i wr => ∃ q : Nat, k ≤ q ∧ q ≤ 9223372036854775807 ∧ i = .int .i64 (q : Int) ∧ wr.heap[WB]? = some (.cells (u8s (cutR k q X)) 79 (0, 0)) ∧ wr.heap[w.heap.size]? = some (.cells (u8s (zeros 32)) 79 (0, 0)) ∧ Below w.heap.size w wr) (fun i _ => 32 - (intOf i).toNat)
    case atStart => exact ⟨_, hkj, hjb, rfl, HW2.out, HR2.out, HB2.out⟩
    case round =>
      clear HW2 HR2 HB2 hkj hjb
      obtain ⟨q, hq, hqb, rfl, h1, h2, hb⟩ := hrel
      have H1 := hide h1
      have H2 := hide h2
      have HB := hide hb
      clear h1 h2 hb
      by_cases hlk : q < 32
      · have Hst := hide (cutR_step k q X HXl.out hq hlk)
        have cx := row8 (i := q) H1.out (by rw [cutR_length k q X HXl.out hk32 hq]; exact hlk)
        have fx := blk_free (i := q) H1.out
        generalize (cutR k q X).getD q 0 = old at *
        have hd : decide ((q : Int) < 32) = true := by simp; omega
        have k0 : (0 : Int) ≤ (q : Int) := by omega
        have k1 : (q : Int) < 32 := by omega
        go_wp2
        go_roundw
        case rel =>
          have e := blk_set (i := q) H1.out (.int .u8 ((0 : Nat) : Int))
          rw [u8s_set, Hst.out] at e
          exact ⟨q + 1, by omega, by omega, by go_num, e, blk_set_other H2.out (by omega) _, HB.out.setCell (by simp; omega) _⟩
        case measure => simp [intOf]; omega
      · have h1 := H1.out
        rw [cutR_end k q X HXl.out hk32 (by omega)] at h1
        have H3 := hide h1
        have Hl : Hid ((cutL k X).length = 32) := hide (cutL_length k X hk32 HXl.out)
        clear h1 H1
        have hd : decide ((q : Int) < 32) = false := by simp; omega
        go_wp2_with (first
          | (refine wpList_load_whole rfl 79 (.tmp 5) rfl WB (cutL k X) 79 (0, 0) rfl H3.out _ Tryd.underlying79 rfl (by rw [infoS, Hl.out]) ?_)
          | (refine wpList_store_whole rfl 79 (.tmp 4) (.tmp 20) rfl w.heap.size (cutL k X) (zeros 32) 79 rfl rfl H2.out Hl.out (by rw [infoS, Hl.out]) ?_))
        intro w5 H5 HG5
        have HB5 := hide (belowG HB.out HG5.out (by omega) HB.out.size)
        refine of_hid ?_
        go_wp2_with fail
        exact ret_whole Tryd.results64 w.heap.size (cutL k X) 79 (0, 0) rfl H5.out _ Tryd.underlying79 rfl (by rw [infoS, Hl.out]) rfl ⟨by rw [HX.out], HB5.out⟩
end Go.Proofs.YtifepgigkmhdaaaDoor.Sct
/- The reference's Bytes and Mac. -/
namespace Go.Proofs.YtifepgigkmhdaaaDoor.Srm
set_option linter.unusedVariables false
set_option linter.unusedSimpArgs false
set_option maxRecDepth 100000
open Go.ChangeShapes Go.WideShapes Go.ChangeAt Go.RowKit
open Go.Proofs.YtifepgigkmhdaaaDoor.Wu Go.Proofs.YtifepgigkmhdaaaDoor.Sm Go.Proofs.YtifepgigkmhdaaaDoor.Sk Go.Proofs.YtifepgigkmhdaaaDoor.Sc Go.Proofs.YtifepgigkmhdaaaDoor.Sxa Go.Proofs.YtifepgigkmhdaaaDoor.Sh Go.Proofs.YtifepgigkmhdaaaDoor.Sn Go.Proofs.YtifepgigkmhdaaaDoor.Sw0 Go.Proofs.YtifepgigkmhdaaaDoor.Sx Go.Proofs.YtifepgigkmhdaaaDoor.Sw Go.Proofs.YtifepgigkmhdaaaDoor.Sb Go.Proofs.YtifepgigkmhdaaaDoor.Sf Go.Proofs.YtifepgigkmhdaaaDoor.So Go.Proofs.YtifepgigkmhdaaaDoor.Su Go.Proofs.YtifepgigkmhdaaaDoor.St Go.Proofs.YtifepgigkmhdaaaDoor.Sv Go.Proofs.YtifepgigkmhdaaaDoor.Sy Go.Proofs.YtifepgigkmhdaaaDoor.Sg Go.Proofs.YtifepgigkmhdaaaDoor.Smc Go.Proofs.YtifepgigkmhdaaaDoor.Srf Go.Proofs.YtifepgigkmhdaaaDoor.Srt
theorem snoc_take (X : List Nat) (k : Nat) (hk : k < X.length) : X.take (k + 1) = X.take k ++ [X.getD k 0] := by
  rw [List.take_succ_eq_append_getElem hk]; simp [List.getD, hk]
theorem conv_one (a : Nat) (wr : World) : Sem.run Tryd.prog (convert 22 9 (.slice (some ⟨wr.heap.size, 0, none⟩) 1 1)) (wr.alloc (.cells #[.int .u8 (a : Int)] 5)) = .ok (.string (strN [a])) (wr.alloc (.cells #[.int .u8 (a : Int)] 5)) :=
  conv_row (L := [a]) rfl (fun i hi => by
    match i, hi with
    | 0, _ => exact blk_cell (heap_last wr _) rfl)
set_option maxHeartbeats 1600000 in
theorem refBytes_c (X : List Nat) (w : World) (hX : X.length = 32) (h8 : All8 X) :
    Calls Tryd.prog 58 #[.agg (u8s X)] w fun e w' => e = .returned (.string (strN X)) ∧ Below w.heap.size w w' := by
  have HX := hide hX
  have H0 := hide (heap_last w (.cells (u8s X) 79))
  have HB := hide (below_new w (.cells (u8s X) 79))
  clear hX
  go_enter Tryd.func58, Tryd.ntmps58
  go_wp2_with fail
  generalize (w.alloc (.cells (u8s X) 79)) = w1 at *
  go_loopw [4, 3] (fun i s wr => ∃ k : Nat, k ≤ 32 ∧ i = .int .i64 k ∧ s = .string (strN (X.take k)) ∧ wr.heap[w.heap.size]? = some (.cells (u8s X) 79 (0, 0)) ∧ Below w.heap.size w wr) (fun i _ _ => 32 - (intOf i).toNat)
  case atStart => exact ⟨0, by omega, rfl, rfl, H0.out, HB.out⟩
  case round =>
    clear H0 HB
    obtain ⟨k, hk, rfl, rfl, h1, hb⟩ := hrel
    have H1 := hide h1
    have HB := hide hb
    clear h1 hb
    by_cases hlk : k < 32
    · have hx8 := all8_getD h8 k
      have Hst := hide (snoc_take X k (by rw [HX.out]; exact hlk))
      have cx := row8 (i := k) H1.out (by rw [HX.out]; exact hlk)
      obtain ⟨x, hx⟩ : ∃ x, x = X.getD k 0 := ⟨_, rfl⟩
      rw [← hx] at cx hx8 Hst
      clear hx
      have hd : decide ((k : Int) < 32) = true := by simp; omega
      have k0 : (0 : Int) ≤ (k : Int) := by omega
      have k1 : (k : Int) < 32 := by omega
      obtain ⟨S, hS⟩ : ∃ S, S = X.take k := ⟨_, rfl⟩
      have hSl : S.length ≤ 64 := by rw [hS, List.length_take]; omega
      rw [← hS] at Hst ⊢
      clear hS
      have hcv := conv_one x wr
      have hadd := fun (u : World) => add_strN S [x] (by omega) (by simp) u
      go_wp2
      go_roundw
      case rel =>
        refine ⟨k + 1, by omega, by go_num, ?_, heap_old H1.out _, ?_⟩
        · rw [Hst.out]
        · exact HB.out.alloc HB.out.size _
      case measure => simp [intOf]; omega
    · have hk8 : k = 32 := by omega
      subst hk8
      have Hl : Hid (X.take 32 = X) := by show _ = _; rw [List.take_of_length_le (by rw [HX.out]; omega)]
      rw [Hl.out]
      go_wp2
      go_ret
      exact ⟨rfl, HB.out⟩
theorem strN_at {L : List Nat} (h8 : All8 L) (i : Nat) (h : i < (strN L).size) : ((strN L)[i]'h).toNat = L.getD i 0 := by
  have hl : i < L.length := by rw [strN_size] at h; exact h
  have h2 := all8_getD h8 i
  have e : (strN L)[i]'h = UInt8.ofNat (L.getD i 0) := by
    show (strN L).data[i]'_ = _
    simp [strN, strOfNums, List.getD, hl]
  rw [e, UInt8.toNat_ofNat']
  omega
theorem mask_snoc (c : Nat) (X : List Nat) (k : Nat) (hk : k < X.length) : mask c (X.take (k + 1)) = mask c (X.take k) ++ [X.getD k 0 ^^^ c] := by
  rw [snoc_take X k hk]; simp [mask]
def strSz : Value → Nat
  | .string b => b.size
  | _ => 0
/-- From the key's filling up on. -/
structure Rm (w : World) (wr : World) : Prop where
  row : wr.heap[w.heap.size]? = some (.cells (u8s (zeros 32)) 79 (0, 0))
  below : Below w.heap.size w wr
theorem Rm.up {w wr w' : World} (h : Rm w wr) (hb : Below wr.heap.size wr w') : Rm w w' := ⟨below_blk hb (heap_lt h.row) h.row, keepB hb (Nat.le_refl _) h.below⟩
set_option maxHeartbeats 6400000 in
theorem refMac_c (L M : List Nat) (w : World) (hL : All8 L) (hM : All8 M) (hl : L.length ≤ 1000) (hm : M.length ≤ 100000) :
    Calls Tryd.prog 81 #[.string (strN L), .string (strN M)] w fun e w' => e = .returned (.agg (u8s (macL L M))) ∧ Below w.heap.size w w' := by
  have H0 : Hid (Rm w (w.alloc (.cells (u8s (zeros 32)) 79))) := hide ⟨heap_last w (.cells (u8s (zeros 32)) 79), below_new w (.cells (u8s (zeros 32)) 79)⟩
  have hsz := strN_size L
  have HO := hide (fun u => refOf_c L u hL (by omega))
  have HBy := hide (fun u => refBytes_c (sha L) u (sha_length L) (all8_sha L))
  have HK8 := hide (keyL_all hL)
  have HKl := hide (keyL_length L)
  obtain ⟨K, hK⟩ : ∃ K, K = keyL L := ⟨_, rfl⟩
  have HK := hide hK
  have hc : ∃ Kx, K = Kx ++ zeros (64 - Kx.length) ∧ Kx.length ≤ 64 ∧ ((64 < L.length ∧ Kx = sha L) ∨ (¬ 64 < L.length ∧ Kx = L)) := by
    unfold keyL at hK
    by_cases h : 64 < L.length
    · rw [if_pos h] at hK
      exact ⟨sha L, by rw [sha_length]; exact hK, by rw [sha_length]; omega, .inl ⟨h, rfl⟩⟩
    · rw [if_neg h] at hK
      exact ⟨L, hK, by omega, .inr ⟨h, rfl⟩⟩
  obtain ⟨Kx, hKx, hxl, hc⟩ := hc
  rw [← hK] at HK8 HKl
  have HKx := hide hKx
  clear hK hKx
  rcases hc with ⟨h64, rfl⟩ | ⟨h64, hx⟩
  · go_enter Tryd.func81, Tryd.ntmps81
    go_wp2_with fail
    rw [zlit8]
    generalize (w.alloc (.cells (u8s (zeros 32)) 79)) = w0 at *
    refine (HO.out w0).mono ?_
    rintro e w1 ⟨rfl, hb1⟩
    have H1 := hide (H0.out.up hb1)
    clear hb1 H0
    go_wp2_with fail
    refine (HBy.out w1).mono ?_
    rintro e w2 ⟨rfl, hb2⟩
    have H2 := hide (H1.out.up hb2)
    clear hb2 H1
    generalize sha L = Kx at *
    go_wp2_with fail
    all_goals first | (exfalso; omega) | skip
    go_loop [0] (fun v => ∃ j : Nat, Kx.length + j ≤ 64 ∧ v = .string (strN (Kx ++ zeros j))) (fun v => 64 - strSz v)
    case atStart => exact ⟨0, by omega, by simp [zeros]⟩
    case round =>
      obtain ⟨j, hj, rfl⟩ := hrel
      have hz := strN_size (Kx ++ zeros j)
      rw [List.length_append, zeros_length] at hz
      by_cases hlt : Kx.length + j < 64
      · have hadd : ∀ u : World, Sem.run Tryd.prog (Op.stringOp .add (strN (Kx ++ zeros j)) ⟨#[0]⟩) u = .ok (.string (strN (Kx ++ zeros (j + 1)))) u := fun u => by
          have h := add_strN (Kx ++ zeros j) [0] (by rw [List.length_append, zeros_length]; omega) (by simp) u
          rw [List.append_assoc, show zeros j ++ [0] = zeros (j + 1) by unfold zeros; rw [List.replicate_succ']] at h
          exact h
        have hz2 := strN_size (Kx ++ zeros (j + 1))
        rw [List.length_append, zeros_length] at hz2
        go_wp2
        go_round
        case rel => exact ⟨j + 1, by omega, rfl⟩
        case measure => simp [strSz]; omega
      · have hj2 : j = 64 - Kx.length := by omega
        subst hj2
        rw [← HKx.out]
        clear hlt hz hj
        have hzK := strN_size K
        rw [HKl.out] at hzK
        go_wp2_with fail
        go_loopw [7, 5, 6] (fun i a b wr => ∃ k : Nat, k ≤ 64 ∧ i = .int .i64 k ∧ a = .string (strN (mask 54 (K.take k))) ∧ b = .string (strN (mask 92 (K.take k))) ∧ Rm w wr) (fun i _ _ _ => 64 - (intOf i).toNat)
        case atStart => exact ⟨0, by omega, rfl, rfl, rfl, H2.out⟩
        case round =>
          clear H2
          obtain ⟨k, hk, rfl, rfl, rfl, hR⟩ := hrel
          have HR := hide hR
          clear hR
          by_cases hlk : k < 64
          · have hkb : k < (strN K).size := by omega
            have hx := strN_at HK8.out k hkb
            have hx8 := all8_getD HK8.out k
            have Ha := hide (mask_snoc 54 K k (by rw [HKl.out]; exact hlk))
            have Hb := hide (mask_snoc 92 K k (by rw [HKl.out]; exact hlk))
            obtain ⟨x, hxe⟩ : ∃ x, x = K.getD k 0 := ⟨_, rfl⟩
            rw [← hxe] at hx hx8 Ha Hb
            clear hxe
            have x1 : bits .xor .u8 (x : Int) 54 = ((x ^^^ 54 : Nat) : Int) := xor_u8 x 54 hx8 (by omega)
            have x2 : bits .xor .u8 (x : Int) 92 = ((x ^^^ 92 : Nat) : Int) := xor_u8 x 92 hx8 (by omega)
            obtain ⟨S, hS⟩ : ∃ S, S = mask 54 (K.take k) := ⟨_, rfl⟩
            obtain ⟨T, hT⟩ : ∃ T, T = mask 92 (K.take k) := ⟨_, rfl⟩
            have hSl : S.length ≤ 64 := by rw [hS, mask_length, List.length_take]; omega
            have hTl : T.length ≤ 64 := by rw [hT, mask_length, List.length_take]; omega
            rw [← hS] at Ha ⊢
            rw [← hT] at Hb ⊢
            clear hS hT
            obtain ⟨y, hy⟩ : ∃ y, y = x ^^^ 54 := ⟨_, rfl⟩
            obtain ⟨z, hz⟩ : ∃ z, z = x ^^^ 92 := ⟨_, rfl⟩
            rw [← hy] at x1 Ha
            rw [← hz] at x2 Hb
            clear hy hz
            have hd : decide ((k : Int) < 64) = true := by simp; omega
            have hc1 := conv_one y wr
            have hc2 := conv_one z (wr.alloc (.cells #[.int .u8 (y : Int)] 5))
            have e9 : (wr.alloc (.cells #[.int .u8 (y : Int)] 5)).heap.size = wr.heap.size + 1 := by simp
            rw [e9] at hc2
            clear e9
            have hadd := fun (u : World) => add_strN S [y] (by omega) (by simp) u
            have hadd2 := fun (u : World) => add_strN T [z] (by omega) (by simp) u
            have HR2 := hide ((HR.out.up (below_new wr (.cells #[.int .u8 (y : Int)] 5))).up (below_new (wr.alloc (.cells #[.int .u8 (y : Int)] 5)) (.cells #[.int .u8 (z : Int)] 5)))
            go_wp2
            go_roundw
            case rel => exact ⟨k + 1, by omega, by go_num, by rw [Ha.out], by rw [Hb.out], HR2.out⟩
            case measure => simp [intOf]; omega
          · have hk8 : k = 64 := by omega
            subst hk8
            have HT64 : Hid (K.take 64 = K) := hide (List.take_of_length_le (by rw [HKl.out]; omega))
            rw [HT64.out]
            have hI8 : All8 (mask 54 K) := mask_all (by omega) HK8.out
            have hO8 : All8 (mask 92 K) := mask_all (by omega) HK8.out
            have hIl : (mask 54 K).length = 64 := by rw [mask_length, HKl.out]
            have hOl : (mask 92 K).length = 64 := by rw [mask_length, HKl.out]
            have a1 := fun (u : World) => add_strN (mask 54 K) M (by omega) (by omega) u
            have HO1 := hide (fun u => refOf_c (mask 54 K ++ M) u (all8_append hI8 hM) (by rw [List.length_append]; omega))
            have HX8 := hide (all8_sha (mask 54 K ++ M))
            have HBy1 := hide (fun u => refBytes_c (sha (mask 54 K ++ M)) u (sha_length _) (all8_sha _))
            have a2 := fun (u : World) => add_strN (mask 92 K) (sha (mask 54 K ++ M)) (by omega) (by rw [sha_length]; omega) u
            have HO2 := hide (fun u => refOf_c (mask 92 K ++ sha (mask 54 K ++ M)) u (all8_append hO8 (all8_sha _)) (by rw [List.length_append, sha_length]; omega))
            have HY : Hid (macL L M = sha (mask 92 K ++ sha (mask 54 K ++ M))) := hide (by unfold macL; rw [HK.out])
            have HYl : Hid ((sha (mask 92 K ++ sha (mask 54 K ++ M))).length = 32) := hide (sha_length _)
            generalize sha (mask 92 K ++ sha (mask 54 K ++ M)) = Y at *
            generalize mask 92 K ++ sha (mask 54 K ++ M) = O at *
            generalize sha (mask 54 K ++ M) = X at *
            generalize mask 54 K ++ M = I at *
            go_wp2_with fail
            refine (HO1.out wr).mono ?_
            rintro e w3 ⟨rfl, hb3⟩
            have H3 := hide (HR.out.up hb3)
            clear hb3
            go_wp2_with fail
            refine (HBy1.out w3).mono ?_
            rintro e w4 ⟨rfl, hb4⟩
            have H4 := hide (H3.out.up hb4)
            clear hb4
            go_wp2_with fail
            refine (HO2.out w4).mono ?_
            rintro e w5 ⟨rfl, hb5⟩
            have H5 := hide (H4.out.up hb5)
            clear hb5 a1 a2
            go_wp2_with (refine wpList_store_whole rfl 79 (.tmp 4) (.tmp 46) rfl w.heap.size Y (zeros 32) 79 rfl rfl H5.out.row HYl.out (by rw [infoS, HYl.out]) ?_)
            intro w6 H6 HG6
            have HB6 := hide (belowG H5.out.below HG6.out (Nat.le_refl _) H5.out.below.size)
            refine of_hid ?_
            go_wp2_with fail
            exact ret_whole Tryd.results81 w.heap.size Y 79 (0, 0) rfl H6.out _ Tryd.underlying79 rfl (by rw [infoS, HYl.out]) rfl ⟨by rw [HY.out], HB6.out⟩
  · rw [hx] at HKx hxl
    clear hx
    go_enter Tryd.func81, Tryd.ntmps81
    go_wp2_with fail
    rw [zlit8]
    generalize (w.alloc (.cells (u8s (zeros 32)) 79)) = w0 at *
    all_goals first | (exfalso; omega) | skip
    go_loop [0] (fun v => ∃ j : Nat, L.length + j ≤ 64 ∧ v = .string (strN (L ++ zeros j))) (fun v => 64 - strSz v)
    case atStart => exact ⟨0, by omega, by simp [zeros]⟩
    case round =>
      obtain ⟨j, hj, rfl⟩ := hrel
      have hz := strN_size (L ++ zeros j)
      rw [List.length_append, zeros_length] at hz
      by_cases hlt : L.length + j < 64
      · have hadd : ∀ u : World, Sem.run Tryd.prog (Op.stringOp .add (strN (L ++ zeros j)) ⟨#[0]⟩) u = .ok (.string (strN (L ++ zeros (j + 1)))) u := fun u => by
          have h := add_strN (L ++ zeros j) [0] (by rw [List.length_append, zeros_length]; omega) (by simp) u
          rw [List.append_assoc, show zeros j ++ [0] = zeros (j + 1) by unfold zeros; rw [List.replicate_succ']] at h
          exact h
        have hz2 := strN_size (L ++ zeros (j + 1))
        rw [List.length_append, zeros_length] at hz2
        go_wp2
        go_round
        case rel => exact ⟨j + 1, by omega, rfl⟩
        case measure => simp [strSz]; omega
      · have hj2 : j = 64 - L.length := by omega
        subst hj2
        rw [← HKx.out]
        clear hlt hz hj
        have hzK := strN_size K
        rw [HKl.out] at hzK
        go_wp2_with fail
        go_loopw [7, 5, 6] (fun i a b wr => ∃ k : Nat, k ≤ 64 ∧ i = .int .i64 k ∧ a = .string (strN (mask 54 (K.take k))) ∧ b = .string (strN (mask 92 (K.take k))) ∧ Rm w wr) (fun i _ _ _ => 64 - (intOf i).toNat)
        case atStart => exact ⟨0, by omega, rfl, rfl, rfl, H0.out⟩
        case round =>
          clear H0
          obtain ⟨k, hk, rfl, rfl, rfl, hR⟩ := hrel
          have HR := hide hR
          clear hR
          by_cases hlk : k < 64
          · have hkb : k < (strN K).size := by omega
            have hx := strN_at HK8.out k hkb
            have hx8 := all8_getD HK8.out k
            have Ha := hide (mask_snoc 54 K k (by rw [HKl.out]; exact hlk))
            have Hb := hide (mask_snoc 92 K k (by rw [HKl.out]; exact hlk))
            obtain ⟨x, hxe⟩ : ∃ x, x = K.getD k 0 := ⟨_, rfl⟩
            rw [← hxe] at hx hx8 Ha Hb
            clear hxe
            have x1 : bits .xor .u8 (x : Int) 54 = ((x ^^^ 54 : Nat) : Int) := xor_u8 x 54 hx8 (by omega)
            have x2 : bits .xor .u8 (x : Int) 92 = ((x ^^^ 92 : Nat) : Int) := xor_u8 x 92 hx8 (by omega)
            obtain ⟨S, hS⟩ : ∃ S, S = mask 54 (K.take k) := ⟨_, rfl⟩
            obtain ⟨T, hT⟩ : ∃ T, T = mask 92 (K.take k) := ⟨_, rfl⟩
            have hSl : S.length ≤ 64 := by rw [hS, mask_length, List.length_take]; omega
            have hTl : T.length ≤ 64 := by rw [hT, mask_length, List.length_take]; omega
            rw [← hS] at Ha ⊢
            rw [← hT] at Hb ⊢
            clear hS hT
            obtain ⟨y, hy⟩ : ∃ y, y = x ^^^ 54 := ⟨_, rfl⟩
            obtain ⟨z, hz⟩ : ∃ z, z = x ^^^ 92 := ⟨_, rfl⟩
            rw [← hy] at x1 Ha
            rw [← hz] at x2 Hb
            clear hy hz
            have hd : decide ((k : Int) < 64) = true := by simp; omega
            have hc1 := conv_one y wr
            have hc2 := conv_one z (wr.alloc (.cells #[.int .u8 (y : Int)] 5))
            have e9 : (wr.alloc (.cells #[.int .u8 (y : Int)] 5)).heap.size = wr.heap.size + 1 := by simp
            rw [e9] at hc2
            clear e9
            have hadd := fun (u : World) => add_strN S [y] (by omega) (by simp) u
            have hadd2 := fun (u : World) => add_strN T [z] (by omega) (by simp) u
            have HR2 := hide ((HR.out.up (below_new wr (.cells #[.int .u8 (y : Int)] 5))).up (below_new (wr.alloc (.cells #[.int .u8 (y : Int)] 5)) (.cells #[.int .u8 (z : Int)] 5)))
            go_wp2
            go_roundw
            case rel => exact ⟨k + 1, by omega, by go_num, by rw [Ha.out], by rw [Hb.out], HR2.out⟩
            case measure => simp [intOf]; omega
          · have hk8 : k = 64 := by omega
            subst hk8
            have HT64 : Hid (K.take 64 = K) := hide (List.take_of_length_le (by rw [HKl.out]; omega))
            rw [HT64.out]
            have hI8 : All8 (mask 54 K) := mask_all (by omega) HK8.out
            have hO8 : All8 (mask 92 K) := mask_all (by omega) HK8.out
            have hIl : (mask 54 K).length = 64 := by rw [mask_length, HKl.out]
            have hOl : (mask 92 K).length = 64 := by rw [mask_length, HKl.out]
            have a1 := fun (u : World) => add_strN (mask 54 K) M (by omega) (by omega) u
            have HO1 := hide (fun u => refOf_c (mask 54 K ++ M) u (all8_append hI8 hM) (by rw [List.length_append]; omega))
            have HX8 := hide (all8_sha (mask 54 K ++ M))
            have HBy1 := hide (fun u => refBytes_c (sha (mask 54 K ++ M)) u (sha_length _) (all8_sha _))
            have a2 := fun (u : World) => add_strN (mask 92 K) (sha (mask 54 K ++ M)) (by omega) (by rw [sha_length]; omega) u
            have HO2 := hide (fun u => refOf_c (mask 92 K ++ sha (mask 54 K ++ M)) u (all8_append hO8 (all8_sha _)) (by rw [List.length_append, sha_length]; omega))
            have HY : Hid (macL L M = sha (mask 92 K ++ sha (mask 54 K ++ M))) := hide (by unfold macL; rw [HK.out])
            have HYl : Hid ((sha (mask 92 K ++ sha (mask 54 K ++ M))).length = 32) := hide (sha_length _)
            generalize sha (mask 92 K ++ sha (mask 54 K ++ M)) = Y at *
            generalize mask 92 K ++ sha (mask 54 K ++ M) = O at *
            generalize sha (mask 54 K ++ M) = X at *
            generalize mask 54 K ++ M = I at *
            go_wp2_with fail
            refine (HO1.out wr).mono ?_
            rintro e w3 ⟨rfl, hb3⟩
            have H3 := hide (HR.out.up hb3)
            clear hb3
            go_wp2_with fail
            refine (HBy1.out w3).mono ?_
            rintro e w4 ⟨rfl, hb4⟩
            have H4 := hide (H3.out.up hb4)
            clear hb4
            go_wp2_with fail
            refine (HO2.out w4).mono ?_
            rintro e w5 ⟨rfl, hb5⟩
            have H5 := hide (H4.out.up hb5)
            clear hb5 a1 a2
            go_wp2_with (refine wpList_store_whole rfl 79 (.tmp 4) (.tmp 46) rfl w.heap.size Y (zeros 32) 79 rfl rfl H5.out.row HYl.out (by rw [infoS, HYl.out]) ?_)
            intro w6 H6 HG6
            have HB6 := hide (belowG H5.out.below HG6.out (Nat.le_refl _) H5.out.below.size)
            refine of_hid ?_
            go_wp2_with fail
            exact ret_whole Tryd.results81 w.heap.size Y 79 (0, 0) rfl H6.out _ Tryd.underlying79 rfl (by rw [infoS, HYl.out]) rfl ⟨by rw [HY.out], HB6.out⟩
end Go.Proofs.YtifepgigkmhdaaaDoor.Srm
