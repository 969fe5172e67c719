/- Several texts, one behind the other. -/
import Derived.Test.YtkinpbhbgeiflaaDoorQc
import Derived.Maps.AppendAt
import Derived.OwnWalk
import Derived.Test.YtkinpbhbgeiflaaDoorQb
import Derived.Test.YtkinpbhbgeiflaaDoorQa
import Derived.ArgAppend
import Derived.Laws.AppendOwn
import Derived.WalkKit
import Derived.Laws.BitsAllLaws
import Derived.Laws.BytesArg
/- The reference's state while a block's words are added to it. -/
namespace Go.Proofs.YtkinpbhbgeiflaaDoor.Szb
set_option linter.unusedVariables false
set_option linter.unusedSimpArgs false
set_option maxRecDepth 100000
open Go.RowKit
open Go.Proofs.YtkinpbhbgeiflaaDoor.Wu Go.Proofs.YtkinpbhbgeiflaaDoor.Sm Go.Proofs.YtkinpbhbgeiflaaDoor.Sk Go.Proofs.YtkinpbhbgeiflaaDoor.Sc Go.Proofs.YtkinpbhbgeiflaaDoor.Sxa Go.Proofs.YtkinpbhbgeiflaaDoor.Sh Go.Proofs.YtkinpbhbgeiflaaDoor.Sn Go.Proofs.YtkinpbhbgeiflaaDoor.Sw0 Go.Proofs.YtkinpbhbgeiflaaDoor.Sf Go.Proofs.YtkinpbhbgeiflaaDoor.So Go.Proofs.YtkinpbhbgeiflaaDoor.Sv Go.Proofs.YtkinpbhbgeiflaaDoor.Ap Go.Proofs.YtkinpbhbgeiflaaDoor.Sr Go.Proofs.YtkinpbhbgeiflaaDoor.Srf0 Go.Proofs.YtkinpbhbgeiflaaDoor.Srf1 Go.Proofs.YtkinpbhbgeiflaaDoor.Sza
def hRow (s v : S8) (i : Nat) : List Nat := (s.add v).list.take i ++ s.list.drop i
theorem hRow_zero (s v : S8) : hRow s v 0 = s.list := by simp [hRow]
theorem hRow_end (s v : S8) : hRow s v 8 = (s.add v).list := by simp [hRow, S8.list]
theorem hRow_length (s v : S8) (i : Nat) (h : i ≤ 8) : (hRow s v i).length = 8 := by simp [hRow, S8.list]; omega
theorem hRow_at (s v : S8) (i : Nat) (h : i < 8) : (hRow s v i).getD i 0 = s.list.getD i 0 := by
  match i, h with
  | 0, _ => rfl
  | 1, _ => rfl
  | 2, _ => rfl
  | 3, _ => rfl
  | 4, _ => rfl
  | 5, _ => rfl
  | 6, _ => rfl
  | 7, _ => rfl
theorem hRow_step (s v : S8) (i : Nat) (h : i < 8) : (hRow s v i).set i ((s.list.getD i 0 + v.list.getD i 0) % 4294967296) = hRow s v (i + 1) := by
  match i, h with
  | 0, _ => rfl
  | 1, _ => rfl
  | 2, _ => rfl
  | 3, _ => rfl
  | 4, _ => rfl
  | 5, _ => rfl
  | 6, _ => rfl
  | 7, _ => rfl
theorem V8.at {wr : World} {VB : Nat} {v : S8} (h : V8 wr VB v) (i : Nat) (hi : i < 8) : wr.cell? ⟨VB, i, none⟩ = some (.int .u64 ((v.list.getD i 0 : Nat) : Int)) := by
  match i, hi with
  | 0, _ => exact h.a
  | 1, _ => exact h.b
  | 2, _ => exact h.c
  | 3, _ => exact h.d
  | 4, _ => exact h.e
  | 5, _ => exact h.f
  | 6, _ => exact h.g
  | 7, _ => exact h.h
/-- The memory, the state's row told by a list. -/
structure E3 (w wr : World) (KB HB g nb cap : Nat) (PM : List Nat) (row : List Nat) : Prop where
  ks : wr.heap[KB]? = some (.cells (u64s Ks) 206 (0, 0))
  hs : wr.heap[HB]? = some (.cells (u64s row) 206 (0, 0))
  msg : Dst wr g (64 * nb) cap PM
  res : wr.heap[w.heap.size]? = some (.cells (u8s (zeros 32)) 84 (0, 0))
  below : Below w.heap.size w wr
  nk : KB ≠ HB
  ng : g ≠ HB
  nr : w.heap.size < HB
section
variable {w wr : World} {KB HB g nb cap : Nat} {PM : List Nat} {s : S8} {row row' : List Nat}
theorem E3.env (h : E3 w wr KB HB g nb cap PM s.list) : Env w wr KB HB g (64 * nb) cap PM s := ⟨h.ks, h.hs, h.msg, h.res, h.below⟩
theorem E3.step {i x : Nat} (h : E3 w wr KB HB g nb cap PM row) (hr : row.set i x = row') : ∀ k : Nat, E3 w ((wr.drewN k).setCell ⟨HB, i, none⟩ (.int .u64 (x : Int))) KB HB g nb cap PM row' := by
  intro k
  have hg := grown_setCell (World.grownBy.refl (wr.drewN k) (some HB)) i (.int .u64 (x : Int))
  have hb : Below w.heap.size w (wr.drewN k) := below_drewN h.below k
  have hh : (wr.drewN k).heap[HB]? = some (.cells (u64s row) 206 (0, 0)) := h.hs
  have hd : Dst (wr.drewN k) g (64 * nb) cap PM := ⟨h.msg.len, h.msg.all, h.msg.fit, h.msg.max, h.msg.lt, h.msg.cells, h.msg.spare⟩
  refine ⟨keepG hg h.nk h.ks, ?_, hd.kept hg h.ng, keepG hg (by have := h.nr; omega) h.res, belowG hb hg (by have := h.nr; omega) hb.size, h.nk, h.ng, h.nr⟩
  rw [blk_set hh, u64s_set, hr]
theorem V8.kept {VB i : Nat} {x : Value} {v : S8} (h : V8 wr VB v) (hne : VB ≠ HB) : ∀ k : Nat, V8 ((wr.drewN k).setCell ⟨HB, i, none⟩ x) VB v := by
  intro k
  have hg := grown_setCell (World.grownBy.refl (wr.drewN k) (some HB)) i x
  have h' := h.drewN k
  exact ⟨grown_cell hg hne h'.a, grown_cell hg hne h'.b, grown_cell hg hne h'.c, grown_cell hg hne h'.d, grown_cell hg hne h'.e, grown_cell hg hne h'.f, grown_cell hg hne h'.g, grown_cell hg hne h'.h⟩
theorem list_lt {s : S8} (h : s.ok) (i : Nat) : s.list.getD i 0 < 4294967296 := all32_getD h i
end
def oRow (s : S8) (i : Nat) : List Nat := (bytes8 s).take i ++ zeros (32 - i)
theorem oRow_length (s : S8) (i : Nat) (h : i ≤ 32) : (oRow s i).length = 32 := by simp [oRow, bytes8_length, zeros]; omega
theorem oRow_end (s : S8) : oRow s 32 = bytes8 s := by unfold oRow; rw [List.take_of_length_le (by rw [bytes8_length]; omega)]; simp [zeros]
theorem oRow_zero (s : S8) : oRow s 0 = zeros 32 := by simp [oRow]
theorem bytes8_at (s : S8) (i : Nat) (h : i < 32) : (bytes8 s).getD i 0 = (s.list.getD (i / 4) 0 >>> (24 - 8 * (i % 4))) % 256 := by
  obtain ⟨a, b, ha, hb, rfl⟩ : ∃ a b, a < 8 ∧ b < 4 ∧ i = 4 * a + b := ⟨i / 4, i % 4, by omega, by omega, by omega⟩
  rw [show (4 * a + b) / 4 = a by omega, show (4 * a + b) % 4 = b by omega]
  match a, ha with
  | 0, _ => match b, hb with
    | 0, _ => simp [bytes8, S8.list, four, List.getD, Nat.shiftRight_eq_div_pow]
    | 1, _ => simp [bytes8, S8.list, four, List.getD, Nat.shiftRight_eq_div_pow]
    | 2, _ => simp [bytes8, S8.list, four, List.getD, Nat.shiftRight_eq_div_pow]
    | 3, _ => simp [bytes8, S8.list, four, List.getD, Nat.shiftRight_eq_div_pow]
  | 1, _ => match b, hb with
    | 0, _ => simp [bytes8, S8.list, four, List.getD, Nat.shiftRight_eq_div_pow]
    | 1, _ => simp [bytes8, S8.list, four, List.getD, Nat.shiftRight_eq_div_pow]
    | 2, _ => simp [bytes8, S8.list, four, List.getD, Nat.shiftRight_eq_div_pow]
    | 3, _ => simp [bytes8, S8.list, four, List.getD, Nat.shiftRight_eq_div_pow]
  | 2, _ => match b, hb with
    | 0, _ => simp [bytes8, S8.list, four, List.getD, Nat.shiftRight_eq_div_pow]
    | 1, _ => simp [bytes8, S8.list, four, List.getD, Nat.shiftRight_eq_div_pow]
    | 2, _ => simp [bytes8, S8.list, four, List.getD, Nat.shiftRight_eq_div_pow]
    | 3, _ => simp [bytes8, S8.list, four, List.getD, Nat.shiftRight_eq_div_pow]
  | 3, _ => match b, hb with
    | 0, _ => simp [bytes8, S8.list, four, List.getD, Nat.shiftRight_eq_div_pow]
    | 1, _ => simp [bytes8, S8.list, four, List.getD, Nat.shiftRight_eq_div_pow]
    | 2, _ => simp [bytes8, S8.list, four, List.getD, Nat.shiftRight_eq_div_pow]
    | 3, _ => simp [bytes8, S8.list, four, List.getD, Nat.shiftRight_eq_div_pow]
  | 4, _ => match b, hb with
    | 0, _ => simp [bytes8, S8.list, four, List.getD, Nat.shiftRight_eq_div_pow]
    | 1, _ => simp [bytes8, S8.list, four, List.getD, Nat.shiftRight_eq_div_pow]
    | 2, _ => simp [bytes8, S8.list, four, List.getD, Nat.shiftRight_eq_div_pow]
    | 3, _ => simp [bytes8, S8.list, four, List.getD, Nat.shiftRight_eq_div_pow]
  | 5, _ => match b, hb with
    | 0, _ => simp [bytes8, S8.list, four, List.getD, Nat.shiftRight_eq_div_pow]
    | 1, _ => simp [bytes8, S8.list, four, List.getD, Nat.shiftRight_eq_div_pow]
    | 2, _ => simp [bytes8, S8.list, four, List.getD, Nat.shiftRight_eq_div_pow]
    | 3, _ => simp [bytes8, S8.list, four, List.getD, Nat.shiftRight_eq_div_pow]
  | 6, _ => match b, hb with
    | 0, _ => simp [bytes8, S8.list, four, List.getD, Nat.shiftRight_eq_div_pow]
    | 1, _ => simp [bytes8, S8.list, four, List.getD, Nat.shiftRight_eq_div_pow]
    | 2, _ => simp [bytes8, S8.list, four, List.getD, Nat.shiftRight_eq_div_pow]
    | 3, _ => simp [bytes8, S8.list, four, List.getD, Nat.shiftRight_eq_div_pow]
  | 7, _ => match b, hb with
    | 0, _ => simp [bytes8, S8.list, four, List.getD, Nat.shiftRight_eq_div_pow]
    | 1, _ => simp [bytes8, S8.list, four, List.getD, Nat.shiftRight_eq_div_pow]
    | 2, _ => simp [bytes8, S8.list, four, List.getD, Nat.shiftRight_eq_div_pow]
    | 3, _ => simp [bytes8, S8.list, four, List.getD, Nat.shiftRight_eq_div_pow]
theorem oRow_step (s : S8) (i : Nat) (h : i < 32) : (oRow s i).set i ((s.list.getD (i / 4) 0 >>> (24 - 8 * (i % 4))) % 256) = oRow s (i + 1) := by
  rw [← bytes8_at s i h]
  unfold oRow
  have hl : ((bytes8 s).take i).length = i := by rw [List.length_take, bytes8_length]; omega
  rw [List.set_append_right _ _ (by omega), hl, Nat.sub_self, show 32 - i = (32 - (i + 1)) + 1 by omega]
  have e : (bytes8 s).take (i + 1) = (bytes8 s).take i ++ [(bytes8 s).getD i 0] := by
    have hb : i < (bytes8 s).length := by rw [bytes8_length]; exact h
    rw [List.take_succ_eq_append_getElem hb]
    simp only [List.getD, List.getElem?_eq_getElem hb, Option.getD_some]
  rw [e]
  simp [zeros, List.replicate_succ]
theorem shr_mod (A k : Nat) : ((A : Int) / 2 ^ k).tmod 256 % 256 = (((A >>> k) % 256 : Nat) : Int) := by
  have e : (A : Int) / 2 ^ k = ((A >>> k : Nat) : Int) := by rw [Nat.shiftRight_eq_div_pow, Int.natCast_ediv, Int.natCast_pow]; rfl
  rw [e]
  generalize A >>> k = y
  rw [Int.tmod_eq_emod_of_nonneg (by omega)]
  omega
theorem make64 (u : World) : Sem.run Tryd.prog (Instr.makeSlice 237 (.int .i64 64) (.int .i64 64)) u = .ok (.slice (some ⟨u.heap.size, 0, none⟩) 64 64) (u.alloc (.cells (u64s (zeros 64)) 206)) := by kernel_rfl
theorem info_u64 : (Tryd.prog.info? 206).map (fun i => (i.zero, i.size, i.bytes)) = some (some (.int .u64 0), 1, 8) := by kernel_rfl
theorem append_h (u : World) (ty : TypeId) (EB HB : Nat) (s : S8) (he : u.heap[EB]? = some (.cells #[] 206 (0, 0))) (hs : u.heap[HB]? = some (.cells (u64s s.list) 206 (0, 0))) (hlt : HB < EB) (hE : EB < u.heap.size) :
    ∃ VB vc u', (Builtin.append_ #[237, 237] ty #[.slice (some ⟨EB, 0, none⟩) 0 0, .slice (some ⟨HB, 0, none⟩) 8 8]).run Tryd.prog u = .ok (.slice (some ⟨VB, 0, none⟩) 8 vc) u' ∧ V8 u' VB s ∧ 8 ≤ vc ∧ vc ≤ 9223372036854775807 ∧ VB ≠ HB ∧ u.grownBy u' (some EB) := by
  obtain ⟨i0, hi0, hz0, hz1, hz2⟩ := info_parts info_u64
  have hown : u.ownsRow 0 206 1 (.slice (some ⟨EB, 0, none⟩) 0 0) 0 [] := ⟨by simp, .inr ⟨EB, 0, #[], rfl, Nat.zero_le _, he, Nat.le_refl _, Nat.zero_le _, by simp, by simp⟩⟩
  have hnews : ∀ j v, (u64s s.list).toList[j]? = some v → u.cell? ((⟨HB, 0, none⟩ : Addr).add j) = some v := by
    intro j v hv
    rw [Addr.add_mid, Nat.zero_add]
    exact blk_cell hs (by simpa using hv)
  obtain ⟨v', w', hr, h1, h2, h3, h4⟩ := run_append_own_at (P := Tryd.prog) u 0 237 ty 206 i0 _ 1 8 Tryd.underlying237 hi0 hz0 hz1 hz2 rfl (by omega) _ 0 [] hown ⟨HB, 0, none⟩ 8 8 (u64s s.list).toList rfl hnews (by
    intro v hv
    simp only [u64s, S8.list, List.map_cons, List.map_nil, List.mem_cons, List.not_mem_nil, or_false] at hv
    rcases hv with rfl | rfl | rfl | rfl | rfl | rfl | rfl | rfl <;> rfl) (by unfold maxLen; omega) (by omega) (Nat.zero_le _)
  simp only [Nat.zero_add, List.nil_append] at h1
  rcases h1.2 with ⟨_, hn⟩ | ⟨g, cap, cur, rfl, hb, hg, hl, hm, _⟩
  · omega
  · have hc := h1.cells (g := g) rfl
    have hc' : ∀ (j : Nat) (v : Value), (u64s s.list).toList[j]? = some v → w'.cell? ⟨g, j, none⟩ = some v := by
      intro j v hv
      have := hc j v hv
      rwa [Addr.add_mid, Nat.zero_add] at this
    unfold maxLen at hm
    refine ⟨g, cap, w', hr, ⟨hc' 0 _ rfl, hc' 1 _ rfl, hc' 2 _ rfl, hc' 3 _ rfl, hc' 4 _ rfl, hc' 5 _ rfl, hc' 6 _ rfl, hc' 7 _ rfl⟩, hl, by omega, ?_, h2⟩
    rcases h4 with e | e
    · injection e with e; have e : g = EB := e; omega
    · injection e with e; have e : g = u.heap.size := e; omega
theorem wpList_append_run3 {P : Program} {w w' : World} {ops : Array Oper} {rest : List Oper} {o : Oper} {a : Act} {Q : Exit → Act → World → Prop} (hgd : o.guard = none) (s x : Operand) (t : TypeId)
    (ho : o.op = .call { callee := .builtin .append, args := #[s, x], argTypes := #[t, t] }) (v xv v' : Value)
    (hs : a.eval s = v) (hx : a.eval x = xv) (hrun : (Builtin.append_ #[t, t] o.type #[v, xv]).run P w = .ok v' w') (h : Hid (wpList P ops Q rest (a.put o.dst v') w')) : wpList P ops Q (o :: rest) a w := by
  refine wpList_plain hgd fun K hK => ?_
  unfold Oper.wp
  simp [execOp, ho, resolve, invoke, builtin, hs, hx, hrun, Result.andThen]
  exact hK _ _ h
theorem _root_.Go.Proofs.YtkinpbhbgeiflaaDoor.Sza.E2.grown {w wr wr' : World} {KB HB g nb cap : Nat} {PM : List Nat} {s : S8} {WB : Nat} {row : List Nat} {EB : Nat} (h : E2 w wr KB HB g nb cap PM s WB row) (hg : wr.grownBy wr' (some EB)) (h1 : KB ≠ EB) (h2 : HB ≠ EB) (h3 : g ≠ EB) (h4 : w.heap.size < EB) (h5 : WB ≠ EB) : E2 w wr' KB HB g nb cap PM s WB row :=
  ⟨h.env.grown hg h1 h2 h3 h4, keepG hg h5 h.row, h.nk, h.nh, h.ng, h.nr⟩
end Go.Proofs.YtkinpbhbgeiflaaDoor.Szb
/- The reference's state: a block's words are added. -/
namespace Go.Proofs.YtkinpbhbgeiflaaDoor.Sz8
set_option linter.unusedVariables false
set_option linter.unusedSimpArgs false
set_option maxRecDepth 1000000
open Go.ChangeShapes Go.WideShapes Go.ChangeAt Go.RowKit
open Go.Proofs.YtkinpbhbgeiflaaDoor.Wu Go.Proofs.YtkinpbhbgeiflaaDoor.Sm Go.Proofs.YtkinpbhbgeiflaaDoor.Sk Go.Proofs.YtkinpbhbgeiflaaDoor.Sc Go.Proofs.YtkinpbhbgeiflaaDoor.Sxa Go.Proofs.YtkinpbhbgeiflaaDoor.Sh Go.Proofs.YtkinpbhbgeiflaaDoor.Sn Go.Proofs.YtkinpbhbgeiflaaDoor.Sw0 Go.Proofs.YtkinpbhbgeiflaaDoor.Sf Go.Proofs.YtkinpbhbgeiflaaDoor.So Go.Proofs.YtkinpbhbgeiflaaDoor.Sv Go.Proofs.YtkinpbhbgeiflaaDoor.Ap Go.Proofs.YtkinpbhbgeiflaaDoor.Sr Go.Proofs.YtkinpbhbgeiflaaDoor.Srf0 Go.Proofs.YtkinpbhbgeiflaaDoor.Srf1 Go.Proofs.YtkinpbhbgeiflaaDoor.Rk Go.Proofs.YtkinpbhbgeiflaaDoor.Sza Go.Proofs.YtkinpbhbgeiflaaDoor.Szb
attribute [local go_sem] kUpon_value kUpon_skip kUpon_enter
set_option maxHeartbeats 6400000 in
theorem loop8 (c0 c1 c4 c5 c10 c11 c12 c13 c14 c15 c17 c18 c19 c20 c21 c23 c24 c25 c26 c27 c28 c29 c30 c31 c32 c33 c34 c35 c36 c37 c38 c39 c40 c41 c42 c43 c44 c45 c46 c47 c48 c49 c50 c51 c52 c53 c54 c55 c56 c57 c58 c59 c60 c61 c62 c63 c64 c65 c66 c67 c68 c69 c70 c71 c72 c73 c74 c75 c76 c77 c78 c79 c80 c81 c82 c83 c84 c85 c86 c87 c88 c89 c90 c91 c92 c93 c94 c95 c96 c97 c98 c99 c100 c101 c102 c103 c104 c105 c106 c107 c108 c109 c110 c111 c112 c113 c114 c115 c116 c117 c118 c119 c120 c121 c122 c123 c124 c125 c126 c127 c128 c129 c130 c131 c132 c133 c134 c135 c136 c137 c138 c139 c140 c141 c142 c143 c144 c145 c146 c147 c148 c149 c150 c151 c152 c153 c154 c155 c156 c157 c158 c159 c160 c161 c162 c163 c164 c165 c166 c167 c168 c169 c170 c171 c172 c173 c174 c175 c176 c177 c178 c179 c180 c181 c182 c183 c184 c185 c186 c187 c188 c189 c190 c191 c192 c193 c194 c195 c196 c197 c198 c199 c200 c201 c202 c203 c204 c205 c206 c207 c208 c209 c210 c211 c212 c213 c214 c215 c216 c217 c218 c219 c220 c221 c222 c223 c224 c225 c226 c227 c228 c229 c230 c231 c232 c233 c234 c235 c236 c237 c238 c239 c240 c241 c242 c243 c244 c245 c246 c247 c248 c249 c250 c251 c252 c253 c254 c255 c256 c257 c258 c259 c260 c279 c280 c281 c282 c283 c284 c285 c286 c287 c288 c289 c290 c291 c292 c293 c294 c295 c296 c297 c298 u261 u262 u263 u264 u265 u266 u267 u268 u269 u270 u271 u272 u273 u274 u275 u276 u277 u278 : Value) (w wr : World) (KB HB g nb cap P n : Nat) (PM : List Nat) (s : S8) (Q : Exit → Act → World → Prop) (VB vc : Nat) (v : S8) (hvc : 8 ≤ vc) (hvm : vc ≤ 9223372036854775807) (hE : E3 w wr KB HB g nb cap PM s.list) (hV : V8 wr VB v) (hvh : VB ≠ HB) (hs : s.ok) (hv : v.ok)
    (hexit : ∀ (x22 x261 x262 x263 x264 x265 x266 x267 x268 x269 x270 x271 x272 x273 x274 x275 x276 x277 x278 : Value) (wx : World), E3 w wx KB HB g nb cap PM (s.add v).list → Q (.exit 14) ⟨List.toArray (c0 :: c1 :: (.pointer (some ⟨w.heap.size, 0, none⟩) : Value) :: (.slice (some ⟨g, 0, none⟩) n cap : Value) :: c4 :: c5 :: (.slice (some ⟨KB, 0, none⟩) 64 64 : Value) :: (.int .u64 4294967296 : Value) :: (.slice (some ⟨HB, 0, none⟩) 8 8 : Value) :: (.int .i64 (P : Int) : Value) :: c10 :: c11 :: c12 :: c13 :: c14 :: c15 :: (.slice (some ⟨VB, 0, none⟩) 8 vc : Value) :: c17 :: c18 :: c19 :: c20 :: c21 :: x22 :: c23 :: c24 :: c25 :: c26 :: c27 :: c28 :: c29 :: c30 :: c31 :: c32 :: c33 :: c34 :: c35 :: c36 :: c37 :: c38 :: c39 :: c40 :: c41 :: c42 :: c43 :: c44 :: c45 :: c46 :: c47 :: c48 :: c49 :: c50 :: c51 :: c52 :: c53 :: c54 :: c55 :: c56 :: c57 :: c58 :: c59 :: c60 :: c61 :: c62 :: c63 :: c64 :: c65 :: c66 :: c67 :: c68 :: c69 :: c70 :: c71 :: c72 :: c73 :: c74 :: c75 :: c76 :: c77 :: c78 :: c79 :: c80 :: c81 :: c82 :: c83 :: c84 :: c85 :: c86 :: c87 :: c88 :: c89 :: c90 :: c91 :: c92 :: c93 :: c94 :: c95 :: c96 :: c97 :: c98 :: c99 :: c100 :: c101 :: c102 :: c103 :: c104 :: c105 :: c106 :: c107 :: c108 :: c109 :: c110 :: c111 :: c112 :: c113 :: c114 :: c115 :: c116 :: c117 :: c118 :: c119 :: c120 :: c121 :: c122 :: c123 :: c124 :: c125 :: c126 :: c127 :: c128 :: c129 :: c130 :: c131 :: c132 :: c133 :: c134 :: c135 :: c136 :: c137 :: c138 :: c139 :: c140 :: c141 :: c142 :: c143 :: c144 :: c145 :: c146 :: c147 :: c148 :: c149 :: c150 :: c151 :: c152 :: c153 :: c154 :: c155 :: c156 :: c157 :: c158 :: c159 :: c160 :: c161 :: c162 :: c163 :: c164 :: c165 :: c166 :: c167 :: c168 :: c169 :: c170 :: c171 :: c172 :: c173 :: c174 :: c175 :: c176 :: c177 :: c178 :: c179 :: c180 :: c181 :: c182 :: c183 :: c184 :: c185 :: c186 :: c187 :: c188 :: c189 :: c190 :: c191 :: c192 :: c193 :: c194 :: c195 :: c196 :: c197 :: c198 :: c199 :: c200 :: c201 :: c202 :: c203 :: c204 :: c205 :: c206 :: c207 :: c208 :: c209 :: c210 :: c211 :: c212 :: c213 :: c214 :: c215 :: c216 :: c217 :: c218 :: c219 :: c220 :: c221 :: c222 :: c223 :: c224 :: c225 :: c226 :: c227 :: c228 :: c229 :: c230 :: c231 :: c232 :: c233 :: c234 :: c235 :: c236 :: c237 :: c238 :: c239 :: c240 :: c241 :: c242 :: c243 :: c244 :: c245 :: c246 :: c247 :: c248 :: c249 :: c250 :: c251 :: c252 :: c253 :: c254 :: c255 :: c256 :: c257 :: c258 :: c259 :: c260 :: x261 :: x262 :: x263 :: x264 :: x265 :: x266 :: x267 :: x268 :: x269 :: x270 :: x271 :: x272 :: x273 :: x274 :: x275 :: x276 :: x277 :: x278 :: c279 :: c280 :: c281 :: c282 :: c283 :: c284 :: c285 :: c286 :: c287 :: c288 :: c289 :: c290 :: c291 :: c292 :: c293 :: c294 :: c295 :: c296 :: c297 :: c298 :: []), []⟩ wx) :
    Code.wp Tryd.prog (lc 7) Q ⟨List.toArray (c0 :: c1 :: (.pointer (some ⟨w.heap.size, 0, none⟩) : Value) :: (.slice (some ⟨g, 0, none⟩) n cap : Value) :: c4 :: c5 :: (.slice (some ⟨KB, 0, none⟩) 64 64 : Value) :: (.int .u64 4294967296 : Value) :: (.slice (some ⟨HB, 0, none⟩) 8 8 : Value) :: (.int .i64 (P : Int) : Value) :: c10 :: c11 :: c12 :: c13 :: c14 :: c15 :: (.slice (some ⟨VB, 0, none⟩) 8 vc : Value) :: c17 :: c18 :: c19 :: c20 :: c21 :: (.int .i64 0 : Value) :: c23 :: c24 :: c25 :: c26 :: c27 :: c28 :: c29 :: c30 :: c31 :: c32 :: c33 :: c34 :: c35 :: c36 :: c37 :: c38 :: c39 :: c40 :: c41 :: c42 :: c43 :: c44 :: c45 :: c46 :: c47 :: c48 :: c49 :: c50 :: c51 :: c52 :: c53 :: c54 :: c55 :: c56 :: c57 :: c58 :: c59 :: c60 :: c61 :: c62 :: c63 :: c64 :: c65 :: c66 :: c67 :: c68 :: c69 :: c70 :: c71 :: c72 :: c73 :: c74 :: c75 :: c76 :: c77 :: c78 :: c79 :: c80 :: c81 :: c82 :: c83 :: c84 :: c85 :: c86 :: c87 :: c88 :: c89 :: c90 :: c91 :: c92 :: c93 :: c94 :: c95 :: c96 :: c97 :: c98 :: c99 :: c100 :: c101 :: c102 :: c103 :: c104 :: c105 :: c106 :: c107 :: c108 :: c109 :: c110 :: c111 :: c112 :: c113 :: c114 :: c115 :: c116 :: c117 :: c118 :: c119 :: c120 :: c121 :: c122 :: c123 :: c124 :: c125 :: c126 :: c127 :: c128 :: c129 :: c130 :: c131 :: c132 :: c133 :: c134 :: c135 :: c136 :: c137 :: c138 :: c139 :: c140 :: c141 :: c142 :: c143 :: c144 :: c145 :: c146 :: c147 :: c148 :: c149 :: c150 :: c151 :: c152 :: c153 :: c154 :: c155 :: c156 :: c157 :: c158 :: c159 :: c160 :: c161 :: c162 :: c163 :: c164 :: c165 :: c166 :: c167 :: c168 :: c169 :: c170 :: c171 :: c172 :: c173 :: c174 :: c175 :: c176 :: c177 :: c178 :: c179 :: c180 :: c181 :: c182 :: c183 :: c184 :: c185 :: c186 :: c187 :: c188 :: c189 :: c190 :: c191 :: c192 :: c193 :: c194 :: c195 :: c196 :: c197 :: c198 :: c199 :: c200 :: c201 :: c202 :: c203 :: c204 :: c205 :: c206 :: c207 :: c208 :: c209 :: c210 :: c211 :: c212 :: c213 :: c214 :: c215 :: c216 :: c217 :: c218 :: c219 :: c220 :: c221 :: c222 :: c223 :: c224 :: c225 :: c226 :: c227 :: c228 :: c229 :: c230 :: c231 :: c232 :: c233 :: c234 :: c235 :: c236 :: c237 :: c238 :: c239 :: c240 :: c241 :: c242 :: c243 :: c244 :: c245 :: c246 :: c247 :: c248 :: c249 :: c250 :: c251 :: c252 :: c253 :: c254 :: c255 :: c256 :: c257 :: c258 :: c259 :: c260 :: u261 :: u262 :: u263 :: u264 :: u265 :: u266 :: u267 :: u268 :: u269 :: u270 :: u271 :: u272 :: u273 :: u274 :: u275 :: u276 :: u277 :: u278 :: c279 :: c280 :: c281 :: c282 :: c283 :: c284 :: c285 :: c286 :: c287 :: c288 :: c289 :: c290 :: c291 :: c292 :: c293 :: c294 :: c295 :: c296 :: c297 :: c298 :: []), []⟩ wr := by
  conv => arg 2; whnf
  have HE := hide hE
  have HV := hide hV
  have Hx := hide hexit
  clear hE hV hexit
  go_loopw [22] (fun c wr => ∃ i : Nat, c = .int .i64 (i : Int) ∧ i ≤ 8 ∧ E3 w wr KB HB g nb cap PM (hRow s v i) ∧ V8 wr VB v) (fun c _ => 8 - (intOf c).toNat)
  case atStart => exact ⟨0, rfl, Nat.zero_le _, by rw [hRow_zero]; exact HE.out, HV.out⟩
  case round =>
    clear HE HV
    obtain ⟨i, rfl, hi, hE, hV⟩ := hrel
    have HE := hide hE
    have HV := hide hV
    clear hE hV
    by_cases hlt : i < 8
    · have d1 : decide ((i : Int) < 8) = true := by simp; omega
      have d1' : decide (i < 8) = true := by simp; omega
      have li : (i : Int) < 8 := by omega
      have x0 := row64 HE.out.hs (i := i) (by rw [hRow_length _ _ _ hi]; exact hlt)
      rw [hRow_at _ _ _ hlt] at x0
      have z0 : wr.frozen? ⟨HB, i, none⟩ = false := blk_free HE.out.hs
      have v0 := V8.at HV.out i hlt
      have hst := HE.out.step (hRow_step s v i hlt)
      have hvk := fun x => V8.kept (i := i) (x := x) HV.out hvh
      have bA := list_lt hs i
      have bB := list_lt hv i
      generalize s.list.getD i 0 = A at *
      generalize v.list.getD i 0 = B at *
      have HSt := hide hst
      have HVk := hide hvk
      have X0 := hide x0
      have V0 := hide v0
      clear hst hvk x0 v0
      go_wp2_with fail
      have mixed : Tryd.prog.follows Departure.mixedOrders = true := by kernel_rfl
      refine wp_region_keep_tail 14 (fun u => ∃ k, u = wr.drewN k) mixed (by kernel_rfl) ⟨1, rfl⟩ ?_
      simp only [List.take_succ_cons, List.take_zero]
      repeat (first
        | (refine keep_step (v := ?_) (by rfl) (fun u K hS hK => ?_) ?_
           rotate_left
           · obtain ⟨nn, rfl⟩ := hS
             have x1 : (wr.drewN nn).cell? ⟨HB, i, none⟩ = _ := X0.out
             have y1 : (wr.drewN nn).cell? ⟨VB, i, none⟩ = _ := V0.out
             (go_simp; with_reducible exact hK _ ⟨nn, rfl⟩)
           simp only [Act.put, List.setIfInBounds_toArray, List.set_cons_zero, List.set_cons_succ]))
      refine keep_nil (fun w3 hS3 => ?_)
      obtain ⟨k3, rfl⟩ := hS3
      simp only [List.drop_succ_cons, List.drop_zero]
      rw [sum_eq2 A B (by omega) (by omega)]
      have HS2 := hide (HSt.out k3)
      have HV2 := hide (HVk.out (.int .u64 (((A + B) % 4294967296 : Nat) : Int)) k3)
      have x2 : (wr.drewN k3).cell? ⟨HB, i, none⟩ = _ := X0.out
      have z2 : (wr.drewN k3).frozen? ⟨HB, i, none⟩ = false := z0
      clear HSt HVk X0 V0 HE HV z0
      generalize (A + B) % 4294967296 = R at *
      generalize wr.drewN k3 = w3 at *
      go_wp2
      go_roundw
      case rel => exact ⟨i + 1, by go_num, by omega, HS2.out, HV2.out⟩
      case measure => simp [intOf]; omega
    · have hk4 : i = 8 := by omega
      subst hk4
      have hE := HE.out
      rw [hRow_end] at hE
      have HE2 := hide hE
      clear hE
      have hx := Hx.out
      go_wp2
      exact HE2.out
end Go.Proofs.YtkinpbhbgeiflaaDoor.Sz8
/- The reference's sum: block by block. -/
namespace Go.Proofs.YtkinpbhbgeiflaaDoor.Sz3
set_option linter.unusedVariables false
set_option linter.unusedSimpArgs false
set_option maxRecDepth 1000000
open Go.ChangeShapes Go.WideShapes Go.ChangeAt Go.RowKit
open Go.Proofs.YtkinpbhbgeiflaaDoor.Wu Go.Proofs.YtkinpbhbgeiflaaDoor.Sm Go.Proofs.YtkinpbhbgeiflaaDoor.Sk Go.Proofs.YtkinpbhbgeiflaaDoor.Sc Go.Proofs.YtkinpbhbgeiflaaDoor.Sxa Go.Proofs.YtkinpbhbgeiflaaDoor.Sh Go.Proofs.YtkinpbhbgeiflaaDoor.Sn Go.Proofs.YtkinpbhbgeiflaaDoor.Sw0 Go.Proofs.YtkinpbhbgeiflaaDoor.Sf Go.Proofs.YtkinpbhbgeiflaaDoor.So Go.Proofs.YtkinpbhbgeiflaaDoor.Sv Go.Proofs.YtkinpbhbgeiflaaDoor.Ap Go.Proofs.YtkinpbhbgeiflaaDoor.Sr Go.Proofs.YtkinpbhbgeiflaaDoor.Srf0 Go.Proofs.YtkinpbhbgeiflaaDoor.Srf1 Go.Proofs.YtkinpbhbgeiflaaDoor.Rk Go.Proofs.YtkinpbhbgeiflaaDoor.Sza Go.Proofs.YtkinpbhbgeiflaaDoor.Szb
attribute [local go_sem] kUpon_value kUpon_skip kUpon_enter
set_option maxHeartbeats 12800000 in
theorem loop3 (c0 c1 c4 c5 c23 c24 c25 c26 c27 c28 c29 c30 c31 c32 c33 c34 c35 c36 c37 c38 c39 c40 c41 c42 c43 c44 c45 c46 c47 c48 c49 c50 c51 c52 c53 c279 c280 c281 c282 c283 c284 c285 c286 c287 c288 c289 c290 c291 c292 c293 c294 c295 c296 c297 c298 u10 u11 u12 u13 u14 u15 u16 u17 u18 u19 u20 u21 u22 u54 u55 u56 u57 u58 u59 u60 u61 u62 u63 u64 u65 u66 u67 u68 u69 u70 u71 u72 u73 u74 u75 u76 u77 u78 u79 u80 u81 u82 u83 u84 u85 u86 u87 u88 u89 u90 u91 u92 u93 u94 u95 u96 u97 u98 u99 u100 u101 u102 u103 u104 u105 u106 u107 u108 u109 u110 u111 u112 u113 u114 u115 u116 u117 u118 u119 u120 u121 u122 u123 u124 u125 u126 u127 u128 u129 u130 u131 u132 u133 u134 u135 u136 u137 u138 u139 u140 u141 u142 u143 u144 u145 u146 u147 u148 u149 u150 u151 u152 u153 u154 u155 u156 u157 u158 u159 u160 u161 u162 u163 u164 u165 u166 u167 u168 u169 u170 u171 u172 u173 u174 u175 u176 u177 u178 u179 u180 u181 u182 u183 u184 u185 u186 u187 u188 u189 u190 u191 u192 u193 u194 u195 u196 u197 u198 u199 u200 u201 u202 u203 u204 u205 u206 u207 u208 u209 u210 u211 u212 u213 u214 u215 u216 u217 u218 u219 u220 u221 u222 u223 u224 u225 u226 u227 u228 u229 u230 u231 u232 u233 u234 u235 u236 u237 u238 u239 u240 u241 u242 u243 u244 u245 u246 u247 u248 u249 u250 u251 u252 u253 u254 u255 u256 u257 u258 u259 u260 u261 u262 u263 u264 u265 u266 u267 u268 u269 u270 u271 u272 u273 u274 u275 u276 u277 u278 : Value) (w wr : World) (KB HB g nb cap n : Nat) (PM : List Nat) (Q : Exit → Act → World → Prop) (hn : n = 64 * nb) (hE : Env w wr KB HB g (64 * nb) cap PM H0) (h8 : All8 PM) (hnb : nb ≤ 40000) (nk : KB ≠ HB) (ng : g ≠ HB) (nr : w.heap.size < HB) (hgs : w.heap.size < g)
    (hexit : ∀ (x9 x10 x11 x12 x13 x14 x15 x16 x17 x18 x19 x20 x21 x22 x54 x55 x56 x57 x58 x59 x60 x61 x62 x63 x64 x65 x66 x67 x68 x69 x70 x71 x72 x73 x74 x75 x76 x77 x78 x79 x80 x81 x82 x83 x84 x85 x86 x87 x88 x89 x90 x91 x92 x93 x94 x95 x96 x97 x98 x99 x100 x101 x102 x103 x104 x105 x106 x107 x108 x109 x110 x111 x112 x113 x114 x115 x116 x117 x118 x119 x120 x121 x122 x123 x124 x125 x126 x127 x128 x129 x130 x131 x132 x133 x134 x135 x136 x137 x138 x139 x140 x141 x142 x143 x144 x145 x146 x147 x148 x149 x150 x151 x152 x153 x154 x155 x156 x157 x158 x159 x160 x161 x162 x163 x164 x165 x166 x167 x168 x169 x170 x171 x172 x173 x174 x175 x176 x177 x178 x179 x180 x181 x182 x183 x184 x185 x186 x187 x188 x189 x190 x191 x192 x193 x194 x195 x196 x197 x198 x199 x200 x201 x202 x203 x204 x205 x206 x207 x208 x209 x210 x211 x212 x213 x214 x215 x216 x217 x218 x219 x220 x221 x222 x223 x224 x225 x226 x227 x228 x229 x230 x231 x232 x233 x234 x235 x236 x237 x238 x239 x240 x241 x242 x243 x244 x245 x246 x247 x248 x249 x250 x251 x252 x253 x254 x255 x256 x257 x258 x259 x260 x261 x262 x263 x264 x265 x266 x267 x268 x269 x270 x271 x272 x273 x274 x275 x276 x277 x278 : Value) (wx : World), Env w wx KB HB g (64 * nb) cap PM (fold H0 PM nb) → Q (.exit 4) ⟨List.toArray (c0 :: c1 :: (.pointer (some ⟨w.heap.size, 0, none⟩) : Value) :: (.slice (some ⟨g, 0, none⟩) n cap : Value) :: c4 :: c5 :: (.slice (some ⟨KB, 0, none⟩) 64 64 : Value) :: (.int .u64 4294967296 : Value) :: (.slice (some ⟨HB, 0, none⟩) 8 8 : Value) :: x9 :: x10 :: x11 :: x12 :: x13 :: x14 :: x15 :: x16 :: x17 :: x18 :: x19 :: x20 :: x21 :: x22 :: c23 :: c24 :: c25 :: c26 :: c27 :: c28 :: c29 :: c30 :: c31 :: c32 :: c33 :: c34 :: c35 :: c36 :: c37 :: c38 :: c39 :: c40 :: c41 :: c42 :: c43 :: c44 :: c45 :: c46 :: c47 :: c48 :: c49 :: c50 :: c51 :: c52 :: c53 :: x54 :: x55 :: x56 :: x57 :: x58 :: x59 :: x60 :: x61 :: x62 :: x63 :: x64 :: x65 :: x66 :: x67 :: x68 :: x69 :: x70 :: x71 :: x72 :: x73 :: x74 :: x75 :: x76 :: x77 :: x78 :: x79 :: x80 :: x81 :: x82 :: x83 :: x84 :: x85 :: x86 :: x87 :: x88 :: x89 :: x90 :: x91 :: x92 :: x93 :: x94 :: x95 :: x96 :: x97 :: x98 :: x99 :: x100 :: x101 :: x102 :: x103 :: x104 :: x105 :: x106 :: x107 :: x108 :: x109 :: x110 :: x111 :: x112 :: x113 :: x114 :: x115 :: x116 :: x117 :: x118 :: x119 :: x120 :: x121 :: x122 :: x123 :: x124 :: x125 :: x126 :: x127 :: x128 :: x129 :: x130 :: x131 :: x132 :: x133 :: x134 :: x135 :: x136 :: x137 :: x138 :: x139 :: x140 :: x141 :: x142 :: x143 :: x144 :: x145 :: x146 :: x147 :: x148 :: x149 :: x150 :: x151 :: x152 :: x153 :: x154 :: x155 :: x156 :: x157 :: x158 :: x159 :: x160 :: x161 :: x162 :: x163 :: x164 :: x165 :: x166 :: x167 :: x168 :: x169 :: x170 :: x171 :: x172 :: x173 :: x174 :: x175 :: x176 :: x177 :: x178 :: x179 :: x180 :: x181 :: x182 :: x183 :: x184 :: x185 :: x186 :: x187 :: x188 :: x189 :: x190 :: x191 :: x192 :: x193 :: x194 :: x195 :: x196 :: x197 :: x198 :: x199 :: x200 :: x201 :: x202 :: x203 :: x204 :: x205 :: x206 :: x207 :: x208 :: x209 :: x210 :: x211 :: x212 :: x213 :: x214 :: x215 :: x216 :: x217 :: x218 :: x219 :: x220 :: x221 :: x222 :: x223 :: x224 :: x225 :: x226 :: x227 :: x228 :: x229 :: x230 :: x231 :: x232 :: x233 :: x234 :: x235 :: x236 :: x237 :: x238 :: x239 :: x240 :: x241 :: x242 :: x243 :: x244 :: x245 :: x246 :: x247 :: x248 :: x249 :: x250 :: x251 :: x252 :: x253 :: x254 :: x255 :: x256 :: x257 :: x258 :: x259 :: x260 :: x261 :: x262 :: x263 :: x264 :: x265 :: x266 :: x267 :: x268 :: x269 :: x270 :: x271 :: x272 :: x273 :: x274 :: x275 :: x276 :: x277 :: x278 :: c279 :: c280 :: c281 :: c282 :: c283 :: c284 :: c285 :: c286 :: c287 :: c288 :: c289 :: c290 :: c291 :: c292 :: c293 :: c294 :: c295 :: c296 :: c297 :: c298 :: []), []⟩ wx) :
    Code.wp Tryd.prog (lc 2) Q ⟨List.toArray (c0 :: c1 :: (.pointer (some ⟨w.heap.size, 0, none⟩) : Value) :: (.slice (some ⟨g, 0, none⟩) n cap : Value) :: c4 :: c5 :: (.slice (some ⟨KB, 0, none⟩) 64 64 : Value) :: (.int .u64 4294967296 : Value) :: (.slice (some ⟨HB, 0, none⟩) 8 8 : Value) :: (.int .i64 0 : Value) :: u10 :: u11 :: u12 :: u13 :: u14 :: u15 :: u16 :: u17 :: u18 :: u19 :: u20 :: u21 :: u22 :: c23 :: c24 :: c25 :: c26 :: c27 :: c28 :: c29 :: c30 :: c31 :: c32 :: c33 :: c34 :: c35 :: c36 :: c37 :: c38 :: c39 :: c40 :: c41 :: c42 :: c43 :: c44 :: c45 :: c46 :: c47 :: c48 :: c49 :: c50 :: c51 :: c52 :: c53 :: u54 :: u55 :: u56 :: u57 :: u58 :: u59 :: u60 :: u61 :: u62 :: u63 :: u64 :: u65 :: u66 :: u67 :: u68 :: u69 :: u70 :: u71 :: u72 :: u73 :: u74 :: u75 :: u76 :: u77 :: u78 :: u79 :: u80 :: u81 :: u82 :: u83 :: u84 :: u85 :: u86 :: u87 :: u88 :: u89 :: u90 :: u91 :: u92 :: u93 :: u94 :: u95 :: u96 :: u97 :: u98 :: u99 :: u100 :: u101 :: u102 :: u103 :: u104 :: u105 :: u106 :: u107 :: u108 :: u109 :: u110 :: u111 :: u112 :: u113 :: u114 :: u115 :: u116 :: u117 :: u118 :: u119 :: u120 :: u121 :: u122 :: u123 :: u124 :: u125 :: u126 :: u127 :: u128 :: u129 :: u130 :: u131 :: u132 :: u133 :: u134 :: u135 :: u136 :: u137 :: u138 :: u139 :: u140 :: u141 :: u142 :: u143 :: u144 :: u145 :: u146 :: u147 :: u148 :: u149 :: u150 :: u151 :: u152 :: u153 :: u154 :: u155 :: u156 :: u157 :: u158 :: u159 :: u160 :: u161 :: u162 :: u163 :: u164 :: u165 :: u166 :: u167 :: u168 :: u169 :: u170 :: u171 :: u172 :: u173 :: u174 :: u175 :: u176 :: u177 :: u178 :: u179 :: u180 :: u181 :: u182 :: u183 :: u184 :: u185 :: u186 :: u187 :: u188 :: u189 :: u190 :: u191 :: u192 :: u193 :: u194 :: u195 :: u196 :: u197 :: u198 :: u199 :: u200 :: u201 :: u202 :: u203 :: u204 :: u205 :: u206 :: u207 :: u208 :: u209 :: u210 :: u211 :: u212 :: u213 :: u214 :: u215 :: u216 :: u217 :: u218 :: u219 :: u220 :: u221 :: u222 :: u223 :: u224 :: u225 :: u226 :: u227 :: u228 :: u229 :: u230 :: u231 :: u232 :: u233 :: u234 :: u235 :: u236 :: u237 :: u238 :: u239 :: u240 :: u241 :: u242 :: u243 :: u244 :: u245 :: u246 :: u247 :: u248 :: u249 :: u250 :: u251 :: u252 :: u253 :: u254 :: u255 :: u256 :: u257 :: u258 :: u259 :: u260 :: u261 :: u262 :: u263 :: u264 :: u265 :: u266 :: u267 :: u268 :: u269 :: u270 :: u271 :: u272 :: u273 :: u274 :: u275 :: u276 :: u277 :: u278 :: c279 :: c280 :: c281 :: c282 :: c283 :: c284 :: c285 :: c286 :: c287 :: c288 :: c289 :: c290 :: c291 :: c292 :: c293 :: c294 :: c295 :: c296 :: c297 :: c298 :: []), []⟩ wr := by
  conv => arg 2; whnf
  have HE := hide hE
  have Hx := hide hexit
  have Hn := hide hn
  clear hE hexit hn
  go_loopw [9] (fun c wr => ∃ q P : Nat, c = .int .i64 (P : Int) ∧ P = 64 * q ∧ q ≤ nb ∧ Env w wr KB HB g (64 * nb) cap PM (fold H0 PM q)) (fun c _ => 64 * nb - (intOf c).toNat)
  case atStart => exact ⟨0, 0, rfl, rfl, Nat.zero_le _, HE.out⟩
  case round =>
    clear HE
    obtain ⟨q, P, rfl, hP, hq, hE⟩ := hrel
    have HE := hide hE
    have HP := hide hP
    clear hE
    by_cases hlt : q < nb
    · have d1 : decide ((P : Int) < (n : Int)) = true := by have := Hn.out; simp; omega
      have d1' : decide (P < n) = true := by have := Hn.out; simp; omega
      have hso := fold_ok H0_ok PM q
      have hfo : fold H0 PM (q + 1) = compress (fold H0 PM q) (blk PM q) := rfl
      have HFo := hide hfo
      have hPb : P ≤ 2560000 := by omega
      clear hfo hP
      generalize fold H0 PM q = s at *
      obtain ⟨lK, lH, lg, lr⟩ := HE.out.lts
      go_wp2_with fail
      rw [make64]
      have hb1 := below_new wr (.cells (u64s (zeros 64)) 206)
      have HE1 : Hid (E2 w (wr.alloc (.cells (u64s (zeros 64)) 206)) KB HB g nb cap PM s wr.heap.size (wHead (blk PM q) 0)) := hide ⟨HE.out.up hb1, by
        have := heap_last wr (.cells (u64s (zeros 64)) 206)
        rw [this]
        unfold wHead
        simp, by omega, by omega, by omega, by omega⟩
      clear hb1 HE
      generalize wr.alloc (.cells (u64s (zeros 64)) 206) = w1 at *
      generalize wr.heap.size = WB at *
      go_wp2_with fail
      refine Sz4.loop4 _ _ _ _ _ _ _ _ _ _ _ _ _ _ _ _ _ _ _ _ _ _ _ _ _ _ _ _ _ _ _ _ _ _ _ _ _ _ _ _ _ _ _ _ _ _ _ _ _ _ _ _ _ _ _ _ _ _ _ _ _ _ _ _ _ _ _ _ _ _ _ _ _ _ _ _ _ _ _ _ _ _ _ _ _ _ _ _ _ _ _ _ _ _ _ _ _ _ _ _ _ _ _ _ _ _ _ _ _ _ _ _ _ _ _ _ _ _ _ _ _ _ _ _ _ _ _ _ _ _ _ _ _ _ _ _ _ _ _ _ _ _ _ _ _ _ _ _ _ _ _ _ _ _ _ _ _ _ _ _ _ _ _ _ _ _ _ _ _ _ _ _ _ _ _ _ _ _ _ _ _ _ _ _ _ _ _ _ _ _ _ _ _ _ _ _ _ _ _ _ _ _ _ _ _ _ _ _ _ _ _ _ _ _ _ _ _ _ _ _ _ _ _ _ _ _ _ _ _ _ _ _ _ _ _ _ _ _ _ _ _ _ _ _ _ _ _ _ _ _ _ _ _ _ _ _ _ _ _ _ _ _ _ _ _ _ _ _ _ _ _ _ _ _ _ _ _ _ _ _ _ _ _ _ _ _ _ _ _ _ _ w w1 KB HB g nb cap q WB P n PM s _ HP.out Hn.out HE1.out h8 hlt hnb ?_
      intro x11 x12 x61 x62 x63 x64 x65 x66 x67 x68 x69 x70 x71 x72 x73 x74 x75 x76 x77 x78 x79 x80 x81 x82 x83 x84 x85 x86 x87 w2 hE2
      rw [eRow_zero] at hE2
      have HE2 := hide hE2
      clear hE2 HE1
      go_wp2_with fail
      refine Sz6.loop6 _ _ _ _ _ _ _ _ _ _ _ _ _ _ _ _ _ _ _ _ _ _ _ _ _ _ _ _ _ _ _ _ _ _ _ _ _ _ _ _ _ _ _ _ _ _ _ _ _ _ _ _ _ _ _ _ _ _ _ _ _ _ _ _ _ _ _ _ _ _ _ _ _ _ _ _ _ _ _ _ _ _ _ _ _ _ _ _ _ _ _ _ _ _ _ _ _ _ _ _ _ _ _ _ _ _ _ _ _ _ _ _ _ _ _ _ _ _ _ _ _ _ _ _ _ _ _ _ _ _ _ _ _ _ _ _ _ _ _ _ _ _ _ _ _ _ _ _ _ _ _ _ _ _ _ _ _ _ _ _ _ _ _ _ _ _ _ _ _ _ _ _ _ _ _ _ _ _ _ _ _ _ _ _ _ _ _ _ _ _ _ _ _ _ _ _ _ _ _ _ _ _ _ _ _ _ _ _ _ _ _ _ _ _ _ _ _ _ _ _ _ _ _ _ _ _ _ _ _ _ _ _ _ _ _ _ _ _ _ _ _ _ _ _ _ _ _ _ _ _ _ _ _ _ _ _ _ _ _ _ _ _ _ _ _ _ _ _ _ _ _ _ _ _ _ _ _ _ _ _ _ _ _ _ _ _ _ _ _ _ _ w w2 KB HB g nb cap q WB P n PM s _ HP.out Hn.out HE2.out h8 ?_
      intro x13 x14 x15 x88 x89 x90 x91 x92 x93 x94 x95 x96 x97 x98 x99 x100 x101 x102 x103 x104 x105 x106 x107 x108 x109 x110 x111 x112 x113 x114 x115 x116 x117 x118 x119 x120 x121 x122 x123 x124 x125 x126 x127 x128 x129 x130 x131 x132 x133 x134 x135 w3 hE3
      have HE3 := hide hE3
      clear hE3 HE2
      obtain ⟨lK3, lH3, lg3, lr3⟩ := HE3.out.env.lts
      have lW3 := heap_lt HE3.out.row
      have hb4 := below_new w3 (.cells #[] 206)
      have HE4 := hide (HE3.out.up hb4)
      have hz4 : w3.heap.size < (w3.alloc (.cells #[] 206)).heap.size := by simp
      obtain ⟨VB, vc, w5, hrun, hV5, hvc, hvm, hvh, hg5⟩ := append_h (w3.alloc (.cells #[] 206)) 237 w3.heap.size HB s (heap_last _ _) (HE4.out.env.hs) lH3 hz4
      have HE5 := hide (HE4.out.grown hg5 (by omega) (by omega) (by omega) (by omega) (by omega))
      have HV5 := hide hV5
      have HRun := hide hrun
      clear hb4 hz4 hrun hV5 hg5 HE3 HE4
      go_wp2_with (refine wpList_append_run3 rfl (.tmp 136) (.tmp 137) 237 rfl _ _ _ rfl rfl HRun.out ?_)
      refine of_hid ?_
      go_wp2_with fail
      refine Sz7.loop7 _ _ _ _ _ _ _ _ _ _ _ _ _ _ _ _ _ _ _ _ _ _ _ _ _ _ _ _ _ _ _ _ _ _ _ _ _ _ _ _ _ _ _ _ _ _ _ _ _ _ _ _ _ _ _ _ _ _ _ _ _ _ _ _ _ _ _ _ _ _ _ _ _ _ _ _ _ _ _ _ _ _ _ _ _ _ _ _ _ _ _ _ _ _ _ _ _ _ _ _ _ _ _ _ _ _ _ _ _ _ _ _ _ _ _ _ _ _ _ _ _ _ _ _ _ _ _ _ _ _ _ _ _ _ _ _ _ _ _ _ _ _ _ _ _ _ _ _ _ _ _ _ _ _ _ _ _ _ _ _ _ _ _ _ _ _ _ _ _ _ _ _ _ _ _ _ _ _ _ _ _ _ _ _ _ _ _ _ _ _ _ _ _ _ _ _ _ _ _ _ _ _ _ _ _ _ _ _ _ _ _ _ _ _ _ _ _ _ _ _ _ _ _ _ _ _ _ _ _ _ _ _ _ _ _ _ _ _ _ _ _ _ _ _ _ _ _ _ _ _ _ _ _ _ _ _ _ _ _ _ _ _ _ _ _ _ _ _ _ _ _ _ _ _ _ _ _ _ _ _ _ _ _ _ _ _ _ _ _ _ w w5 KB HB g nb cap q WB P n PM s _ HP.out Hn.out VB vc hvc hvm HE5.out HV5.out hso h8 ?_ hvh
      intro x17 x18 x19 x20 x21 x139 x140 x141 x142 x143 x144 x145 x146 x147 x148 x149 x150 x151 x152 x153 x154 x155 x156 x157 x158 x159 x160 x161 x162 x163 x164 x165 x166 x167 x168 x169 x170 x171 x172 x173 x174 x175 x176 x177 x178 x179 x180 x181 x182 x183 x184 x185 x186 x187 x188 x189 x190 x191 x192 x193 x194 x195 x196 x197 x198 x199 x200 x201 x202 x203 x204 x205 x206 x207 x208 x209 x210 x211 x212 x213 x214 x215 x216 x217 x218 x219 x220 x221 x222 x223 x224 x225 x226 x227 x228 x229 x230 x231 x232 x233 x234 x235 x236 x237 x238 x239 x240 x241 x242 x243 x244 x245 x246 x247 x248 x249 x250 x251 x252 x253 x254 x255 x256 x257 x258 x259 x260 vb vx w6 hvx hvxm hE6 hV6 hvbh
      have HE6 : Hid (E3 w w6 KB HB g nb cap PM s.list) := hide ⟨hE6.env.ks, hE6.env.hs, hE6.env.msg, hE6.env.res, hE6.env.below, nk, ng, nr⟩
      have HV6 := hide hV6
      have hvo := rounds_ok hso (sched (blk PM q)) 64
      have hco : compress s (blk PM q) = s.add (rounds (sched (blk PM q)) s 64) := rfl
      have HCo := hide hco
      clear hE6 hV6 HE5 HV5 HRun hco
      go_wp2_with fail
      refine Sz8.loop8 _ _ _ _ _ _ _ _ _ _ _ _ _ _ _ _ _ _ _ _ _ _ _ _ _ _ _ _ _ _ _ _ _ _ _ _ _ _ _ _ _ _ _ _ _ _ _ _ _ _ _ _ _ _ _ _ _ _ _ _ _ _ _ _ _ _ _ _ _ _ _ _ _ _ _ _ _ _ _ _ _ _ _ _ _ _ _ _ _ _ _ _ _ _ _ _ _ _ _ _ _ _ _ _ _ _ _ _ _ _ _ _ _ _ _ _ _ _ _ _ _ _ _ _ _ _ _ _ _ _ _ _ _ _ _ _ _ _ _ _ _ _ _ _ _ _ _ _ _ _ _ _ _ _ _ _ _ _ _ _ _ _ _ _ _ _ _ _ _ _ _ _ _ _ _ _ _ _ _ _ _ _ _ _ _ _ _ _ _ _ _ _ _ _ _ _ _ _ _ _ _ _ _ _ _ _ _ _ _ _ _ _ _ _ _ _ _ _ _ _ _ _ _ _ _ _ _ _ _ _ _ _ _ _ _ _ _ _ _ _ _ _ _ _ _ _ _ _ _ _ _ _ _ _ _ _ _ _ _ _ _ _ _ _ _ _ _ _ _ _ _ _ _ _ _ _ _ _ _ _ _ _ _ _ _ _ _ _ _ _ _ w w6 KB HB g nb cap P n PM s _ vb vx (rounds (sched (blk PM q)) s 64) hvx hvxm HE6.out HV6.out hvbh hso hvo ?_
      intro x22 x261 x262 x263 x264 x265 x266 x267 x268 x269 x270 x271 x272 x273 x274 x275 x276 x277 x278 w7 hE7
      rw [← HCo.out, ← HFo.out] at hE7
      have HE7 := hide hE7.env
      clear hE7 HE6 HV6
      go_wp2
      go_roundw
      case rel => exact ⟨q + 1, P + 64, by go_num, by have := HP.out; omega, by omega, HE7.out⟩
      case measure => have := HP.out; simp [intOf]; omega
    · have d1 : decide ((P : Int) < (n : Int)) = false := by have := Hn.out; simp; omega
      have d1' : decide (P < n) = false := by have := Hn.out; simp; omega
      have hqn : q = nb := by omega
      clear hP
      subst hqn
      have hx := Hx.out
      go_wp2
      exact HE.out
end Go.Proofs.YtkinpbhbgeiflaaDoor.Sz3
/- The reference's sum: its bytes. -/
namespace Go.Proofs.YtkinpbhbgeiflaaDoor.Sz9
set_option linter.unusedVariables false
set_option linter.unusedSimpArgs false
set_option maxRecDepth 1000000
open Go.ChangeShapes Go.WideShapes Go.ChangeAt Go.RowKit
open Go.Proofs.YtkinpbhbgeiflaaDoor.Wu Go.Proofs.YtkinpbhbgeiflaaDoor.Sm Go.Proofs.YtkinpbhbgeiflaaDoor.Sk Go.Proofs.YtkinpbhbgeiflaaDoor.Sc Go.Proofs.YtkinpbhbgeiflaaDoor.Sxa Go.Proofs.YtkinpbhbgeiflaaDoor.Sh Go.Proofs.YtkinpbhbgeiflaaDoor.Sn Go.Proofs.YtkinpbhbgeiflaaDoor.Sw0 Go.Proofs.YtkinpbhbgeiflaaDoor.Sf Go.Proofs.YtkinpbhbgeiflaaDoor.So Go.Proofs.YtkinpbhbgeiflaaDoor.Sv Go.Proofs.YtkinpbhbgeiflaaDoor.Ap Go.Proofs.YtkinpbhbgeiflaaDoor.Sr Go.Proofs.YtkinpbhbgeiflaaDoor.Srf0 Go.Proofs.YtkinpbhbgeiflaaDoor.Srf1 Go.Proofs.YtkinpbhbgeiflaaDoor.Rk Go.Proofs.YtkinpbhbgeiflaaDoor.Sza Go.Proofs.YtkinpbhbgeiflaaDoor.Szb
attribute [local go_sem] kUpon_value kUpon_skip kUpon_enter
set_option maxHeartbeats 6400000 in
theorem loop9 (c0 c1 c2 c3 c4 c5 c6 c7 c9 c10 c11 c12 c13 c14 c15 c16 c17 c18 c19 c20 c21 c22 c25 c26 c27 c28 c29 c30 c31 c32 c33 c34 c35 c36 c37 c38 c39 c40 c41 c42 c43 c44 c45 c46 c47 c48 c49 c50 c51 c52 c53 c54 c55 c56 c57 c58 c59 c60 c61 c62 c63 c64 c65 c66 c67 c68 c69 c70 c71 c72 c73 c74 c75 c76 c77 c78 c79 c80 c81 c82 c83 c84 c85 c86 c87 c88 c89 c90 c91 c92 c93 c94 c95 c96 c97 c98 c99 c100 c101 c102 c103 c104 c105 c106 c107 c108 c109 c110 c111 c112 c113 c114 c115 c116 c117 c118 c119 c120 c121 c122 c123 c124 c125 c126 c127 c128 c129 c130 c131 c132 c133 c134 c135 c136 c137 c138 c139 c140 c141 c142 c143 c144 c145 c146 c147 c148 c149 c150 c151 c152 c153 c154 c155 c156 c157 c158 c159 c160 c161 c162 c163 c164 c165 c166 c167 c168 c169 c170 c171 c172 c173 c174 c175 c176 c177 c178 c179 c180 c181 c182 c183 c184 c185 c186 c187 c188 c189 c190 c191 c192 c193 c194 c195 c196 c197 c198 c199 c200 c201 c202 c203 c204 c205 c206 c207 c208 c209 c210 c211 c212 c213 c214 c215 c216 c217 c218 c219 c220 c221 c222 c223 c224 c225 c226 c227 c228 c229 c230 c231 c232 c233 c234 c235 c236 c237 c238 c239 c240 c241 c242 c243 c244 c245 c246 c247 c248 c249 c250 c251 c252 c253 c254 c255 c256 c257 c258 c259 c260 c261 c262 c263 c264 c265 c266 c267 c268 c269 c270 c271 c272 c273 c274 c275 c276 c277 c278 c279 c298 u280 u281 u282 u283 u284 u285 u286 u287 u288 u289 u290 u291 u292 u293 u294 u295 u296 u297 : Value) (wr : World) (HB OB : Nat) (s : S8) (Q : Exit → Act → World → Prop) (hs : wr.heap[HB]? = some (.cells (u64s s.list) 206 (0, 0))) (ho : wr.heap[OB]? = some (.cells (u8s (oRow s 0)) 84 (0, 0))) (hne : HB ≠ OB) (hok : s.ok)
    (hexit : ∀ (x24 x280 x281 x282 x283 x284 x285 x286 x287 x288 x289 x290 x291 x292 x293 x294 x295 x296 x297 : Value) (wx : World), wx.heap[OB]? = some (.cells (u8s (bytes8 s)) 84 (0, 0)) ∧ wr.grownBy wx (some OB) → Q (.exit 16) ⟨List.toArray (c0 :: c1 :: c2 :: c3 :: c4 :: c5 :: c6 :: c7 :: (.slice (some ⟨HB, 0, none⟩) 8 8 : Value) :: c9 :: c10 :: c11 :: c12 :: c13 :: c14 :: c15 :: c16 :: c17 :: c18 :: c19 :: c20 :: c21 :: c22 :: (.pointer (some ⟨OB, 0, none⟩) : Value) :: x24 :: c25 :: c26 :: c27 :: c28 :: c29 :: c30 :: c31 :: c32 :: c33 :: c34 :: c35 :: c36 :: c37 :: c38 :: c39 :: c40 :: c41 :: c42 :: c43 :: c44 :: c45 :: c46 :: c47 :: c48 :: c49 :: c50 :: c51 :: c52 :: c53 :: c54 :: c55 :: c56 :: c57 :: c58 :: c59 :: c60 :: c61 :: c62 :: c63 :: c64 :: c65 :: c66 :: c67 :: c68 :: c69 :: c70 :: c71 :: c72 :: c73 :: c74 :: c75 :: c76 :: c77 :: c78 :: c79 :: c80 :: c81 :: c82 :: c83 :: c84 :: c85 :: c86 :: c87 :: c88 :: c89 :: c90 :: c91 :: c92 :: c93 :: c94 :: c95 :: c96 :: c97 :: c98 :: c99 :: c100 :: c101 :: c102 :: c103 :: c104 :: c105 :: c106 :: c107 :: c108 :: c109 :: c110 :: c111 :: c112 :: c113 :: c114 :: c115 :: c116 :: c117 :: c118 :: c119 :: c120 :: c121 :: c122 :: c123 :: c124 :: c125 :: c126 :: c127 :: c128 :: c129 :: c130 :: c131 :: c132 :: c133 :: c134 :: c135 :: c136 :: c137 :: c138 :: c139 :: c140 :: c141 :: c142 :: c143 :: c144 :: c145 :: c146 :: c147 :: c148 :: c149 :: c150 :: c151 :: c152 :: c153 :: c154 :: c155 :: c156 :: c157 :: c158 :: c159 :: c160 :: c161 :: c162 :: c163 :: c164 :: c165 :: c166 :: c167 :: c168 :: c169 :: c170 :: c171 :: c172 :: c173 :: c174 :: c175 :: c176 :: c177 :: c178 :: c179 :: c180 :: c181 :: c182 :: c183 :: c184 :: c185 :: c186 :: c187 :: c188 :: c189 :: c190 :: c191 :: c192 :: c193 :: c194 :: c195 :: c196 :: c197 :: c198 :: c199 :: c200 :: c201 :: c202 :: c203 :: c204 :: c205 :: c206 :: c207 :: c208 :: c209 :: c210 :: c211 :: c212 :: c213 :: c214 :: c215 :: c216 :: c217 :: c218 :: c219 :: c220 :: c221 :: c222 :: c223 :: c224 :: c225 :: c226 :: c227 :: c228 :: c229 :: c230 :: c231 :: c232 :: c233 :: c234 :: c235 :: c236 :: c237 :: c238 :: c239 :: c240 :: c241 :: c242 :: c243 :: c244 :: c245 :: c246 :: c247 :: c248 :: c249 :: c250 :: c251 :: c252 :: c253 :: c254 :: c255 :: c256 :: c257 :: c258 :: c259 :: c260 :: c261 :: c262 :: c263 :: c264 :: c265 :: c266 :: c267 :: c268 :: c269 :: c270 :: c271 :: c272 :: c273 :: c274 :: c275 :: c276 :: c277 :: c278 :: c279 :: x280 :: x281 :: x282 :: x283 :: x284 :: x285 :: x286 :: x287 :: x288 :: x289 :: x290 :: x291 :: x292 :: x293 :: x294 :: x295 :: x296 :: x297 :: c298 :: []), []⟩ wx) :
    Code.wp Tryd.prog (lc 8) Q ⟨List.toArray (c0 :: c1 :: c2 :: c3 :: c4 :: c5 :: c6 :: c7 :: (.slice (some ⟨HB, 0, none⟩) 8 8 : Value) :: c9 :: c10 :: c11 :: c12 :: c13 :: c14 :: c15 :: c16 :: c17 :: c18 :: c19 :: c20 :: c21 :: c22 :: (.pointer (some ⟨OB, 0, none⟩) : Value) :: (.int .i64 0 : Value) :: c25 :: c26 :: c27 :: c28 :: c29 :: c30 :: c31 :: c32 :: c33 :: c34 :: c35 :: c36 :: c37 :: c38 :: c39 :: c40 :: c41 :: c42 :: c43 :: c44 :: c45 :: c46 :: c47 :: c48 :: c49 :: c50 :: c51 :: c52 :: c53 :: c54 :: c55 :: c56 :: c57 :: c58 :: c59 :: c60 :: c61 :: c62 :: c63 :: c64 :: c65 :: c66 :: c67 :: c68 :: c69 :: c70 :: c71 :: c72 :: c73 :: c74 :: c75 :: c76 :: c77 :: c78 :: c79 :: c80 :: c81 :: c82 :: c83 :: c84 :: c85 :: c86 :: c87 :: c88 :: c89 :: c90 :: c91 :: c92 :: c93 :: c94 :: c95 :: c96 :: c97 :: c98 :: c99 :: c100 :: c101 :: c102 :: c103 :: c104 :: c105 :: c106 :: c107 :: c108 :: c109 :: c110 :: c111 :: c112 :: c113 :: c114 :: c115 :: c116 :: c117 :: c118 :: c119 :: c120 :: c121 :: c122 :: c123 :: c124 :: c125 :: c126 :: c127 :: c128 :: c129 :: c130 :: c131 :: c132 :: c133 :: c134 :: c135 :: c136 :: c137 :: c138 :: c139 :: c140 :: c141 :: c142 :: c143 :: c144 :: c145 :: c146 :: c147 :: c148 :: c149 :: c150 :: c151 :: c152 :: c153 :: c154 :: c155 :: c156 :: c157 :: c158 :: c159 :: c160 :: c161 :: c162 :: c163 :: c164 :: c165 :: c166 :: c167 :: c168 :: c169 :: c170 :: c171 :: c172 :: c173 :: c174 :: c175 :: c176 :: c177 :: c178 :: c179 :: c180 :: c181 :: c182 :: c183 :: c184 :: c185 :: c186 :: c187 :: c188 :: c189 :: c190 :: c191 :: c192 :: c193 :: c194 :: c195 :: c196 :: c197 :: c198 :: c199 :: c200 :: c201 :: c202 :: c203 :: c204 :: c205 :: c206 :: c207 :: c208 :: c209 :: c210 :: c211 :: c212 :: c213 :: c214 :: c215 :: c216 :: c217 :: c218 :: c219 :: c220 :: c221 :: c222 :: c223 :: c224 :: c225 :: c226 :: c227 :: c228 :: c229 :: c230 :: c231 :: c232 :: c233 :: c234 :: c235 :: c236 :: c237 :: c238 :: c239 :: c240 :: c241 :: c242 :: c243 :: c244 :: c245 :: c246 :: c247 :: c248 :: c249 :: c250 :: c251 :: c252 :: c253 :: c254 :: c255 :: c256 :: c257 :: c258 :: c259 :: c260 :: c261 :: c262 :: c263 :: c264 :: c265 :: c266 :: c267 :: c268 :: c269 :: c270 :: c271 :: c272 :: c273 :: c274 :: c275 :: c276 :: c277 :: c278 :: c279 :: u280 :: u281 :: u282 :: u283 :: u284 :: u285 :: u286 :: u287 :: u288 :: u289 :: u290 :: u291 :: u292 :: u293 :: u294 :: u295 :: u296 :: u297 :: c298 :: []), []⟩ wr := by
  conv => arg 2; whnf
  have HS := hide hs
  have HO := hide ho
  have Hx := hide hexit
  clear hs ho hexit
  go_loopw [24] (fun c wx => ∃ i : Nat, c = .int .i64 (i : Int) ∧ i ≤ 32 ∧ wx.heap[OB]? = some (.cells (u8s (oRow s i)) 84 (0, 0)) ∧ wr.grownBy wx (some OB)) (fun c _ => 32 - (intOf c).toNat)
  case atStart => exact ⟨0, rfl, Nat.zero_le _, HO.out, World.grownBy.refl _ _⟩
  case round =>
    clear HO
    obtain ⟨i, rfl, hi, hO, hG⟩ := hrel
    by_cases hlt : i < 32
    · have d1 : decide ((i : Int) < 32) = true := by simp; omega
      have d1' : decide (i < 32) = true := by simp; omega
      have li : (i : Int) < 32 := by omega
      have x0 := row64 (keepG hG hne HS.out) (i := i / 4) (by show i / 4 < 8; omega)
      have y0 := row8 hO (i := i) (by rw [oRow_length _ _ hi]; exact hlt)
      have z0 := blk_free (i := i) hO
      have hst := blk_set (i := i) hO (.int .u8 ((((s.list.getD (i / 4) 0 >>> (24 - 8 * (i % 4))) % 256 : Nat)) : Int))
      rw [u8s_set, oRow_step s i hlt] at hst
      have hg2 := grown_setCell hG i (.int .u8 ((((s.list.getD (i / 4) 0 >>> (24 - 8 * (i % 4))) % 256 : Nat)) : Int))
      have bA := list_lt hok (i / 4)
      generalize s.list.getD (i / 4) 0 = A at *
      generalize (oRow s i).getD i 0 = O at *
      have HSt := hide hst
      have HG2 := hide hg2
      clear hst hg2 hO hG
      have e1 : (i : Int).tdiv 4 = ((i / 4 : Nat) : Int) := by rw [Int.tdiv_eq_ediv_of_nonneg (by omega)]; omega
      have e2 : (i : Int).tmod 4 = ((i % 4 : Nat) : Int) := by rw [Int.tmod_eq_emod_of_nonneg (by omega)]; omega
      have e3 : ((i / 4 : Nat) : Int) < 8 := by omega
      obtain ⟨q4, hq4⟩ : ∃ q4, q4 = i / 4 := ⟨_, rfl⟩
      obtain ⟨r4, hr4⟩ : ∃ r4, r4 = i % 4 := ⟨_, rfl⟩
      have hr4b : r4 < 4 := by omega
      go_wp2
      go_roundw
      case rel =>
        rw [shr_mod]
        exact ⟨i + 1, by go_num, by omega, HSt.out, HG2.out⟩
      case measure => simp [intOf]; omega
    · have hk4 : i = 32 := by omega
      subst hk4
      rw [oRow_end] at hO
      have HOe := hide hO
      have HGe := hide hG
      clear hO hG
      have hx := Hx.out
      go_wp2
      exact ⟨HOe.out, HGe.out⟩
end Go.Proofs.YtkinpbhbgeiflaaDoor.Sz9
/- The reference's sum of a text. -/
namespace Go.Proofs.YtkinpbhbgeiflaaDoor.Srf
set_option linter.unusedVariables false
set_option linter.unusedSimpArgs false
set_option maxRecDepth 100000
open Go.ChangeShapes Go.WideShapes Go.ChangeAt Go.RowKit
open Go.Proofs.YtkinpbhbgeiflaaDoor.Wu Go.Proofs.YtkinpbhbgeiflaaDoor.Sm Go.Proofs.YtkinpbhbgeiflaaDoor.Sk Go.Proofs.YtkinpbhbgeiflaaDoor.Sc Go.Proofs.YtkinpbhbgeiflaaDoor.Sxa Go.Proofs.YtkinpbhbgeiflaaDoor.Sh Go.Proofs.YtkinpbhbgeiflaaDoor.Sn Go.Proofs.YtkinpbhbgeiflaaDoor.Sw0 Go.Proofs.YtkinpbhbgeiflaaDoor.Sf Go.Proofs.YtkinpbhbgeiflaaDoor.So Go.Proofs.YtkinpbhbgeiflaaDoor.St Go.Proofs.YtkinpbhbgeiflaaDoor.Sv Go.Proofs.YtkinpbhbgeiflaaDoor.Ap Go.Proofs.YtkinpbhbgeiflaaDoor.Sr Go.Proofs.YtkinpbhbgeiflaaDoor.Srf0 Go.Proofs.YtkinpbhbgeiflaaDoor.Srf1 Go.Proofs.YtkinpbhbgeiflaaDoor.Rk Go.Proofs.YtkinpbhbgeiflaaDoor.Sza Go.Proofs.YtkinpbhbgeiflaaDoor.Szb
attribute [local go_sem] kUpon_value kUpon_skip kUpon_enter

theorem gap_no (n k : Nat) (h : k < gap n) : (n + 1 + k) % 64 ≠ 56 := by unfold gap at h; omega
theorem gap_yes (n : Nat) : (n + 1 + gap n) % 64 = 56 := by unfold gap; omega
theorem src_one {w : World} {B : Nat} {x : Nat} {T : TypeId} {f : Nat × Nat} (h : w.heap[B]? = some (.cells #[.int .u8 (x : Int)] T f)) (hx : x < 256) : SrcB w (some ⟨B, 0, none⟩) 1 [x] :=
  ⟨rfl, by intro z hz; simp only [List.mem_singleton] at hz; omega, B, 0, fun _ => rfl, fun i hi => by
    obtain rfl : i = 0 := by omega
    exact blk_cell h rfl⟩
theorem len8_take (c j : Nat) (h : j < 8) : (len8 c).take (j + 1) = (len8 c).take j ++ [c / 2 ^ (8 * (7 - j)) % 256] := by
  match j, h with
  | 0, _ => simp [len8]
  | 1, _ => simp [len8]
  | 2, _ => simp [len8]
  | 3, _ => simp [len8]
  | 4, _ => simp [len8]
  | 5, _ => simp [len8]
  | 6, _ => simp [len8]
  | 7, _ => simp [len8]
/-- The message behind j of the length's bytes. -/
def padR (M : List Nat) (j : Nat) : List Nat := M ++ 128 :: (zeros (gap M.length) ++ (len8 (8 * M.length)).take j)
theorem padR_zero (M : List Nat) : padR M 0 = M ++ 128 :: zeros (gap M.length) := by simp [padR]
theorem padR_step (M : List Nat) (j : Nat) (h : j < 8) : padR M (j + 1) = padR M j ++ [8 * M.length / 2 ^ (8 * (7 - j)) % 256] := by
  unfold padR; rw [len8_take _ _ h]; simp
theorem padR_end (M : List Nat) (h : M.length ≤ 1000000) : padR M 8 = padded M := by
  unfold padR padded tail
  rw [Nat.mod_eq_of_lt (by omega)]
  rfl
theorem padR_all {M : List Nat} (h : All8 M) (j : Nat) : All8 (padR M j) := by
  refine all8_append h ?_
  intro z hz
  simp only [List.mem_cons, List.mem_append] at hz
  rcases hz with rfl | hz | hz
  · omega
  · exact all8_zeros _ z hz
  · exact all8_len8 _ z (List.mem_of_mem_take hz)
set_option maxHeartbeats 3200000 in
theorem loop3c {code : Code} (hcode : lc 2 = code) (c0 c1 c4 c5 c23 c24 c25 c26 c27 c28 c29 c30 c31 c32 c33 c34 c35 c36 c37 c38 c39 c40 c41 c42 c43 c44 c45 c46 c47 c48 c49 c50 c51 c52 c53 c279 c280 c281 c282 c283 c284 c285 c286 c287 c288 c289 c290 c291 c292 c293 c294 c295 c296 c297 c298 u10 u11 u12 u13 u14 u15 u16 u17 u18 u19 u20 u21 u22 u54 u55 u56 u57 u58 u59 u60 u61 u62 u63 u64 u65 u66 u67 u68 u69 u70 u71 u72 u73 u74 u75 u76 u77 u78 u79 u80 u81 u82 u83 u84 u85 u86 u87 u88 u89 u90 u91 u92 u93 u94 u95 u96 u97 u98 u99 u100 u101 u102 u103 u104 u105 u106 u107 u108 u109 u110 u111 u112 u113 u114 u115 u116 u117 u118 u119 u120 u121 u122 u123 u124 u125 u126 u127 u128 u129 u130 u131 u132 u133 u134 u135 u136 u137 u138 u139 u140 u141 u142 u143 u144 u145 u146 u147 u148 u149 u150 u151 u152 u153 u154 u155 u156 u157 u158 u159 u160 u161 u162 u163 u164 u165 u166 u167 u168 u169 u170 u171 u172 u173 u174 u175 u176 u177 u178 u179 u180 u181 u182 u183 u184 u185 u186 u187 u188 u189 u190 u191 u192 u193 u194 u195 u196 u197 u198 u199 u200 u201 u202 u203 u204 u205 u206 u207 u208 u209 u210 u211 u212 u213 u214 u215 u216 u217 u218 u219 u220 u221 u222 u223 u224 u225 u226 u227 u228 u229 u230 u231 u232 u233 u234 u235 u236 u237 u238 u239 u240 u241 u242 u243 u244 u245 u246 u247 u248 u249 u250 u251 u252 u253 u254 u255 u256 u257 u258 u259 u260 u261 u262 u263 u264 u265 u266 u267 u268 u269 u270 u271 u272 u273 u274 u275 u276 u277 u278 : Value) (w wr : World) (KB HB g nb cap n : Nat) (PM : List Nat) (Q : Exit → Act → World → Prop) (hn : n = 64 * nb) (hE : Env w wr KB HB g (64 * nb) cap PM H0) (h8 : All8 PM) (hnb : nb ≤ 40000) (nk : KB ≠ HB) (ng : g ≠ HB) (nr : w.heap.size < HB) (hgs : w.heap.size < g)
    (hexit : ∀ (x9 x10 x11 x12 x13 x14 x15 x16 x17 x18 x19 x20 x21 x22 x54 x55 x56 x57 x58 x59 x60 x61 x62 x63 x64 x65 x66 x67 x68 x69 x70 x71 x72 x73 x74 x75 x76 x77 x78 x79 x80 x81 x82 x83 x84 x85 x86 x87 x88 x89 x90 x91 x92 x93 x94 x95 x96 x97 x98 x99 x100 x101 x102 x103 x104 x105 x106 x107 x108 x109 x110 x111 x112 x113 x114 x115 x116 x117 x118 x119 x120 x121 x122 x123 x124 x125 x126 x127 x128 x129 x130 x131 x132 x133 x134 x135 x136 x137 x138 x139 x140 x141 x142 x143 x144 x145 x146 x147 x148 x149 x150 x151 x152 x153 x154 x155 x156 x157 x158 x159 x160 x161 x162 x163 x164 x165 x166 x167 x168 x169 x170 x171 x172 x173 x174 x175 x176 x177 x178 x179 x180 x181 x182 x183 x184 x185 x186 x187 x188 x189 x190 x191 x192 x193 x194 x195 x196 x197 x198 x199 x200 x201 x202 x203 x204 x205 x206 x207 x208 x209 x210 x211 x212 x213 x214 x215 x216 x217 x218 x219 x220 x221 x222 x223 x224 x225 x226 x227 x228 x229 x230 x231 x232 x233 x234 x235 x236 x237 x238 x239 x240 x241 x242 x243 x244 x245 x246 x247 x248 x249 x250 x251 x252 x253 x254 x255 x256 x257 x258 x259 x260 x261 x262 x263 x264 x265 x266 x267 x268 x269 x270 x271 x272 x273 x274 x275 x276 x277 x278 : Value) (wx : World), Env w wx KB HB g (64 * nb) cap PM (fold H0 PM nb) → Q (.exit 4) ⟨List.toArray (c0 :: c1 :: (.pointer (some ⟨w.heap.size, 0, none⟩) : Value) :: (.slice (some ⟨g, 0, none⟩) n cap : Value) :: c4 :: c5 :: (.slice (some ⟨KB, 0, none⟩) 64 64 : Value) :: (.int .u64 4294967296 : Value) :: (.slice (some ⟨HB, 0, none⟩) 8 8 : Value) :: x9 :: x10 :: x11 :: x12 :: x13 :: x14 :: x15 :: x16 :: x17 :: x18 :: x19 :: x20 :: x21 :: x22 :: c23 :: c24 :: c25 :: c26 :: c27 :: c28 :: c29 :: c30 :: c31 :: c32 :: c33 :: c34 :: c35 :: c36 :: c37 :: c38 :: c39 :: c40 :: c41 :: c42 :: c43 :: c44 :: c45 :: c46 :: c47 :: c48 :: c49 :: c50 :: c51 :: c52 :: c53 :: x54 :: x55 :: x56 :: x57 :: x58 :: x59 :: x60 :: x61 :: x62 :: x63 :: x64 :: x65 :: x66 :: x67 :: x68 :: x69 :: x70 :: x71 :: x72 :: x73 :: x74 :: x75 :: x76 :: x77 :: x78 :: x79 :: x80 :: x81 :: x82 :: x83 :: x84 :: x85 :: x86 :: x87 :: x88 :: x89 :: x90 :: x91 :: x92 :: x93 :: x94 :: x95 :: x96 :: x97 :: x98 :: x99 :: x100 :: x101 :: x102 :: x103 :: x104 :: x105 :: x106 :: x107 :: x108 :: x109 :: x110 :: x111 :: x112 :: x113 :: x114 :: x115 :: x116 :: x117 :: x118 :: x119 :: x120 :: x121 :: x122 :: x123 :: x124 :: x125 :: x126 :: x127 :: x128 :: x129 :: x130 :: x131 :: x132 :: x133 :: x134 :: x135 :: x136 :: x137 :: x138 :: x139 :: x140 :: x141 :: x142 :: x143 :: x144 :: x145 :: x146 :: x147 :: x148 :: x149 :: x150 :: x151 :: x152 :: x153 :: x154 :: x155 :: x156 :: x157 :: x158 :: x159 :: x160 :: x161 :: x162 :: x163 :: x164 :: x165 :: x166 :: x167 :: x168 :: x169 :: x170 :: x171 :: x172 :: x173 :: x174 :: x175 :: x176 :: x177 :: x178 :: x179 :: x180 :: x181 :: x182 :: x183 :: x184 :: x185 :: x186 :: x187 :: x188 :: x189 :: x190 :: x191 :: x192 :: x193 :: x194 :: x195 :: x196 :: x197 :: x198 :: x199 :: x200 :: x201 :: x202 :: x203 :: x204 :: x205 :: x206 :: x207 :: x208 :: x209 :: x210 :: x211 :: x212 :: x213 :: x214 :: x215 :: x216 :: x217 :: x218 :: x219 :: x220 :: x221 :: x222 :: x223 :: x224 :: x225 :: x226 :: x227 :: x228 :: x229 :: x230 :: x231 :: x232 :: x233 :: x234 :: x235 :: x236 :: x237 :: x238 :: x239 :: x240 :: x241 :: x242 :: x243 :: x244 :: x245 :: x246 :: x247 :: x248 :: x249 :: x250 :: x251 :: x252 :: x253 :: x254 :: x255 :: x256 :: x257 :: x258 :: x259 :: x260 :: x261 :: x262 :: x263 :: x264 :: x265 :: x266 :: x267 :: x268 :: x269 :: x270 :: x271 :: x272 :: x273 :: x274 :: x275 :: x276 :: x277 :: x278 :: c279 :: c280 :: c281 :: c282 :: c283 :: c284 :: c285 :: c286 :: c287 :: c288 :: c289 :: c290 :: c291 :: c292 :: c293 :: c294 :: c295 :: c296 :: c297 :: c298 :: []), []⟩ wx) :
    Code.wp Tryd.prog code Q ⟨List.toArray (c0 :: c1 :: (.pointer (some ⟨w.heap.size, 0, none⟩) : Value) :: (.slice (some ⟨g, 0, none⟩) n cap : Value) :: c4 :: c5 :: (.slice (some ⟨KB, 0, none⟩) 64 64 : Value) :: (.int .u64 4294967296 : Value) :: (.slice (some ⟨HB, 0, none⟩) 8 8 : Value) :: (.int .i64 0 : Value) :: u10 :: u11 :: u12 :: u13 :: u14 :: u15 :: u16 :: u17 :: u18 :: u19 :: u20 :: u21 :: u22 :: c23 :: c24 :: c25 :: c26 :: c27 :: c28 :: c29 :: c30 :: c31 :: c32 :: c33 :: c34 :: c35 :: c36 :: c37 :: c38 :: c39 :: c40 :: c41 :: c42 :: c43 :: c44 :: c45 :: c46 :: c47 :: c48 :: c49 :: c50 :: c51 :: c52 :: c53 :: u54 :: u55 :: u56 :: u57 :: u58 :: u59 :: u60 :: u61 :: u62 :: u63 :: u64 :: u65 :: u66 :: u67 :: u68 :: u69 :: u70 :: u71 :: u72 :: u73 :: u74 :: u75 :: u76 :: u77 :: u78 :: u79 :: u80 :: u81 :: u82 :: u83 :: u84 :: u85 :: u86 :: u87 :: u88 :: u89 :: u90 :: u91 :: u92 :: u93 :: u94 :: u95 :: u96 :: u97 :: u98 :: u99 :: u100 :: u101 :: u102 :: u103 :: u104 :: u105 :: u106 :: u107 :: u108 :: u109 :: u110 :: u111 :: u112 :: u113 :: u114 :: u115 :: u116 :: u117 :: u118 :: u119 :: u120 :: u121 :: u122 :: u123 :: u124 :: u125 :: u126 :: u127 :: u128 :: u129 :: u130 :: u131 :: u132 :: u133 :: u134 :: u135 :: u136 :: u137 :: u138 :: u139 :: u140 :: u141 :: u142 :: u143 :: u144 :: u145 :: u146 :: u147 :: u148 :: u149 :: u150 :: u151 :: u152 :: u153 :: u154 :: u155 :: u156 :: u157 :: u158 :: u159 :: u160 :: u161 :: u162 :: u163 :: u164 :: u165 :: u166 :: u167 :: u168 :: u169 :: u170 :: u171 :: u172 :: u173 :: u174 :: u175 :: u176 :: u177 :: u178 :: u179 :: u180 :: u181 :: u182 :: u183 :: u184 :: u185 :: u186 :: u187 :: u188 :: u189 :: u190 :: u191 :: u192 :: u193 :: u194 :: u195 :: u196 :: u197 :: u198 :: u199 :: u200 :: u201 :: u202 :: u203 :: u204 :: u205 :: u206 :: u207 :: u208 :: u209 :: u210 :: u211 :: u212 :: u213 :: u214 :: u215 :: u216 :: u217 :: u218 :: u219 :: u220 :: u221 :: u222 :: u223 :: u224 :: u225 :: u226 :: u227 :: u228 :: u229 :: u230 :: u231 :: u232 :: u233 :: u234 :: u235 :: u236 :: u237 :: u238 :: u239 :: u240 :: u241 :: u242 :: u243 :: u244 :: u245 :: u246 :: u247 :: u248 :: u249 :: u250 :: u251 :: u252 :: u253 :: u254 :: u255 :: u256 :: u257 :: u258 :: u259 :: u260 :: u261 :: u262 :: u263 :: u264 :: u265 :: u266 :: u267 :: u268 :: u269 :: u270 :: u271 :: u272 :: u273 :: u274 :: u275 :: u276 :: u277 :: u278 :: c279 :: c280 :: c281 :: c282 :: c283 :: c284 :: c285 :: c286 :: c287 :: c288 :: c289 :: c290 :: c291 :: c292 :: c293 :: c294 :: c295 :: c296 :: c297 :: c298 :: []), []⟩ wr  := by
  subst hcode
  exact Sz3.loop3 c0 c1 c4 c5 c23 c24 c25 c26 c27 c28 c29 c30 c31 c32 c33 c34 c35 c36 c37 c38 c39 c40 c41 c42 c43 c44 c45 c46 c47 c48 c49 c50 c51 c52 c53 c279 c280 c281 c282 c283 c284 c285 c286 c287 c288 c289 c290 c291 c292 c293 c294 c295 c296 c297 c298 u10 u11 u12 u13 u14 u15 u16 u17 u18 u19 u20 u21 u22 u54 u55 u56 u57 u58 u59 u60 u61 u62 u63 u64 u65 u66 u67 u68 u69 u70 u71 u72 u73 u74 u75 u76 u77 u78 u79 u80 u81 u82 u83 u84 u85 u86 u87 u88 u89 u90 u91 u92 u93 u94 u95 u96 u97 u98 u99 u100 u101 u102 u103 u104 u105 u106 u107 u108 u109 u110 u111 u112 u113 u114 u115 u116 u117 u118 u119 u120 u121 u122 u123 u124 u125 u126 u127 u128 u129 u130 u131 u132 u133 u134 u135 u136 u137 u138 u139 u140 u141 u142 u143 u144 u145 u146 u147 u148 u149 u150 u151 u152 u153 u154 u155 u156 u157 u158 u159 u160 u161 u162 u163 u164 u165 u166 u167 u168 u169 u170 u171 u172 u173 u174 u175 u176 u177 u178 u179 u180 u181 u182 u183 u184 u185 u186 u187 u188 u189 u190 u191 u192 u193 u194 u195 u196 u197 u198 u199 u200 u201 u202 u203 u204 u205 u206 u207 u208 u209 u210 u211 u212 u213 u214 u215 u216 u217 u218 u219 u220 u221 u222 u223 u224 u225 u226 u227 u228 u229 u230 u231 u232 u233 u234 u235 u236 u237 u238 u239 u240 u241 u242 u243 u244 u245 u246 u247 u248 u249 u250 u251 u252 u253 u254 u255 u256 u257 u258 u259 u260 u261 u262 u263 u264 u265 u266 u267 u268 u269 u270 u271 u272 u273 u274 u275 u276 u277 u278 w wr KB HB g nb cap n PM Q hn hE h8 hnb nk ng nr hgs hexit
set_option maxHeartbeats 3200000 in
set_option maxRecDepth 100000 in
theorem refOf_c (M : List Nat) (w : World) (h8 : All8 M) (hbig : M.length ≤ 1000000) :
    Calls Tryd.prog 118 #[.string (strN M)] w fun e w' => e = .returned (.agg (u8s (sha M))) ∧ Below w.heap.size w w' := by
  obtain ⟨cap0, w0, hcv, hD0, hB0⟩ := conv_bytes (w.alloc (.cells (u8s (zeros 32)) 84)) M h8 (by omega)
  have HR0 := hide (below_blk hB0 (by simp) (heap_last w (.cells (u8s (zeros 32)) 84)))
  have HB0 := hide ((below_new w (.cells (u8s (zeros 32)) 84)).trans (hB0.mono (by simp)))
  have HD0 := hide hD0
  rw [zlit8.symm] at hcv
  clear hB0 hD0
  go_enter Tryd.func118, Tryd.ntmps118
  have HS0 := hide (src_one (heap_last w0 (.cells #[.int .u8 ((128 : Nat) : Int)] 5)) (by omega))
  have HD1 := hide (HD0.out.below (below_new w0 (.cells #[.int .u8 ((128 : Nat) : Int)] 5)) HD0.out.lt)
  have HR1 := hide (heap_old HR0.out (.cells #[.int .u8 ((128 : Nat) : Int)] 5))
  have HB1 := hide (HB0.out.alloc HB0.out.size (.cells #[.int .u8 ((128 : Nat) : Int)] 5))
  simp only [World.size_alloc] at HD1
  clear HD0 HR0 HB0
  go_wp2_with (refine wpList_append_dst rfl (.tmp 26) (.tmp 27) rfl (w.heap.size + 1) M.length cap0 M (some ⟨w0.heap.size, 0, none⟩) 1 1 [128] rfl rfl HD1.out HS0.out (by omega) (fun h => by cases h) ?_)
  intro g1 cap1 w1 HD2 HG2 hg
  clear hcv
  have HR2 := hide (keepG HG2.out (by omega) HR1.out)
  have HB2 := hide (belowG HB1.out HG2.out (by omega) HB1.out.size)
  have hg1 : w.heap.size < g1 := by
    have := heap_lt HR1.out
    simp only [World.size_alloc] at this hg
    rcases hg with h | h <;> omega
  clear HD1 HR1 HB1 HG2 hg HS0
  refine of_hid ?_
  as_aux_lemma =>
    have hgl := gap_lt M.length
    go_wp2_with fail
    go_loopw [3] (fun b wr => ∃ k g cap : Nat, k ≤ gap M.length ∧ b = .slice (some ⟨g, 0, none⟩) (M.length + 1 + k) cap ∧ w.heap.size < g ∧ Dst wr g (M.length + 1 + k) cap (M ++ 128 :: zeros k) ∧ wr.heap[w.heap.size]? = some (.cells (u8s (zeros 32)) 84 (0, 0)) ∧ Below w.heap.size w wr) (fun b _ => match b with | .slice _ n _ => M.length + 1 + gap M.length - n | _ => 0)
    case atStart => exact ⟨0, g1, cap1, by omega, rfl, hg1, HD2.out, HR2.out, HB2.out⟩
    case round =>
      clear HD2 HR2 HB2 hg1
      obtain ⟨k, g, cap, hk, rfl, hg, hd, hr, hb⟩ := hrel
      have HD := hide hd
      have HR := hide hr
      have HB := hide hb
      clear hd hr hb
      obtain ⟨n, hn⟩ : ∃ n, n = M.length + 1 + k := ⟨_, rfl⟩
      by_cases hlt : k < gap M.length
      · have h56 := gap_no M.length k hlt
        rw [← hn] at h56 HD ⊢
        have hnb : n ≤ 2000000 := by omega
        have HN := hide hn
        clear hn
        have q1 : ((n : Int) % 64 == 56) = false := by simp; omega
        have q2 : ((n : Int) % 64 != 56) = true := by simp; omega
        have HS := hide (src_one (heap_last wr (.cells #[.int .u8 ((0 : Nat) : Int)] 5)) (by omega))
        have HD1 := hide (HD.out.below (below_new wr (.cells #[.int .u8 ((0 : Nat) : Int)] 5)) HD.out.lt)
        have HR1 := hide (heap_old HR.out (.cells #[.int .u8 ((0 : Nat) : Int)] 5))
        have HB1 := hide (HB.out.alloc HB.out.size (.cells #[.int .u8 ((0 : Nat) : Int)] 5))
        clear HD HR HB
        go_wp2_with (refine wpList_append_dst rfl (.tmp 33) (.tmp 34) rfl g n cap _ (some ⟨wr.heap.size, 0, none⟩) 1 1 [0] rfl rfl HD1.out HS.out (by omega) (fun h => by cases h) ?_)
        intro g2 cap2 w2 HD3 HG3 hgg
        have HR3 := hide (keepG HG3.out (by omega) HR1.out)
        have HB3 := hide (belowG HB1.out HG3.out (by omega) HB1.out.size)
        have hg2 : w.heap.size < g2 := by
          have := heap_lt HR1.out
          simp only [World.size_alloc] at this hgg
          rcases hgg with h | h <;> omega
        clear HD1 HR1 HB1 HG3 hgg HS
        refine of_hid ?_
        go_wp2
        go_roundw
        case rel =>
          refine ⟨k + 1, g2, cap2, by omega, ?_, hg2, ?_, HR3.out, HB3.out⟩
          · rw [show M.length + 1 + (k + 1) = n + 1 by have := HN.out; omega]
          · have e : M ++ 128 :: zeros (k + 1) = M ++ 128 :: (zeros k ++ [0]) := by
              rw [show zeros (k + 1) = zeros k ++ [0] by unfold zeros; rw [List.replicate_succ']]
            rw [e, show M.length + 1 + (k + 1) = n + 1 by have := HN.out; omega]
            exact HD3.out
        case measure => show M.length + 1 + gap M.length - (n + 1) < M.length + 1 + gap M.length - n; have := HN.out; omega
      · have hkg : k = gap M.length := by omega
        have h56 := gap_yes M.length
        rw [← hkg, ← hn] at h56
        rw [← hn] at HD ⊢
        have hnb : n ≤ 2000000 := by omega
        have q1 : ((n : Int) % 64 == 56) = true := by simp; omega
        have q2 : ((n : Int) % 64 != 56) = false := by simp; omega
        have HN : Hid (n = M.length + 1 + gap M.length) := by show _ = _; rw [hn, hkg]
        rw [hkg] at HD
        clear hn hkg hlt hk
        have HD' := HD.out
        rw [← padR_zero] at HD'
        have HDz := hide HD'
        clear HD HD'
        have hsz : (strN M).size = M.length := Srt.strN_size M
        as_aux_lemma =>
        go_wp2_with fail
        clear hsz q1 q2
        go_loopw [5, 3] (fun i b wr => ∃ j g cap : Nat, j ≤ 8 ∧ i = .int .i64 (7 - (j : Int)) ∧ b = .slice (some ⟨g, 0, none⟩) (n + j) cap ∧ w.heap.size < g ∧ Dst wr g (n + j) cap (padR M j) ∧ wr.heap[w.heap.size]? = some (.cells (u8s (zeros 32)) 84 (0, 0)) ∧ Below w.heap.size w wr) (fun _ b _ => match b with | .slice _ l _ => n + 8 - l | _ => 0)
        case atStart => exact ⟨0, g, cap, by omega, rfl, rfl, hg, HDz.out, HR.out, HB.out⟩
        case round =>
          clear HDz HR HB hg
          obtain ⟨j, g, cap, hj, rfl, rfl, hg, hd, hr, hb⟩ := hrel
          have HD := hide hd
          have HR := hide hr
          have HB := hide hb
          clear hd hr hb
          by_cases hlt : j < 8
          · obtain ⟨t, ht⟩ : ∃ t, t = 7 - j := ⟨_, rfl⟩
            have htj : (7 : Int) - (j : Int) = (t : Int) := by omega
            rw [htj]
            have ht7 : t ≤ 7 := by omega
            have Htj := hide htj
            have Hps := hide (padR_step M j hlt)
            rw [← ht] at Hps
            have Ht := hide ht
            clear htj ht
            have c0 : (0 : Int) ≤ (M.length : Int) * 8 := by omega
            have d0 : decide ((0 : Int) ≤ (t : Int)) = true := by simp
            have hev : ((M.length : Int) * 8 / 2 ^ (8 * t)) % 256 = ((8 * M.length / 2 ^ (8 * t) % 256 : Nat) : Int) := by
              rw [Int.natCast_emod, Int.natCast_ediv, Int.natCast_mul, Int.natCast_pow, Int.mul_comm]; rfl
            have hx : 8 * M.length / 2 ^ (8 * t) % 256 < 256 := Nat.mod_lt _ (by omega)
            obtain ⟨x, hxd⟩ : ∃ x, x = 8 * M.length / 2 ^ (8 * t) % 256 := ⟨_, rfl⟩
            rw [← hxd] at hev hx Hps
            clear hxd
            have HS := hide (src_one (heap_last wr (.cells #[.int .u8 (x : Int)] 5)) hx)
            have HD1 := hide (HD.out.below (below_new wr (.cells #[.int .u8 (x : Int)] 5)) HD.out.lt)
            have HR1 := hide (heap_old HR.out (.cells #[.int .u8 (x : Int)] 5))
            have HB1 := hide (HB.out.alloc HB.out.size (.cells #[.int .u8 (x : Int)] 5))
            clear HD HR HB
            as_aux_lemma =>
              go_wp2_with (refine wpList_append_dst rfl (.tmp 44) (.tmp 50) rfl g (n + j) cap _ (some ⟨wr.heap.size, 0, none⟩) 1 1 [x] rfl rfl HD1.out HS.out (by omega) (fun h => by cases h) ?_)
              intro g2 cap2 w2 HD3 HG3 hgg
              have HR3 := hide (keepG HG3.out (by omega) HR1.out)
              have HB3 := hide (belowG HB1.out HG3.out (by omega) HB1.out.size)
              have hg2 : w.heap.size < g2 := by
                have := heap_lt HR1.out
                simp only [World.size_alloc] at this hgg
                rcases hgg with h | h <;> omega
              clear HD1 HR1 HB1 HG3 hgg HS hev
              refine of_hid ?_
              go_wp2
              go_roundw
              case rel =>
                refine ⟨j + 1, g2, cap2, by omega, ?_, rfl, hg2, ?_, HR3.out, HB3.out⟩
                · refine congrArg (Value.int .i64) ?_
                  have := Htj.out
                  omega
                · rw [Hps.out]
                  exact HD3.out
              case measure => show n + 8 - (n + j + 1) < n + 8 - (n + j); omega
          · have hj8 : j = 8 := by omega
            subst hj8
            have HD' := HD.out
            rw [padR_end M hbig] at HD'
            have HDp := hide HD'
            have hpl : n + 8 = (padded M).length := HD'.len.symm
            have HP8 := hide HD'.all
            obtain ⟨PM, hPM⟩ : ∃ PM, PM = padded M := ⟨_, rfl⟩
            have HPM := hide hPM
            have hmod := padded_mod M
            rw [← hPM] at HDp HP8 hpl hmod
            have HPl := hide hpl
            clear HD HD' hpl hPM
            obtain ⟨nb, hnb2⟩ : ∃ nb, n + 8 = 64 * nb := ⟨(n + 8) / 64, by have := HPl.out; omega⟩
            have Hnb := hide hnb2
            rw [hnb2] at HDp HPl ⊢
            have hnb3 : nb ≤ 40000 := by omega
            clear hnb2 HN hmod h56
            as_aux_lemma =>
              have d0 : decide ((0 : Int) ≤ 7 - ((8 : Nat) : Int)) = false := by simp
              go_wp2_with fail
              refine (parts_c wr).mono ?_
              rintro e w3 ⟨rfl, hw3⟩
              have hKs := heap_last wr (.cells (u64s Ks) 206)
              have hEb := below_new wr (.cells (u64s Ks) 206)
              rw [hw3] at hKs hEb
              have hz3 := heap_lt hKs
              have hk3 : wr.heap.size < w3.heap.size := hz3
              have hHs := heap_last w3 (.cells (u64s H0.list) 206)
              have hEc := below_new w3 (.cells (u64s H0.list) 206)
              have HE : Hid (Env w (w3.alloc (.cells (u64s H0.list) 206)) wr.heap.size w3.heap.size g (64 * nb) cap PM H0) :=
                ⟨heap_old hKs _, hHs, (HDp.out.below hEb HDp.out.lt).below hEc (HDp.out.below hEb HDp.out.lt).lt, heap_old (below_blk hEb (heap_lt HR.out) HR.out) _, keepB hEc (Nat.le_refl _) (keepB hEb (Nat.le_refl _) HB.out)⟩
              have hgK : g < wr.heap.size := HDp.out.lt
              clear hHs hEc hKs hEb hw3 HDp HR HB
              have hKH : wr.heap.size < w3.heap.size := hk3
              clear hz3 hk3
              clear d0
              rw [show (7 : Int) - ((8 : Nat) : Int) = -1 from rfl]
              go_wp2_with (refine wpList_buildSlice_to rfl 237 8 _ rfl (some 53) rfl _ (by as_aux_lemma => kernel_rfl) _ _ (build_h0 _) ?_)
              generalize (w3.alloc (.cells (u64s H0.list) 206)) = w4 at *
              generalize w3.heap.size = HB at *
              generalize wr.heap.size = KB at *
              refine of_hid ?_
              go_wp2_with fail
              as_aux_lemma =>
                have hkh : KB ≠ HB := by as_aux_lemma => omega
                have hgh : g ≠ HB := by as_aux_lemma => omega
                have hwh : w.heap.size < HB := by as_aux_lemma => omega
                refine loop3c (by as_aux_lemma => rfl) _ _ _ _ _ _ _ _ _ _ _ _ _ _ _ _ _ _ _ _ _ _ _ _ _ _ _ _ _ _ _ _ _ _ _ _ _ _ _ _ _ _ _ _ _ _ _ _ _ _ _ _ _ _ _ _ _ _ _ _ _ _ _ _ _ _ _ _ _ _ _ _ _ _ _ _ _ _ _ _ _ _ _ _ _ _ _ _ _ _ _ _ _ _ _ _ _ _ _ _ _ _ _ _ _ _ _ _ _ _ _ _ _ _ _ _ _ _ _ _ _ _ _ _ _ _ _ _ _ _ _ _ _ _ _ _ _ _ _ _ _ _ _ _ _ _ _ _ _ _ _ _ _ _ _ _ _ _ _ _ _ _ _ _ _ _ _ _ _ _ _ _ _ _ _ _ _ _ _ _ _ _ _ _ _ _ _ _ _ _ _ _ _ _ _ _ _ _ _ _ _ _ _ _ _ _ _ _ _ _ _ _ _ _ _ _ _ _ _ _ _ _ _ _ _ _ _ _ _ _ _ _ _ _ _ _ _ _ _ _ _ _ _ _ _ _ _ _ _ _ _ _ _ _ _ _ _ _ _ _ _ _ _ _ _ _ _ _ _ _ _ _ _ _ _ _ _ _ _ _ _ _ _ _ _ _ _ _ _ _ _ _ _ w w4 KB HB g nb cap (64 * nb) PM _ rfl HE.out HP8.out hnb3 hkh hgh hwh hg ?_
                intro x9 x10 x11 x12 x13 x14 x15 x16 x17 x18 x19 x20 x21 x22 x54 x55 x56 x57 x58 x59 x60 x61 x62 x63 x64 x65 x66 x67 x68 x69 x70 x71 x72 x73 x74 x75 x76 x77 x78 x79 x80 x81 x82 x83 x84 x85 x86 x87 x88 x89 x90 x91 x92 x93 x94 x95 x96 x97 x98 x99 x100 x101 x102 x103 x104 x105 x106 x107 x108 x109 x110 x111 x112 x113 x114 x115 x116 x117 x118 x119 x120 x121 x122 x123 x124 x125 x126 x127 x128 x129 x130 x131 x132 x133 x134 x135 x136 x137 x138 x139 x140 x141 x142 x143 x144 x145 x146 x147 x148 x149 x150 x151 x152 x153 x154 x155 x156 x157 x158 x159 x160 x161 x162 x163 x164 x165 x166 x167 x168 x169 x170 x171 x172 x173 x174 x175 x176 x177 x178 x179 x180 x181 x182 x183 x184 x185 x186 x187 x188 x189 x190 x191 x192 x193 x194 x195 x196 x197 x198 x199 x200 x201 x202 x203 x204 x205 x206 x207 x208 x209 x210 x211 x212 x213 x214 x215 x216 x217 x218 x219 x220 x221 x222 x223 x224 x225 x226 x227 x228 x229 x230 x231 x232 x233 x234 x235 x236 x237 x238 x239 x240 x241 x242 x243 x244 x245 x246 x247 x248 x249 x250 x251 x252 x253 x254 x255 x256 x257 x258 x259 x260 x261 x262 x263 x264 x265 x266 x267 x268 x269 x270 x271 x272 x273 x274 x275 x276 x277 x278 w5 hE5
                have HE5 := hide hE5
                clear hE5 HE
                as_aux_lemma =>
                  have hst : bytes8 (fold H0 PM nb) = sha M := by
                    as_aux_lemma =>
                      have h1 := HPl.out
                      unfold sha st
                      rw [← HPM.out, ← h1, show 64 * nb / 64 = nb by omega]
                  have hok := fold_ok H0_ok PM nb
                  obtain ⟨s, hs⟩ : ∃ s, s = fold H0 PM nb := ⟨_, rfl⟩
                  rw [← hs] at hst hok HE5
                  have Hst := hide hst
                  clear hst hs
                  have hb6 := below_new w5 (.cells (u8s (zeros 32)) 84)
                  have HE6 := hide (HE5.out.up hb6)
                  have HO6 := hide (heap_last w5 (.cells (u8s (zeros 32)) 84))
                  obtain ⟨lK5, lH5, lg5, lr5⟩ := HE5.out.lts
                  clear hb6 HE5
                  as_aux_lemma =>
                    go_wp2_with (refine wpList_store_whole rfl 84 (.tmp 23) (.tmp 279) rfl w5.heap.size (zeros 32) (zeros 32) 84 rfl (by rw [← zlit8]; rfl) ?_ rfl (by rw [infoS, zeros_length]) ?_; rw [zlit8]; exact HO6.out)
                    intro w6 HO7 HG6
                    refine of_hid ?_
                    rw [zlit8] at HG6
                    have HE7 := hide (HE6.out.grown HG6.out (by omega) (by omega) (by omega) (by omega))
                    clear HE6 HO6 HG6
                    as_aux_lemma =>
                      generalize w5.heap.size = OB at *
                      have HO6 := HO7
                      have HE6 := HE7
                      clear HO7 HE7
                      go_wp2_with fail
                      as_aux_lemma =>
                        refine Sz9.loop9 _ _ _ _ _ _ _ _ _ _ _ _ _ _ _ _ _ _ _ _ _ _ _ _ _ _ _ _ _ _ _ _ _ _ _ _ _ _ _ _ _ _ _ _ _ _ _ _ _ _ _ _ _ _ _ _ _ _ _ _ _ _ _ _ _ _ _ _ _ _ _ _ _ _ _ _ _ _ _ _ _ _ _ _ _ _ _ _ _ _ _ _ _ _ _ _ _ _ _ _ _ _ _ _ _ _ _ _ _ _ _ _ _ _ _ _ _ _ _ _ _ _ _ _ _ _ _ _ _ _ _ _ _ _ _ _ _ _ _ _ _ _ _ _ _ _ _ _ _ _ _ _ _ _ _ _ _ _ _ _ _ _ _ _ _ _ _ _ _ _ _ _ _ _ _ _ _ _ _ _ _ _ _ _ _ _ _ _ _ _ _ _ _ _ _ _ _ _ _ _ _ _ _ _ _ _ _ _ _ _ _ _ _ _ _ _ _ _ _ _ _ _ _ _ _ _ _ _ _ _ _ _ _ _ _ _ _ _ _ _ _ _ _ _ _ _ _ _ _ _ _ _ _ _ _ _ _ _ _ _ _ _ _ _ _ _ _ _ _ _ _ _ _ _ _ _ _ _ _ _ _ _ _ _ _ _ _ _ _ _ _ _ _ _ _ _ w6 HB OB s _ HE6.out.hs (by rw [oRow_zero]; exact HO6.out) (by omega) hok ?_
                        rintro y24 y280 y281 y282 y283 y284 y285 y286 y287 y288 y289 y290 y291 y292 y293 y294 y295 y296 y297 w7 ⟨hO7, hG7⟩
                        have HO7 := hide hO7
                        have HR7 := hide (keepG hG7 (by omega) HE6.out.res)
                        have HB7 := hide (belowG HE6.out.below hG7 (by omega) HE6.out.below.size)
                        have HXl : Hid ((bytes8 s).length = 32) := hide (bytes8_length s)
                        clear hO7 hG7 HE6 HO6
                        obtain ⟨X, hX⟩ : ∃ X, X = bytes8 s := ⟨_, rfl⟩
                        rw [← hX] at HO7 HXl Hst
                        clear hX
                        go_wp2_with (first
                          | (refine wpList_load_whole rfl 84 (.tmp 23) rfl OB X 84 (0, 0) rfl HO7.out _ Tryd.underlying84 rfl (by rw [infoS, HXl.out]) ?_)
                          | (refine wpList_store_whole rfl 84 (.tmp 2) (.tmp 298) rfl w.heap.size X (zeros 32) 84 rfl rfl HR7.out HXl.out (by rw [infoS, HXl.out]) ?_))
                        intro w8 HR8 HG8
                        refine of_hid ?_
                        have HB8 := hide (belowG HB7.out HG8.out (Nat.le_refl _) HB7.out.size)
                        go_wp2_with fail
                        exact ret_whole Tryd.results118 w.heap.size X 84 (0, 0) rfl HR8.out _ Tryd.underlying84 rfl (by rw [infoS, HXl.out]) rfl ⟨by rw [Hst.out], HB8.out⟩
end Go.Proofs.YtkinpbhbgeiflaaDoor.Srf
/- The reference's Cut. -/
namespace Go.Proofs.YtkinpbhbgeiflaaDoor.Sct
set_option linter.unusedVariables false
set_option linter.unusedSimpArgs false
set_option maxRecDepth 100000
open Go.ChangeShapes Go.WideShapes Go.ChangeAt Go.RowKit
open Go.Proofs.YtkinpbhbgeiflaaDoor.Wu Go.Proofs.YtkinpbhbgeiflaaDoor.Sm Go.Proofs.YtkinpbhbgeiflaaDoor.Sk Go.Proofs.YtkinpbhbgeiflaaDoor.Sc Go.Proofs.YtkinpbhbgeiflaaDoor.Sxa Go.Proofs.YtkinpbhbgeiflaaDoor.Sh Go.Proofs.YtkinpbhbgeiflaaDoor.Sn Go.Proofs.YtkinpbhbgeiflaaDoor.Sw0 Go.Proofs.YtkinpbhbgeiflaaDoor.Sx Go.Proofs.YtkinpbhbgeiflaaDoor.Sw Go.Proofs.YtkinpbhbgeiflaaDoor.Sb Go.Proofs.YtkinpbhbgeiflaaDoor.Sf Go.Proofs.YtkinpbhbgeiflaaDoor.So Go.Proofs.YtkinpbhbgeiflaaDoor.Su Go.Proofs.YtkinpbhbgeiflaaDoor.Sv Go.Proofs.YtkinpbhbgeiflaaDoor.Ap Go.Proofs.YtkinpbhbgeiflaaDoor.Sr Go.Proofs.YtkinpbhbgeiflaaDoor.Srf0 Go.Proofs.YtkinpbhbgeiflaaDoor.Srf1 Go.Proofs.YtkinpbhbgeiflaaDoor.Rk Go.Proofs.YtkinpbhbgeiflaaDoor.Sza Go.Proofs.YtkinpbhbgeiflaaDoor.Szb Go.Proofs.YtkinpbhbgeiflaaDoor.Srf Go.Proofs.YtkinpbhbgeiflaaDoor.St
attribute [local go_sem] kUpon_value kUpon_skip kUpon_enter

/-- The row when the bytes from k up to i are noughts. -/
def cutR (k i : Nat) (X : List Nat) : List Nat := X.take k ++ zeros (min i 32 - k) ++ X.drop i
theorem cutR_length (k i : Nat) (X : List Nat) (hX : X.length = 32) (hk : k ≤ 32) (hi : k ≤ i) : (cutR k i X).length = 32 := by
  simp [cutR, zeros, hX]; omega
theorem cutR_start (k i : Nat) (X : List Nat) (hX : X.length = 32) (h : (i ≤ 32 ∧ k = i) ∨ (32 < i ∧ k = 32)) : cutR k i X = X := by
  unfold cutR
  rcases h with ⟨h1, rfl⟩ | ⟨h1, rfl⟩
  · rw [show min k 32 - k = 0 by omega]; simp [zeros]
  · rw [show min i 32 - 32 = 0 by omega, List.take_of_length_le (by omega), List.drop_eq_nil_of_le (by omega)]; simp [zeros]
theorem cutR_end (k i : Nat) (X : List Nat) (hX : X.length = 32) (hk : k ≤ 32) (hi : 32 ≤ i) : cutR k i X = cutL k X := by
  unfold cutR cutL
  rw [show min i 32 = 32 by omega, List.drop_eq_nil_of_le (by omega), List.append_nil]
theorem cutR_step (k i : Nat) (X : List Nat) (hX : X.length = 32) (hk : k ≤ i) (hi : i < 32) : (cutR k i X).set i 0 = cutR k (i + 1) X := by
  unfold cutR
  have hl : (X.take k ++ zeros (min i 32 - k)).length = i := by simp [zeros, hX]; omega
  rw [List.set_append_right _ _ (by omega), hl, Nat.sub_self, List.drop_eq_getElem_cons (by omega), List.set_cons_zero, show min (i + 1) 32 - k = (min i 32 - k) + 1 by omega]
  have hz : zeros (min i 32 - k + 1) = zeros (min i 32 - k) ++ [0] := by unfold zeros; exact List.replicate_succ'
  rw [hz]
  simp
set_option maxHeartbeats 3200000 in
theorem refCut_c (n : Int) (k : Nat) (M : List Nat) (w : World) (hk : Cnt n k) (h8 : All8 M) (hbig : M.length ≤ 1000000) (hn : n ≤ 9223372036854775807) :
    Calls Tryd.prog 94 #[.int .i64 n, .string (strN M)] w fun e w' => e = .returned (.agg (u8s (cutL k (sha M)))) ∧ Below w.heap.size w w' := by
  have HR0 := hide (heap_last w (.cells (u8s (zeros 32)) 84))
  have HB0 := hide (below_new w (.cells (u8s (zeros 32)) 84))
  have hk32 : k ≤ 32 := by unfold Cnt at hk; omega
  have hc : (n < 0 ∧ k = 0) ∨ (¬ n < 0 ∧ ∃ j : Nat, n = (j : Int) ∧ ((j ≤ 32 ∧ k = j) ∨ (32 < j ∧ k = 32))) := by
    unfold Cnt at hk
    by_cases h : n < 0
    · left; omega
    · right; exact ⟨h, n.toNat, by omega, by omega⟩
  clear hk
  go_enter Tryd.func94, Tryd.ntmps94
  go_wp2_with fail
  rw [zlit8]
  generalize (w.alloc (.cells (u8s (zeros 32)) 84)) = w0 at *
  refine (refOf_c M w0 h8 hbig).mono ?_
  rintro e w1 ⟨rfl, hb1⟩
  obtain ⟨X, hX⟩ : ∃ X, X = sha M := ⟨_, rfl⟩
  have hXl : X.length = 32 := by rw [hX]; rfl
  have HX := hide hX
  rw [← hX]
  clear hX
  have HXl := hide hXl
  clear hXl
  have HR1 := hide (below_blk hb1 (heap_lt HR0.out) HR0.out)
  have HB1 := hide (keepB hb1 (Nat.le_refl _) HB0.out)
  have hz1 := heap_lt HR1.out
  clear hb1 HB0 HR0
  have Hz := hide (heap_last w1 (.cells (u8s (zeros 32)) 84))
  have Hzr := hide (heap_old HR1.out (.cells (u8s (zeros 32)) 84))
  have Hzb := hide (HB1.out.alloc HB1.out.size (.cells (u8s (zeros 32)) 84))
  go_wp2_with (refine wpList_store_whole rfl 84 (.tmp 5) (.tmp 9) rfl w1.heap.size X (zeros 32) 84 rfl rfl ?_ (by rw [HXl.out, zeros_length]) (by rw [infoS, HXl.out]) ?_; rw [zlit8]; exact Hz.out)
  rw [zlit8]
  intro w2 HW2 HG2
  have HR2 := hide (keepG HG2.out (by omega) Hzr.out)
  have HB2 := hide (belowG Hzb.out HG2.out (by omega) Hzb.out.size)
  refine of_hid ?_
  clear Hz Hzr Hzb HR1 HB1 HG2
  have hw2 := HB2.out.size
  generalize w1.heap.size = WB at *
  obtain ⟨j0, hj0, hst⟩ : ∃ j : Nat, ((n < 0 ∧ j = 0) ∨ (¬ n < 0 ∧ n = (j : Int))) ∧ ((j ≤ 32 ∧ k = j) ∨ (32 < j ∧ k = 32)) := by
    rcases hc with ⟨h1, h2⟩ | ⟨h1, j, h2, h3⟩
    · exact ⟨0, .inl ⟨h1, rfl⟩, .inl ⟨by omega, h2⟩⟩
    · exact ⟨j, .inr ⟨by omega, h2⟩, h3⟩
  have Hst := hide (cutR_start k j0 X HXl.out hst)
  have hkj : k ≤ j0 := by omega
  have hjb : j0 ≤ 9223372036854775807 := by omega
  clear hc hst
  rw [← Hst.out] at HW2
  rcases hj0 with ⟨hneg, rfl⟩ | ⟨hneg, rfl⟩
  all_goals
    go_wp2_with fail
    go_loopw [7] (fun i wr => ∃ q : Nat, k ≤ q ∧ q ≤ 9223372036854775807 ∧ i = .int .i64 (q : Int) ∧ wr.heap[WB]? = some (.cells (u8s (cutR k q X)) 84 (0, 0)) ∧ wr.heap[w.heap.size]? = some (.cells (u8s (zeros 32)) 84 (0, 0)) ∧ Below w.heap.size w wr) (fun i _ => 32 - (intOf i).toNat)
    case atStart => exact ⟨_, hkj, hjb, rfl, HW2.out, HR2.out, HB2.out⟩
    case round =>
      clear HW2 HR2 HB2 hkj hjb
      obtain ⟨q, hq, hqb, rfl, h1, h2, hb⟩ := hrel
      have H1 := hide h1
      have H2 := hide h2
      have HB := hide hb
      clear h1 h2 hb
      by_cases hlk : q < 32
      · have Hst := hide (cutR_step k q X HXl.out hq hlk)
        have cx := row8 (i := q) H1.out (by rw [cutR_length k q X HXl.out hk32 hq]; exact hlk)
        have fx := blk_free (i := q) H1.out
        generalize (cutR k q X).getD q 0 = old at *
        have hd : decide ((q : Int) < 32) = true := by simp; omega
        have k0 : (0 : Int) ≤ (q : Int) := by omega
        have k1 : (q : Int) < 32 := by omega
        go_wp2
        go_roundw
        case rel =>
          have e := blk_set (i := q) H1.out (.int .u8 ((0 : Nat) : Int))
          rw [u8s_set, Hst.out] at e
          exact ⟨q + 1, by omega, by omega, by go_num, e, blk_set_other H2.out (by omega) _, HB.out.setCell (by simp; omega) _⟩
        case measure => simp [intOf]; omega
      · have h1 := H1.out
        rw [cutR_end k q X HXl.out hk32 (by omega)] at h1
        have H3 := hide h1
        have Hl : Hid ((cutL k X).length = 32) := hide (cutL_length k X hk32 HXl.out)
        clear h1 H1
        have hd : decide ((q : Int) < 32) = false := by simp; omega
        go_wp2_with (first
          | (refine wpList_load_whole rfl 84 (.tmp 5) rfl WB (cutL k X) 84 (0, 0) rfl H3.out _ Tryd.underlying84 rfl (by rw [infoS, Hl.out]) ?_)
          | (refine wpList_store_whole rfl 84 (.tmp 4) (.tmp 20) rfl w.heap.size (cutL k X) (zeros 32) 84 rfl rfl H2.out Hl.out (by rw [infoS, Hl.out]) ?_))
        intro w5 H5 HG5
        have HB5 := hide (belowG HB.out HG5.out (by omega) HB.out.size)
        refine of_hid ?_
        go_wp2_with fail
        exact ret_whole Tryd.results94 w.heap.size (cutL k X) 84 (0, 0) rfl H5.out _ Tryd.underlying84 rfl (by rw [infoS, Hl.out]) rfl ⟨by rw [HX.out], HB5.out⟩
end Go.Proofs.YtkinpbhbgeiflaaDoor.Sct
/- append on slices of bytes, told by their cells: whatever the capacity is, wherever the row lies. -/
namespace Go.Proofs.YtkinpbhbgeiflaaDoor.Bp
set_option linter.unusedVariables false
set_option linter.unusedSimpArgs false
set_option maxRecDepth 100000
open Go.RowKit
open Go.Proofs.YtkinpbhbgeiflaaDoor.Wu Go.Proofs.YtkinpbhbgeiflaaDoor.Sm Go.Proofs.YtkinpbhbgeiflaaDoor.Sh Go.Proofs.YtkinpbhbgeiflaaDoor.Ba

/-- A row of n bytes L with room for cap, from the beginning of block g on. -/
structure Dst (w : World) (g n cap : Nat) (L : List Nat) : Prop where
  len : L.length = n
  all : All8 L
  fit : n ≤ cap
  max : cap ≤ maxLen
  lt : g < w.heap.size
  cells : w.rangeAt g 0 (b8 L)
  spare : w.there g n (cap - n)
  free : ∀ o, w.frozen? ⟨g, o, none⟩ = false
theorem Dst.below {w w' : World} {g n cap N : Nat} {L : List Nat} (h : Dst w g n cap L) (hb : Below N w w') (hg : g < N) : Dst w' g n cap L :=
  ⟨h.len, h.all, h.fit, h.max, Nat.lt_of_lt_of_le h.lt hb.size, fun j v hv => by rw [hb.cell (p := ⟨g, 0 + j, none⟩) hg]; exact h.cells j v hv,
    fun j hj => ⟨by rw [hb.cell (p := ⟨g, n + j, none⟩) hg]; exact (h.spare j hj).1, by rw [hb.frozen (p := ⟨g, n + j, none⟩) hg]; exact (h.spare j hj).2⟩,
    fun o => by rw [hb.frozen (p := ⟨g, o, none⟩) hg]; exact h.free o⟩
theorem Dst.kept {w w' : World} {g n cap k : Nat} {L : List Nat} (h : Dst w g n cap L) (hb : w.grownBy w' (some k)) (hg : g ≠ k) : Dst w' g n cap L := by
  have e := hb.block g h.lt (fun e => hg (by injection e))
  refine ⟨h.len, h.all, h.fit, h.max, Nat.lt_of_lt_of_le h.lt hb.size, fun j v hv => by rw [World.cell?_of_block (a := ⟨g, 0 + j, none⟩) e]; exact h.cells j v hv, fun j hj => ?_, fun o => by rw [World.frozen?_of_block (a := ⟨g, o, none⟩) e]; exact h.free o⟩
  refine ⟨by rw [World.cell?_of_block (a := ⟨g, n + j, none⟩) e]; exact (h.spare j hj).1, ?_⟩
  have := (h.spare j hj).2
  unfold World.frozen? at this ⊢
  simp only at this ⊢
  rw [e]; exact this
theorem Dst.drew {w : World} {g n cap : Nat} {L : List Nat} (h : Dst w g n cap L) : Dst w.drew g n cap L := ⟨h.len, h.all, h.fit, h.max, h.lt, h.cells, h.spare, h.free⟩
theorem Dst.src {w : World} {g n cap : Nat} {L : List Nat} (h : Dst w g n cap L) : SrcB w (some ⟨g, 0, none⟩) n L :=
  ⟨h.len, h.all, g, 0, fun _ => rfl, fun i hi => h.cells i _ (by
    unfold b8
    rw [List.getElem?_map, List.getElem?_eq_getElem (by rw [h.len]; exact hi)]
    simp [List.getD, List.getElem?_eq_getElem (show i < L.length by rw [h.len]; exact hi)])⟩
theorem Dst.cell {w : World} {g n cap : Nat} {L : List Nat} (h : Dst w g n cap L) {i : Nat} (hi : i < n) : w.cell? ⟨g, i, none⟩ = some (.int .u8 ((L.getD i 0 : Nat) : Int)) := by
  obtain ⟨_, _, b, off, h3, h4⟩ := h.src
  have := h.cells i (.int .u8 ((L.getD i 0 : Nat) : Int)) (by
    unfold b8
    rw [List.getElem?_map, List.getElem?_eq_getElem (by rw [h.len]; exact hi)]
    simp [List.getD, List.getElem?_eq_getElem (show i < L.length by rw [h.len]; exact hi)])
  rwa [Nat.zero_add] at this
theorem info_bs : (Tryd.prog.info? 5).map (fun i => (i.zero, i.size, i.bytes)) = some (some (.int .u8 0), 1, 1) := by kernel_rfl
/-- A new block whose first cells are these bytes. -/
theorem dst_new (w : World) (L : List Nat) (zs : Array Value) (T : TypeId) (f : Nat × Nat) (hf : f = (0, 0)) (h8 : All8 L) (hm : L.length + zs.size ≤ maxLen) : Dst (w.alloc (.cells ((b8 L).toArray ++ zs) T f)) w.heap.size L.length (L.length + zs.size) L := by
  have hh := heap_last w (.cells ((b8 L).toArray ++ zs) T f)
  have fz : ∀ o, (w.alloc (.cells ((b8 L).toArray ++ zs) T f)).frozen? ⟨w.heap.size, o, none⟩ = false := by
    intro o
    unfold World.frozen?
    simp only [hh]
    cases hf
    simp
  refine ⟨rfl, h8, by omega, hm, by simp, fun j v hv => ?_, fun j hj => ?_, ?_⟩
  · rw [Nat.zero_add]
    refine blk_cell hh ?_
    have hj : j < (b8 L).length := (List.getElem?_eq_some_iff.1 hv).1
    rw [Array.getElem?_append_left (by simpa using hj)]
    simpa using hv
  · refine ⟨?_, ?_⟩
    · rw [blk_cell hh (x := ((b8 L).toArray ++ zs)[L.length + j]'(by simp [b8_length]; omega)) (by rw [Array.getElem?_eq_getElem])]; rfl
    · exact fz _
  · exact fz
theorem append_none (w : World) (ty : TypeId) (g n cap c : Nat) (hf : n ≤ cap) : (Builtin.append_ #[22, 22] ty #[.slice (some ⟨g, 0, none⟩) n cap, .slice none 0 c]).run Tryd.prog w = .ok (.slice (some ⟨g, 0, none⟩) n cap) w := by
  obtain ⟨i0, hi0, hz0, hz1, hz2⟩ := info_parts info_bs
  simp [Builtin.append_, run_underlying Tryd.underlying22, sizeOf, typeInfo, hi0, Builtin.lenOf, Builtin.firstCells, hf, storeCells]
set_option maxRecDepth 100000 in
theorem append_dst (w : World) (ty : TypeId) (g n cap : Nat) (L : List Nat) (A : Option Addr) (m c : Nat) (L' : List Nat) (hd : Dst w g n cap L) (hs : SrcB w A m L') (hbig : n + m ≤ 70368744177664) (hc : A = none → m = 0) :
    ∃ g' cap' w', (Builtin.append_ #[22, 22] ty #[.slice (some ⟨g, 0, none⟩) n cap, .slice A m c]).run Tryd.prog w = .ok (.slice (some ⟨g', 0, none⟩) (n + m) cap') w' ∧
      Dst w' g' (n + m) cap' (L ++ L') ∧ w.grownBy w' (some g) ∧ (g' = g ∨ g' = w.heap.size) ∧ w'.rangeAt g 0 (b8 L) := by
  obtain ⟨i0, hi0, hz0, hz1, hz2⟩ := info_parts info_bs
  obtain ⟨hl, h8, b, off, ha, hcell⟩ := hs
  cases A with
  | none =>
    obtain rfl := hc rfl
    obtain rfl : L' = [] := List.length_eq_zero_iff.1 hl
    exact ⟨g, cap, w, append_none w ty g n cap c hd.fit, by simpa using hd, World.grownBy.refl w _, .inl rfl, hd.cells⟩
  | some ad =>
    have hnews : ∀ j u, (b8 L')[j]? = some u → w.cell? (ad.add j) = some u := by
      intro j u hu
      obtain ⟨hj, rfl⟩ := b8_at hu
      have := ha (by omega)
      injection this with this
      subst this
      rw [Addr.add_mid]
      exact hcell j (by omega)
    by_cases hroom : n + m ≤ cap
    · have hr := run_append_room_cells (P := Tryd.prog) w 22 ty 5 i0 Tryd.underlying22 hi0 g 0 n cap ad m c (b8 L') (by rw [b8_length, hl, hz1, Nat.mul_one]) hnews (b8_one L') hroom
        (fun j hj => by rw [hz1, Nat.mul_one, Nat.zero_add]; exact (hd.spare j (by rw [b8_length] at hj; omega)).1) (fun j hj => by rw [hz1, Nat.mul_one, Nat.zero_add]; exact (hd.spare j (by rw [b8_length] at hj; omega)).2)
      rw [hz1, Nat.mul_one, Nat.zero_add] at hr
      have hth : w.there g n (b8 L').length := fun j hj => hd.spare j (by rw [b8_length] at hj; omega)
      refine ⟨g, cap, _, hr, ⟨by rw [List.length_append, hd.len, hl], all8_append hd.all h8, hroom, hd.max, ?_, ?_, ?_, fun o => by rw [World.frozen?_setCells]; exact hd.free o⟩, ?_, .inl rfl, World.rangeAt_setCells_apart hd.cells g n (b8 L') (by right; left; rw [b8_length, hd.len]; omega)⟩
      · have : ∀ (vs : List Value) (o : Nat) (w : World), (w.setCells g o vs).heap.size = w.heap.size := by
          intro vs
          induction vs with
          | nil => intro o w; rfl
          | cons v vs ih => intro o w; rw [World.setCells, ih]; simp [World.setCell]
        rw [this]; exact hd.lt
      · intro j v hv
        have e : b8 (L ++ L') = b8 L ++ b8 L' := by unfold b8; rw [List.map_append]
        rw [e] at hv
        by_cases hj : j < (b8 L).length
        · rw [List.getElem?_append_left hj] at hv
          have h1 := World.rangeAt_setCells_apart hd.cells g n (b8 L') (by right; left; rw [b8_length, hd.len]; omega)
          exact h1 j v hv
        · rw [List.getElem?_append_right (by omega)] at hv
          have h1 := World.rangeAt_setCells_same w g n (b8 L') hth (j - (b8 L).length) v hv
          rw [b8_length, hd.len] at h1
          rw [b8_length, hd.len] at hj
          rw [Nat.zero_add, show j = n + (j - n) by omega]
          exact h1
      · intro j hj
        have h1 := World.there_setCells (b' := g) (o' := n) (n := cap - n) hd.spare g n (b8 L') (m + j) (by omega)
        rw [show n + m + j = n + (m + j) by omega]
        exact h1
      · have : ∀ (vs : List Value) (o : Nat) (u : World), u.grownBy (u.setCells g o vs) (some g) := by
          intro vs
          induction vs with
          | nil => intro o u; exact World.grownBy.refl u _
          | cons v vs ih => intro o u; rw [World.setCells]; exact grown_trans (grown_setCell (World.grownBy.refl u (some g)) o v) (ih (o + 1) _)
        exact this _ _ _
    · have hr := run_append_grow (P := Tryd.prog) w 22 ty 5 i0 (.int .u8 0) Tryd.underlying22 hi0 hz0 ⟨g, 0, none⟩ n cap (b8 L) (by rw [b8_length, hd.len, hz1, Nat.mul_one]) (fun j v hv => by rw [Addr.add_mid]; exact hd.cells j v hv) ad m c (b8 L') (by rw [b8_length, hl, hz1, Nat.mul_one]) hnews (by omega) (by omega) (growslice_fits (by omega) (by rw [hz2]; omega))
      have hge := grownCap_ge w (n + m) cap 5
      have hle := grownCap_le_maxLen w (n + m) cap 5 (by unfold maxLen; omega)
      generalize grownCap w (n + m) cap 5 = q at hr hge hle
      have hzs : (Builtin.zeroCells (Value.int .u8 0).cells (q - (n + m))).size = q - (n + m) := by rw [size_zeroCells]; simp [Value.cells]
      generalize Builtin.zeroCells (Value.int .u8 0).cells (q - (n + m)) = Z at hr hzs
      have e : (b8 L).toArray ++ (b8 L').toArray = (b8 (L ++ L')).toArray := by unfold b8; rw [List.map_append]; simp
      rw [e] at hr
      have hn := dst_new w.drew (L ++ L') Z 5 (0, 0) rfl (all8_append hd.all h8) (by rw [List.length_append, hd.len, hl, hzs]; omega)
      rw [List.length_append, hd.len, hl, hzs, show n + m + (q - (n + m)) = q by omega] at hn
      exact ⟨w.heap.size, q, _, hr, hn, ⟨rfl, rfl, rfl, by simp, fun k hk _ => Below.heap_alloc w.drew _ k hk⟩, .inr rfl, fun j v hv => by rw [World.cell?_of_block (a := ⟨g, 0 + j, none⟩) (Below.heap_alloc w.drew _ g hd.lt)]; exact hd.cells j v hv⟩
/-- append as a step of the walk. -/
theorem wpList_append_dst {w : World} {ops : Array Oper} {rest : List Oper} {o : Oper} {a : Act} {Q : Exit → Act → World → Prop} (hgd : o.guard = none) (s x : Operand)
    (ho : o.op = .call { callee := .builtin .append, args := #[s, x], argTypes := #[22, 22] }) (g n cap : Nat) (L : List Nat) (A : Option Addr) (m c : Nat) (L' : List Nat)
    (hs : a.eval s = .slice (some ⟨g, 0, none⟩) n cap) (hx : a.eval x = .slice A m c) (hd : Dst w g n cap L) (hsrc : SrcB w A m L') (hbig : n + m ≤ 70368744177664) (hc : A = none → m = 0)
    (h : ∀ g' cap' w', Hid (Dst w' g' (n + m) cap' (L ++ L')) → Hid (w.grownBy w' (some g)) → (g' = g ∨ g' = w.heap.size) → Hid (w'.rangeAt g 0 (b8 L)) → Hid (wpList Tryd.prog ops Q rest (a.put o.dst (.slice (some ⟨g', 0, none⟩) (n + m) cap')) w')) : wpList Tryd.prog ops Q (o :: rest) a w := by
  obtain ⟨g', cap', w', hrun, h1, h2, h3, h4⟩ := append_dst w o.type g n cap L A m c L' hd hsrc hbig hc
  refine wpList_plain hgd fun K hK => ?_
  unfold Oper.wp
  simp [execOp, ho, resolve, invoke, builtin, hs, hx, hrun, Result.andThen]
  exact hK _ _ (h g' cap' w' h1 h2 h3 h4)
end Go.Proofs.YtkinpbhbgeiflaaDoor.Bp
/- Plain mathematics of the weak sum: what lists of numbers come to. Nothing of the program. -/
namespace Go.Proofs.YtkinpbhbgeiflaaDoor.Wm
set_option linter.unusedVariables false
set_option linter.unusedSimpArgs false
set_option maxRecDepth 100000
open Go.RowKit

/-- The bytes of a text as numbers. -/
def nums (s : ByteArray) : List Int := s.data.toList.map fun b => (b.toNat : Int)
/-- A list of bytes. -/
def Byt (L : List Int) : Prop := ∀ z ∈ L, 0 ≤ z ∧ z < 256

def pw (n : Int) : List Int → Int
  | [] => 0
  | x :: l => n * x + pw (n - 1) l
def sm : List Int → Int
  | [] => 0
  | x :: l => x + sm l
def lo (L : List Int) : Int := sm L % 65536
def hi (L : List Int) : Int := pw L.length L % 65536

theorem sm_append (L M : List Int) : sm (L ++ M) = sm L + sm M := by
  induction L with
  | nil => simp [sm]
  | cons x l ih => simp only [List.cons_append, sm, ih]; omega
theorem pw_append (n : Int) (L M : List Int) : pw n (L ++ M) = pw n L + pw (n - L.length) M := by
  induction L generalizing n with
  | nil => simp [pw]
  | cons x l ih =>
    simp only [List.cons_append, pw, ih, List.length_cons]
    rw [show n - ((l.length + 1 : Nat) : Int) = n - 1 - l.length by omega]
    omega
theorem pw_succ (n : Int) (L : List Int) : pw (n + 1) L = pw n L + sm L := by
  induction L generalizing n with
  | nil => simp [pw, sm]
  | cons x l ih =>
    have := ih (n - 1)
    rw [show n - 1 + 1 = n by omega] at this
    simp only [pw, sm]
    rw [show n + 1 - 1 = n by omega, this, Int.add_mul]
    omega
theorem pw_snoc (L : List Int) (x : Int) : pw (L ++ [x]).length (L ++ [x]) = pw L.length L + sm L + x := by
  rw [pw_append]
  simp only [List.length_append, List.length_cons, List.length_nil, pw]
  rw [show ((L.length + (0 + 1) : Nat) : Int) = L.length + 1 by omega, pw_succ, show (L.length : Int) + 1 - L.length = 1 by omega]
  omega
theorem pw_add (n : Int) (k : Nat) (L : List Int) : pw (n + k) L = pw n L + k * sm L := by
  induction k with
  | zero => simp
  | succ k ih =>
    rw [show n + ((k + 1 : Nat) : Int) = n + k + 1 by omega, pw_succ, ih, show ((k + 1 : Nat) : Int) = (k : Int) + 1 by omega, Int.add_mul]
    omega

theorem lo_nonneg (L : List Int) : 0 ≤ lo L := by unfold lo; omega
theorem lo_lt (L : List Int) : lo L < 65536 := by unfold lo; omega
theorem hi_nonneg (L : List Int) : 0 ≤ hi L := by unfold hi; omega
theorem hi_lt (L : List Int) : hi L < 65536 := by unfold hi; omega

theorem lo_snoc (L : List Int) (x : Int) : IntKind.u16.wrap (lo L + x) = lo (L ++ [x]) := by
  rw [IntKind.wrap_u16]; unfold lo; rw [sm_append]; simp only [sm]; omega
theorem hi_snoc (L : List Int) (x : Int) : IntKind.u16.wrap (hi L + lo (L ++ [x])) = hi (L ++ [x]) := by
  rw [IntKind.wrap_u16]; unfold hi lo; rw [pw_snoc, sm_append]; simp only [sm]; omega
theorem lo_tail (L : List Int) (x : Int) : IntKind.u16.wrap (lo (x :: L) - x) = lo L := by
  rw [IntKind.wrap_u16]; unfold lo; simp only [sm]; omega
theorem hi_tail (L : List Int) (x : Int) : IntKind.u16.wrap (hi (x :: L) - IntKind.u16.wrap (IntKind.u16.wrap ((x :: L).length : Int) * x)) = hi L := by
  simp only [IntKind.wrap_u16]
  unfold hi
  simp only [pw, List.length_cons]
  have e : ∀ a : Int, a % 65536 * x % 65536 = a * x % 65536 := fun a => by rw [Int.mul_emod, Int.emod_emod_of_dvd _ (Int.dvd_refl _), ← Int.mul_emod]
  rw [e]
  rw [show ((L.length + 1 : Nat) : Int) - 1 = L.length by omega]
  generalize ((L.length + 1 : Nat) : Int) * x = m
  omega
theorem lo_nil : lo [] = 0 := rfl
theorem hi_nil : hi [] = 0 := rfl

theorem byt_take {L : List Int} (h : Byt L) (k : Nat) : Byt (L.take k) := fun z hz => h z (List.mem_of_mem_take hz)
theorem byt_drop {L : List Int} (h : Byt L) (k : Nat) : Byt (L.drop k) := fun z hz => h z (List.mem_of_mem_drop hz)
theorem byt_getD {L : List Int} (h : Byt L) (k : Nat) : 0 ≤ L.getD k 0 ∧ L.getD k 0 < 256 := by
  by_cases hk : k < L.length
  · have := h L[k] (List.getElem_mem hk)
    simp [List.getD, hk]; omega
  · simp [List.getD, List.getElem?_eq_none (Nat.le_of_not_lt hk)]
theorem byt_nums (s : ByteArray) : Byt (nums s) := by
  intro z hz
  simp only [nums, List.mem_map] at hz
  obtain ⟨b, _, rfl⟩ := hz
  have := b.toNat_lt
  omega
theorem take_snoc (L : List Int) (k : Nat) (h : k < L.length) : L.take (k + 1) = L.take k ++ [L.getD k 0] := by
  rw [List.take_succ_eq_append_getElem h]; simp [List.getD, h]
theorem sm_bd {L : List Int} (h : Byt L) : 0 ≤ sm L ∧ sm L ≤ 255 * L.length := by
  induction L with
  | nil => simp [sm]
  | cons x l ih =>
    have h1 := ih (fun z hz => h z (List.mem_cons_of_mem _ hz))
    have h2 := h x (List.mem_cons_self ..)
    simp only [sm, List.length_cons]; omega
theorem pw_bd {L : List Int} (h : Byt L) (n : Int) (hn : L.length ≤ n) : 0 ≤ pw n L ∧ pw n L ≤ n * (255 * L.length) := by
  induction L generalizing n with
  | nil => simp [pw]
  | cons x l ih =>
    simp only [List.length_cons] at hn
    have h1 := ih (fun z hz => h z (List.mem_cons_of_mem _ hz)) (n - 1) (by omega)
    have h2 := h x (List.mem_cons_self ..)
    have h3 : 0 ≤ n * x := Int.mul_nonneg (by omega) h2.1
    have h4 : n * x ≤ n * 255 := Int.mul_le_mul_of_nonneg_left (by omega) (by omega)
    have h5 : (n - 1) * (255 * (l.length : Int)) ≤ n * (255 * (l.length : Int)) := Int.mul_le_mul_of_nonneg_right (by omega) (by omega)
    have h6 : n * (255 * ((l.length + 1 : Nat) : Int)) = n * (255 * (l.length : Int)) + n * 255 := by rw [show ((l.length + 1 : Nat) : Int) = l.length + 1 by omega, Int.mul_add, Int.mul_add]; omega
    simp only [pw, List.length_cons]
    rw [h6]; omega
theorem pw_bd4 {L : List Int} (h : Byt L) (n : Int) (hn : L.length ≤ n) (hn' : n ≤ 4096) : 0 ≤ pw n L ∧ pw n L ≤ 4278190080 := by
  obtain ⟨h1, h2⟩ := pw_bd h n hn
  refine ⟨h1, Int.le_trans h2 ?_⟩
  have h3 : n * (255 * (L.length : Int)) ≤ 4096 * (255 * (L.length : Int)) := Int.mul_le_mul_of_nonneg_right hn' (by omega)
  omega
theorem pw_take (L : List Int) (n : Int) (k : Nat) (h : k < L.length) : pw n (L.take (k + 1)) = pw n (L.take k) + (n - k) * L.getD k 0 := by
  rw [take_snoc L k h, pw_append, List.length_take, Nat.min_eq_left (by omega)]
  simp [pw]
theorem sm_take (L : List Int) (k : Nat) (h : k < L.length) : sm (L.take (k + 1)) = sm (L.take k) + L.getD k 0 := by
  rw [take_snoc L k h, sm_append]; simp [sm]
/-- the value: high half and low half, apart. -/
theorem or_halves (h l : Int) (hl : 0 ≤ l) (hl' : l < 65536) (hh : 0 ≤ h) (hh' : h < 65536) : bits .or .u32 (h * 65536) l = h * 65536 + l := by
  rw [u32_or _ _ (by omega) (by omega) (by omega) (by omega)]
  obtain ⟨H, rfl⟩ := Int.eq_ofNat_of_zero_le hh
  obtain ⟨M, rfl⟩ := Int.eq_ofNat_of_zero_le hl
  have e : ((H : Int) * 65536).toNat = H <<< 16 := by rw [Nat.shiftLeft_eq]; omega
  rw [e, Int.toNat_natCast, ← Nat.shiftLeft_add_eq_or_of_lt (by omega), Nat.shiftLeft_eq]
  omega
/-- A window of m numbers from place i on. -/
def win (b : List Int) (i m : Nat) : List Int := (b.drop i).take m
theorem win_cons (b : List Int) (i m : Nat) (h : i + m < b.length) (hm : 0 < m) : win b i m = b.getD i 0 :: win b (i + 1) (m - 1) := by
  obtain ⟨k, rfl⟩ : ∃ k, m = k + 1 := ⟨m - 1, by omega⟩
  have hi : i < b.length := by omega
  unfold win
  rw [List.drop_eq_getElem_cons hi, List.take_succ_cons]
  simp [List.getD, hi]
theorem win_snoc (b : List Int) (i m : Nat) (h : i + m < b.length) : win b i m ++ [b.getD (i + m) 0] = win b i (m + 1) := by
  unfold win
  rw [take_snoc _ _ (by simp; omega)]
  simp [List.getD]
theorem win_length (b : List Int) (i m : Nat) (h : i + m ≤ b.length) : (win b i m).length = m := by simp [win]; omega
theorem win_zero (b : List Int) (m : Nat) : win b 0 m = b.take m := by simp [win]
theorem nums_length (s : ByteArray) : (nums s).length = s.size := by unfold nums; rw [List.length_map, Array.length_toList]; rfl
theorem nums_getD (s : ByteArray) (k : Nat) (h : k < s.size) : (nums s).getD k 0 = (s[k].toNat : Int) := by
  have h' : k < s.data.toList.length := by simpa using h
  unfold nums
  simp only [List.getD, List.getElem?_map, List.getElem?_eq_getElem h', Option.map_some, Option.getD_some]
  rfl
theorem nums_strOfNums {L : List Int} (h : Byt L) : nums (strOfNums L) = L := by
  unfold nums
  rw [strOfNums_data, List.map_map]
  conv => rhs; rw [← List.map_id L]
  apply List.map_congr_left
  intro z hz
  have := h z hz
  simp only [Function.comp, id]
  rw [UInt8.toNat_ofNat']
  omega
end Go.Proofs.YtkinpbhbgeiflaaDoor.Wm
