/- Round: the range that came back. Round: the command that came back. -/
import Derived.Test.YtignemioillaiaaU4
import Derived.Test.YtignemioillaiaaU7
import Derived.Deep.QuietTactic
import Derived.BigQuiet
import Derived.Deep.CutRange
import Derived.Deep.RegionHeld3
namespace Go.Proofs.Ytignemioillaiaa
open Go.RowKit

set_option maxHeartbeats 40000000 in
set_option maxRecDepth 100000 in
theorem round_24 {r c a0 a1 a2 a3 a4 a5 a6 a7 a8 a9 a10 a11 b0 b1 b2 b3 b4 b5 b6 : Code} {n0 n1 : Nat} (hc : Try.f7.body = some (a0.seq (a1.seq (a2.seq (a3.seq (a4.seq (a5.seq (a6.seq (a7.seq ((a8.seq (Code.block n0 (Code.loop (a9.seq ((Code.block n1 (b0.seq (b1.seq (b2.seq (b3.seq (b4.seq (b5.seq (b6.seq (r.seq c))))))))).seq a10))))).seq a11)))))))))) (u0 u1 u2 u3 u4 u5 u6 u7 u8 u9 u10 u11 u12 u13 u14 u15 u16 u19 u20 u22 u23 u24 u25 u26 u27 u28 u29 u30 u31 u32 u33 u34 u35 u36 u37 u38 u39 u40 u41 u42 u43 u44 u45 u46 u47 u48 u49 u50 u51 u52 u53 u54 u55 u56 u57 u58 u59 u60 u61 u62 u63 u64 u65 u66 u67 u68 u69 u70 u71 u72 u73 u74 u75 u76 u77 u78 u79 u80 u81 u82 u83 u84 u85 u86 u87 u88 u89 u90 u91 u92 u93 u94 u95 u96 u97 u98 u99 u100 u101 u102 u103 u104 u105 u106 u107 u108 u109 u110 u111 u112 u113 u114 u115 u116 u117 u118 u119 u120 u121 u122 u123 u124 u125 u126 u127 u128 u129 u130 u131 u132 u133 u134 u135 u136 u137 u138 u139 u140 u141 u142 u143 u144 u145 u146 u147 u148 u149 u150 u151 u152 u153 u154 u155 u156 u157 u158 u159 u160 u161 u162 u163 u164 u165 u166 u167 u168 u169 u170 u171 u172 u173 u174 u175 u176 u177 u178 u179 u180 u181 u182 u183 u184 u185 u186 u187 u188 u189 u190 u191 u192 u193 u194 u195 u196 u197 u198 u199 u200 u201 u202 u203 u204 u205 u206 u207 u208 u209 u210 u211 u212 u213 u214 u215 u216 u217 u218 u219 u220 u221 u222 u223 u224 u225 u226 u227 u228 u229 u230 u231 u232 u233 u234 u235 u236 u237 u238 u239 u240 u241 u242 u243 u244 u245 u246 u247 u248 u249 u250 u251 u252 u253 u254 u255 u256 u257 u258 u259 u260 u261 u262 u263 u264 u265 u266 u267 u268 u269 u270 u271 u272 u273 u274 u275 u276 u277 u278 u279 u280 u281 u282 u283 u284 u285 u286 u287 u288 u289 u290 u291 u292 u293 u294 u295 u296 u297 u298 u299 u300 u301 u302 u303 u304 u305 u306 u307 u308 u309 u310 u311 u312 u313 u314 u315 u316 u317 u318 u319 u320 u321 u322 u323 u324 u325 u326 u327 u328 u329 u330 u331 u332 u333 u334 u335 u336 u337 u338 : Value) (mkind : Int) (mqc mqs mqk mqkey mqv mqhi mqto : Int) (mpc mps mpkey mpk : Int) (mpf : Bool) (mpv mpg : Int) (mn mid mslot : Int) (mckind : Int) (mcqc mcqs mcqk mcqkey mcqv mcqhi mcqto : Int) (mcrsrc mcrdst mcrseq mcrlo mcrhi : Int) (mcrra : Option Addr) (mcrrn mcrrc : Nat) (mcrda : Option Addr) (mcrdn mcrdc : Nat) (mcpeer mcsq : Int) (mva : Option Addr) (mvn mvc : Nat) (mrsrc mrdst mrseq mrlo mrhi : Int) (mrra : Option Addr) (mrrn mrrc : Nat) (mrda : Option Addr) (mrdn mrdc : Nat) (mpeer msq : Int) (mcrrows mrrows : List Row) (mcrdups mrdups : List Rep) (r1a : Option Addr) (r1c : Nat) (r2a : Option Addr) (r2c : Nat) (c1a : Option Addr) (c1c : Nat) (c2a : Option Addr) (c2c : Nat) (va : Option Addr) (vc : Nat) (k bP bL : Nat) (wq wn : World) (hk8 : k < 8) (Hn4 : Hid (Below wq.heap.size wq wn))
    (HW : Hid (wq.heap[bP]? = some (.cells (List.toArray (α := Value) (.int .u8 mkind :: .int .u8 mqc :: .int .u32 mqs :: .int .u8 mqk :: .int .u64 mqkey :: .int .u64 mqv :: .int .u64 mqhi :: .int .u8 mqto :: .int .u8 mpc :: .int .u32 mps :: .int .u64 mpkey :: .int .u8 mpk :: .bool mpf :: .int .u64 mpv :: .int .u8 mpg :: .int .u32 mn :: .int .u8 mid :: .int .u32 mslot :: .int .u8 mckind :: .int .u8 mcqc :: .int .u32 mcqs :: .int .u8 mcqk :: .int .u64 mcqkey :: .int .u64 mcqv :: .int .u64 mcqhi :: .int .u8 mcqto :: .int .u8 mcrsrc :: .int .u8 mcrdst :: .int .u32 mcrseq :: .int .u64 mcrlo :: .int .u64 mcrhi :: .slice c1a mcrrn c1c :: .slice c2a mcrdn c2c :: .int .u8 mcpeer :: .int .u32 mcsq :: .slice va mvn vc :: .int .u8 mrsrc :: .int .u8 mrdst :: .int .u32 mrseq :: .int .u64 mrlo :: .int .u64 mrhi :: .slice r1a mrrn r1c :: .slice r2a mrdn r2c :: .int .u8 mpeer :: .int .u32 msq :: [])) 38))) (HatN : Hid (∀ w', Below wq.heap.size wq w' → ∀ (j : Nat) (u : Value), ((.int .u8 mkind :: .int .u8 mqc :: .int .u32 mqs :: .int .u8 mqk :: .int .u64 mqkey :: .int .u64 mqv :: .int .u64 mqhi :: .int .u8 mqto :: .int .u8 mpc :: .int .u32 mps :: .int .u64 mpkey :: .int .u8 mpk :: .bool mpf :: .int .u64 mpv :: .int .u8 mpg :: .int .u32 mn :: .int .u8 mid :: .int .u32 mslot :: .int .u8 mckind :: .int .u8 mcqc :: .int .u32 mcqs :: .int .u8 mcqk :: .int .u64 mcqkey :: .int .u64 mcqv :: .int .u64 mcqhi :: .int .u8 mcqto :: .int .u8 mcrsrc :: .int .u8 mcrdst :: .int .u32 mcrseq :: .int .u64 mcrlo :: .int .u64 mcrhi :: .slice mcrra mcrrn mcrrc :: .slice mcrda mcrdn mcrdc :: .int .u8 mcpeer :: .int .u32 mcsq :: .slice mva mvn mvc :: .int .u8 mrsrc :: .int .u8 mrdst :: .int .u32 mrseq :: .int .u64 mrlo :: .int .u64 mrhi :: .slice mrra mrrn mrrc :: .slice mrda mrdn mrdc :: .int .u8 mpeer :: .int .u32 msq :: []) : List Value)[j]? = some u → w'.cell? ⟨bL, k * 45 + j, none⟩ = some u))
    (s1 : SlIn wq.heap.size wq ⟨r1a, mrrn, r1c⟩ 2 (mrrows.map Row.cells)) (s2 : SlIn wq.heap.size wq ⟨r2a, mrdn, r2c⟩ 7 (mrdups.map Rep.cells)) (_s3 : SlIn wq.heap.size wq ⟨c1a, mcrrn, c1c⟩ 2 (mcrrows.map Row.cells)) (_s4 : SlIn wq.heap.size wq ⟨c2a, mcrdn, c2c⟩ 7 (mcrdups.map Rep.cells))
    (t1 : SlIn wq.heap.size wq ⟨mrra, mrrn, mrrc⟩ 2 (mrrows.map Row.cells)) (t2 : SlIn wq.heap.size wq ⟨mrda, mrdn, mrdc⟩ 7 (mrdups.map Rep.cells)) (_t3 : SlIn wq.heap.size wq ⟨mcrra, mcrrn, mcrrc⟩ 2 (mcrrows.map Row.cells)) (_t4 : SlIn wq.heap.size wq ⟨mcrda, mcrdn, mcrdc⟩ 7 (mcrdups.map Rep.cells))
    (K : Act → World → Prop) (Q0 : Exit → Act → World → Prop) (hK : ∀ (v283 v284 v285 v286 v287 v288 v289 v290 : Value) (wx : World), Below wq.heap.size wq wx → K { tmps := (List.toArray (α := Value) (u0 :: u1 :: u2 :: u3 :: u4 :: u5 :: u6 :: u7 :: u8 :: u9 :: u10 :: u11 :: u12 :: u13 :: u14 :: u15 :: u16 :: .slice (some ⟨bL, 0, none⟩) 8 8 :: .int .i64 k :: u19 :: u20 :: .pointer (some ⟨bP, 0, none⟩) :: u22 :: u23 :: u24 :: u25 :: u26 :: u27 :: u28 :: u29 :: .bool true :: u31 :: u32 :: u33 :: u34 :: u35 :: u36 :: u37 :: u38 :: u39 :: u40 :: u41 :: u42 :: u43 :: u44 :: u45 :: u46 :: u47 :: u48 :: u49 :: u50 :: u51 :: u52 :: u53 :: u54 :: u55 :: u56 :: u57 :: u58 :: u59 :: u60 :: u61 :: u62 :: u63 :: u64 :: u65 :: u66 :: u67 :: u68 :: u69 :: u70 :: u71 :: u72 :: u73 :: u74 :: u75 :: u76 :: u77 :: u78 :: u79 :: u80 :: u81 :: u82 :: u83 :: u84 :: u85 :: u86 :: u87 :: u88 :: u89 :: u90 :: u91 :: u92 :: u93 :: u94 :: u95 :: u96 :: u97 :: u98 :: u99 :: u100 :: u101 :: u102 :: u103 :: u104 :: u105 :: u106 :: u107 :: u108 :: u109 :: u110 :: u111 :: u112 :: u113 :: u114 :: u115 :: u116 :: u117 :: u118 :: u119 :: u120 :: u121 :: u122 :: u123 :: u124 :: u125 :: u126 :: u127 :: u128 :: u129 :: u130 :: u131 :: u132 :: u133 :: u134 :: u135 :: u136 :: u137 :: u138 :: u139 :: u140 :: u141 :: u142 :: u143 :: u144 :: u145 :: u146 :: u147 :: u148 :: u149 :: u150 :: u151 :: u152 :: u153 :: u154 :: u155 :: u156 :: u157 :: u158 :: u159 :: u160 :: u161 :: u162 :: u163 :: u164 :: u165 :: u166 :: u167 :: u168 :: u169 :: u170 :: u171 :: u172 :: u173 :: u174 :: u175 :: u176 :: u177 :: u178 :: u179 :: u180 :: u181 :: u182 :: u183 :: u184 :: u185 :: u186 :: u187 :: u188 :: u189 :: u190 :: u191 :: u192 :: u193 :: u194 :: u195 :: u196 :: u197 :: u198 :: u199 :: u200 :: u201 :: u202 :: u203 :: u204 :: u205 :: u206 :: u207 :: u208 :: u209 :: u210 :: u211 :: u212 :: u213 :: u214 :: u215 :: u216 :: u217 :: u218 :: u219 :: u220 :: u221 :: u222 :: u223 :: u224 :: u225 :: u226 :: u227 :: u228 :: u229 :: u230 :: u231 :: u232 :: u233 :: u234 :: u235 :: u236 :: u237 :: u238 :: u239 :: u240 :: u241 :: u242 :: u243 :: u244 :: u245 :: u246 :: u247 :: u248 :: u249 :: u250 :: u251 :: u252 :: u253 :: u254 :: u255 :: u256 :: u257 :: u258 :: u259 :: u260 :: u261 :: u262 :: u263 :: u264 :: u265 :: u266 :: u267 :: u268 :: u269 :: u270 :: u271 :: u272 :: u273 :: u274 :: u275 :: u276 :: u277 :: u278 :: u279 :: u280 :: u281 :: u282 :: v283 :: v284 :: v285 :: v286 :: v287 :: v288 :: v289 :: v290 :: u291 :: u292 :: u293 :: u294 :: u295 :: u296 :: u297 :: u298 :: u299 :: u300 :: u301 :: u302 :: u303 :: u304 :: u305 :: u306 :: u307 :: u308 :: u309 :: u310 :: u311 :: u312 :: u313 :: u314 :: u315 :: u316 :: u317 :: u318 :: u319 :: u320 :: u321 :: u322 :: u323 :: u324 :: u325 :: u326 :: u327 :: u328 :: u329 :: u330 :: u331 :: u332 :: u333 :: u334 :: u335 :: u336 :: u337 :: u338 :: [])), defers := [] } wx) :
    r.wp Try.prog (Exit.then K Q0) { tmps := (List.toArray (α := Value) (u0 :: u1 :: u2 :: u3 :: u4 :: u5 :: u6 :: u7 :: u8 :: u9 :: u10 :: u11 :: u12 :: u13 :: u14 :: u15 :: u16 :: .slice (some ⟨bL, 0, none⟩) 8 8 :: .int .i64 k :: u19 :: u20 :: .pointer (some ⟨bP, 0, none⟩) :: u22 :: u23 :: u24 :: u25 :: u26 :: u27 :: u28 :: u29 :: u30 :: u31 :: u32 :: u33 :: u34 :: u35 :: u36 :: u37 :: u38 :: u39 :: u40 :: u41 :: u42 :: u43 :: u44 :: u45 :: u46 :: u47 :: u48 :: u49 :: u50 :: u51 :: u52 :: u53 :: u54 :: u55 :: u56 :: u57 :: u58 :: u59 :: u60 :: u61 :: u62 :: u63 :: u64 :: u65 :: u66 :: u67 :: u68 :: u69 :: u70 :: u71 :: u72 :: u73 :: u74 :: u75 :: u76 :: u77 :: u78 :: u79 :: u80 :: u81 :: u82 :: u83 :: u84 :: u85 :: u86 :: u87 :: u88 :: u89 :: u90 :: u91 :: u92 :: u93 :: u94 :: u95 :: u96 :: u97 :: u98 :: u99 :: u100 :: u101 :: u102 :: u103 :: u104 :: u105 :: u106 :: u107 :: u108 :: u109 :: u110 :: u111 :: u112 :: u113 :: u114 :: u115 :: u116 :: u117 :: u118 :: u119 :: u120 :: u121 :: u122 :: u123 :: u124 :: u125 :: u126 :: u127 :: u128 :: u129 :: u130 :: u131 :: u132 :: u133 :: u134 :: u135 :: u136 :: u137 :: u138 :: u139 :: u140 :: u141 :: u142 :: u143 :: u144 :: u145 :: u146 :: u147 :: u148 :: u149 :: u150 :: u151 :: u152 :: u153 :: u154 :: u155 :: u156 :: u157 :: u158 :: u159 :: u160 :: u161 :: u162 :: u163 :: u164 :: u165 :: u166 :: u167 :: u168 :: u169 :: u170 :: u171 :: u172 :: u173 :: u174 :: u175 :: u176 :: u177 :: u178 :: u179 :: u180 :: u181 :: u182 :: u183 :: u184 :: u185 :: u186 :: u187 :: u188 :: u189 :: u190 :: u191 :: u192 :: u193 :: u194 :: u195 :: u196 :: u197 :: u198 :: u199 :: u200 :: u201 :: u202 :: u203 :: u204 :: u205 :: u206 :: u207 :: u208 :: u209 :: u210 :: u211 :: u212 :: u213 :: u214 :: u215 :: u216 :: u217 :: u218 :: u219 :: u220 :: u221 :: u222 :: u223 :: u224 :: u225 :: u226 :: u227 :: u228 :: u229 :: u230 :: u231 :: u232 :: u233 :: u234 :: u235 :: u236 :: u237 :: u238 :: u239 :: u240 :: u241 :: u242 :: u243 :: u244 :: u245 :: u246 :: u247 :: u248 :: u249 :: u250 :: u251 :: u252 :: u253 :: u254 :: u255 :: u256 :: u257 :: u258 :: u259 :: u260 :: u261 :: u262 :: u263 :: u264 :: u265 :: u266 :: u267 :: u268 :: u269 :: u270 :: u271 :: u272 :: u273 :: u274 :: u275 :: u276 :: u277 :: u278 :: u279 :: u280 :: u281 :: u282 :: u283 :: u284 :: u285 :: u286 :: u287 :: u288 :: u289 :: u290 :: u291 :: u292 :: u293 :: u294 :: u295 :: u296 :: u297 :: u298 :: u299 :: u300 :: u301 :: u302 :: u303 :: u304 :: u305 :: u306 :: u307 :: u308 :: u309 :: u310 :: u311 :: u312 :: u313 :: u314 :: u315 :: u316 :: u317 :: u318 :: u319 :: u320 :: u321 :: u322 :: u323 :: u324 :: u325 :: u326 :: u327 :: u328 :: u329 :: u330 :: u331 :: u332 :: u333 :: u334 :: u335 :: u336 :: u337 :: u338 :: [])), defers := [] } wn := by
  injection hc with k0
  injection k0 with e0 k1
  clear e0
  injection k1 with e1 k2
  clear e1
  injection k2 with e2 k3
  clear e2
  injection k3 with e3 k4
  clear e3
  injection k4 with e4 k5
  clear e4
  injection k5 with e5 k6
  clear e5
  injection k6 with e6 k7
  clear e6
  injection k7 with e7 k8
  clear e7
  injection k8 with k9 e8
  injection k9 with e9 k10
  injection k10 with en k11
  injection k11 with k12
  injection k12 with e10 k13
  injection k13 with k14 e11
  injection k14 with em k15
  injection k15 with d0 k16
  clear d0
  injection k16 with d1 k17
  clear d1
  injection k17 with d2 k18
  clear d2
  injection k18 with d3 k19
  clear d3
  injection k19 with d4 k20
  clear d4
  injection k20 with d5 k21
  clear d5
  injection k21 with d6 k22
  clear d6
  injection k22 with kr kc
  subst kr
  clear e8 e9 en e10 e11 em kc
  have HK := hideU hK
  clear hK
  have hi0 : (0 : Int) ≤ (k : Int) := by omega
  have hi1 : (k : Int) < 8 := by omega
  refine wp_region_noPanic ?_
  refine wp_region_held_drew (S := fun w' => Below wq.heap.size wq w') (by kernel_rfl) Hn4.out.drew (fun hHeld => ?_)
  refine wpAnyH_take (i := 0) (oi := _) (v := ?_) rfl (by kernel_rfl) (by kernel_rfl) (by kernel_rfl) (fun _ _ _ h => h) (Or.inl ⟨by rfl, ?_⟩) (by assumption) ?_
  rotate_left 1
  · intro w hSw
    (try dsimp only at hSw)
    go_simp
    try with_reducible rfl
  try simp only [Act.put, List.setIfInBounds_toArray]
  refine wpAnyH_take (i := 1) (oi := _) (v := _) rfl (by kernel_rfl) (by kernel_rfl) (by kernel_rfl) (fun _ _ _ h => h) (yieldsIf_load_mid (by rfl) _ _ rfl bP (36) rfl [.int .u8 mrsrc, .int .u8 mrdst, .int .u32 mrseq, .int .u64 mrlo, .int .u64 mrhi, .slice r1a mrrn r1c, .slice r2a mrdn r2c] _ (fun w' hb => range_blk (n := 7) (blk_later hb HW.out) rfl) Try.underlying33 rfl sz_rng) (by assumption) ?_
  try simp only [Act.put]
  refine wpAnyH_take (i := 2) (oi := _) (v := ?_) rfl (by kernel_rfl) (by kernel_rfl) (by kernel_rfl) (fun _ _ _ h => h) (Or.inl ⟨by rfl, ?_⟩) (by assumption) ?_
  rotate_left 1
  · intro w hSw
    (try dsimp only at hSw)
    go_simp
    try with_reducible rfl
  try simp only [Act.put]
  refine wpAnyH_take (i := 3) (oi := _) (v := ?_) rfl (by kernel_rfl) (by kernel_rfl) (by kernel_rfl) (fun _ _ _ h => h) (Or.inl ⟨by rfl, ?_⟩) (by assumption) ?_
  rotate_left 1
  · intro w hSw
    (try dsimp only at hSw)
    go_simp
    try with_reducible rfl
  try simp only [Act.put]
  refine wpAnyH_take (i := 4) (oi := _) (v := ?_) rfl (by kernel_rfl) (by kernel_rfl) (by kernel_rfl) (fun _ _ _ h => h) (Or.inl ⟨by rfl, ?_⟩) (by assumption) ?_
  rotate_left 1
  · intro w hSw
    (try dsimp only at hSw)
    go_simp
    try with_reducible rfl
  try simp only [Act.put]
  refine wpAnyH_take (i := 5) (oi := _) (v := ?_) rfl (by kernel_rfl) (by kernel_rfl) (by kernel_rfl) (fun _ _ _ h => h) (Or.inl ⟨by rfl, ?_⟩) (by assumption) ?_
  rotate_left 1
  · intro w hSw
    (try dsimp only at hSw)
    go_simp
    try with_reducible rfl
  try simp only [Act.put]
  refine wpAnyH_take (i := 6) (oi := _) (v := _) rfl (by kernel_rfl) (by kernel_rfl) (by kernel_rfl) (fun _ _ _ h => h) (yieldsIf_load_mid (by rfl) _ _ rfl bL (k * 45 + 36) rfl [.int .u8 mrsrc, .int .u8 mrdst, .int .u32 mrseq, .int .u64 mrlo, .int .u64 mrhi, .slice mrra mrrn mrrc, .slice mrda mrdn mrdc] _ (fun w' hb => range_at (n := 7) (HatN.out _ hb) rfl) Try.underlying33 rfl sz_rng) (by assumption) ?_
  try simp only [Act.put]
  refine wpAnyH_ready (rs := [7]) (by kernel_rfl) (by simp) ?_
  refine AllReadyH.cons (o := _) rfl (fun K hK => ?_) AllReadyH.nil
  go_simp
  go_at_call 27; refine (ksamerange_any _ _ _ _ _ _ _ _ _ _ _ _ _ _ _ _ _ mrrows mrdups _ (s1.later hHeld) (s2.later hHeld) (t1.later hHeld) (t2.later hHeld)).mono ?_; rintro e w8 ⟨rfl, hb8⟩
  try go_wp2_with fail
  refine hK.out _ _ (later_trans hHeld hb8) (fun hHeld2 => ?_)
  clear hK K
  try simp only [Act.put, List.setIfInBounds_toArray, List.set_cons_zero, List.set_cons_succ]
  refine wpAnyH_ready (rs := [8]) (by kernel_rfl) (by simp) ?_
  refine AllReadyH.cons (o := _) rfl (fun K hK => ?_) AllReadyH.nil
  go_simp
  refine hK.out _ _ hHeld2 (fun _ => ?_)
  clear hK K
  refine wpAnyH_done (by kernel_rfl) ?_ _
  refine NoPanic.normal ?_
  go_wp2_with fail
  exact HK.out _ _ _ _ _ _ _ _ _ hHeld2

end Go.Proofs.Ytignemioillaiaa

namespace Go.Proofs.Ytignemioillaiaa
open Go.RowKit

set_option maxHeartbeats 40000000 in
set_option maxRecDepth 100000 in
theorem round_25 {r c a0 a1 a2 a3 a4 a5 a6 a7 a8 a9 a10 a11 b0 b1 b2 b3 b4 b5 b6 b7 : Code} {n0 n1 : Nat} (hc : Try.f7.body = some (a0.seq (a1.seq (a2.seq (a3.seq (a4.seq (a5.seq (a6.seq (a7.seq ((a8.seq (Code.block n0 (Code.loop (a9.seq ((Code.block n1 (b0.seq (b1.seq (b2.seq (b3.seq (b4.seq (b5.seq (b6.seq (b7.seq (r.seq c)))))))))).seq a10))))).seq a11)))))))))) (u0 u1 u2 u3 u4 u5 u6 u7 u8 u9 u10 u11 u12 u13 u14 u15 u16 u19 u20 u22 u23 u24 u25 u26 u27 u28 u29 u30 u31 u32 u33 u34 u35 u36 u37 u38 u39 u40 u41 u42 u43 u44 u45 u46 u47 u48 u49 u50 u51 u52 u53 u54 u55 u56 u57 u58 u59 u60 u61 u62 u63 u64 u65 u66 u67 u68 u69 u70 u71 u72 u73 u74 u75 u76 u77 u78 u79 u80 u81 u82 u83 u84 u85 u86 u87 u88 u89 u90 u91 u92 u93 u94 u95 u96 u97 u98 u99 u100 u101 u102 u103 u104 u105 u106 u107 u108 u109 u110 u111 u112 u113 u114 u115 u116 u117 u118 u119 u120 u121 u122 u123 u124 u125 u126 u127 u128 u129 u130 u131 u132 u133 u134 u135 u136 u137 u138 u139 u140 u141 u142 u143 u144 u145 u146 u147 u148 u149 u150 u151 u152 u153 u154 u155 u156 u157 u158 u159 u160 u161 u162 u163 u164 u165 u166 u167 u168 u169 u170 u171 u172 u173 u174 u175 u176 u177 u178 u179 u180 u181 u182 u183 u184 u185 u186 u187 u188 u189 u190 u191 u192 u193 u194 u195 u196 u197 u198 u199 u200 u201 u202 u203 u204 u205 u206 u207 u208 u209 u210 u211 u212 u213 u214 u215 u216 u217 u218 u219 u220 u221 u222 u223 u224 u225 u226 u227 u228 u229 u230 u231 u232 u233 u234 u235 u236 u237 u238 u239 u240 u241 u242 u243 u244 u245 u246 u247 u248 u249 u250 u251 u252 u253 u254 u255 u256 u257 u258 u259 u260 u261 u262 u263 u264 u265 u266 u267 u268 u269 u270 u271 u272 u273 u274 u275 u276 u277 u278 u279 u280 u281 u282 u283 u284 u285 u286 u287 u288 u289 u290 u291 u292 u293 u294 u295 u296 u297 u298 u299 u300 u301 u302 u303 u304 u305 u306 u307 u308 u309 u310 u311 u312 u313 u314 u315 u316 u317 u318 u319 u320 u321 u322 u323 u324 u325 u326 u327 u328 u329 u330 u331 u332 u333 u334 u335 u336 u337 u338 : Value) (mkind : Int) (mqc mqs mqk mqkey mqv mqhi mqto : Int) (mpc mps mpkey mpk : Int) (mpf : Bool) (mpv mpg : Int) (mn mid mslot : Int) (mckind : Int) (mcqc mcqs mcqk mcqkey mcqv mcqhi mcqto : Int) (mcrsrc mcrdst mcrseq mcrlo mcrhi : Int) (mcrra : Option Addr) (mcrrn mcrrc : Nat) (mcrda : Option Addr) (mcrdn mcrdc : Nat) (mcpeer mcsq : Int) (mva : Option Addr) (mvn mvc : Nat) (mrsrc mrdst mrseq mrlo mrhi : Int) (mrra : Option Addr) (mrrn mrrc : Nat) (mrda : Option Addr) (mrdn mrdc : Nat) (mpeer msq : Int) (mcrrows mrrows : List Row) (mcrdups mrdups : List Rep) (r1a : Option Addr) (r1c : Nat) (r2a : Option Addr) (r2c : Nat) (c1a : Option Addr) (c1c : Nat) (c2a : Option Addr) (c2c : Nat) (va : Option Addr) (vc : Nat) (k bP bL : Nat) (wq wn : World) (hk8 : k < 8) (Hn4 : Hid (Below wq.heap.size wq wn))
    (HW : Hid (wq.heap[bP]? = some (.cells (List.toArray (α := Value) (.int .u8 mkind :: .int .u8 mqc :: .int .u32 mqs :: .int .u8 mqk :: .int .u64 mqkey :: .int .u64 mqv :: .int .u64 mqhi :: .int .u8 mqto :: .int .u8 mpc :: .int .u32 mps :: .int .u64 mpkey :: .int .u8 mpk :: .bool mpf :: .int .u64 mpv :: .int .u8 mpg :: .int .u32 mn :: .int .u8 mid :: .int .u32 mslot :: .int .u8 mckind :: .int .u8 mcqc :: .int .u32 mcqs :: .int .u8 mcqk :: .int .u64 mcqkey :: .int .u64 mcqv :: .int .u64 mcqhi :: .int .u8 mcqto :: .int .u8 mcrsrc :: .int .u8 mcrdst :: .int .u32 mcrseq :: .int .u64 mcrlo :: .int .u64 mcrhi :: .slice c1a mcrrn c1c :: .slice c2a mcrdn c2c :: .int .u8 mcpeer :: .int .u32 mcsq :: .slice va mvn vc :: .int .u8 mrsrc :: .int .u8 mrdst :: .int .u32 mrseq :: .int .u64 mrlo :: .int .u64 mrhi :: .slice r1a mrrn r1c :: .slice r2a mrdn r2c :: .int .u8 mpeer :: .int .u32 msq :: [])) 38))) (HatN : Hid (∀ w', Below wq.heap.size wq w' → ∀ (j : Nat) (u : Value), ((.int .u8 mkind :: .int .u8 mqc :: .int .u32 mqs :: .int .u8 mqk :: .int .u64 mqkey :: .int .u64 mqv :: .int .u64 mqhi :: .int .u8 mqto :: .int .u8 mpc :: .int .u32 mps :: .int .u64 mpkey :: .int .u8 mpk :: .bool mpf :: .int .u64 mpv :: .int .u8 mpg :: .int .u32 mn :: .int .u8 mid :: .int .u32 mslot :: .int .u8 mckind :: .int .u8 mcqc :: .int .u32 mcqs :: .int .u8 mcqk :: .int .u64 mcqkey :: .int .u64 mcqv :: .int .u64 mcqhi :: .int .u8 mcqto :: .int .u8 mcrsrc :: .int .u8 mcrdst :: .int .u32 mcrseq :: .int .u64 mcrlo :: .int .u64 mcrhi :: .slice mcrra mcrrn mcrrc :: .slice mcrda mcrdn mcrdc :: .int .u8 mcpeer :: .int .u32 mcsq :: .slice mva mvn mvc :: .int .u8 mrsrc :: .int .u8 mrdst :: .int .u32 mrseq :: .int .u64 mrlo :: .int .u64 mrhi :: .slice mrra mrrn mrrc :: .slice mrda mrdn mrdc :: .int .u8 mpeer :: .int .u32 msq :: []) : List Value)[j]? = some u → w'.cell? ⟨bL, k * 45 + j, none⟩ = some u))
    (_s1 : SlIn wq.heap.size wq ⟨r1a, mrrn, r1c⟩ 2 (mrrows.map Row.cells)) (_s2 : SlIn wq.heap.size wq ⟨r2a, mrdn, r2c⟩ 7 (mrdups.map Rep.cells)) (s3 : SlIn wq.heap.size wq ⟨c1a, mcrrn, c1c⟩ 2 (mcrrows.map Row.cells)) (s4 : SlIn wq.heap.size wq ⟨c2a, mcrdn, c2c⟩ 7 (mcrdups.map Rep.cells))
    (_t1 : SlIn wq.heap.size wq ⟨mrra, mrrn, mrrc⟩ 2 (mrrows.map Row.cells)) (_t2 : SlIn wq.heap.size wq ⟨mrda, mrdn, mrdc⟩ 7 (mrdups.map Rep.cells)) (t3 : SlIn wq.heap.size wq ⟨mcrra, mcrrn, mcrrc⟩ 2 (mcrrows.map Row.cells)) (t4 : SlIn wq.heap.size wq ⟨mcrda, mcrdn, mcrdc⟩ 7 (mcrdups.map Rep.cells))
    (K : Act → World → Prop) (Q0 : Exit → Act → World → Prop) (hK : ∀ (v291 v292 v293 v294 v295 v296 v297 v298 : Value) (wx : World), Below wq.heap.size wq wx → K { tmps := (List.toArray (α := Value) (u0 :: u1 :: u2 :: u3 :: u4 :: u5 :: u6 :: u7 :: u8 :: u9 :: u10 :: u11 :: u12 :: u13 :: u14 :: u15 :: u16 :: .slice (some ⟨bL, 0, none⟩) 8 8 :: .int .i64 k :: u19 :: u20 :: .pointer (some ⟨bP, 0, none⟩) :: u22 :: u23 :: u24 :: u25 :: u26 :: u27 :: u28 :: u29 :: u30 :: .bool true :: u32 :: u33 :: u34 :: u35 :: u36 :: u37 :: u38 :: u39 :: u40 :: u41 :: u42 :: u43 :: u44 :: u45 :: u46 :: u47 :: u48 :: u49 :: u50 :: u51 :: u52 :: u53 :: u54 :: u55 :: u56 :: u57 :: u58 :: u59 :: u60 :: u61 :: u62 :: u63 :: u64 :: u65 :: u66 :: u67 :: u68 :: u69 :: u70 :: u71 :: u72 :: u73 :: u74 :: u75 :: u76 :: u77 :: u78 :: u79 :: u80 :: u81 :: u82 :: u83 :: u84 :: u85 :: u86 :: u87 :: u88 :: u89 :: u90 :: u91 :: u92 :: u93 :: u94 :: u95 :: u96 :: u97 :: u98 :: u99 :: u100 :: u101 :: u102 :: u103 :: u104 :: u105 :: u106 :: u107 :: u108 :: u109 :: u110 :: u111 :: u112 :: u113 :: u114 :: u115 :: u116 :: u117 :: u118 :: u119 :: u120 :: u121 :: u122 :: u123 :: u124 :: u125 :: u126 :: u127 :: u128 :: u129 :: u130 :: u131 :: u132 :: u133 :: u134 :: u135 :: u136 :: u137 :: u138 :: u139 :: u140 :: u141 :: u142 :: u143 :: u144 :: u145 :: u146 :: u147 :: u148 :: u149 :: u150 :: u151 :: u152 :: u153 :: u154 :: u155 :: u156 :: u157 :: u158 :: u159 :: u160 :: u161 :: u162 :: u163 :: u164 :: u165 :: u166 :: u167 :: u168 :: u169 :: u170 :: u171 :: u172 :: u173 :: u174 :: u175 :: u176 :: u177 :: u178 :: u179 :: u180 :: u181 :: u182 :: u183 :: u184 :: u185 :: u186 :: u187 :: u188 :: u189 :: u190 :: u191 :: u192 :: u193 :: u194 :: u195 :: u196 :: u197 :: u198 :: u199 :: u200 :: u201 :: u202 :: u203 :: u204 :: u205 :: u206 :: u207 :: u208 :: u209 :: u210 :: u211 :: u212 :: u213 :: u214 :: u215 :: u216 :: u217 :: u218 :: u219 :: u220 :: u221 :: u222 :: u223 :: u224 :: u225 :: u226 :: u227 :: u228 :: u229 :: u230 :: u231 :: u232 :: u233 :: u234 :: u235 :: u236 :: u237 :: u238 :: u239 :: u240 :: u241 :: u242 :: u243 :: u244 :: u245 :: u246 :: u247 :: u248 :: u249 :: u250 :: u251 :: u252 :: u253 :: u254 :: u255 :: u256 :: u257 :: u258 :: u259 :: u260 :: u261 :: u262 :: u263 :: u264 :: u265 :: u266 :: u267 :: u268 :: u269 :: u270 :: u271 :: u272 :: u273 :: u274 :: u275 :: u276 :: u277 :: u278 :: u279 :: u280 :: u281 :: u282 :: u283 :: u284 :: u285 :: u286 :: u287 :: u288 :: u289 :: u290 :: v291 :: v292 :: v293 :: v294 :: v295 :: v296 :: v297 :: v298 :: u299 :: u300 :: u301 :: u302 :: u303 :: u304 :: u305 :: u306 :: u307 :: u308 :: u309 :: u310 :: u311 :: u312 :: u313 :: u314 :: u315 :: u316 :: u317 :: u318 :: u319 :: u320 :: u321 :: u322 :: u323 :: u324 :: u325 :: u326 :: u327 :: u328 :: u329 :: u330 :: u331 :: u332 :: u333 :: u334 :: u335 :: u336 :: u337 :: u338 :: [])), defers := [] } wx) :
    r.wp Try.prog (Exit.then K Q0) { tmps := (List.toArray (α := Value) (u0 :: u1 :: u2 :: u3 :: u4 :: u5 :: u6 :: u7 :: u8 :: u9 :: u10 :: u11 :: u12 :: u13 :: u14 :: u15 :: u16 :: .slice (some ⟨bL, 0, none⟩) 8 8 :: .int .i64 k :: u19 :: u20 :: .pointer (some ⟨bP, 0, none⟩) :: u22 :: u23 :: u24 :: u25 :: u26 :: u27 :: u28 :: u29 :: u30 :: u31 :: u32 :: u33 :: u34 :: u35 :: u36 :: u37 :: u38 :: u39 :: u40 :: u41 :: u42 :: u43 :: u44 :: u45 :: u46 :: u47 :: u48 :: u49 :: u50 :: u51 :: u52 :: u53 :: u54 :: u55 :: u56 :: u57 :: u58 :: u59 :: u60 :: u61 :: u62 :: u63 :: u64 :: u65 :: u66 :: u67 :: u68 :: u69 :: u70 :: u71 :: u72 :: u73 :: u74 :: u75 :: u76 :: u77 :: u78 :: u79 :: u80 :: u81 :: u82 :: u83 :: u84 :: u85 :: u86 :: u87 :: u88 :: u89 :: u90 :: u91 :: u92 :: u93 :: u94 :: u95 :: u96 :: u97 :: u98 :: u99 :: u100 :: u101 :: u102 :: u103 :: u104 :: u105 :: u106 :: u107 :: u108 :: u109 :: u110 :: u111 :: u112 :: u113 :: u114 :: u115 :: u116 :: u117 :: u118 :: u119 :: u120 :: u121 :: u122 :: u123 :: u124 :: u125 :: u126 :: u127 :: u128 :: u129 :: u130 :: u131 :: u132 :: u133 :: u134 :: u135 :: u136 :: u137 :: u138 :: u139 :: u140 :: u141 :: u142 :: u143 :: u144 :: u145 :: u146 :: u147 :: u148 :: u149 :: u150 :: u151 :: u152 :: u153 :: u154 :: u155 :: u156 :: u157 :: u158 :: u159 :: u160 :: u161 :: u162 :: u163 :: u164 :: u165 :: u166 :: u167 :: u168 :: u169 :: u170 :: u171 :: u172 :: u173 :: u174 :: u175 :: u176 :: u177 :: u178 :: u179 :: u180 :: u181 :: u182 :: u183 :: u184 :: u185 :: u186 :: u187 :: u188 :: u189 :: u190 :: u191 :: u192 :: u193 :: u194 :: u195 :: u196 :: u197 :: u198 :: u199 :: u200 :: u201 :: u202 :: u203 :: u204 :: u205 :: u206 :: u207 :: u208 :: u209 :: u210 :: u211 :: u212 :: u213 :: u214 :: u215 :: u216 :: u217 :: u218 :: u219 :: u220 :: u221 :: u222 :: u223 :: u224 :: u225 :: u226 :: u227 :: u228 :: u229 :: u230 :: u231 :: u232 :: u233 :: u234 :: u235 :: u236 :: u237 :: u238 :: u239 :: u240 :: u241 :: u242 :: u243 :: u244 :: u245 :: u246 :: u247 :: u248 :: u249 :: u250 :: u251 :: u252 :: u253 :: u254 :: u255 :: u256 :: u257 :: u258 :: u259 :: u260 :: u261 :: u262 :: u263 :: u264 :: u265 :: u266 :: u267 :: u268 :: u269 :: u270 :: u271 :: u272 :: u273 :: u274 :: u275 :: u276 :: u277 :: u278 :: u279 :: u280 :: u281 :: u282 :: u283 :: u284 :: u285 :: u286 :: u287 :: u288 :: u289 :: u290 :: u291 :: u292 :: u293 :: u294 :: u295 :: u296 :: u297 :: u298 :: u299 :: u300 :: u301 :: u302 :: u303 :: u304 :: u305 :: u306 :: u307 :: u308 :: u309 :: u310 :: u311 :: u312 :: u313 :: u314 :: u315 :: u316 :: u317 :: u318 :: u319 :: u320 :: u321 :: u322 :: u323 :: u324 :: u325 :: u326 :: u327 :: u328 :: u329 :: u330 :: u331 :: u332 :: u333 :: u334 :: u335 :: u336 :: u337 :: u338 :: [])), defers := [] } wn := by
  injection hc with k0
  injection k0 with e0 k1
  clear e0
  injection k1 with e1 k2
  clear e1
  injection k2 with e2 k3
  clear e2
  injection k3 with e3 k4
  clear e3
  injection k4 with e4 k5
  clear e4
  injection k5 with e5 k6
  clear e5
  injection k6 with e6 k7
  clear e6
  injection k7 with e7 k8
  clear e7
  injection k8 with k9 e8
  injection k9 with e9 k10
  injection k10 with en k11
  injection k11 with k12
  injection k12 with e10 k13
  injection k13 with k14 e11
  injection k14 with em k15
  injection k15 with d0 k16
  clear d0
  injection k16 with d1 k17
  clear d1
  injection k17 with d2 k18
  clear d2
  injection k18 with d3 k19
  clear d3
  injection k19 with d4 k20
  clear d4
  injection k20 with d5 k21
  clear d5
  injection k21 with d6 k22
  clear d6
  injection k22 with d7 k23
  clear d7
  injection k23 with kr kc
  subst kr
  clear e8 e9 en e10 e11 em kc
  have HK := hideU hK
  clear hK
  have hi0 : (0 : Int) ≤ (k : Int) := by omega
  have hi1 : (k : Int) < 8 := by omega
  refine wp_region_noPanic ?_
  refine wp_region_held_drew (S := fun w' => Below wq.heap.size wq w') (by kernel_rfl) Hn4.out.drew (fun hHeld => ?_)
  refine wpAnyH_take (i := 0) (oi := _) (v := ?_) rfl (by kernel_rfl) (by kernel_rfl) (by kernel_rfl) (fun _ _ _ h => h) (Or.inl ⟨by rfl, ?_⟩) (by assumption) ?_
  rotate_left 1
  · intro w hSw
    (try dsimp only at hSw)
    go_simp
    try with_reducible rfl
  try simp only [Act.put, List.setIfInBounds_toArray]
  refine wpAnyH_take (i := 1) (oi := _) (v := _) rfl (by kernel_rfl) (by kernel_rfl) (by kernel_rfl) (fun _ _ _ h => h) (yieldsIf_load_mid (by rfl) _ _ rfl bP (18) rfl [.int .u8 mckind, .int .u8 mcqc, .int .u32 mcqs, .int .u8 mcqk, .int .u64 mcqkey, .int .u64 mcqv, .int .u64 mcqhi, .int .u8 mcqto, .int .u8 mcrsrc, .int .u8 mcrdst, .int .u32 mcrseq, .int .u64 mcrlo, .int .u64 mcrhi, .slice c1a mcrrn c1c, .slice c2a mcrdn c2c, .int .u8 mcpeer, .int .u32 mcsq] _ (fun w' hb => range_blk (n := 17) (blk_later hb HW.out) rfl) Try.underlying35 rfl sz_cmd) (by assumption) ?_
  try simp only [Act.put]
  refine wpAnyH_take (i := 2) (oi := _) (v := ?_) rfl (by kernel_rfl) (by kernel_rfl) (by kernel_rfl) (fun _ _ _ h => h) (Or.inl ⟨by rfl, ?_⟩) (by assumption) ?_
  rotate_left 1
  · intro w hSw
    (try dsimp only at hSw)
    go_simp
    try with_reducible rfl
  try simp only [Act.put]
  refine wpAnyH_take (i := 3) (oi := _) (v := ?_) rfl (by kernel_rfl) (by kernel_rfl) (by kernel_rfl) (fun _ _ _ h => h) (Or.inl ⟨by rfl, ?_⟩) (by assumption) ?_
  rotate_left 1
  · intro w hSw
    (try dsimp only at hSw)
    go_simp
    try with_reducible rfl
  try simp only [Act.put]
  refine wpAnyH_take (i := 4) (oi := _) (v := ?_) rfl (by kernel_rfl) (by kernel_rfl) (by kernel_rfl) (fun _ _ _ h => h) (Or.inl ⟨by rfl, ?_⟩) (by assumption) ?_
  rotate_left 1
  · intro w hSw
    (try dsimp only at hSw)
    go_simp
    try with_reducible rfl
  try simp only [Act.put]
  refine wpAnyH_take (i := 5) (oi := _) (v := ?_) rfl (by kernel_rfl) (by kernel_rfl) (by kernel_rfl) (fun _ _ _ h => h) (Or.inl ⟨by rfl, ?_⟩) (by assumption) ?_
  rotate_left 1
  · intro w hSw
    (try dsimp only at hSw)
    go_simp
    try with_reducible rfl
  try simp only [Act.put]
  refine wpAnyH_take (i := 6) (oi := _) (v := _) rfl (by kernel_rfl) (by kernel_rfl) (by kernel_rfl) (fun _ _ _ h => h) (yieldsIf_load_mid (by rfl) _ _ rfl bL (k * 45 + 18) rfl [.int .u8 mckind, .int .u8 mcqc, .int .u32 mcqs, .int .u8 mcqk, .int .u64 mcqkey, .int .u64 mcqv, .int .u64 mcqhi, .int .u8 mcqto, .int .u8 mcrsrc, .int .u8 mcrdst, .int .u32 mcrseq, .int .u64 mcrlo, .int .u64 mcrhi, .slice mcrra mcrrn mcrrc, .slice mcrda mcrdn mcrdc, .int .u8 mcpeer, .int .u32 mcsq] _ (fun w' hb => range_at (n := 17) (HatN.out _ hb) rfl) Try.underlying35 rfl sz_cmd) (by assumption) ?_
  try simp only [Act.put]
  refine wpAnyH_ready (rs := [7]) (by kernel_rfl) (by simp) ?_
  refine AllReadyH.cons (o := _) rfl (fun K hK => ?_) AllReadyH.nil
  go_simp
  go_at_call 28; refine (ksamecommand_any _ _ _ _ _ _ _ _ _ _ _ _ _ _ _ _ _ _ _ _ _ _ _ _ _ _ _ mcrrows mcrdups _ (s3.later hHeld) (s4.later hHeld) (t3.later hHeld) (t4.later hHeld)).mono ?_; rintro e w8 ⟨rfl, hb8⟩
  try go_wp2_with fail
  refine hK.out _ _ (later_trans hHeld hb8) (fun hHeld2 => ?_)
  clear hK K
  try simp only [Act.put, List.setIfInBounds_toArray, List.set_cons_zero, List.set_cons_succ]
  refine wpAnyH_ready (rs := [8]) (by kernel_rfl) (by simp) ?_
  refine AllReadyH.cons (o := _) rfl (fun K hK => ?_) AllReadyH.nil
  go_simp
  refine hK.out _ _ hHeld2 (fun _ => ?_)
  clear hK K
  refine wpAnyH_done (by kernel_rfl) ?_ _
  refine NoPanic.normal ?_
  go_wp2_with fail
  exact HK.out _ _ _ _ _ _ _ _ _ hHeld2

end Go.Proofs.Ytignemioillaiaa

