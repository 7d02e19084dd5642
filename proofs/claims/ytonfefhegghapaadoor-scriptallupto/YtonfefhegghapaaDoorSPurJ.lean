import Derived.Test.YtonfefhegghapaaDoorSConJ
import Derived.Deep.RegionHeldLaw
namespace Go.Proofs.YtonfefhegghapaaDoor
open Go.RowKit 

theorem results_cfg2 {fn : Func} {p u : Tmp} (h : fn.results = #[.cell p 23, .tmp u]) (tmps : Array Value) (w : World) (b : Nat) (n k d : Int) (hp : tmps.getD p undef = .pointer (some ⟨b, 0, none⟩)) (T : w.heap[b]? = some (.cells #[.int .i64 n, .int .i64 k, .int .i64 d] 23 (0, 0))) :
    (results fn tmps).run Tryd.prog w = .ok (.tuple #[.agg #[.int .i64 n, .int .i64 k, .int .i64 d], tmps.getD u undef]) w := by
  rw [results_cell_tmp h, hp]
  simp [asAddr, run_loadVar_row w b 23 23 _ (0, 0) _ T Tryd.underlying23 rfl (by kernel_rfl)]
theorem results_cfg3 {fn : Func} {p u v : Tmp} (h : fn.results = #[.cell p 23, .tmp u, .tmp v]) (tmps : Array Value) (w : World) (b : Nat) (n k d : Int) (hp : tmps.getD p undef = .pointer (some ⟨b, 0, none⟩)) (T : w.heap[b]? = some (.cells #[.int .i64 n, .int .i64 k, .int .i64 d] 23 (0, 0))) :
    (results fn tmps).run Tryd.prog w = .ok (.tuple #[.agg #[.int .i64 n, .int .i64 k, .int .i64 d], tmps.getD u undef, tmps.getD v undef]) w := by
  have e : (results fn tmps).run Tryd.prog w = ((asAddr (tmps.getD p undef)).run Tryd.prog w).andThen fun a w₁ => ((loadVar 23 a).run Tryd.prog w₁).andThen fun x w₂ => .ok (.tuple #[x, tmps.getD u undef, tmps.getD v undef]) w₂ := by
    simp only [results, h]
    simp [Sem.run_bind, Result.andThen]
  rw [e, hp]
  simp [asAddr, run_loadVar_row w b 23 23 _ (0, 0) _ T Tryd.underlying23 rfl (by kernel_rfl)]
/-- Where guessConfig is: the answer's cell, what is left of the line. -/
structure GS (w W : World) (t : ByteArray) : Prop where
  rd : W.heap[w.heap.size + 1]? = some (.cells #[.string t] 75 (0, 0))
  an : W.heap[w.heap.size]? = some (.cells #[.int .i64 0, .int .i64 0, .int .i64 0] 23 (0, 0))
  kept : Kept (fun _ => False) w W
theorem GS.call {w W W' : World} {t t' : ByteArray} (h : GS w W t) (K : Kept (fun j => j = w.heap.size + 1) W W') (r : W'.heap[w.heap.size + 1]? = some (.cells #[.string t'] 75 (0, 0))) : GS w W' t' := ⟨r, K.get h.an (by show ¬ w.heap.size = w.heap.size + 1; omega), h.kept.trans K (fun j hj z => by omega)⟩
theorem GS.keep {w W W' : World} {t : ByteArray} (h : GS w W t) (K : Kept (fun _ => False) W W') : GS w W' t := ⟨K.get h.rd (fun z => z), K.get h.an (fun z => z), h.kept.trans K (fun _ _ z => z)⟩
theorem GS.start (w : World) (s : ByteArray) : GS w ((w.alloc (.cells #[.int .i64 0, .int .i64 0, .int .i64 0] 23)).alloc (.cells #[.string s] 75)) s := ⟨alloc_new2 _ _ _ _, alloc_old _ (alloc_new _ _), ((Kept.refl _ _).alloc _).alloc _⟩
/-- What guessConfig tells. -/
structure GuQ (s : ByteArray) (n k d c : Int) : Prop where
  ki : KI n ∧ KI k ∧ KI d ∧ KI c
  ch : ∃ a t0 t1 t2 t3 t4, CutQ s a t0 ∧ NumQ t0 t1 n ∧ NumQ t1 t2 k ∧ NumQ t2 t3 d ∧ NumQ t3 t4 c
def RetG (Q : Int → Int → Int → Int → World → Prop) (o : Ending) (w : World) : Prop := ∃ n k d c : Int, o = .returned (.tuple #[.agg #[.int .i64 n, .int .i64 k, .int .i64 d], .int .i64 c]) ∧ Q n k d c w
theorem hNumG {w W : World} {t : ByteArray} (h : GS w W t) (V : Vars w) (ht : t.size ≤ 281474976710656) : Calls Tryd.prog 53 #[.pointer (some ⟨w.heap.size + 1, 0, none⟩)] W fun o w' => ∃ b v, o = .returned (.int .i64 v) ∧ NumQ t b v ∧ GS w w' b ∧ Kept (fun j => j = w.heap.size + 1) W w' :=
  (hNum ht h.rd V h.kept (Nat.le_succ _)).mono fun _ _ ⟨b, v, e, q, g, K⟩ => ⟨b, v, e, q, h.call K g, K⟩
set_option maxRecDepth 100000 in
set_option maxHeartbeats 1000000 in
theorem hGuess (s : ByteArray) (w : World) (hs : s.size ≤ 281474976710656) (V : Vars w) : Calls Tryd.prog 29 #[.string s] w (RetG fun n k d c w' => GuQ s n k d c ∧ Kept (fun _ => False) w w') := by
  have S0 : Hid (GS w ((w.alloc (.cells #[.int .i64 0, .int .i64 0, .int .i64 0] 23)).alloc (.cells #[.string s] 75)) s) := GS.start w s
  have C0 : Hid (Calls Tryd.prog 52 #[.pointer (some ⟨w.heap.size + 1, 0, none⟩)] ((w.alloc (.cells #[.int .i64 0, .int .i64 0, .int .i64 0] 23)).alloc (.cells #[.string s] 75)) fun o w' => ∃ a b, o = .returned (.string a) ∧ CutQ s a b ∧ w'.heap[w.heap.size + 1]? = some (.cells #[.string b] 75 (0, 0)) ∧ Kept (fun j => j = w.heap.size + 1) ((w.alloc (.cells #[.int .i64 0, .int .i64 0, .int .i64 0] 23)).alloc (.cells #[.string s] 75)) w') := hWord hs S0.out.rd
  have VV : Hid (Vars w) := V
  clear V
  go_enter Tryd.func29, Tryd.ntmps29
  go_wp2_with fail
  refine C0.out.mono ?_
  rintro o w1 ⟨a, t0, rfl, Q0', r1, K1⟩
  have S1 : Hid (GS w w1 t0) := S0.out.call K1 r1
  have Q0 : Hid (CutQ s a t0 ∧ t0.size ≤ 281474976710656) := ⟨Q0', by have := Q0'.le; omega⟩
  clear Q0' r1 K1 C0 S0
  have C1 : Hid (Calls Tryd.prog 53 #[.pointer (some ⟨w.heap.size + 1, 0, none⟩)] w1 fun o w' => ∃ b v, o = .returned (.int .i64 v) ∧ NumQ t0 b v ∧ GS w w' b ∧ Kept (fun j => j = w.heap.size + 1) w1 w') := hNumG S1.out VV.out Q0.out.2
  go_wp2_with fail
  refine C1.out.mono ?_
  rintro o w2 ⟨t1, n, rfl, q, g, _⟩
  have S2 : Hid (GS w w2 t1) := g
  have Q1 : Hid (NumQ t0 t1 n ∧ t1.size ≤ 281474976710656) := ⟨q, by have := q.le; have := Q0.out.2; omega⟩
  clear q g C1 S1
  have C2 : Hid (Calls Tryd.prog 53 #[.pointer (some ⟨w.heap.size + 1, 0, none⟩)] w2 fun o w' => ∃ b v, o = .returned (.int .i64 v) ∧ NumQ t1 b v ∧ GS w w' b ∧ Kept (fun j => j = w.heap.size + 1) w2 w') := hNumG S2.out VV.out Q1.out.2
  go_wp2_with fail
  refine C2.out.mono ?_
  rintro o w3 ⟨t2, k, rfl, q, g, _⟩
  have S3 : Hid (GS w w3 t2) := g
  have Q2 : Hid (NumQ t1 t2 k ∧ t2.size ≤ 281474976710656) := ⟨q, by have := q.le; have := Q1.out.2; omega⟩
  clear q g C2 S2
  have C3 : Hid (Calls Tryd.prog 53 #[.pointer (some ⟨w.heap.size + 1, 0, none⟩)] w3 fun o w' => ∃ b v, o = .returned (.int .i64 v) ∧ NumQ t2 b v ∧ GS w w' b ∧ Kept (fun j => j = w.heap.size + 1) w3 w') := hNumG S3.out VV.out Q2.out.2
  go_wp2_with fail
  refine C3.out.mono ?_
  rintro o w4 ⟨t3, d, rfl, q, g, _⟩
  have S4 : Hid (GS w w4 t3) := g
  have Q3 : Hid (NumQ t2 t3 d ∧ t3.size ≤ 281474976710656) := ⟨q, by have := q.le; have := Q2.out.2; omega⟩
  clear q g C3 S3
  obtain ⟨W5, hW5⟩ : ∃ W5, W5 = w4.alloc (.cells #[.int .i64 n, .int .i64 k, .int .i64 d] 23) := ⟨_, rfl⟩
  obtain ⟨B5, hB5⟩ : ∃ B5, w4.heap.size = B5 := ⟨_, rfl⟩
  have S5 : Hid (GS w W5 t3 ∧ W5.heap[B5]? = some (.cells #[.int .i64 n, .int .i64 k, .int .i64 d] 23 (0, 0)) ∧ w.heap.size + 1 < B5) := by
    rw [hW5, ← hB5]
    exact ⟨S4.out.keep ((Kept.refl _ _).alloc _), alloc_new _ _, block_lt S4.out.rd⟩
  go_upto_region 4 with fail
  rw [← hW5]
  clear hW5 hB5 S4
  have SD : Hid (W5.drew.cell? ⟨B5, 0, none⟩ = some (.int .i64 n) ∧ W5.drew.cell? ⟨B5, 1, none⟩ = some (.int .i64 k) ∧ W5.drew.cell? ⟨B5, 2, none⟩ = some (.int .i64 d)) := ⟨cell_blk S5.out.2.1 0 rfl, cell_blk S5.out.2.1 1 rfl, cell_blk S5.out.2.1 2 rfl⟩
  have C5 : Hid (Calls Tryd.prog 53 #[.pointer (some ⟨w.heap.size + 1, 0, none⟩)] W5.drew fun o w' => ∃ b v, o = .returned (.int .i64 v) ∧ NumQ t3 b v ∧ GS w w' b ∧ Kept (fun j => j = w.heap.size + 1) W5.drew w') := hNumG (W := W5.drew) ⟨S5.out.1.rd, S5.out.1.an, S5.out.1.kept.drew⟩ VV.out Q3.out.2
  refine wp_region_held_drew (S := (fun V => V.cell? ⟨B5, 0, none⟩ = some (.int .i64 n) ∧ V.cell? ⟨B5, 1, none⟩ = some (.int .i64 k) ∧ V.cell? ⟨B5, 2, none⟩ = some (.int .i64 d))) (by kernel_rfl) ?_ (fun hHeld => ?_)
  · exact SD.out
  refine wpAnyH_take (i := 0) (oi := { dst := some 13, op := Go.Op.load 23 (Go.Operand.tmp 5), type := 23, pos := "read.go:62", after := #[], guard := none }) (v := .agg #[.int .i64 n, .int .i64 k, .int .i64 d]) rfl (by kernel_rfl) (by kernel_rfl) (by kernel_rfl) (fun _ _ _ h => h) (Or.inl ⟨by rfl, ?_⟩) (by assumption) ?_
  · intro w9 hSw
    (try dsimp only at hSw)
    go_simp
  (try simp only [Act.put, List.setIfInBounds_toArray, List.set_cons_zero, List.set_cons_succ])
  refine wpAnyH_ready (rs := [1]) (by kernel_rfl) (by simp) ?_
  refine (AllReadyH.cons (o := { dst := some 14, op := Go.Op.call { callee := Go.Callee.value (Go.Operand.func 53), args := #[Go.Operand.tmp 4], argTypes := #[75] }, type := 3, pos := "read.go:62", after := #[], guard := none }) rfl (fun K hK => ?_) AllReadyH.nil)
  go_simp
  refine C5.out.mono ?_
  rintro o w6 ⟨t4, c, rfl, q4, g6, K6⟩
  have B6 : Hid (w6.heap[B5]? = some (.cells #[.int .i64 n, .int .i64 k, .int .i64 d] 23 (0, 0))) := K6.get (show W5.drew.heap[B5]? = _ from S5.out.2.1) (by show ¬ B5 = w.heap.size + 1; have := S5.out.2.2; omega)
  have a0 := cell_blk g6.an 0 (v := .int .i64 0) rfl
  have a1 := cell_blk g6.an 1 (v := .int .i64 0) rfl
  have a2 := cell_blk g6.an 2 (v := .int .i64 0) rfl
  have s0 := soft_blk g6.an 0
  have s1 := soft_blk g6.an 1
  have s2 := soft_blk g6.an 2
  have KW : Hid (Kept (fun j => j = w.heap.size) w6 (((w6.setCell ⟨w.heap.size, 0, none⟩ (.int .i64 n)).setCell ⟨w.heap.size, 1, none⟩ (.int .i64 k)).setCell ⟨w.heap.size, 2, none⟩ (.int .i64 d))) := (((Kept.refl (fun j => j = w.heap.size) w6).setCell (p := ⟨w.heap.size, 0, none⟩) (fun _ => rfl) _).setCell (p := ⟨w.heap.size, 1, none⟩) (fun _ => rfl) _).setCell (p := ⟨w.heap.size, 2, none⟩) (fun _ => rfl) _
  have HW : Hid ((((w6.setCell ⟨w.heap.size, 0, none⟩ (.int .i64 n)).setCell ⟨w.heap.size, 1, none⟩ (.int .i64 k)).setCell ⟨w.heap.size, 2, none⟩ (.int .i64 d)).heap[w.heap.size]? = some (.cells #[.int .i64 n, .int .i64 k, .int .i64 d] 23 (0, 0))) := set_heap (set_heap (set_heap g6.an 0 _) 1 _) 2 _
  have SE : Hid ((((w6.setCell ⟨w.heap.size, 0, none⟩ (.int .i64 n)).setCell ⟨w.heap.size, 1, none⟩ (.int .i64 k)).setCell ⟨w.heap.size, 2, none⟩ (.int .i64 d)).cell? ⟨B5, 0, none⟩ = some (.int .i64 n) ∧ (((w6.setCell ⟨w.heap.size, 0, none⟩ (.int .i64 n)).setCell ⟨w.heap.size, 1, none⟩ (.int .i64 k)).setCell ⟨w.heap.size, 2, none⟩ (.int .i64 d)).cell? ⟨B5, 1, none⟩ = some (.int .i64 k) ∧ (((w6.setCell ⟨w.heap.size, 0, none⟩ (.int .i64 n)).setCell ⟨w.heap.size, 1, none⟩ (.int .i64 k)).setCell ⟨w.heap.size, 2, none⟩ (.int .i64 d)).cell? ⟨B5, 2, none⟩ = some (.int .i64 d)) := by
    have z := KW.out.get B6.out (by show ¬ B5 = w.heap.size; have := S5.out.2.2; omega)
    exact ⟨cell_blk z 0 rfl, cell_blk z 1 rfl, cell_blk z 2 rfl⟩
  have F : Hid (GuQ s n k d c ∧ Kept (fun _ => False) w (((w6.setCell ⟨w.heap.size, 0, none⟩ (.int .i64 n)).setCell ⟨w.heap.size, 1, none⟩ (.int .i64 k)).setCell ⟨w.heap.size, 2, none⟩ (.int .i64 d))) := ⟨⟨⟨Q1.out.1.ki, Q2.out.1.ki, Q3.out.1.ki, q4.ki⟩, a, t0, t1, t2, t3, t4, Q0.out.1, Q1.out.1, Q2.out.1, Q3.out.1, q4⟩, g6.kept.trans KW.out (fun j hj z => by omega)⟩
  refine hK.out _ _ ?_ (fun hHeld => ?_)
  · exact ⟨cell_blk B6.out 0 rfl, cell_blk B6.out 1 rfl, cell_blk B6.out 2 rfl⟩
  clear hK K q4 g6 K6
  (try simp only [Act.put, List.setIfInBounds_toArray, List.set_cons_zero, List.set_cons_succ])
  refine wpAnyH_ready (rs := [2]) (by kernel_rfl) (by simp) ?_
  refine (AllReadyH.cons (o := { dst := none, op := Go.Op.store 23 (Go.Operand.tmp 2) (Go.Operand.tmp 13), type := 0, pos := "read.go:62", after := #[{ on := 0, ground := Go.Ground.data }, { on := 1, ground := Go.Ground.chain }, { on := 0, ground := Go.Ground.phase }, { on := 1, ground := Go.Ground.textOnly Go.Departure.lateStoresUnsure }], guard := none }) rfl (fun K hK => ?_) AllReadyH.nil)
  go_simp
  refine hK.out _ _ ?_ (fun hHeld => ?_)
  · exact SE.out
  clear hK K
  (try simp only [Act.put, List.setIfInBounds_toArray, List.set_cons_zero, List.set_cons_succ])
  refine wpAnyH_take (i := 3) (oi := { dst := some 3, op := Go.Op.assign (Go.Operand.tmp 14), type := 3, pos := "read.go:62", after := #[{ on := 1, ground := Go.Ground.data }, { on := 2, ground := Go.Ground.chain }, { on := 0, ground := Go.Ground.phase }, { on := 1, ground := Go.Ground.phase }, { on := 2, ground := Go.Ground.phase }], guard := none }) (v := .int .i64 c) rfl (by kernel_rfl) (by kernel_rfl) (by kernel_rfl) (fun _ _ _ h => h) (Or.inl ⟨by rfl, ?_⟩) (by assumption) ?_
  · intro w9 hSw
    (try dsimp only at hSw)
    go_simp
  (try simp only [Act.put, List.setIfInBounds_toArray, List.set_cons_zero, List.set_cons_succ])
  refine wpAnyH_done (by kernel_rfl) ?_ _
  go_wp2_with fail
  refine bodyPost_ret (results_cfg2 rfl _ _ w.heap.size n k d rfl HW.out) rfl ?_
  exact ⟨n, k, d, c, rfl, F.out⟩
end Go.Proofs.YtonfefhegghapaaDoor

namespace Go.Proofs.YtonfefhegghapaaDoor
open Go.RowKit 

theorem dec_plain (u : Nat) : ∀ c ∈ Lib.decDigits u, c ≠ 32 ∧ c.toNat < 128 := fun c hc => by
  have h := digs_digit u c hc
  unfold Digit at h
  refine ⟨fun z => ?_, by omega⟩
  rw [z] at h
  revert h
  decide
theorem itoa_plain (n : Int) : ∀ c ∈ Lib.itoa n, c ≠ 32 ∧ c.toNat < 128 := fun c hc => by
  unfold Lib.itoa at hc
  split at hc
  · rcases List.mem_cons.1 hc with z | z
    · rw [z]
      exact ⟨by decide, by decide⟩
    · exact dec_plain _ c z
  · exact dec_plain _ c hc
theorem atoi_itoa (n : Int) (h1 : -1000000 ≤ n) (h2 : n ≤ 1000000) : Lib.atoiAll (Lib.itoa n) = .ok n := by
  unfold Lib.itoa
  by_cases h : n < 0
  · rw [if_pos h, Lib.atoiAll_minus]
    have p := parse_digits (Lib.decDigits n.natAbs) 0 (digs_digit _) (by rw [digs_dv]; omega)
    rw [digs_dv] at p
    unfold Lib.parseMag
    rw [if_neg (digs_ne _), p]
    unfold Lib.signed
    simp only []
    rw [if_neg (by omega)]
    congr 1
    omega
  · rw [if_neg h, atoi_digs n.toNat (by omega)]
    congr 1
    omega
theorem cfg_eq (n k d c : Int) : cfgL n k d c = [99, 111, 110, 102, 105, 103] ++ 32 :: (Lib.itoa n ++ 32 :: (Lib.itoa k ++ 32 :: (Lib.itoa d ++ 32 :: Lib.itoa c))) := by
  unfold cfgL numL
  simp
def M6 (n : Int) : Prop := -1000000 ≤ n ∧ n ≤ 1000000
theorem asc_of {s t : ByteArray} {x : List UInt8} (h : Asc s) (e : s.data.toList = x ++ 32 :: t.data.toList) : Asc t := fun c hc => h c (by rw [e]; simp [hc])
theorem num_step {s b : ByteArray} {v n : Int} {y : List UInt8} (q : NumQ s b v) (ha : Asc s) (e : s.data.toList = Lib.itoa n ++ 32 :: y) (hn : M6 n) : v = n ∧ b.data.toList = y ∧ Asc b := by
  have h := q.asc ha
  rw [e, cutL_word _ _ (fun c hc => (itoa_plain n c hc).1)] at h
  have hb : b.data.toList = y := h.1
  refine ⟨h.2 n (atoi_itoa n hn.1 hn.2), hb, asc_of ha (x := Lib.itoa n) (by rw [e, hb])⟩
theorem num_last {s b : ByteArray} {v n : Int} (q : NumQ s b v) (ha : Asc s) (e : s.data.toList = Lib.itoa n) (hn : M6 n) : v = n := by
  have h := q.asc ha
  rw [e, cutL_last _ (fun c hc => (itoa_plain n c hc).1)] at h
  exact h.2 n (atoi_itoa n hn.1 hn.2)
/-- The line of a config is read as that config. -/
theorem GuQ.exact {s : ByteArray} {n k d c N K D C : Int} (q : GuQ s n k d c) (e : s.data.toList = cfgL N K D C) (h1 : M6 N) (h2 : M6 K) (h3 : M6 D) (h4 : M6 C) : n = N ∧ k = K ∧ d = D ∧ c = C := by
  obtain ⟨a, t0, t1, t2, t3, t4, q0, q1, q2, q3, q4⟩ := q.ch
  have ha : Asc s := fun x hx => by
    rw [e, cfg_eq] at hx
    rcases List.mem_append.1 hx with z | z
    · have key : ∀ y ∈ ([99, 111, 110, 102, 105, 103] : List UInt8), y.toNat < 128 := by decide
      exact key x z
    · rcases List.mem_cons.1 z with z | z
      · rw [z]; decide
      · rcases List.mem_append.1 z with z | z
        · exact (itoa_plain _ x z).2
        · rcases List.mem_cons.1 z with z | z
          · rw [z]; decide
          · rcases List.mem_append.1 z with z | z
            · exact (itoa_plain _ x z).2
            · rcases List.mem_cons.1 z with z | z
              · rw [z]; decide
              · rcases List.mem_append.1 z with z | z
                · exact (itoa_plain _ x z).2
                · rcases List.mem_cons.1 z with z | z
                  · rw [z]; decide
                  · exact (itoa_plain _ x z).2
  have e0 := e
  rw [cfg_eq] at e0
  have c0 := q0.asc ha
  rw [e0, cutL_word _ _ (by decide)] at c0
  have b0 : t0.data.toList = Lib.itoa N ++ 32 :: (Lib.itoa K ++ 32 :: (Lib.itoa D ++ 32 :: Lib.itoa C)) := congrArg Prod.snd c0
  have a0 : Asc t0 := asc_of ha (x := [99, 111, 110, 102, 105, 103]) (by rw [e0, b0])
  obtain ⟨r1, b1, a1⟩ := num_step q1 a0 b0 h1
  obtain ⟨r2, b2, a2⟩ := num_step q2 a1 b1 h2
  obtain ⟨r3, b3, a3⟩ := num_step q3 a2 b2 h3
  exact ⟨r1, r2, r3, num_last q4 a3 b3 h4⟩
theorem dec_end (u : Nat) : ∃ x c, Lib.decDigits u = x ++ [c] ∧ Digit c := by
  rw [Lib.decDigits]
  by_cases h : u < 10
  · rw [dif_pos h]
    refine ⟨[], _, rfl, ?_⟩
    have := ofNat_digit u h
    exact ⟨by omega, by omega⟩
  · rw [dif_neg h]
    refine ⟨_, _, rfl, ?_⟩
    have := ofNat_digit (u % 10) (by omega)
    exact ⟨by omega, by omega⟩
/-- A config's line ends in a digit. -/
theorem cfg_end (n k d c : Int) : ∃ x b, cfgL n k d c = x ++ [b] ∧ Digit b := by
  have h : ∃ x b, Lib.itoa c = x ++ [b] ∧ Digit b := by
    unfold Lib.itoa
    split
    · obtain ⟨x, b, e, hb⟩ := dec_end c.natAbs
      exact ⟨45 :: x, b, by rw [e]; rfl, hb⟩
    · exact dec_end _
  obtain ⟨x, b, e, hb⟩ := h
  refine ⟨[99, 111, 110, 102, 105, 103] ++ 32 :: (Lib.itoa n ++ 32 :: (Lib.itoa k ++ 32 :: (Lib.itoa d ++ 32 :: x))), b, ?_, hb⟩
  rw [cfg_eq, e]
  simp
/-- With something behind that has no digit it is no config's line. -/
theorem cfg_behind {l x : List UInt8} (h0 : x ≠ []) (hx : ∀ c ∈ x, ¬ Digit c) (n k d c : Int) : l ++ x ≠ cfgL n k d c := fun z => by
  obtain ⟨y, b, e, hb⟩ := cfg_end n k d c
  rw [e] at z
  have h1 := congrArg List.getLast? z
  rw [List.getLast?_append, List.getLast?_append] at h1
  obtain ⟨g, hg⟩ : ∃ g, x.getLast? = some g := ⟨x.getLast h0, List.getLast?_eq_some_getLast h0⟩
  rw [hg] at h1
  have h2 : g = b := by simpa using h1
  exact hx g (List.mem_of_getLast? hg) (h2 ▸ hb)
end Go.Proofs.YtonfefhegghapaaDoor
