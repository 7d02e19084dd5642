import Derived.Test.YtankiipkkbihiaaAppend
namespace Go.Proofs.Ytankiipkkbihiaa
open Go.RowKit

theorem owns_lit (w : World) (c base : Nat) (hb : base ≤ w.heap.size) : (w.alloc (.cells #[.int .u8 (c : Int)] 5)).ownsRow base 5 1 (.slice (some ⟨w.heap.size, 0, none⟩) 1 1) 1 (cellsOf [c]) :=
  ⟨rfl, .inr ⟨w.heap.size, 1, #[.int .u8 (c : Int)], rfl, hb, heap_alloc_new w _, Nat.le_refl _, by unfold maxLen; omega, rfl, rfl⟩⟩
/-- Are the first k all 0? -/
def nb (l : List Nat) (k : Nat) : Bool := (l.take k).all (fun c => c == 0)
theorem nb_succ (l : List Nat) (k : Nat) (h : k < l.length) : nb l (k + 1) = (nb l k && (l.getD k 0 == 0)) := by
  unfold nb
  rw [List.take_succ_eq_append_getElem h, List.all_append, List.getD_eq_getElem?_getD, List.getElem?_eq_getElem h]
  simp
theorem nb_null (l : List Nat) : nb l l.length = true ↔ Gf.Null l := by
  unfold nb
  rw [List.take_length, List.all_eq_true]
  exact ⟨fun h c hc => beq_iff_eq.1 (h c hc), fun h c hc => beq_iff_eq.2 (h c hc)⟩
/-- The sums, place by place. -/
def sums (lp lq : List Nat) : List Nat := List.zipWith (· ^^^ ·) lp lq
theorem sums_take (lp lq : List Nat) (k : Nat) (h1 : k < lp.length) (h2 : k < lq.length) : (sums lp lq).take (k + 1) = (sums lp lq).take k ++ [lp.getD k 0 ^^^ lq.getD k 0] := by
  have hl : k < (sums lp lq).length := by unfold sums; rw [List.length_zipWith]; omega
  rw [List.take_succ_eq_append_getElem hl]
  have e : (sums lp lq)[k] = lp[k] ^^^ lq[k] := by simp [sums]
  rw [e, List.getD_eq_getElem?_getD, List.getD_eq_getElem?_getD, List.getElem?_eq_getElem h1, List.getElem?_eq_getElem h2]; rfl
theorem sums_cut (lp lq : List Nat) (m : Nat) : (sums lp lq).take m = sums (lp.take m) (lq.take m) := by
  unfold sums; rw [List.take_zipWith]
theorem sums_bytes (lp lq : List Nat) (h1 : ∀ c ∈ lp, c < 256) (h2 : ∀ c ∈ lq, c < 256) : ∀ c ∈ sums lp lq, c < 256 := fun c hc => by
  unfold sums at hc
  obtain ⟨i, hi, e⟩ := List.getElem_of_mem hc
  rw [List.getElem_zipWith] at e
  rw [← e]
  exact Gf.xor_lt _ _ (h1 _ (List.getElem_mem _)) (h2 _ (List.getElem_mem _))

set_option maxRecDepth 100000 in
set_option maxHeartbeats 2000000 in
theorem roots_a (n : Int) (a1 a2 : Option Addr) (len1 cap1 len2 cap2 : Nat) (lp lq : List Nat) (w : World) (hn1 : -9223372036854775808 ≤ n) (hn2 : n ≤ 9223372036854775807)
    (r1 : Reads w a1 len1 cap1 lp) (r2 : Reads w a2 len2 cap2 lq) (hz1 : cap1 ≤ 140737488351232) (_hz2 : cap2 ≤ 140737488351232) (hmin : len2 < len1) :
    Calls Try.prog 3 #[.int .i64 n, .slice a1 len1 cap1, .slice a2 len2 cap2] w fun e w' => e = .returned (.bool true) ∧ Below w.heap.size w w' := by
  have l1 : len1 ≤ cap1 := r1.room
  have l2 : len2 ≤ cap2 := r2.room
  obtain ⟨i5, hi5, hiz, his, hib⟩ := info_parts Try.info5
  go_enter Try.func3, Try.ntmps3
  go_wp2_with fail
  refine (field_any n _ hn1 hn2).mono ?_
  rintro e w1 ⟨P, B, g, rfl, f0, hB, hbl⟩
  have q1 := r1.below hbl
  have q2 := r2.below hbl
  have BL : Hid (Below w.heap.size w w1) := hbl
  have HS : Hid (w.heap.size ≤ w1.heap.size) := hbl.size
  have LB : Hid (B < w1.heap.size) := World.block_lt_of_cell? w1 _ f0.poly
  have HI : Hid (Try.prog.info? 5 = some i5 ∧ i5.zero = some (.int .u8 0) ∧ i5.size = 1 ∧ i5.bytes = 1) := ⟨hi5, hiz, his, hib⟩
  clear hbl r1 r2 hB hi5 hiz his hib
  go_wp2_with fail
  go_loop [9, 10] (fun v i => ∃ k : Nat, k ≤ len1 ∧ i = .int .i64 k ∧ v = .bool (nb lp k)) (fun _ i => len1 - (intOf i).toNat)
  case atStart => exact ⟨0, by omega, rfl, rfl⟩
  case round =>
    obtain ⟨k, hk, rfl, rfl⟩ := hrel
    by_cases hlt : k < len1
    · obtain ⟨b, off, rfl, hc⟩ := q1.cells (by omega)
      have c1 := hc k hlt
      have NS : Hid (nb lp (k + 1) = (nb lp k && (lp.getD k 0 == 0))) := nb_succ lp k (by rw [q1.length]; exact hlt)
      generalize hc0 : lp.getD k 0 = c0 at *
      clear hc hc0
      cases hb : nb lp k
      · rw [hb] at NS
        clear hb
        go_wp2_with fail
        go_round
        case rel => exact ⟨k + 1, by omega, by go_num, by rw [NS.out]; rfl⟩
        case measure => simp [intOf]; omega
      · rw [hb] at NS
        clear hb
        go_wp2_with fail
        go_round
        case rel =>
          refine ⟨k + 1, by omega, by go_num, ?_⟩
          rw [NS.out]
          exact congrArg Value.bool (by cases h : (c0 == 0) <;> simp at h <;> simp <;> omega)
        case measure => simp [intOf]; omega
    · have hk' : len1 = k := by omega
      subst hk'
      clear hlt hk
      obtain ⟨nl, hnl⟩ : ∃ nl, nb lp len1 = nl := ⟨_, rfl⟩
      have NL : Hid (nb lp len1 = nl) := hnl
      rw [hnl]
      clear hnl
      go_wp2_with fail
      go_loopw [12, 13] (fun v i wr => ∃ k : Nat, k ≤ len2 ∧ i = .int .i64 k ∧ wr.ownsRow w1.heap.size 5 1 v k (cellsOf ((sums lp lq).take k)) ∧ Below w1.heap.size w1 wr) (fun _ i _ => len2 - (intOf i).toNat)
      case atStart => exact ⟨0, by omega, rfl, by rw [List.take_zero]; exact World.ownsRow_nil _ _ _ _, Below.refl _ _⟩
      case round =>
        obtain ⟨k, hk, rfl, hown, hbr⟩ := hrel
        by_cases hlt : k < len2
        · have s1 := q1.below hbr
          have s2 := q2.below hbr
          obtain ⟨b1, o1, rfl, hc1⟩ := q1.cells (by omega)
          obtain ⟨b2, o2, rfl, hc2⟩ := q2.cells (by omega)
          have n1 : b1 < w1.heap.size := World.block_lt_of_cell? w1 _ (hc1 k (by omega))
          have n2 : b2 < w1.heap.size := World.block_lt_of_cell? w1 _ (hc2 k (by omega))
          have c1 : wr.cell? ⟨b1, o1 + k, none⟩ = _ := (hbr.cell n1).trans (hc1 k (by omega))
          have c2 : wr.cell? ⟨b2, o2 + k, none⟩ = _ := (hbr.cell n2).trans (hc2 k (by omega))
          have d1 : lp.getD k 0 < 256 := getD_lt lp s1.bytes k
          have d2 : lq.getD k 0 < 256 := getD_lt lq s2.bytes k
          have ST : Hid ((sums lp lq).take (k + 1) = (sums lp lq).take k ++ [lp.getD k 0 ^^^ lq.getD k 0]) := sums_take lp lq k (by rw [q1.length]; omega) (by rw [q2.length]; omega)
          generalize lp.getD k 0 = x1 at *
          generalize lq.getD k 0 = x2 at *
          have e1 : (0 : Int) ≤ (k : Int) := Int.natCast_nonneg _
          have e2 : (k : Int) < (len1 : Int) := by omega
          have e3 : (k : Int) < (len2 : Int) := by omega
          have g1 := World.block_lt_of_cell? wr _ c1
          have g2 := World.block_lt_of_cell? wr _ c2
          have OW : Hid (wr.ownsRow w1.heap.size 5 1 u12 k (cellsOf ((sums lp lq).take k))) := hown
          have BR : Hid (Below w1.heap.size w1 wr) := hbr
          clear hc1 hc2 s1 s2 hown hbr
          go_wp2_with fail
          have hsz := BR.out.size
          have ne1 : u12.ownBlock ≠ some b1 := fun h => by have := (OW.out.lt b1 h).1; omega
          have ne2 : u12.ownBlock ≠ some b2 := fun h => by have := (OW.out.lt b2 h).1; omega
          go_region_held3 (fun w' => w'.cell? ⟨b1, o1 + k, none⟩ = some (.int .u8 (x1 : Int)) ∧ w'.cell? ⟨b2, o2 + k, none⟩ = some (.int .u8 (x2 : Int)))
            (first
              | go_keep
              | (go_split_ands
                 refine ⟨?_, ?_⟩
                 · (rw [hgrow.cell_far _ (by simp; omega) (Ne.symm ne1)]; assumption)
                 · (rw [hgrow.cell_far _ (by simp; omega) (Ne.symm ne2)]; assumption)))
            (first
              | (go_at_call 8; refine (add_any x1 x2 _ d1 d2).mono ?_; rintro e wx ⟨rfl, rfl⟩)
              | (refine step_append_lies _ (by rfl) (.tmp 45) (.tmp 55) 22 (by rfl) w1.heap.size 5 i5 _ 1 1 Try.underlying22 HI.out.1 HI.out.2.1 HI.out.2.2.1 HI.out.2.2.2 rfl (by omega) u12 k (cellsOf ((sums lp lq).take k)) (by rfl) ((OW.out.alloc _).drew) ⟨wr.heap.size, 0, none⟩ 1 1 [.int .u8 ((x1 ^^^ x2 : Nat) : Int)] (by rfl) (by rfl) (World.news_of_block (cs := #[.int .u8 ((x1 ^^^ x2 : Nat) : Int)]) (t := 5) (fr := (0, 0)) (heap_alloc_new wr _)) (by simp [Value.oneCell']) (by omega) (by unfold maxLen; omega) (by omega) (by simp; omega) (wr.heap.size + 1) (by simp) ?_; intro gg cap w2 hown1 hgrow hat hlt2)
              | fail)
          go_wp2
          go_roundw
          case rel =>
            refine ⟨k + 1, by omega, by go_num, by rw [ST.out, cellsOf_snoc]; exact hown1, ?_⟩
            exact Below.grown ((BR.out.alloc hsz _).drew) hgrow (by simp; omega) (fun j hj => (OW.out.lt j hj).1)
          case measure => simp [intOf]; omega
        · have hk' : len2 = k := by omega
          subst hk'
          clear hlt hk
          have bt : ∀ c ∈ (sums lp lq).take len2, c < 256 := fun c hc => sums_bytes lp lq q1.bytes q2.bytes c (List.mem_of_mem_take hc)
          obtain ⟨sa, scap, rfl, rs⟩ := owns_reads hown bt
          have p1 := q1.below hbr
          have p2 := q2.below hbr
          have fr := IsF.below hbr LB.out f0
          have hsz := hbr.size
          have BR : Hid (Below w1.heap.size w1 wr) := hbr
          clear hown hbr bt
          go_wp2_with (first | (at_builtin; refine wpList_append_reads _ rfl (.tmp 57) (.tmp 58) rfl w1.heap.size (.slice (some ⟨wr.heap.size, 0, none⟩) 1 1) 1 (cellsOf [3]) rfl (owns_lit wr 3 w1.heap.size hsz) (by simp) a1 len1 cap1 lp rfl (p1.below ((Below.refl _ _).alloc (Nat.le_refl _) _)) (by omega) (by simp; omega) ?_; intro v2 w2 hown2 hgrow2 hnn2) | fail)
          rw [show cellsOf [3] ++ cellsOf lp = cellsOf (3 :: lp) from rfl] at hown2
          obtain ⟨ul, hul⟩ : ∃ u, 1 + len1 = u := ⟨_, rfl⟩
          rw [hul] at hown2
          clear hul
          obtain ⟨ua, ucap, rfl, ru⟩ := owns_reads hown2 (fun c hc => by
            rcases List.mem_cons.1 hc with e | e
            · omega
            · exact p1.bytes c e)
          have b2 : Below wr.heap.size wr w2 := Below.grown ((Below.refl _ _).alloc (Nat.le_refl _) _) hgrow2 (by simp) (fun j hj => by simp [Value.ownBlock] at hj; omega)
          have t0 := p1.below b2
          have ts := rs.below b2
          have tp := t0.take len2 (by omega)
          have tq := (p2.below b2).take len2 (by omega)
          have f2 := IsF.below b2 (World.block_lt_of_cell? wr _ fr.poly) fr
          have BT : Hid (Below w.heap.size w w2) := BL.out.trans ((BR.out.mono HS.out).trans (b2.mono (Nat.le_trans HS.out hsz)))
          clear hown2 hgrow2 hnn2 b2 rs p1 p2 fr BR BL
          go_wp2_with fail
          go_loopw [8, 15, 16] (fun z x v wx => ∃ k : Nat, k ≤ 256 ∧ x = .int .i64 k ∧ z = .int .i64 ((Gf.zs P lp k : Nat) : Int) ∧ Qt w2 wx) (fun _ x _ _ => 256 - (intOf x).toNat)
          case atStart => exact ⟨0, by omega, rfl, rfl, Qt.refl _⟩
          case round =>
            obtain ⟨k, hk, rfl, rfl, qx⟩ := hrel
            by_cases hlt : k < 256
            · go_wp2_with fail
              refine (eval_any P B len1 cap1 k _ a1 lp _ g (qx.isF f2) hlt (qx.reads t0) rfl).mono ?_
              rintro e w3 ⟨rfl, q3⟩
              have lz := Gf.zs_le P lp k
              have ZS : Hid (Gf.zs P lp (k + 1) = Gf.zs P lp k + if Gf.ev P lp k = 0 then 1 else 0) := rfl
              obtain ⟨v0, hv0⟩ : ∃ v, Gf.ev P lp k = v := ⟨_, rfl⟩
              rw [hv0]
              obtain ⟨e1, he1⟩ : ∃ v, Gf.ev P ((sums lp lq).take len2) k = v := ⟨_, rfl⟩
              obtain ⟨e2, he2⟩ : ∃ v, Gf.ev P (lp.take len2) k = v := ⟨_, rfl⟩
              obtain ⟨e3, he3⟩ : ∃ v, Gf.ev P (lq.take len2) k = v := ⟨_, rfl⟩
              obtain ⟨m0, hm0⟩ : ∃ v, Gf.mul P v0 k = v := ⟨_, rfl⟩
              have h12 : e2 ^^^ e3 = e1 := by
                rw [← he1, ← he2, ← he3, sums_cut]
                exact (Gf.ev_zip g k _ _ tp.bytes tq.bytes (by rw [tp.length, tq.length])).symm
              have k2 : e2 < 256 := he2 ▸ Gf.ev_lt g _ tp.bytes k
              have k3 : e3 < 256 := he3 ▸ Gf.ev_lt g _ tq.bytes k
              have k0 : v0 < 256 := hv0 ▸ Gf.ev_lt g _ t0.bytes k
              have k4 : m0 < 256 := hm0 ▸ g.mul_lt _ _
              have he4 : Gf.ev P (3 :: lp) k = m0 ^^^ 3 := by
                show Gf.mul P (Gf.ev P lp k) k ^^^ 3 = _
                rw [hv0, hm0]
              have Q3 := qx.trans q3
              have f3 := Q3.isF f2
              have H1 : Hid (∀ n, Calls Try.prog 9 #[.pointer (some ⟨B, 0, none⟩), .slice sa len2 scap, .int .u8 (k : Int)] (w3.drewN n) fun e w' => e = .returned (.int .u8 (e1 : Int)) ∧ ∃ q, w' = (w3.drewN n).drewN q) := fun n => eval_any P B len2 scap k e1 sa _ _ g ((Qt.drewN w3 n).isF f3) hlt ((Q3.trans (Qt.drewN w3 n)).reads ts) he1
              have H2 : Hid (∀ n, Calls Try.prog 9 #[.pointer (some ⟨B, 0, none⟩), .slice a1 len2 cap1, .int .u8 (k : Int)] (w3.drewN n) fun e w' => e = .returned (.int .u8 (e2 : Int)) ∧ ∃ q, w' = (w3.drewN n).drewN q) := fun n => eval_any P B len2 cap1 k e2 a1 _ _ g ((Qt.drewN w3 n).isF f3) hlt ((Q3.trans (Qt.drewN w3 n)).reads tp) he2
              have H3 : Hid (∀ n, Calls Try.prog 9 #[.pointer (some ⟨B, 0, none⟩), .slice a2 len2 cap2, .int .u8 (k : Int)] (w3.drewN n) fun e w' => e = .returned (.int .u8 (e3 : Int)) ∧ ∃ q, w' = (w3.drewN n).drewN q) := fun n => eval_any P B len2 cap2 k e3 a2 _ _ g ((Qt.drewN w3 n).isF f3) hlt ((Q3.trans (Qt.drewN w3 n)).reads tq) he3
              have H4 : Hid (∀ n, Calls Try.prog 9 #[.pointer (some ⟨B, 0, none⟩), .slice ua ul ucap, .int .u8 (k : Int)] (w3.drewN n) fun e w' => e = .returned (.int .u8 ((m0 ^^^ 3 : Nat) : Int)) ∧ ∃ q, w' = (w3.drewN n).drewN q) := fun n => eval_any P B ul ucap k _ ua _ _ g ((Qt.drewN w3 n).isF f3) hlt ((Q3.trans (Qt.drewN w3 n)).reads ru) he4
              have A1 : Hid (∀ n, Calls Try.prog 8 #[.int .u8 (e2 : Int), .int .u8 (e3 : Int)] (w3.drewN n) fun e w' => e = .returned (.int .u8 (e1 : Int)) ∧ w' = w3.drewN n) := fun n => h12 ▸ add_any e2 e3 (w3.drewN n) k2 k3
              have A2 : Hid (∀ n, Calls Try.prog 8 #[.int .u8 (m0 : Int), .int .u8 3] (w3.drewN n) fun e w' => e = .returned (.int .u8 ((m0 ^^^ 3 : Nat) : Int)) ∧ w' = w3.drewN n) := fun n => add_any m0 3 (w3.drewN n) k4 (by omega)
              have M0 : Hid (∀ n, Calls Try.prog 10 #[.pointer (some ⟨B, 0, none⟩), .int .u8 (v0 : Int), .int .u8 (k : Int)] (w3.drewN n) fun e w' => e = .returned (.int .u8 (m0 : Int)) ∧ ∃ q, w' = (w3.drewN n).drewN q) := fun n => mul_n P B v0 k m0 (w3.drewN n) g ((Qt.drewN w3 n).isF f3) k0 hlt hm0
              rw [hv0] at ZS
              have x1 : (0 : Int) ≤ (len2 : Int) := Int.natCast_nonneg _
              have x2 : (len2 : Int) ≤ (len1 : Int) := by omega
              have x3 : (len2 : Int) ≤ (len2 : Int) := by omega
              have x4 : (len2 : Int) ≤ (cap1 : Int) := by omega
              have x5 : (len2 : Int) ≤ (cap2 : Int) := by omega
              clear he1 he2 he3 hm0 h12 he4 hv0 f3
              by_cases hvz : v0 = 0
              · have tv : ((v0 : Int) == 0) = true := by simp; omega
                have VZ : Hid (v0 = 0) := hvz
                clear hvz
                go_wp2_with fail
                go_quiet (first | (go_at_call_of 9 (Value.slice sa len2 scap); exact Calls.quiet_of (H1.out _)) | (go_at_call_of 9 (Value.slice a1 len2 cap1); exact Calls.quiet_of (H2.out _)) | (go_at_call_of 9 (Value.slice a2 len2 cap2); exact Calls.quiet_of (H3.out _)) | (go_at_call_of 9 (Value.slice ua ul ucap); exact Calls.quiet_of (H4.out _)) | (go_at_call_of 8 (Value.int IntKind.u8 (e2 : Int)); exact Calls.quiet_of_same (A1.out _)) | (go_at_call_of 8 (Value.int IntKind.u8 (m0 : Int)); exact Calls.quiet_of_same (A2.out _)) | (go_at_call 10; exact Calls.quiet_of (M0.out _)) | fail)
                go_wp2_with fail
                go_roundw
                case rel => exact ⟨k + 1, by omega, by go_num, by rw [ZS.out, if_pos VZ.out]; rfl, Q3.trans (Qt.drewN _ _)⟩
                case measure => simp [intOf]; omega
              · have tv : ((v0 : Int) == 0) = false := by simp; omega
                have VZ : Hid (¬ v0 = 0) := hvz
                clear hvz
                go_wp2_with fail
                go_quiet (first | (go_at_call_of 9 (Value.slice sa len2 scap); exact Calls.quiet_of (H1.out _)) | (go_at_call_of 9 (Value.slice a1 len2 cap1); exact Calls.quiet_of (H2.out _)) | (go_at_call_of 9 (Value.slice a2 len2 cap2); exact Calls.quiet_of (H3.out _)) | (go_at_call_of 9 (Value.slice ua ul ucap); exact Calls.quiet_of (H4.out _)) | (go_at_call_of 8 (Value.int IntKind.u8 (e2 : Int)); exact Calls.quiet_of_same (A1.out _)) | (go_at_call_of 8 (Value.int IntKind.u8 (m0 : Int)); exact Calls.quiet_of_same (A2.out _)) | (go_at_call 10; exact Calls.quiet_of (M0.out _)) | fail)
                go_wp2_with fail
                go_roundw
                case rel => exact ⟨k + 1, by omega, by go_num, by rw [ZS.out, if_neg VZ.out]; rfl, Q3.trans (Qt.drewN _ _)⟩
                case measure => simp [intOf]; omega
            · have hk' : 256 = k := by omega
              subst hk'
              clear hlt hk
              have BF := BT.out.trans (Qt.below qx)
              have HL := q1.length
              cases hnl : nl
              · rw [hnl] at NL
                have zl : Gf.zs P lp 256 < len1 := by
                  rw [← HL]
                  exact Gf.zs_lt g lp q1.bytes (fun h => by
                    have := NL.out
                    rw [← HL, (nb_null lp).2 h] at this
                    cases this)
                clear HL
                generalize Gf.zs P lp 256 = zz at *
                go_wp2_with fail
                go_ret
                exact ⟨congrArg (fun b => Ending.returned (Value.bool b)) (by simp), BF⟩
              · rw [hnl] at NL
                have zl : Gf.zs P lp 256 = 256 := Gf.zs_null P lp ((nb_null lp).1 (by rw [HL]; exact NL.out)) 256
                clear HL
                generalize Gf.zs P lp 256 = zz at *
                have ZL : Hid (zz = 256) := zl
                clear zl
                go_wp2_with fail
                go_ret
                exact ⟨congrArg (fun b => Ending.returned (Value.bool b)) (by have := ZL.out; simp; omega), BF⟩

set_option maxRecDepth 100000 in
set_option maxHeartbeats 2000000 in
theorem roots_b (n : Int) (a1 a2 : Option Addr) (len1 cap1 len2 cap2 : Nat) (lp lq : List Nat) (w : World) (hn1 : -9223372036854775808 ≤ n) (hn2 : n ≤ 9223372036854775807)
    (r1 : Reads w a1 len1 cap1 lp) (r2 : Reads w a2 len2 cap2 lq) (hz1 : cap1 ≤ 140737488351232) (_hz2 : cap2 ≤ 140737488351232) (hmin : len1 ≤ len2) :
    Calls Try.prog 3 #[.int .i64 n, .slice a1 len1 cap1, .slice a2 len2 cap2] w fun e w' => e = .returned (.bool true) ∧ Below w.heap.size w w' := by
  have l1 : len1 ≤ cap1 := r1.room
  have l2 : len2 ≤ cap2 := r2.room
  obtain ⟨i5, hi5, hiz, his, hib⟩ := info_parts Try.info5
  go_enter Try.func3, Try.ntmps3
  go_wp2_with fail
  refine (field_any n _ hn1 hn2).mono ?_
  rintro e w1 ⟨P, B, g, rfl, f0, hB, hbl⟩
  have q1 := r1.below hbl
  have q2 := r2.below hbl
  have BL : Hid (Below w.heap.size w w1) := hbl
  have HS : Hid (w.heap.size ≤ w1.heap.size) := hbl.size
  have LB : Hid (B < w1.heap.size) := World.block_lt_of_cell? w1 _ f0.poly
  have HI : Hid (Try.prog.info? 5 = some i5 ∧ i5.zero = some (.int .u8 0) ∧ i5.size = 1 ∧ i5.bytes = 1) := ⟨hi5, hiz, his, hib⟩
  clear hbl r1 r2 hB hi5 hiz his hib
  go_wp2_with fail
  go_loop [9, 10] (fun v i => ∃ k : Nat, k ≤ len1 ∧ i = .int .i64 k ∧ v = .bool (nb lp k)) (fun _ i => len1 - (intOf i).toNat)
  case atStart => exact ⟨0, by omega, rfl, rfl⟩
  case round =>
    obtain ⟨k, hk, rfl, rfl⟩ := hrel
    by_cases hlt : k < len1
    · obtain ⟨b, off, rfl, hc⟩ := q1.cells (by omega)
      have c1 := hc k hlt
      have NS : Hid (nb lp (k + 1) = (nb lp k && (lp.getD k 0 == 0))) := nb_succ lp k (by rw [q1.length]; exact hlt)
      generalize hc0 : lp.getD k 0 = c0 at *
      clear hc hc0
      cases hb : nb lp k
      · rw [hb] at NS
        clear hb
        go_wp2_with fail
        go_round
        case rel => exact ⟨k + 1, by omega, by go_num, by rw [NS.out]; rfl⟩
        case measure => simp [intOf]; omega
      · rw [hb] at NS
        clear hb
        go_wp2_with fail
        go_round
        case rel =>
          refine ⟨k + 1, by omega, by go_num, ?_⟩
          rw [NS.out]
          exact congrArg Value.bool (by cases h : (c0 == 0) <;> simp at h <;> simp <;> omega)
        case measure => simp [intOf]; omega
    · have hk' : len1 = k := by omega
      subst hk'
      clear hlt hk
      obtain ⟨nl, hnl⟩ : ∃ nl, nb lp len1 = nl := ⟨_, rfl⟩
      have NL : Hid (nb lp len1 = nl) := hnl
      rw [hnl]
      clear hnl
      go_wp2_with fail
      go_loopw [12, 13] (fun v i wr => ∃ k : Nat, k ≤ len1 ∧ i = .int .i64 k ∧ wr.ownsRow w1.heap.size 5 1 v k (cellsOf ((sums lp lq).take k)) ∧ Below w1.heap.size w1 wr) (fun _ i _ => len1 - (intOf i).toNat)
      case atStart => exact ⟨0, by omega, rfl, by rw [List.take_zero]; exact World.ownsRow_nil _ _ _ _, Below.refl _ _⟩
      case round =>
        obtain ⟨k, hk, rfl, hown, hbr⟩ := hrel
        by_cases hlt : k < len1
        · have s1 := q1.below hbr
          have s2 := q2.below hbr
          obtain ⟨b1, o1, rfl, hc1⟩ := q1.cells (by omega)
          obtain ⟨b2, o2, rfl, hc2⟩ := q2.cells (by omega)
          have n1 : b1 < w1.heap.size := World.block_lt_of_cell? w1 _ (hc1 k (by omega))
          have n2 : b2 < w1.heap.size := World.block_lt_of_cell? w1 _ (hc2 k (by omega))
          have c1 : wr.cell? ⟨b1, o1 + k, none⟩ = _ := (hbr.cell n1).trans (hc1 k (by omega))
          have c2 : wr.cell? ⟨b2, o2 + k, none⟩ = _ := (hbr.cell n2).trans (hc2 k (by omega))
          have d1 : lp.getD k 0 < 256 := getD_lt lp s1.bytes k
          have d2 : lq.getD k 0 < 256 := getD_lt lq s2.bytes k
          have ST : Hid ((sums lp lq).take (k + 1) = (sums lp lq).take k ++ [lp.getD k 0 ^^^ lq.getD k 0]) := sums_take lp lq k (by rw [q1.length]; omega) (by rw [q2.length]; omega)
          generalize lp.getD k 0 = x1 at *
          generalize lq.getD k 0 = x2 at *
          have e1 : (0 : Int) ≤ (k : Int) := Int.natCast_nonneg _
          have e2 : (k : Int) < (len1 : Int) := by omega
          have e3 : (k : Int) < (len2 : Int) := by omega
          have g1 := World.block_lt_of_cell? wr _ c1
          have g2 := World.block_lt_of_cell? wr _ c2
          have OW : Hid (wr.ownsRow w1.heap.size 5 1 u12 k (cellsOf ((sums lp lq).take k))) := hown
          have BR : Hid (Below w1.heap.size w1 wr) := hbr
          clear hc1 hc2 s1 s2 hown hbr
          go_wp2_with fail
          have hsz := BR.out.size
          have ne1 : u12.ownBlock ≠ some b1 := fun h => by have := (OW.out.lt b1 h).1; omega
          have ne2 : u12.ownBlock ≠ some b2 := fun h => by have := (OW.out.lt b2 h).1; omega
          go_region_held3 (fun w' => w'.cell? ⟨b1, o1 + k, none⟩ = some (.int .u8 (x1 : Int)) ∧ w'.cell? ⟨b2, o2 + k, none⟩ = some (.int .u8 (x2 : Int)))
            (first
              | go_keep
              | (go_split_ands
                 refine ⟨?_, ?_⟩
                 · (rw [hgrow.cell_far _ (by simp; omega) (Ne.symm ne1)]; assumption)
                 · (rw [hgrow.cell_far _ (by simp; omega) (Ne.symm ne2)]; assumption)))
            (first
              | (go_at_call 8; refine (add_any x1 x2 _ d1 d2).mono ?_; rintro e wx ⟨rfl, rfl⟩)
              | (refine step_append_lies _ (by rfl) (.tmp 45) (.tmp 55) 22 (by rfl) w1.heap.size 5 i5 _ 1 1 Try.underlying22 HI.out.1 HI.out.2.1 HI.out.2.2.1 HI.out.2.2.2 rfl (by omega) u12 k (cellsOf ((sums lp lq).take k)) (by rfl) ((OW.out.alloc _).drew) ⟨wr.heap.size, 0, none⟩ 1 1 [.int .u8 ((x1 ^^^ x2 : Nat) : Int)] (by rfl) (by rfl) (World.news_of_block (cs := #[.int .u8 ((x1 ^^^ x2 : Nat) : Int)]) (t := 5) (fr := (0, 0)) (heap_alloc_new wr _)) (by simp [Value.oneCell']) (by omega) (by unfold maxLen; omega) (by omega) (by simp; omega) (wr.heap.size + 1) (by simp) ?_; intro gg cap w2 hown1 hgrow hat hlt2)
              | fail)
          go_wp2
          go_roundw
          case rel =>
            refine ⟨k + 1, by omega, by go_num, by rw [ST.out, cellsOf_snoc]; exact hown1, ?_⟩
            exact Below.grown ((BR.out.alloc hsz _).drew) hgrow (by simp; omega) (fun j hj => (OW.out.lt j hj).1)
          case measure => simp [intOf]; omega
        · have hk' : len1 = k := by omega
          subst hk'
          clear hlt hk
          have bt : ∀ c ∈ (sums lp lq).take len1, c < 256 := fun c hc => sums_bytes lp lq q1.bytes q2.bytes c (List.mem_of_mem_take hc)
          obtain ⟨sa, scap, rfl, rs⟩ := owns_reads hown bt
          have p1 := q1.below hbr
          have p2 := q2.below hbr
          have fr := IsF.below hbr LB.out f0
          have hsz := hbr.size
          have BR : Hid (Below w1.heap.size w1 wr) := hbr
          clear hown hbr bt
          go_wp2_with (first | (at_builtin; refine wpList_append_reads _ rfl (.tmp 57) (.tmp 58) rfl w1.heap.size (.slice (some ⟨wr.heap.size, 0, none⟩) 1 1) 1 (cellsOf [3]) rfl (owns_lit wr 3 w1.heap.size hsz) (by simp) a1 len1 cap1 lp rfl (p1.below ((Below.refl _ _).alloc (Nat.le_refl _) _)) (by omega) (by simp; omega) ?_; intro v2 w2 hown2 hgrow2 hnn2) | fail)
          rw [show cellsOf [3] ++ cellsOf lp = cellsOf (3 :: lp) from rfl] at hown2
          obtain ⟨ul, hul⟩ : ∃ u, 1 + len1 = u := ⟨_, rfl⟩
          rw [hul] at hown2
          clear hul
          obtain ⟨ua, ucap, rfl, ru⟩ := owns_reads hown2 (fun c hc => by
            rcases List.mem_cons.1 hc with e | e
            · omega
            · exact p1.bytes c e)
          have b2 : Below wr.heap.size wr w2 := Below.grown ((Below.refl _ _).alloc (Nat.le_refl _) _) hgrow2 (by simp) (fun j hj => by simp [Value.ownBlock] at hj; omega)
          have t0 := p1.below b2
          have ts := rs.below b2
          have tp := t0.take len1 (by omega)
          have tq := (p2.below b2).take len1 (by omega)
          have f2 := IsF.below b2 (World.block_lt_of_cell? wr _ fr.poly) fr
          have BT : Hid (Below w.heap.size w w2) := BL.out.trans ((BR.out.mono HS.out).trans (b2.mono (Nat.le_trans HS.out hsz)))
          clear hown2 hgrow2 hnn2 b2 rs p1 p2 fr BR BL
          go_wp2_with fail
          go_loopw [8, 15, 16] (fun z x v wx => ∃ k : Nat, k ≤ 256 ∧ x = .int .i64 k ∧ z = .int .i64 ((Gf.zs P lp k : Nat) : Int) ∧ Qt w2 wx) (fun _ x _ _ => 256 - (intOf x).toNat)
          case atStart => exact ⟨0, by omega, rfl, rfl, Qt.refl _⟩
          case round =>
            obtain ⟨k, hk, rfl, rfl, qx⟩ := hrel
            by_cases hlt : k < 256
            · go_wp2_with fail
              refine (eval_any P B len1 cap1 k _ a1 lp _ g (qx.isF f2) hlt (qx.reads t0) rfl).mono ?_
              rintro e w3 ⟨rfl, q3⟩
              have lz := Gf.zs_le P lp k
              have ZS : Hid (Gf.zs P lp (k + 1) = Gf.zs P lp k + if Gf.ev P lp k = 0 then 1 else 0) := rfl
              obtain ⟨v0, hv0⟩ : ∃ v, Gf.ev P lp k = v := ⟨_, rfl⟩
              rw [hv0]
              obtain ⟨e1, he1⟩ : ∃ v, Gf.ev P ((sums lp lq).take len1) k = v := ⟨_, rfl⟩
              obtain ⟨e2, he2⟩ : ∃ v, Gf.ev P (lp.take len1) k = v := ⟨_, rfl⟩
              obtain ⟨e3, he3⟩ : ∃ v, Gf.ev P (lq.take len1) k = v := ⟨_, rfl⟩
              obtain ⟨m0, hm0⟩ : ∃ v, Gf.mul P v0 k = v := ⟨_, rfl⟩
              have h12 : e2 ^^^ e3 = e1 := by
                rw [← he1, ← he2, ← he3, sums_cut]
                exact (Gf.ev_zip g k _ _ tp.bytes tq.bytes (by rw [tp.length, tq.length])).symm
              have k2 : e2 < 256 := he2 ▸ Gf.ev_lt g _ tp.bytes k
              have k3 : e3 < 256 := he3 ▸ Gf.ev_lt g _ tq.bytes k
              have k0 : v0 < 256 := hv0 ▸ Gf.ev_lt g _ t0.bytes k
              have k4 : m0 < 256 := hm0 ▸ g.mul_lt _ _
              have he4 : Gf.ev P (3 :: lp) k = m0 ^^^ 3 := by
                show Gf.mul P (Gf.ev P lp k) k ^^^ 3 = _
                rw [hv0, hm0]
              have Q3 := qx.trans q3
              have f3 := Q3.isF f2
              have H1 : Hid (∀ n, Calls Try.prog 9 #[.pointer (some ⟨B, 0, none⟩), .slice sa len1 scap, .int .u8 (k : Int)] (w3.drewN n) fun e w' => e = .returned (.int .u8 (e1 : Int)) ∧ ∃ q, w' = (w3.drewN n).drewN q) := fun n => eval_any P B len1 scap k e1 sa _ _ g ((Qt.drewN w3 n).isF f3) hlt ((Q3.trans (Qt.drewN w3 n)).reads ts) he1
              have H2 : Hid (∀ n, Calls Try.prog 9 #[.pointer (some ⟨B, 0, none⟩), .slice a1 len1 cap1, .int .u8 (k : Int)] (w3.drewN n) fun e w' => e = .returned (.int .u8 (e2 : Int)) ∧ ∃ q, w' = (w3.drewN n).drewN q) := fun n => eval_any P B len1 cap1 k e2 a1 _ _ g ((Qt.drewN w3 n).isF f3) hlt ((Q3.trans (Qt.drewN w3 n)).reads tp) he2
              have H3 : Hid (∀ n, Calls Try.prog 9 #[.pointer (some ⟨B, 0, none⟩), .slice a2 len1 cap2, .int .u8 (k : Int)] (w3.drewN n) fun e w' => e = .returned (.int .u8 (e3 : Int)) ∧ ∃ q, w' = (w3.drewN n).drewN q) := fun n => eval_any P B len1 cap2 k e3 a2 _ _ g ((Qt.drewN w3 n).isF f3) hlt ((Q3.trans (Qt.drewN w3 n)).reads tq) he3
              have H4 : Hid (∀ n, Calls Try.prog 9 #[.pointer (some ⟨B, 0, none⟩), .slice ua ul ucap, .int .u8 (k : Int)] (w3.drewN n) fun e w' => e = .returned (.int .u8 ((m0 ^^^ 3 : Nat) : Int)) ∧ ∃ q, w' = (w3.drewN n).drewN q) := fun n => eval_any P B ul ucap k _ ua _ _ g ((Qt.drewN w3 n).isF f3) hlt ((Q3.trans (Qt.drewN w3 n)).reads ru) he4
              have A1 : Hid (∀ n, Calls Try.prog 8 #[.int .u8 (e2 : Int), .int .u8 (e3 : Int)] (w3.drewN n) fun e w' => e = .returned (.int .u8 (e1 : Int)) ∧ w' = w3.drewN n) := fun n => h12 ▸ add_any e2 e3 (w3.drewN n) k2 k3
              have A2 : Hid (∀ n, Calls Try.prog 8 #[.int .u8 (m0 : Int), .int .u8 3] (w3.drewN n) fun e w' => e = .returned (.int .u8 ((m0 ^^^ 3 : Nat) : Int)) ∧ w' = w3.drewN n) := fun n => add_any m0 3 (w3.drewN n) k4 (by omega)
              have M0 : Hid (∀ n, Calls Try.prog 10 #[.pointer (some ⟨B, 0, none⟩), .int .u8 (v0 : Int), .int .u8 (k : Int)] (w3.drewN n) fun e w' => e = .returned (.int .u8 (m0 : Int)) ∧ ∃ q, w' = (w3.drewN n).drewN q) := fun n => mul_n P B v0 k m0 (w3.drewN n) g ((Qt.drewN w3 n).isF f3) k0 hlt hm0
              rw [hv0] at ZS
              have x1 : (0 : Int) ≤ (len1 : Int) := Int.natCast_nonneg _
              have x2 : (len1 : Int) ≤ (len1 : Int) := by omega
              have x3 : (len1 : Int) ≤ (len2 : Int) := by omega
              have x4 : (len1 : Int) ≤ (cap1 : Int) := by omega
              have x5 : (len1 : Int) ≤ (cap2 : Int) := by omega
              clear he1 he2 he3 hm0 h12 he4 hv0 f3
              by_cases hvz : v0 = 0
              · have tv : ((v0 : Int) == 0) = true := by simp; omega
                have VZ : Hid (v0 = 0) := hvz
                clear hvz
                go_wp2_with fail
                go_quiet (first | (go_at_call_of 9 (Value.slice sa len1 scap); exact Calls.quiet_of (H1.out _)) | (go_at_call_of 9 (Value.slice a1 len1 cap1); exact Calls.quiet_of (H2.out _)) | (go_at_call_of 9 (Value.slice a2 len1 cap2); exact Calls.quiet_of (H3.out _)) | (go_at_call_of 9 (Value.slice ua ul ucap); exact Calls.quiet_of (H4.out _)) | (go_at_call_of 8 (Value.int IntKind.u8 (e2 : Int)); exact Calls.quiet_of_same (A1.out _)) | (go_at_call_of 8 (Value.int IntKind.u8 (m0 : Int)); exact Calls.quiet_of_same (A2.out _)) | (go_at_call 10; exact Calls.quiet_of (M0.out _)) | fail)
                go_wp2_with fail
                go_roundw
                case rel => exact ⟨k + 1, by omega, by go_num, by rw [ZS.out, if_pos VZ.out]; rfl, Q3.trans (Qt.drewN _ _)⟩
                case measure => simp [intOf]; omega
              · have tv : ((v0 : Int) == 0) = false := by simp; omega
                have VZ : Hid (¬ v0 = 0) := hvz
                clear hvz
                go_wp2_with fail
                go_quiet (first | (go_at_call_of 9 (Value.slice sa len1 scap); exact Calls.quiet_of (H1.out _)) | (go_at_call_of 9 (Value.slice a1 len1 cap1); exact Calls.quiet_of (H2.out _)) | (go_at_call_of 9 (Value.slice a2 len1 cap2); exact Calls.quiet_of (H3.out _)) | (go_at_call_of 9 (Value.slice ua ul ucap); exact Calls.quiet_of (H4.out _)) | (go_at_call_of 8 (Value.int IntKind.u8 (e2 : Int)); exact Calls.quiet_of_same (A1.out _)) | (go_at_call_of 8 (Value.int IntKind.u8 (m0 : Int)); exact Calls.quiet_of_same (A2.out _)) | (go_at_call 10; exact Calls.quiet_of (M0.out _)) | fail)
                go_wp2_with fail
                go_roundw
                case rel => exact ⟨k + 1, by omega, by go_num, by rw [ZS.out, if_neg VZ.out]; rfl, Q3.trans (Qt.drewN _ _)⟩
                case measure => simp [intOf]; omega
            · have hk' : 256 = k := by omega
              subst hk'
              clear hlt hk
              have BF := BT.out.trans (Qt.below qx)
              have HL := q1.length
              cases hnl : nl
              · rw [hnl] at NL
                have zl : Gf.zs P lp 256 < len1 := by
                  rw [← HL]
                  exact Gf.zs_lt g lp q1.bytes (fun h => by
                    have := NL.out
                    rw [← HL, (nb_null lp).2 h] at this
                    cases this)
                clear HL
                generalize Gf.zs P lp 256 = zz at *
                go_wp2_with fail
                go_ret
                exact ⟨congrArg (fun b => Ending.returned (Value.bool b)) (by simp), BF⟩
              · rw [hnl] at NL
                have zl : Gf.zs P lp 256 = 256 := Gf.zs_null P lp ((nb_null lp).1 (by rw [HL]; exact NL.out)) 256
                clear HL
                generalize Gf.zs P lp 256 = zz at *
                have ZL : Hid (zz = 256) := zl
                clear zl
                go_wp2_with fail
                go_ret
                exact ⟨congrArg (fun b => Ending.returned (Value.bool b)) (by have := ZL.out; simp; omega), BF⟩
end Go.Proofs.Ytankiipkkbihiaa
