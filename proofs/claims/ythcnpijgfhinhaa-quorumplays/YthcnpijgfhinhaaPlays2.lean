import Derived.Test.YthcnpijgfhinhaaPlays
namespace Go.Proofs.Ythcnpijgfhinhaa
open Go.RowKit

theorem mem_low {w : World} {r : Nat} {N K D : Int} {a : Option Addr} {cap : Nat} {l : List Int} (h : IsR w r N K D a cap l) (x : Int) : memI (lset l N) x = decide (x ∈ l) := by
  rw [lset_mem]
  by_cases hx : x ∈ l
  · have := h.low x hx
    unfold inN
    simp [hx, this.1, this.2]
  · simp [hx]
set_option maxRecDepth 100000 in
set_option maxHeartbeats 4000000 in
theorem plays_add {w wr : World} {B n : Nat} {f : Nat → Ent} {aS : Option Addr} {cS : Nat} {aR : Option Addr} {cR : Nat} (h : Bk w wr B n f aS cS aR cR) (N K D I J x : Int) (hn : n ≤ 4611686018427387000) (hb : (n + 1) * 8 ≤ 140737488355328) :
    Calls Try.prog 28 #[.pointer (some ⟨B, 0, none⟩), .agg #[.int .i64 1, .int .i64 N, .int .i64 K, .int .i64 D, .int .i64 I, .int .i64 J, .int .i64 x]] wr (Kept1 w B (n + 1)) := by
  have P0 : Hid (Po w (wr.alloc (Obj.cells #[.int .i64 1, .int .i64 N, .int .i64 K, .int .i64 D, .int .i64 I, .int .i64 J, .int .i64 x] 51)) B n f aS cS aR cR wr.heap.size 1 N K D I J x) := Po.start h _ _ _ _ _ _ _
  have HN : Hid (n ≤ 4611686018427387000) := hn
  have HB : Hid ((n + 1) * 8 ≤ 140737488355328) := hb
  obtain ⟨O, hO⟩ : ∃ O, wr.heap.size = O := ⟨_, rfl⟩
  rw [hO] at P0
  clear h hn hb
  go_enter Try.func28, Try.ntmps28
  go_wp2_with fail
  refine (P0.out.at HN.out I).mono ?_
  rintro o w1 ⟨p, q, rfl, P1⟩
  obtain ⟨b0, b1, b2, b3, b4, b5, b6⟩ := P1.out.2.cells
  clear P0 hO
  rcases P1.out.1 with ⟨rfl, rfl⟩ | ⟨i, hi, rfl, rfl⟩
  · go_wp2_with fail
    refine (add_nil x _).mono ?_
    rintro o w2 ⟨rfl, rfl⟩
    go_wp2_with fail
    refine (rAdd_nil x _).mono ?_
    rintro o w3 ⟨rfl, rfl⟩
    go_wp2_with fail
    go_ret
    exact ⟨rfl, n, f, aS, cS, aR, cR, Nat.le_succ _, P1.out.2.bk⟩
  · have E1 : Hid ((f i).Ok w1) := P1.out.2.bk.ent i hi
    have ML := mem_low E1.out.f x
    go_wp2_with fail
    refine (add_any x _ E1.out.s).mono ?_
    rw [ML]
    rintro o w2 ⟨rfl, hS, k2⟩
    have nb : ∀ {c : Nat} {cs : Array Value} {t : TypeId}, w1.heap[c]? = some (.cells cs t (0, 0)) → t ≠ 63 → ¬ c = (f i).b := fun hc h1 q => blk_ne hc E1.out.s.blk h1 q
    have bx := k2.get P1.out.2.box (nb P1.out.2.box (by decide))
    have R2 : Hid (IsR w2 (f i).r (f i).N (f i).K (f i).D (f i).a (f i).cap (f i).l) := E1.out.f.kept k2 (nb E1.out.f.blk (by decide)) (fun g e => by obtain ⟨cur, hg⟩ := E1.out.f.row.blk e; exact nb hg (by decide))
    have S2 : Hid (IsS w2 (f i).b (f i).N (f i).K (f i).D (addM (lset (f i).l (f i).N) (f i).N x) ∧ Kept (fun k => k = (f i).b) w1 w2) := ⟨hS, k2⟩
    clear b0 b1 b2 b3 b4 b5 b6 hS k2 nb ML E1
    have b6 := cell_blk bx 6 rfl
    clear bx
    obtain ⟨vb, hvb⟩ : ∃ v, (inN (f i).N x && !decide (x ∈ (f i).l)) = v := ⟨_, rfl⟩
    obtain ⟨ve, hve⟩ : ∃ v : Int, (if inN (f i).N x = true then 0 else 51) = v := ⟨_, rfl⟩
    rw [hvb, hve]
    have VB : Hid ((inN (f i).N x && !decide (x ∈ (f i).l)) = vb ∧ (if inN (f i).N x = true then 0 else 51) = ve) := ⟨hvb, hve⟩
    clear hvb hve
    go_wp2_with fail
    refine (rAdd x _ R2.out).mono ?_
    rw [VB.out.1, VB.out.2]
    rintro o w3 ⟨rfl, a', cap', R3⟩
    have T3 : Hid (Bk w w3 B n (fun j => if j = i then ⟨(f i).b, (f i).r, (f i).N, (f i).K, (f i).D, a', cap', addL (f i).l (f i).N x⟩ else f j) aS cS aR cR) := by
      have nb : ∀ {c : Nat} {cs : Array Value} {t : TypeId}, w2.heap[c]? = some (.cells cs t (0, 0)) → t ≠ 78 → t ≠ 3 → ¬ foot (f i).r (f i).a c := fun hc h1 h2 q => by
        rcases q with q | q
        · exact blk_ne hc R2.out.blk h1 q
        · obtain ⟨cur, hg⟩ := R2.out.row.blk q; exact blk_ne hc hg h2 rfl
      refine P1.out.2.bk.touch i hi ⟨(f i).b, (f i).r, (f i).N, (f i).K, (f i).D, a', cap', addL (f i).l (f i).N x⟩ ⟨?_, R3.out.1⟩ rfl rfl (fun g e => ?_) ?_
      · rw [addL_set]
        exact S2.out.1.kept R3.out.2.1 (nb S2.out.1.blk (by decide) (by decide))
      · rcases R3.out.2.2 g e with q | q
        · exact .inl q
        · exact .inr (Nat.le_trans S2.out.2.size q)
      · exact (S2.out.2.mono (fun k _ e => .inl e)).trans (R3.out.2.1.mono (S' := fun j => j = (f i).b ∨ j = (f i).r ∨ blockOf (f i).a = some j) (fun k _ e => .inr e)) (fun _ _ e => e)
    clear R3 S2 R2 P1
    have tv : ∀ b : Bool, (b == b) = true := by decide
    go_wp2_with fail
    go_ret
    exact ⟨by simp, n, _, aS, cS, aR, cR, Nat.le_succ _, T3.out⟩
set_option maxRecDepth 100000 in
set_option maxHeartbeats 4000000 in
theorem plays_tell {w wr : World} {B n : Nat} {f : Nat → Ent} {aS : Option Addr} {cS : Nat} {aR : Option Addr} {cR : Nat} (h : Bk w wr B n f aS cS aR cR) (N K D I J x : Int) (hn : n ≤ 4611686018427387000) (hb : (n + 1) * 8 ≤ 140737488355328) :
    Calls Try.prog 28 #[.pointer (some ⟨B, 0, none⟩), .agg #[.int .i64 2, .int .i64 N, .int .i64 K, .int .i64 D, .int .i64 I, .int .i64 J, .int .i64 x]] wr (Kept1 w B (n + 1)) := by
  have P0 : Hid (Po w (wr.alloc (Obj.cells #[.int .i64 2, .int .i64 N, .int .i64 K, .int .i64 D, .int .i64 I, .int .i64 J, .int .i64 x] 51)) B n f aS cS aR cR wr.heap.size 2 N K D I J x) := Po.start h _ _ _ _ _ _ _
  have HN : Hid (n ≤ 4611686018427387000) := hn
  have HB : Hid ((n + 1) * 8 ≤ 140737488355328) := hb
  obtain ⟨O, hO⟩ : ∃ O, wr.heap.size = O := ⟨_, rfl⟩
  rw [hO] at P0
  clear h hn hb
  go_enter Try.func28, Try.ntmps28
  go_wp2_with fail
  refine (P0.out.at HN.out I).mono ?_
  rintro o w1 ⟨p, q, rfl, P1⟩
  obtain ⟨b0, b1, b2, b3, b4, b5, b6⟩ := P1.out.2.cells
  clear P0 hO
  rcases P1.out.1 with ⟨rfl, rfl⟩ | ⟨i, hi, rfl, rfl⟩
  · have ST : Hid (Po w w1.drew B n f aS cS aR cR O 2 N K D I J x) := P1.out.2.by ((Below.refl _ _).drew)
    clear P1
    go_upto_region 12 with fail
    clear b0 b1 b2 b3 b4 b5
    go_region_held3 (fun w' => w'.cell? ⟨O, 6, none⟩ = some (.int .i64 x)) (go_keep)
      (first | (go_at_call 29; refine (same_none 0 false [] [] _ (tells_nil _)).mono ?_; rintro o w2 ⟨rfl, B2⟩; have ST2 := ST.out.by B2; clear ST; have ST : Hid (Po _ _ _ _ _ _ _ _ _ _ _ _ _ _ _ _ _) := ST2; obtain ⟨_, _, _, _, _, _, b6⟩ := ST2.cells; clear ST2 B2) | (go_at_call 13; refine (has_nil x _).mono ?_; rintro o w2 ⟨rfl, rfl⟩) | (go_at_call 41; refine (rHas_nil x _).mono ?_; rintro o w2 ⟨rfl, rfl⟩) | fail)
    all_goals go_wp2_with fail
    all_goals go_ret
    all_goals exact ⟨rfl, n, f, aS, cS, aR, cR, Nat.le_succ _, ST.out.bk⟩
  · have ST : Hid (Po w w1.drew B n f aS cS aR cR O 2 N K D I J x) := P1.out.2.by ((Below.refl _ _).drew)
    have ML := mem_low (P1.out.2.bk.ent i hi).f x
    obtain ⟨vb, hvb⟩ : ∃ v, decide (x ∈ (f i).l) = v := ⟨_, rfl⟩
    rw [hvb] at ML
    have VB : Hid (decide (x ∈ (f i).l) = vb ∧ memI (lset (f i).l (f i).N) x = vb) := ⟨hvb, ML⟩
    clear P1 hvb ML
    have tv : ∀ b : Bool, (b == b) = true := by decide
    go_upto_region 12 with fail
    clear b0 b1 b2 b3 b4 b5
    go_region_held3 (fun w' => w'.cell? ⟨O, 6, none⟩ = some (.int .i64 x)) (go_keep)
      (first | (go_at_call 29; refine (same_some _ _ _ _ _ _ _ (tells_of (ST.out.bk.ent i hi).s (ST.out.bk.ent i hi).f)).mono ?_; rintro o w2 ⟨rfl, B2⟩; have ST2 := ST.out.by B2; clear ST; have ST : Hid (Po _ _ _ _ _ _ _ _ _ _ _ _ _ _ _ _ _) := ST2; obtain ⟨_, _, _, _, _, _, b6⟩ := ST2.cells; clear ST2 B2) | (go_at_call 13; refine (has x _ (ST.out.bk.ent i hi).s).mono ?_; rw [VB.out.2]; rintro o w2 ⟨rfl, rfl⟩) | (go_at_call 41; refine (rHas x _ (ST.out.bk.ent i hi).f).mono ?_; rw [VB.out.1]; rintro o w2 ⟨rfl, rfl⟩) | fail)
    all_goals go_wp2_with fail
    all_goals go_ret
    all_goals exact ⟨by simp, n, f, aS, cS, aR, cR, Nat.le_succ _, ST.out.bk⟩
set_option maxRecDepth 100000 in
set_option maxHeartbeats 4000000 in
theorem plays_and {w wr : World} {B n : Nat} {f : Nat → Ent} {aS : Option Addr} {cS : Nat} {aR : Option Addr} {cR : Nat} (h : Bk w wr B n f aS cS aR cR) (N K D I J x : Int) (hn : n ≤ 4611686018427387000) (hb : (n + 1) * 8 ≤ 140737488355328) :
    Calls Try.prog 28 #[.pointer (some ⟨B, 0, none⟩), .agg #[.int .i64 3, .int .i64 N, .int .i64 K, .int .i64 D, .int .i64 I, .int .i64 J, .int .i64 x]] wr (Kept1 w B (n + 1)) := by
  have P0 : Hid (Po w (wr.alloc (Obj.cells #[.int .i64 3, .int .i64 N, .int .i64 K, .int .i64 D, .int .i64 I, .int .i64 J, .int .i64 x] 51)) B n f aS cS aR cR wr.heap.size 3 N K D I J x) := Po.start h _ _ _ _ _ _ _
  have HN : Hid (n ≤ 4611686018427387000) := hn
  have HB : Hid ((n + 1) * 8 ≤ 140737488355328) := hb
  obtain ⟨O, hO⟩ : ∃ O, wr.heap.size = O := ⟨_, rfl⟩
  rw [hO] at P0
  clear h hn hb
  go_enter Try.func28, Try.ntmps28
  go_wp2_with fail
  refine (P0.out.at HN.out I).mono ?_
  rintro o w1 ⟨p, q, rfl, P1⟩
  obtain ⟨b0, b1, b2, b3, b4, b5, b6⟩ := P1.out.2.cells
  clear P0 hO
  go_wp2_with fail
  refine (P1.out.2.at HN.out J).mono ?_
  rintro o w2 ⟨p2, q2, rfl, P2⟩
  have S1 : Hid (Sel n f p q) := P1.out.1
  clear P1 b0 b1 b2 b3 b4 b5 b6
  rcases S1.out with ⟨rfl, rfl⟩ | ⟨i, hi, rfl, rfl⟩
  · have P3 : Hid (Bk w w2 B n f aS cS aR cR) := P2.out.2.bk
    clear P2
    go_wp2_with fail
    refine (and_nil _ _).mono ?_
    rintro o w3 ⟨rfl, rfl⟩
    go_wp2_with fail
    refine (rAnd_nil _ _).mono ?_
    rintro o w4 ⟨rfl, rfl⟩
    go_wp2_with fail
    refine (keep_none P3.out 0).mono ?_
    rintro o w5 ⟨rfl, L4⟩
    have L5 : Hid (Left w B (n + 1) w5) := L4
    clear L4
    go_wp2_with fail
    go_ret
    exact ⟨rfl, L5.out⟩
  · rcases P2.out.1 with ⟨rfl, rfl⟩ | ⟨j, hj, rfl, rfl⟩
    · have E2 : Hid ((f i).Ok w2) := P2.out.2.bk.ent i hi
      go_wp2_with fail
      refine (and_none _ E2.out.s).mono ?_
      rintro o w3 ⟨rfl, c3⟩
      have P4 : Hid (Bk w w3 B n f aS cS aR cR) := P2.out.2.bk.by c3
      clear c3 E2 P2
      go_wp2_with fail
      refine (rAnd_none _ _).mono ?_
      rintro o w4 ⟨rfl, c4⟩
      have P3 : Hid (Bk w w4 B n f aS cS aR cR) := P4.out.by c4
      clear c4 P4
      go_wp2_with fail
      refine (keep_none P3.out 1).mono ?_
      rintro o w5 ⟨rfl, L4⟩
      have L5 : Hid (Left w B (n + 1) w5) := L4
      clear L4
      go_wp2_with fail
      go_ret
      exact ⟨rfl, L5.out⟩
    · by_cases hc : (f j).N = (f i).N ∧ (f j).K = (f i).K ∧ (f j).D = (f i).D
      · have P3 : Hid (Bk w w2 B n f aS cS aR cR) := P2.out.2.bk
        have E2 : Hid ((f i).Ok w2) := P3.out.ent i hi
        have F2 : Hid (IsS w2 (f j).b (f i).N (f i).K (f i).D (lset (f j).l (f i).N) ∧ IsR w2 (f j).r (f i).N (f i).K (f i).D (f j).a (f j).cap (f j).l) := by
          have := P3.out.ent j hj
          refine ⟨?_, ?_⟩
          · have s := this.s
            rw [hc.1, hc.2.1, hc.2.2] at s
            exact s
          · have s := this.f
            rw [hc.1, hc.2.1, hc.2.2] at s
            exact s
        clear P2 hc
        go_wp2_with fail
        refine (and_same _ E2.out.s F2.out.1).mono ?_
        rintro o w3 ⟨b, hb, rfl, hS, c3⟩
        rw [← both_set] at hS
        have P4 : Hid (Bk w w3 B n f aS cS aR cR ∧ IsS w3 b (f i).N (f i).K (f i).D (lset (both (f i).l (f j).l) (f i).N) ∧ w2.heap.size ≤ b ∧ Below w2.heap.size w2 w3 ∧ (f i).Ok w3 ∧ IsR w3 (f j).r (f i).N (f i).K (f i).D (f j).a (f j).cap (f j).l) := ⟨P3.out.by c3, hS, hb, c3, E2.out.by c3, F2.out.2.by c3⟩
        clear hS hb c3 E2 F2
        go_wp2_with fail
        refine (rAnd_same _ P4.out.2.2.2.2.1.f P4.out.2.2.2.2.2).mono ?_
        rintro o w4 ⟨r, qa, qc, hr, rfl, R3⟩
        have P5 : Hid (Bk w w4 B n f aS cS aR cR ∧ Ent.Ok w4 ⟨b, r, (f i).N, (f i).K, (f i).D, qa, qc, both (f i).l (f j).l⟩ ∧ (Ent.Far w.heap.size ⟨b, r, (f i).N, (f i).K, (f i).D, qa, qc, both (f i).l (f j).l⟩ ∧ ∀ m, m < n → (f m).Apart ⟨b, r, (f i).N, (f i).K, (f i).D, qa, qc, both (f i).l (f j).l⟩ ∧ Ent.Apart ⟨b, r, (f i).N, (f i).K, (f i).D, qa, qc, both (f i).l (f j).l⟩ (f m))) :=
          ⟨P4.out.1.by R3.out.2.2, ⟨P4.out.2.1.by R3.out.2.2, R3.out.1⟩, fresh_ap P3.out ⟨b, r, (f i).N, (f i).K, (f i).D, qa, qc, both (f i).l (f j).l⟩ P4.out.2.2.1 (Nat.le_trans P4.out.2.2.2.1.size hr) (fun g e => Nat.le_trans P4.out.2.2.2.1.size (R3.out.2.1 g e))⟩
        clear R3 hr P4 P3
        go_wp2_with fail
        refine (keep_some P5.out.1 ⟨b, r, (f i).N, (f i).K, (f i).D, qa, qc, both (f i).l (f j).l⟩ P5.out.2.1 P5.out.2.2.1 P5.out.2.2.2 HB.out).mono ?_
        rintro o w5 ⟨rfl, L4⟩
        have L5 : Hid (Left w B (n + 1) w5) := L4
        clear L4
        go_wp2_with fail
        go_ret
        exact ⟨rfl, L5.out⟩
      · have E2 : Hid ((f i).Ok w2 ∧ (f j).Ok w2) := ⟨P2.out.2.bk.ent i hi, P2.out.2.bk.ent j hj⟩
        have HC : Hid (¬ ((f j).N = (f i).N ∧ (f j).K = (f i).K ∧ (f j).D = (f i).D)) := hc
        clear hc
        go_wp2_with fail
        refine (and_other _ E2.out.1.s E2.out.2.s HC.out).mono ?_
        rintro o w3 ⟨rfl, c3⟩
        have P4 : Hid (Bk w w3 B n f aS cS aR cR ∧ (f i).Ok w3 ∧ (f j).Ok w3) := ⟨P2.out.2.bk.by c3, E2.out.1.by c3, E2.out.2.by c3⟩
        clear c3 E2 P2
        go_wp2_with fail
        refine (rAnd_other _ P4.out.2.1.f P4.out.2.2.f HC.out).mono ?_
        rintro o w4 ⟨rfl, c4⟩
        have P3 : Hid (Bk w w4 B n f aS cS aR cR) := P4.out.1.by c4
        clear c4 P4
        go_wp2_with fail
        refine (keep_none P3.out 1).mono ?_
        rintro o w5 ⟨rfl, L4⟩
        have L5 : Hid (Left w B (n + 1) w5) := L4
        clear L4
        go_wp2_with fail
        go_ret
        exact ⟨rfl, L5.out⟩
theorem plays {w wr : World} {B n : Nat} (h : Left w B n wr) (k N K D I J x : Int) (hn : n ≤ 4611686018427387000) (hb : (n + 1) * 8 ≤ 140737488355328) :
    Calls Try.prog 28 #[.pointer (some ⟨B, 0, none⟩), .agg #[.int .i64 k, .int .i64 N, .int .i64 K, .int .i64 D, .int .i64 I, .int .i64 J, .int .i64 x]] wr (Kept1 w B (n + 1)) := by
  obtain ⟨m, f, aS, cS, aR, cR, hm, h⟩ := h
  have hn' : m ≤ 4611686018427387000 := Nat.le_trans hm hn
  have hb' : (m + 1) * 8 ≤ 140737488355328 := Nat.le_trans (Nat.mul_le_mul_right 8 (Nat.succ_le_succ hm)) hb
  have up : ∀ o w', Kept1 w B (m + 1) o w' → Kept1 w B (n + 1) o w' := fun o w' ⟨he, m2, f2, s1, s2, s3, s4, hm2, hh⟩ => ⟨he, m2, f2, s1, s2, s3, s4, Nat.le_trans hm2 (Nat.succ_le_succ hm), hh⟩
  by_cases h0 : k = 0
  · subst h0
    by_cases hok : okC N K D
    · exact (plays_new h N K D I J x hok hn' hb').mono up
    · exact (plays_newnot h N K D I J x hok hn' hb').mono up
  · by_cases h1 : k = 1
    · subst h1; exact (plays_add h N K D I J x hn' hb').mono up
    · by_cases h2 : k = 2
      · subst h2; exact (plays_tell h N K D I J x hn' hb').mono up
      · by_cases h3 : k = 3
        · subst h3; exact (plays_and h N K D I J x hn' hb').mono up
        · by_cases h4 : k = 4
          · subst h4; exact (plays_copy h N K D I J x hn' hb').mono up
          · exact (plays_other h k N K D I J x h0 h1 h2 h3 h4 hn' hb').mono up
end Go.Proofs.Ythcnpijgfhinhaa
