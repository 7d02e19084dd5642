import Derived.Test.YtojepeefphbekabGreatRowA
namespace Go.Proofs.YtojepeefphbekabGreat
open Go.RowKit

/-- A map of tags, or none. -/
def Looks (w : World) (m : Value) (M : Int × Int → Option Hd) : Prop := (m = .map none ∧ M = fun _ => none) ∨ ∃ mb n, m = .map (some mb) ∧ TM 31 tl TFit Hd.val RH w mb n M
theorem Looks.k0 {w w' : World} {m : Value} {M : Int × Int → Option Hd} (h : Looks w m M) (K : Kept (fun _ => False) w w') : Looks w' m M := by
  rcases h with h | ⟨mb, n, h1, h2⟩
  · exact .inl h
  · exact .inr ⟨mb, n, h1, h2.kept K (fun z => z)⟩
theorem look_nil (t : Int × Int) (ht : TFit t) (w : World) : (Instr.lookup 57 (.map none) (tv t) false).run Tryz.prog w = .ok Hd.zero.val w := by
  rcases tagsK.law.find w (key_tag t ht) [] (by simp) with ⟨h1, _⟩ | ⟨j, e, _, h2, _⟩
  · simp [Instr.lookup, run_underlying Tryz.underlying57, tagsK.law.check w _ (key_tag t ht), h1, Tryz.zeroValue87 w, Result.andThen, Hd.val, Hd.zero]
  · simp at h2
theorem Looks.run {w : World} {m : Value} {M : Int × Int → Option Hd} (h : Looks w m M) (t : Int × Int) (ht : TFit t) : (Instr.lookup 57 m (tv t) false).run Tryz.prog w = .ok ((M t).getD Hd.zero).val w := by
  rcases h with ⟨rfl, rfl⟩ | ⟨mb, n, rfl, h⟩
  · exact look_nil t ht w
  · exact h.look tagsK ht
/-- What of an update would be new. -/
def lackF (S : List (Int × Int)) (M : Int × Int → Option Hd) (u : Upd) (d : Int) : Bool × Bool :=
  if tc (u.x, u.y) (floorT S d) < 0 then (false, false) else (u.brings && !((M (u.x, u.y)).getD Hd.zero).has, u.final && !((M (u.x, u.y)).getD Hd.zero).fin)
theorem four_new (w : World) (o0 o1 o2 o3 : Obj) : ((((w.alloc o0).alloc o1).alloc o2).alloc o3).heap[w.heap.size]? = some o0 ∧ ((((w.alloc o0).alloc o1).alloc o2).alloc o3).heap[w.heap.size + 1]? = some o1 ∧ ((((w.alloc o0).alloc o1).alloc o2).alloc o3).heap[w.heap.size + 2]? = some o2 ∧ ((((w.alloc o0).alloc o1).alloc o2).alloc o3).heap[w.heap.size + 3]? = some o3 := by
  have e1 : ((w.alloc o0).alloc o1).heap.size = w.heap.size + 2 := by simp
  have a := two0 ((w.alloc o0).alloc o1) o2 o3
  have b := two1 ((w.alloc o0).alloc o1) o2 o3
  rw [e1] at a b
  refine ⟨?_, ?_, a, b⟩
  · rw [Below.heap_alloc _ _ _ (by simp; omega), Below.heap_alloc _ _ _ (by simp; omega)]
    exact two0 w o0 o1
  · rw [Below.heap_alloc _ _ _ (by simp), Below.heap_alloc _ _ _ (by simp)]
    exact two1 w o0 o1
theorem Tryz.info56 : (Tryz.prog.info? 56).map (·.size) = some 2 := by kernel_rfl
theorem results_lack {fn : Func} {p : Tmp} (h : fn.results = #[.cell p 56]) (tmps : Array Value) (w : World) (b : Nat) (f g : Bool) (hp : tmps.getD p undef = .pointer (some ⟨b, 0, none⟩)) (hb : w.heap[b]? = some (.cells #[.bool f, .bool g] 56 (0, 0))) : (results fn tmps).run Tryz.prog w = .ok (.agg #[.bool f, .bool g]) w :=
  results_cell_row h tmps w b 56 _ (0, 0) _ hp hb Tryz.underlying56 rfl Tryz.info56
/-- The four boxes of 'lacks'. -/
structure LK (w W : World) (m P : Value) (kd : Int) (key : ByteArray) (x y : Int) (fin has : Bool) (a : Option Addr) (n c : Nat) (p : Option Nat) (S : List (Int × Int)) (M : Int × Int → Option Hd) : Prop where
  row : W.heap[w.heap.size]? = some (.cells #[m, P] 60 (0, 0))
  box : W.heap[w.heap.size + 1]? = some (.cells #[.int .i64 kd, .string key, .int .i64 x, .int .i64 y, .bool fin, .bool has, .slice a n c] 36 (0, 0))
  res : W.heap[w.heap.size + 2]? = some (.cells #[.bool false, .bool false] 56 (0, 0))
  tag : W.heap[w.heap.size + 3]? = some (.cells #[.int .i64 x, .int .i64 y] 31 (0, 0))
  kept : Kept (fun _ => False) w W
  look : Looks W m M
  hasS : HasS W p S
theorem LK.k0 {w W W' : World} {m P : Value} {kd : Int} {key : ByteArray} {x y : Int} {fin has : Bool} {a : Option Addr} {n c : Nat} {p : Option Nat} {S : List (Int × Int)} {M : Int × Int → Option Hd} (h : LK w W m P kd key x y fin has a n c p S M) (K : Kept (fun _ => False) W W') : LK w W' m P kd key x y fin has a n c p S M :=
  ⟨K.get h.row (fun z => z), K.get h.box (fun z => z), K.get h.res (fun z => z), K.get h.tag (fun z => z), h.kept.and0 K, h.look.k0 K, h.hasS.k0 K⟩
set_option maxRecDepth 100000 in
set_option maxHeartbeats 2000000 in
theorem rLacks (m P : Value) (p : Option Nat) (hP : P = pv p) (S : List (Int × Int)) (M : Int × Int → Option Hd) (u : Upd) (d : Int) (w : World) (hm : ∃ b, m = .map b) (hl : Looks w m M) (h : HasS w p S) (ft : TFit (u.x, u.y)) : Calls Tryz.prog 21 #[.agg #[m, P], u.val, .int .i64 d] w fun o w' => o = .returned (.agg #[.bool (lackF S M u d).1, .bool (lackF S M u d).2]) ∧ Kept (fun _ => False) w w' := by
  obtain ⟨kd, key, x, y, fin, has, a, n, c⟩ := u
  have HP : Hid (P = pv p) := hP
  obtain ⟨b, rfl⟩ := hm
  obtain ⟨pp, hpp⟩ : ∃ pp, P = .pointer pp := ⟨_, hP⟩
  subst hpp
  have ft : TFit (x, y) := ft
  obtain ⟨W, hW⟩ : ∃ W, W = (((w.alloc (.cells #[.map b, .pointer pp] 60)).alloc (.cells #[.int .i64 kd, .string key, .int .i64 x, .int .i64 y, .bool fin, .bool has, .slice a n c] 36)).alloc (.cells #[.bool false, .bool false] 56)).alloc (.cells #[.int .i64 x, .int .i64 y] 31) := ⟨_, rfl⟩
  have KZ : Kept (fun _ => False) w W := by rw [hW]; exact ((((Kept.refl _ w).alloc _).alloc _).alloc _).alloc _
  have H : Hid (LK w W (.map b) (.pointer pp) kd key x y fin has a n c p S M) := by
    obtain ⟨q1, q2, q3, q4⟩ := four_new w (.cells #[.map b, .pointer pp] 60) (.cells #[.int .i64 kd, .string key, .int .i64 x, .int .i64 y, .bool fin, .bool has, .slice a n c] 36) (.cells #[.bool false, .bool false] 56) (.cells #[.int .i64 x, .int .i64 y] 31)
    rw [← hW] at q1 q2 q3 q4
    exact ⟨q1, q2, q3, q4, KZ, hl.k0 KZ, h.k0 KZ⟩
  have EW : Hid (W = (((w.alloc (.cells #[.map b, .pointer pp] 60)).alloc (.cells #[.int .i64 kd, .string key, .int .i64 x, .int .i64 y, .bool fin, .bool has, .slice a n c] 36)).alloc (.cells #[.bool false, .bool false] 56)).alloc (.cells #[.int .i64 x, .int .i64 y] 31)) := hW
  have FT : Hid (TFit (x, y)) := ft
  obtain ⟨br, hbr⟩ : ∃ br, br = Upd.brings ⟨kd, key, x, y, fin, has, a, n, c⟩ := ⟨_, rfl⟩
  obtain ⟨fn, hfn⟩ : ∃ fn, fn = Upd.final ⟨kd, key, x, y, fin, has, a, n, c⟩ := ⟨_, rfl⟩
  have HBF : Hid (br = Upd.brings ⟨kd, key, x, y, fin, has, a, n, c⟩ ∧ fn = Upd.final ⟨kd, key, x, y, fin, has, a, n, c⟩) := ⟨hbr, hfn⟩
  have BR : Hid (∀ V, Calls Tryz.prog 40 #[.agg #[.int .i64 kd, .string key, .int .i64 x, .int .i64 y, .bool fin, .bool has, .slice a n c]] V fun z w' => z = .returned (.bool br) ∧ Kept (fun _ => False) V w') := fun V => by rw [hbr]; exact brings ⟨kd, key, x, y, fin, has, a, n, c⟩ V
  have FN : Hid (∀ V, Calls Tryz.prog 41 #[.agg #[.int .i64 kd, .string key, .int .i64 x, .int .i64 y, .bool fin, .bool has, .slice a n c]] V fun z w' => z = .returned (.bool fn) ∧ Kept (fun _ => False) V w') := fun V => by rw [hfn]; exact finalizes ⟨kd, key, x, y, fin, has, a, n, c⟩ V
  clear hbr hfn
  unfold Upd.val
  dsimp only
  clear hl h hP KZ ft hW
  go_enter Tryz.func21, Tryz.ntmps21
  go_upto_region 2 with fail
  rw [← EW.out]
  have c0 := cell_blk H.out.row 0 (v := .map b) rfl
  have c1 := cell_blk H.out.row 1 (v := .pointer pp) rfl
  have t0 := cell_blk H.out.tag 0 (v := .int .i64 x) rfl
  have t1 := cell_blk H.out.tag 1 (v := .int .i64 y) rfl
  go_region_held3 (fun w' => w'.cell? ⟨w.heap.size, 0, none⟩ = some (.map b) ∧ w'.cell? ⟨w.heap.size, 1, none⟩ = some (.pointer pp) ∧ w'.cell? ⟨w.heap.size + 3, 0, none⟩ = some (.int .i64 x) ∧ w'.cell? ⟨w.heap.size + 3, 1, none⟩ = some (.int .i64 y)) (first | go_keep)
    (first
      | (go_at_call 33; refine (rFloor (.map b) (.pointer pp) p HP.out S d _ ⟨b, rfl⟩ (H.out.hasS.k0 (by repeat (first | with_reducible exact Kept.refl _ _ | with_reducible refine Kept.drew ?_)))).mono ?_; rintro o w2 ⟨fx, fy, rfl, hf, K2⟩
         have H2 : Hid (LK w w2 (.map b) (.pointer pp) kd key x y fin has a n c p S M ∧ floorT S d = (fx, fy)) := ⟨H.out.k0 (Kept.trans (by repeat (first | with_reducible exact Kept.refl _ _ | with_reducible refine Kept.drew ?_)) K2 (fun _ _ z => z)), hf⟩
         have c0 := cell_blk H2.out.1.row 0 (v := .map b) rfl
         have c1 := cell_blk H2.out.1.row 1 (v := .pointer pp) rfl
         have t0 := cell_blk H2.out.1.tag 0 (v := .int .i64 x) rfl
         have t1 := cell_blk H2.out.1.tag 1 (v := .int .i64 y) rfl
         clear K2 hf)
      | (go_at_call 39; refine (compare x y fx fy w2).mono ?_; rintro o w3 ⟨rfl, B3⟩
         have H3 : Hid (LK w w3 (.map b) (.pointer pp) kd key x y fin has a n c p S M) := H2.out.1.k0 (k0_of B3)
         have c0 := cell_blk H3.out.row 0 (v := .map b) rfl
         have c1 := cell_blk H3.out.row 1 (v := .pointer pp) rfl
         have t0 := cell_blk H3.out.tag 0 (v := .int .i64 x) rfl
         have t1 := cell_blk H3.out.tag 1 (v := .int .i64 y) rfl
         clear B3)
      | fail)
  clear c0 c1 t0 t1
  by_cases hlt : tcmp x y fx fy < 0
  · have LE : Hid (lackF S M ⟨kd, key, x, y, fin, has, a, n, c⟩ d = (false, false)) := by
      unfold lackF
      rw [H2.out.2]
      exact if_pos hlt
    have r0 := cell_blk H3.out.res 0 (v := .bool false) rfl
    have r1 := cell_blk H3.out.res 1 (v := .bool false) rfl
    have s0 := soft_blk H3.out.res 0
    have s1 := soft_blk H3.out.res 1
    go_wp2_with fail
    refine bodyPost_ret (results_lack rfl _ _ _ false false rfl (heap_set (heap_set H3.out.res 0 _) 1 _)) rfl ⟨?_, ?_⟩
    · rw [LE.out]
    · exact (H3.out.kept.setCell (p := ⟨w.heap.size + 2, 0, none⟩) (fun z => by have z : w.heap.size + 2 < w.heap.size := z; omega) _).setCell (p := ⟨w.heap.size + 2, 1, none⟩) (fun z => by have z : w.heap.size + 2 < w.heap.size := z; omega) _
  · have LE : Hid (lackF S M ⟨kd, key, x, y, fin, has, a, n, c⟩ d = (Upd.brings ⟨kd, key, x, y, fin, has, a, n, c⟩ && !((M (x, y)).getD Hd.zero).has, Upd.final ⟨kd, key, x, y, fin, has, a, n, c⟩ && !((M (x, y)).getD Hd.zero).fin)) := by
      unfold lackF
      rw [H2.out.2]
      exact if_neg hlt
    have lk := H3.out.look.run (x, y) FT.out
    obtain ⟨hd, hhd⟩ : ∃ hd, hd = (M (x, y)).getD Hd.zero := ⟨_, rfl⟩
    rw [← hhd] at lk
    have LE2 : Hid (lackF S M ⟨kd, key, x, y, fin, has, a, n, c⟩ d = (br && !hd.has, fn && !hd.fin)) := by rw [hhd, HBF.out.1, HBF.out.2]; exact LE.out
    clear LE hhd
    clear HBF
    obtain ⟨hf, hh, ha, hn, hc⟩ := hd
    have lk : (Instr.lookup 57 (.map b) (.agg #[.int .i64 x, .int .i64 y]) false).run Tryz.prog w3 = .ok (.agg #[.bool hf, .bool hh, .slice ha hn hc]) w3 := lk
    have c0 := cell_blk H3.out.row 0 (v := .map b) rfl
    have t0 := cell_blk H3.out.tag 0 (v := .int .i64 x) rfl
    have t1 := cell_blk H3.out.tag 1 (v := .int .i64 y) rfl
    go_upto_region 5 with fail
    clear lk c0 t0 t1
    obtain ⟨W4, hW4⟩ : ∃ W4, W4 = w3.alloc (.cells #[.bool hf, .bool hh, .slice ha hn hc] 87) := ⟨_, rfl⟩
    obtain ⟨h8, hh8⟩ : ∃ h8, h8 = w3.heap.size := ⟨_, rfl⟩
    have H4 : Hid (LK w W4 (.map b) (.pointer pp) kd key x y fin has a n c p S M ∧ W4.heap[h8]? = some (.cells #[.bool hf, .bool hh, .slice ha hn hc] 87 (0, 0))) := by
      rw [hW4, hh8]
      exact ⟨H3.out.k0 (k0_alloc _ _), heap_alloc_new _ _⟩
    have H4N : Hid (¬ h8 = w.heap.size + 2 ∧ ¬ w.heap.size + 2 = h8) := by have q := block_lt H3.out.tag; exact ⟨by omega, by omega⟩
    rw [← hW4, ← hh8]
    clear hW4 hh8
    have g0 := cell_blk H4.out.1.box 0 (v := .int .i64 kd) rfl
    have g1 := cell_blk H4.out.1.box 1 (v := .string key) rfl
    have g2 := cell_blk H4.out.1.box 2 (v := .int .i64 x) rfl
    have g3 := cell_blk H4.out.1.box 3 (v := .int .i64 y) rfl
    have g4 := cell_blk H4.out.1.box 4 (v := .bool fin) rfl
    have g5 := cell_blk H4.out.1.box 5 (v := .bool has) rfl
    have g6 := cell_blk H4.out.1.box 6 (v := .slice a n c) rfl
    have r0 := cell_blk H4.out.1.res 0 (v := .bool false) rfl
    have r1 := cell_blk H4.out.1.res 1 (v := .bool false) rfl
    have s0 := soft_blk H4.out.1.res 0
    have s1 := soft_blk H4.out.1.res 1
    have h0 := cell_blk H4.out.2 0 (v := .bool hf) rfl
    have h1 := cell_blk H4.out.2 1 (v := .bool hh) rfl
    have nz1 : ¬ h8 = w.heap.size + 2 := H4N.out.1
    have nz2 : ¬ w.heap.size + 2 = h8 := H4N.out.2
    clear g0 g1 g2 g3 g4 g5 g6 r0 r1 s0 s1 h0 h1
    have H4D : Hid (LK w W4.drew (.map b) (.pointer pp) kd key x y fin has a n c p S M ∧ W4.drew.heap[h8]? = some (.cells #[.bool hf, .bool hh, .slice ha hn hc] 87 (0, 0))) := ⟨H4.out.1.k0 ((Kept.refl _ _).drew), H4.out.2⟩
    cases br <;> cases fn
    · refine wp_region_held_drew (S := (fun w' => w'.cell? ⟨w.heap.size + 1, 0, none⟩ = some (.int .i64 kd) ∧ w'.cell? ⟨w.heap.size + 1, 1, none⟩ = some (.string key) ∧ w'.cell? ⟨w.heap.size + 1, 2, none⟩ = some (.int .i64 x) ∧ w'.cell? ⟨w.heap.size + 1, 3, none⟩ = some (.int .i64 y) ∧ w'.cell? ⟨w.heap.size + 1, 4, none⟩ = some (.bool fin) ∧ w'.cell? ⟨w.heap.size + 1, 5, none⟩ = some (.bool has) ∧ w'.cell? ⟨w.heap.size + 1, 6, none⟩ = some (.slice a n c) ∧ w'.cell? ⟨h8, 0, none⟩ = some (.bool hf) ∧ w'.cell? ⟨h8, 1, none⟩ = some (.bool hh))) (by kernel_rfl) ?_ (fun hHeld => ?_)
      · exact ⟨cell_blk H4.out.1.box 0 rfl, cell_blk H4.out.1.box 1 rfl, cell_blk H4.out.1.box 2 rfl, cell_blk H4.out.1.box 3 rfl, cell_blk H4.out.1.box 4 rfl, cell_blk H4.out.1.box 5 rfl, cell_blk H4.out.1.box 6 rfl, cell_blk H4.out.2 0 rfl, cell_blk H4.out.2 1 rfl⟩
      refine wpAnyH_take (i := 0) (v := .agg #[.int .i64 kd, .string key, .int .i64 x, .int .i64 y, .bool fin, .bool has, .slice a n c]) rfl (by kernel_rfl) (by kernel_rfl) (by kernel_rfl) (fun _ _ _ h => h) (Or.inl ⟨by rfl, ?_⟩) (by assumption) ?_
      · intro w9 hSw
        (try dsimp only at hSw)
        go_simp
      (try simp only [Act.put])
      refine wpAnyH_take (i := 7) (v := .agg #[.int .i64 kd, .string key, .int .i64 x, .int .i64 y, .bool fin, .bool has, .slice a n c]) rfl (by kernel_rfl) (by kernel_rfl) (by kernel_rfl) (fun _ _ _ h => h) (Or.inl ⟨by rfl, ?_⟩) (by assumption) ?_
      · intro w9 hSw
        (try dsimp only at hSw)
        go_simp
      (try simp only [Act.put])
      refine wpAnyH_ready (rs := [1]) (by kernel_rfl) (by simp) ?_
      refine AllReadyH.cons rfl (fun K hK => ?_) AllReadyH.nil
      go_simp
      refine (BR.out _).mono ?_
      rintro o wa ⟨rfl, K5⟩
      have HA : Hid (LK w wa (.map b) (.pointer pp) kd key x y fin has a n c p S M ∧ wa.heap[h8]? = some (.cells #[.bool hf, .bool hh, .slice ha hn hc] 87 (0, 0))) := ⟨H4D.out.1.k0 K5, K5.get H4D.out.2 (fun z => z)⟩
      clear K5
      refine hK.out _ _ ?_ (fun hHeld => ?_)
      · exact ⟨cell_blk HA.out.1.box 0 rfl, cell_blk HA.out.1.box 1 rfl, cell_blk HA.out.1.box 2 rfl, cell_blk HA.out.1.box 3 rfl, cell_blk HA.out.1.box 4 rfl, cell_blk HA.out.1.box 5 rfl, cell_blk HA.out.1.box 6 rfl, cell_blk HA.out.2 0 rfl, cell_blk HA.out.2 1 rfl⟩
      clear hK K
      (try simp only [Act.put])
      refine wpAnyH_take (i := 2) (v := .bool false) rfl (by kernel_rfl) (by kernel_rfl) (by kernel_rfl) (fun _ _ _ h => h) (Or.inl ⟨by rfl, ?_⟩) (by assumption) ?_
      · intro w9 hSw
        (try dsimp only at hSw)
        go_simp
      (try simp only [Act.put])
      refine wpAnyH_take (i := 3) (v := undef) rfl (by kernel_rfl) (by kernel_rfl) (by kernel_rfl) (fun _ _ _ h => h) (Or.inr ⟨by rfl, rfl⟩) (by assumption) ?_
      (try simp only [Act.put])
      refine wpAnyH_take (i := 4) (v := undef) rfl (by kernel_rfl) (by kernel_rfl) (by kernel_rfl) (fun _ _ _ h => h) (Or.inr ⟨by rfl, rfl⟩) (by assumption) ?_
      (try simp only [Act.put])
      refine wpAnyH_take (i := 5) (v := undef) rfl (by kernel_rfl) (by kernel_rfl) (by kernel_rfl) (fun _ _ _ h => h) (Or.inr ⟨by rfl, rfl⟩) (by assumption) ?_
      (try simp only [Act.put])
      refine wpAnyH_take (i := 6) (v := .bool false) rfl (by kernel_rfl) (by kernel_rfl) (by kernel_rfl) (fun _ _ _ h => h) (Or.inl ⟨by rfl, ?_⟩) (by assumption) ?_
      · intro w9 hSw
        (try dsimp only at hSw)
        go_simp
      (try simp only [Act.put])
      refine wpAnyH_ready (rs := [8]) (by kernel_rfl) (by simp) ?_
      refine AllReadyH.cons rfl (fun K hK => ?_) AllReadyH.nil
      go_simp
      refine (FN.out _).mono ?_
      rintro o wb ⟨rfl, K5⟩
      have HB2 : Hid (LK w wb (.map b) (.pointer pp) kd key x y fin has a n c p S M ∧ wb.heap[h8]? = some (.cells #[.bool hf, .bool hh, .slice ha hn hc] 87 (0, 0))) := ⟨HA.out.1.k0 K5, K5.get HA.out.2 (fun z => z)⟩
      clear K5
      refine hK.out _ _ ?_ (fun hHeld => ?_)
      · exact ⟨cell_blk HB2.out.1.box 0 rfl, cell_blk HB2.out.1.box 1 rfl, cell_blk HB2.out.1.box 2 rfl, cell_blk HB2.out.1.box 3 rfl, cell_blk HB2.out.1.box 4 rfl, cell_blk HB2.out.1.box 5 rfl, cell_blk HB2.out.1.box 6 rfl, cell_blk HB2.out.2 0 rfl, cell_blk HB2.out.2 1 rfl⟩
      clear hK K
      (try simp only [Act.put])
      refine wpAnyH_take (i := 9) (v := .bool false) rfl (by kernel_rfl) (by kernel_rfl) (by kernel_rfl) (fun _ _ _ h => h) (Or.inl ⟨by rfl, ?_⟩) (by assumption) ?_
      · intro w9 hSw
        (try dsimp only at hSw)
        go_simp
      (try simp only [Act.put])
      refine wpAnyH_take (i := 10) (v := undef) rfl (by kernel_rfl) (by kernel_rfl) (by kernel_rfl) (fun _ _ _ h => h) (Or.inr ⟨by rfl, rfl⟩) (by assumption) ?_
      (try simp only [Act.put])
      refine wpAnyH_take (i := 11) (v := undef) rfl (by kernel_rfl) (by kernel_rfl) (by kernel_rfl) (fun _ _ _ h => h) (Or.inr ⟨by rfl, rfl⟩) (by assumption) ?_
      (try simp only [Act.put])
      refine wpAnyH_take (i := 12) (v := undef) rfl (by kernel_rfl) (by kernel_rfl) (by kernel_rfl) (fun _ _ _ h => h) (Or.inr ⟨by rfl, rfl⟩) (by assumption) ?_
      (try simp only [Act.put])
      refine wpAnyH_take (i := 13) (v := .bool false) rfl (by kernel_rfl) (by kernel_rfl) (by kernel_rfl) (fun _ _ _ h => h) (Or.inl ⟨by rfl, ?_⟩) (by assumption) ?_
      · intro w9 hSw
        (try dsimp only at hSw)
        go_simp
      (try simp only [Act.put])
      refine wpAnyH_take (i := 14) (v := .agg #[.bool false, .bool false]) rfl (by kernel_rfl) (by kernel_rfl) (by kernel_rfl) (fun _ _ _ h => h) (Or.inl ⟨by rfl, ?_⟩) (by assumption) ?_
      · intro w9 hSw
        (try dsimp only at hSw)
        go_simp
      (try simp only [Act.put])
      have r0 := cell_blk HB2.out.1.res 0 (v := .bool false) rfl
      have r1 := cell_blk HB2.out.1.res 1 (v := .bool false) rfl
      have s0 := soft_blk HB2.out.1.res 0
      have s1 := soft_blk HB2.out.1.res 1
      refine wpAnyH_ready (rs := [15]) (by kernel_rfl) (by simp) ?_
      refine AllReadyH.cons rfl (fun K hK => ?_) AllReadyH.nil
      go_simp
      refine hK.out _ _ ?_ (fun hHeld => ?_)
      · have q := HB2.out
        have K9 : Kept (fun k => k = w.heap.size + 2) wb ((wb.setCell ⟨w.heap.size + 2, 0, none⟩ (.bool false)).setCell ⟨w.heap.size + 2, 1, none⟩ (.bool false)) := ((Kept.refl (fun k => k = w.heap.size + 2) wb).setCell (p := ⟨w.heap.size + 2, 0, none⟩) (fun _ => rfl) _).setCell (p := ⟨w.heap.size + 2, 1, none⟩) (fun _ => rfl) _
        have b1 := K9.get q.1.box (by omega)
        have b2 := K9.get q.2 nz1
        exact ⟨cell_blk b1 0 rfl, cell_blk b1 1 rfl, cell_blk b1 2 rfl, cell_blk b1 3 rfl, cell_blk b1 4 rfl, cell_blk b1 5 rfl, cell_blk b1 6 rfl, cell_blk b2 0 rfl, cell_blk b2 1 rfl⟩
      clear hK K
      refine wpAnyH_done (by kernel_rfl) ?_ _
      go_wp2_with fail
      refine bodyPost_ret (results_lack rfl _ _ _ false false rfl (heap_set (heap_set HB2.out.1.res 0 _) 1 _)) rfl ⟨?_, ?_⟩
      · rw [LE2.out]
        simp
      · exact (HB2.out.1.kept.setCell (p := ⟨w.heap.size + 2, 0, none⟩) (fun z => by have z : w.heap.size + 2 < w.heap.size := z; omega) _).setCell (p := ⟨w.heap.size + 2, 1, none⟩) (fun z => by have z : w.heap.size + 2 < w.heap.size := z; omega) _
    · refine wp_region_held_drew (S := (fun w' => w'.cell? ⟨w.heap.size + 1, 0, none⟩ = some (.int .i64 kd) ∧ w'.cell? ⟨w.heap.size + 1, 1, none⟩ = some (.string key) ∧ w'.cell? ⟨w.heap.size + 1, 2, none⟩ = some (.int .i64 x) ∧ w'.cell? ⟨w.heap.size + 1, 3, none⟩ = some (.int .i64 y) ∧ w'.cell? ⟨w.heap.size + 1, 4, none⟩ = some (.bool fin) ∧ w'.cell? ⟨w.heap.size + 1, 5, none⟩ = some (.bool has) ∧ w'.cell? ⟨w.heap.size + 1, 6, none⟩ = some (.slice a n c) ∧ w'.cell? ⟨h8, 0, none⟩ = some (.bool hf) ∧ w'.cell? ⟨h8, 1, none⟩ = some (.bool hh))) (by kernel_rfl) ?_ (fun hHeld => ?_)
      · exact ⟨cell_blk H4.out.1.box 0 rfl, cell_blk H4.out.1.box 1 rfl, cell_blk H4.out.1.box 2 rfl, cell_blk H4.out.1.box 3 rfl, cell_blk H4.out.1.box 4 rfl, cell_blk H4.out.1.box 5 rfl, cell_blk H4.out.1.box 6 rfl, cell_blk H4.out.2 0 rfl, cell_blk H4.out.2 1 rfl⟩
      refine wpAnyH_take (i := 0) (v := .agg #[.int .i64 kd, .string key, .int .i64 x, .int .i64 y, .bool fin, .bool has, .slice a n c]) rfl (by kernel_rfl) (by kernel_rfl) (by kernel_rfl) (fun _ _ _ h => h) (Or.inl ⟨by rfl, ?_⟩) (by assumption) ?_
      · intro w9 hSw
        (try dsimp only at hSw)
        go_simp
      (try simp only [Act.put])
      refine wpAnyH_take (i := 7) (v := .agg #[.int .i64 kd, .string key, .int .i64 x, .int .i64 y, .bool fin, .bool has, .slice a n c]) rfl (by kernel_rfl) (by kernel_rfl) (by kernel_rfl) (fun _ _ _ h => h) (Or.inl ⟨by rfl, ?_⟩) (by assumption) ?_
      · intro w9 hSw
        (try dsimp only at hSw)
        go_simp
      (try simp only [Act.put])
      refine wpAnyH_ready (rs := [1]) (by kernel_rfl) (by simp) ?_
      refine AllReadyH.cons rfl (fun K hK => ?_) AllReadyH.nil
      go_simp
      refine (BR.out _).mono ?_
      rintro o wa ⟨rfl, K5⟩
      have HA : Hid (LK w wa (.map b) (.pointer pp) kd key x y fin has a n c p S M ∧ wa.heap[h8]? = some (.cells #[.bool hf, .bool hh, .slice ha hn hc] 87 (0, 0))) := ⟨H4D.out.1.k0 K5, K5.get H4D.out.2 (fun z => z)⟩
      clear K5
      refine hK.out _ _ ?_ (fun hHeld => ?_)
      · exact ⟨cell_blk HA.out.1.box 0 rfl, cell_blk HA.out.1.box 1 rfl, cell_blk HA.out.1.box 2 rfl, cell_blk HA.out.1.box 3 rfl, cell_blk HA.out.1.box 4 rfl, cell_blk HA.out.1.box 5 rfl, cell_blk HA.out.1.box 6 rfl, cell_blk HA.out.2 0 rfl, cell_blk HA.out.2 1 rfl⟩
      clear hK K
      (try simp only [Act.put])
      refine wpAnyH_take (i := 2) (v := .bool false) rfl (by kernel_rfl) (by kernel_rfl) (by kernel_rfl) (fun _ _ _ h => h) (Or.inl ⟨by rfl, ?_⟩) (by assumption) ?_
      · intro w9 hSw
        (try dsimp only at hSw)
        go_simp
      (try simp only [Act.put])
      refine wpAnyH_take (i := 3) (v := undef) rfl (by kernel_rfl) (by kernel_rfl) (by kernel_rfl) (fun _ _ _ h => h) (Or.inr ⟨by rfl, rfl⟩) (by assumption) ?_
      (try simp only [Act.put])
      refine wpAnyH_take (i := 4) (v := undef) rfl (by kernel_rfl) (by kernel_rfl) (by kernel_rfl) (fun _ _ _ h => h) (Or.inr ⟨by rfl, rfl⟩) (by assumption) ?_
      (try simp only [Act.put])
      refine wpAnyH_take (i := 5) (v := undef) rfl (by kernel_rfl) (by kernel_rfl) (by kernel_rfl) (fun _ _ _ h => h) (Or.inr ⟨by rfl, rfl⟩) (by assumption) ?_
      (try simp only [Act.put])
      refine wpAnyH_take (i := 6) (v := .bool false) rfl (by kernel_rfl) (by kernel_rfl) (by kernel_rfl) (fun _ _ _ h => h) (Or.inl ⟨by rfl, ?_⟩) (by assumption) ?_
      · intro w9 hSw
        (try dsimp only at hSw)
        go_simp
      (try simp only [Act.put])
      refine wpAnyH_ready (rs := [8]) (by kernel_rfl) (by simp) ?_
      refine AllReadyH.cons rfl (fun K hK => ?_) AllReadyH.nil
      go_simp
      refine (FN.out _).mono ?_
      rintro o wb ⟨rfl, K5⟩
      have HB2 : Hid (LK w wb (.map b) (.pointer pp) kd key x y fin has a n c p S M ∧ wb.heap[h8]? = some (.cells #[.bool hf, .bool hh, .slice ha hn hc] 87 (0, 0))) := ⟨HA.out.1.k0 K5, K5.get HA.out.2 (fun z => z)⟩
      clear K5
      refine hK.out _ _ ?_ (fun hHeld => ?_)
      · exact ⟨cell_blk HB2.out.1.box 0 rfl, cell_blk HB2.out.1.box 1 rfl, cell_blk HB2.out.1.box 2 rfl, cell_blk HB2.out.1.box 3 rfl, cell_blk HB2.out.1.box 4 rfl, cell_blk HB2.out.1.box 5 rfl, cell_blk HB2.out.1.box 6 rfl, cell_blk HB2.out.2 0 rfl, cell_blk HB2.out.2 1 rfl⟩
      clear hK K
      (try simp only [Act.put])
      refine wpAnyH_take (i := 9) (v := .bool true) rfl (by kernel_rfl) (by kernel_rfl) (by kernel_rfl) (fun _ _ _ h => h) (Or.inl ⟨by rfl, ?_⟩) (by assumption) ?_
      · intro w9 hSw
        (try dsimp only at hSw)
        go_simp
      (try simp only [Act.put])
      refine wpAnyH_take (i := 10) (v := .pointer (some ⟨h8, 0, none⟩)) rfl (by kernel_rfl) (by kernel_rfl) (by kernel_rfl) (fun _ _ _ h => h) (Or.inl ⟨by rfl, ?_⟩) (by assumption) ?_
      · intro w9 hSw
        (try dsimp only at hSw)
        go_simp
      (try simp only [Act.put])
      refine wpAnyH_take (i := 11) (v := .bool hf) rfl (by kernel_rfl) (by kernel_rfl) (by kernel_rfl) (fun _ _ _ h => h) (Or.inl ⟨by rfl, ?_⟩) (by assumption) ?_
      · intro w9 hSw
        (try dsimp only at hSw)
        go_simp
      (try simp only [Act.put])
      refine wpAnyH_take (i := 12) (v := .bool (!hf)) rfl (by kernel_rfl) (by kernel_rfl) (by kernel_rfl) (fun _ _ _ h => h) (Or.inl ⟨by rfl, ?_⟩) (by assumption) ?_
      · intro w9 hSw
        (try dsimp only at hSw)
        go_simp
      (try simp only [Act.put])
      refine wpAnyH_take (i := 13) (v := .bool (!hf)) rfl (by kernel_rfl) (by kernel_rfl) (by kernel_rfl) (fun _ _ _ h => h) (Or.inl ⟨by rfl, ?_⟩) (by assumption) ?_
      · intro w9 hSw
        (try dsimp only at hSw)
        go_simp
      (try simp only [Act.put])
      refine wpAnyH_take (i := 14) (v := .agg #[.bool false, .bool (!hf)]) rfl (by kernel_rfl) (by kernel_rfl) (by kernel_rfl) (fun _ _ _ h => h) (Or.inl ⟨by rfl, ?_⟩) (by assumption) ?_
      · intro w9 hSw
        (try dsimp only at hSw)
        go_simp
      (try simp only [Act.put])
      have r0 := cell_blk HB2.out.1.res 0 (v := .bool false) rfl
      have r1 := cell_blk HB2.out.1.res 1 (v := .bool false) rfl
      have s0 := soft_blk HB2.out.1.res 0
      have s1 := soft_blk HB2.out.1.res 1
      refine wpAnyH_ready (rs := [15]) (by kernel_rfl) (by simp) ?_
      refine AllReadyH.cons rfl (fun K hK => ?_) AllReadyH.nil
      go_simp
      refine hK.out _ _ ?_ (fun hHeld => ?_)
      · have q := HB2.out
        have K9 : Kept (fun k => k = w.heap.size + 2) wb ((wb.setCell ⟨w.heap.size + 2, 0, none⟩ (.bool false)).setCell ⟨w.heap.size + 2, 1, none⟩ (.bool (!hf))) := ((Kept.refl (fun k => k = w.heap.size + 2) wb).setCell (p := ⟨w.heap.size + 2, 0, none⟩) (fun _ => rfl) _).setCell (p := ⟨w.heap.size + 2, 1, none⟩) (fun _ => rfl) _
        have b1 := K9.get q.1.box (by omega)
        have b2 := K9.get q.2 nz1
        exact ⟨cell_blk b1 0 rfl, cell_blk b1 1 rfl, cell_blk b1 2 rfl, cell_blk b1 3 rfl, cell_blk b1 4 rfl, cell_blk b1 5 rfl, cell_blk b1 6 rfl, cell_blk b2 0 rfl, cell_blk b2 1 rfl⟩
      clear hK K
      refine wpAnyH_done (by kernel_rfl) ?_ _
      go_wp2_with fail
      refine bodyPost_ret (results_lack rfl _ _ _ false (!hf) rfl (heap_set (heap_set HB2.out.1.res 0 _) 1 _)) rfl ⟨?_, ?_⟩
      · rw [LE2.out]
        simp
      · exact (HB2.out.1.kept.setCell (p := ⟨w.heap.size + 2, 0, none⟩) (fun z => by have z : w.heap.size + 2 < w.heap.size := z; omega) _).setCell (p := ⟨w.heap.size + 2, 1, none⟩) (fun z => by have z : w.heap.size + 2 < w.heap.size := z; omega) _
    · refine wp_region_held_drew (S := (fun w' => w'.cell? ⟨w.heap.size + 1, 0, none⟩ = some (.int .i64 kd) ∧ w'.cell? ⟨w.heap.size + 1, 1, none⟩ = some (.string key) ∧ w'.cell? ⟨w.heap.size + 1, 2, none⟩ = some (.int .i64 x) ∧ w'.cell? ⟨w.heap.size + 1, 3, none⟩ = some (.int .i64 y) ∧ w'.cell? ⟨w.heap.size + 1, 4, none⟩ = some (.bool fin) ∧ w'.cell? ⟨w.heap.size + 1, 5, none⟩ = some (.bool has) ∧ w'.cell? ⟨w.heap.size + 1, 6, none⟩ = some (.slice a n c) ∧ w'.cell? ⟨h8, 0, none⟩ = some (.bool hf) ∧ w'.cell? ⟨h8, 1, none⟩ = some (.bool hh))) (by kernel_rfl) ?_ (fun hHeld => ?_)
      · exact ⟨cell_blk H4.out.1.box 0 rfl, cell_blk H4.out.1.box 1 rfl, cell_blk H4.out.1.box 2 rfl, cell_blk H4.out.1.box 3 rfl, cell_blk H4.out.1.box 4 rfl, cell_blk H4.out.1.box 5 rfl, cell_blk H4.out.1.box 6 rfl, cell_blk H4.out.2 0 rfl, cell_blk H4.out.2 1 rfl⟩
      refine wpAnyH_take (i := 0) (v := .agg #[.int .i64 kd, .string key, .int .i64 x, .int .i64 y, .bool fin, .bool has, .slice a n c]) rfl (by kernel_rfl) (by kernel_rfl) (by kernel_rfl) (fun _ _ _ h => h) (Or.inl ⟨by rfl, ?_⟩) (by assumption) ?_
      · intro w9 hSw
        (try dsimp only at hSw)
        go_simp
      (try simp only [Act.put])
      refine wpAnyH_take (i := 7) (v := .agg #[.int .i64 kd, .string key, .int .i64 x, .int .i64 y, .bool fin, .bool has, .slice a n c]) rfl (by kernel_rfl) (by kernel_rfl) (by kernel_rfl) (fun _ _ _ h => h) (Or.inl ⟨by rfl, ?_⟩) (by assumption) ?_
      · intro w9 hSw
        (try dsimp only at hSw)
        go_simp
      (try simp only [Act.put])
      refine wpAnyH_ready (rs := [1]) (by kernel_rfl) (by simp) ?_
      refine AllReadyH.cons rfl (fun K hK => ?_) AllReadyH.nil
      go_simp
      refine (BR.out _).mono ?_
      rintro o wa ⟨rfl, K5⟩
      have HA : Hid (LK w wa (.map b) (.pointer pp) kd key x y fin has a n c p S M ∧ wa.heap[h8]? = some (.cells #[.bool hf, .bool hh, .slice ha hn hc] 87 (0, 0))) := ⟨H4D.out.1.k0 K5, K5.get H4D.out.2 (fun z => z)⟩
      clear K5
      refine hK.out _ _ ?_ (fun hHeld => ?_)
      · exact ⟨cell_blk HA.out.1.box 0 rfl, cell_blk HA.out.1.box 1 rfl, cell_blk HA.out.1.box 2 rfl, cell_blk HA.out.1.box 3 rfl, cell_blk HA.out.1.box 4 rfl, cell_blk HA.out.1.box 5 rfl, cell_blk HA.out.1.box 6 rfl, cell_blk HA.out.2 0 rfl, cell_blk HA.out.2 1 rfl⟩
      clear hK K
      (try simp only [Act.put])
      refine wpAnyH_take (i := 2) (v := .bool true) rfl (by kernel_rfl) (by kernel_rfl) (by kernel_rfl) (fun _ _ _ h => h) (Or.inl ⟨by rfl, ?_⟩) (by assumption) ?_
      · intro w9 hSw
        (try dsimp only at hSw)
        go_simp
      (try simp only [Act.put])
      refine wpAnyH_take (i := 3) (v := .pointer (some ⟨h8, 1, none⟩)) rfl (by kernel_rfl) (by kernel_rfl) (by kernel_rfl) (fun _ _ _ h => h) (Or.inl ⟨by rfl, ?_⟩) (by assumption) ?_
      · intro w9 hSw
        (try dsimp only at hSw)
        go_simp
      (try simp only [Act.put])
      refine wpAnyH_take (i := 4) (v := .bool hh) rfl (by kernel_rfl) (by kernel_rfl) (by kernel_rfl) (fun _ _ _ h => h) (Or.inl ⟨by rfl, ?_⟩) (by assumption) ?_
      · intro w9 hSw
        (try dsimp only at hSw)
        go_simp
      (try simp only [Act.put])
      refine wpAnyH_take (i := 5) (v := .bool (!hh)) rfl (by kernel_rfl) (by kernel_rfl) (by kernel_rfl) (fun _ _ _ h => h) (Or.inl ⟨by rfl, ?_⟩) (by assumption) ?_
      · intro w9 hSw
        (try dsimp only at hSw)
        go_simp
      (try simp only [Act.put])
      refine wpAnyH_take (i := 6) (v := .bool (!hh)) rfl (by kernel_rfl) (by kernel_rfl) (by kernel_rfl) (fun _ _ _ h => h) (Or.inl ⟨by rfl, ?_⟩) (by assumption) ?_
      · intro w9 hSw
        (try dsimp only at hSw)
        go_simp
      (try simp only [Act.put])
      refine wpAnyH_ready (rs := [8]) (by kernel_rfl) (by simp) ?_
      refine AllReadyH.cons rfl (fun K hK => ?_) AllReadyH.nil
      go_simp
      refine (FN.out _).mono ?_
      rintro o wb ⟨rfl, K5⟩
      have HB2 : Hid (LK w wb (.map b) (.pointer pp) kd key x y fin has a n c p S M ∧ wb.heap[h8]? = some (.cells #[.bool hf, .bool hh, .slice ha hn hc] 87 (0, 0))) := ⟨HA.out.1.k0 K5, K5.get HA.out.2 (fun z => z)⟩
      clear K5
      refine hK.out _ _ ?_ (fun hHeld => ?_)
      · exact ⟨cell_blk HB2.out.1.box 0 rfl, cell_blk HB2.out.1.box 1 rfl, cell_blk HB2.out.1.box 2 rfl, cell_blk HB2.out.1.box 3 rfl, cell_blk HB2.out.1.box 4 rfl, cell_blk HB2.out.1.box 5 rfl, cell_blk HB2.out.1.box 6 rfl, cell_blk HB2.out.2 0 rfl, cell_blk HB2.out.2 1 rfl⟩
      clear hK K
      (try simp only [Act.put])
      refine wpAnyH_take (i := 9) (v := .bool false) rfl (by kernel_rfl) (by kernel_rfl) (by kernel_rfl) (fun _ _ _ h => h) (Or.inl ⟨by rfl, ?_⟩) (by assumption) ?_
      · intro w9 hSw
        (try dsimp only at hSw)
        go_simp
      (try simp only [Act.put])
      refine wpAnyH_take (i := 10) (v := undef) rfl (by kernel_rfl) (by kernel_rfl) (by kernel_rfl) (fun _ _ _ h => h) (Or.inr ⟨by rfl, rfl⟩) (by assumption) ?_
      (try simp only [Act.put])
      refine wpAnyH_take (i := 11) (v := undef) rfl (by kernel_rfl) (by kernel_rfl) (by kernel_rfl) (fun _ _ _ h => h) (Or.inr ⟨by rfl, rfl⟩) (by assumption) ?_
      (try simp only [Act.put])
      refine wpAnyH_take (i := 12) (v := undef) rfl (by kernel_rfl) (by kernel_rfl) (by kernel_rfl) (fun _ _ _ h => h) (Or.inr ⟨by rfl, rfl⟩) (by assumption) ?_
      (try simp only [Act.put])
      refine wpAnyH_take (i := 13) (v := .bool false) rfl (by kernel_rfl) (by kernel_rfl) (by kernel_rfl) (fun _ _ _ h => h) (Or.inl ⟨by rfl, ?_⟩) (by assumption) ?_
      · intro w9 hSw
        (try dsimp only at hSw)
        go_simp
      (try simp only [Act.put])
      refine wpAnyH_take (i := 14) (v := .agg #[.bool (!hh), .bool false]) rfl (by kernel_rfl) (by kernel_rfl) (by kernel_rfl) (fun _ _ _ h => h) (Or.inl ⟨by rfl, ?_⟩) (by assumption) ?_
      · intro w9 hSw
        (try dsimp only at hSw)
        go_simp
      (try simp only [Act.put])
      have r0 := cell_blk HB2.out.1.res 0 (v := .bool false) rfl
      have r1 := cell_blk HB2.out.1.res 1 (v := .bool false) rfl
      have s0 := soft_blk HB2.out.1.res 0
      have s1 := soft_blk HB2.out.1.res 1
      refine wpAnyH_ready (rs := [15]) (by kernel_rfl) (by simp) ?_
      refine AllReadyH.cons rfl (fun K hK => ?_) AllReadyH.nil
      go_simp
      refine hK.out _ _ ?_ (fun hHeld => ?_)
      · have q := HB2.out
        have K9 : Kept (fun k => k = w.heap.size + 2) wb ((wb.setCell ⟨w.heap.size + 2, 0, none⟩ (.bool (!hh))).setCell ⟨w.heap.size + 2, 1, none⟩ (.bool false)) := ((Kept.refl (fun k => k = w.heap.size + 2) wb).setCell (p := ⟨w.heap.size + 2, 0, none⟩) (fun _ => rfl) _).setCell (p := ⟨w.heap.size + 2, 1, none⟩) (fun _ => rfl) _
        have b1 := K9.get q.1.box (by omega)
        have b2 := K9.get q.2 nz1
        exact ⟨cell_blk b1 0 rfl, cell_blk b1 1 rfl, cell_blk b1 2 rfl, cell_blk b1 3 rfl, cell_blk b1 4 rfl, cell_blk b1 5 rfl, cell_blk b1 6 rfl, cell_blk b2 0 rfl, cell_blk b2 1 rfl⟩
      clear hK K
      refine wpAnyH_done (by kernel_rfl) ?_ _
      go_wp2_with fail
      refine bodyPost_ret (results_lack rfl _ _ _ (!hh) false rfl (heap_set (heap_set HB2.out.1.res 0 _) 1 _)) rfl ⟨?_, ?_⟩
      · rw [LE2.out]
        simp
      · exact (HB2.out.1.kept.setCell (p := ⟨w.heap.size + 2, 0, none⟩) (fun z => by have z : w.heap.size + 2 < w.heap.size := z; omega) _).setCell (p := ⟨w.heap.size + 2, 1, none⟩) (fun z => by have z : w.heap.size + 2 < w.heap.size := z; omega) _
    · refine wp_region_held_drew (S := (fun w' => w'.cell? ⟨w.heap.size + 1, 0, none⟩ = some (.int .i64 kd) ∧ w'.cell? ⟨w.heap.size + 1, 1, none⟩ = some (.string key) ∧ w'.cell? ⟨w.heap.size + 1, 2, none⟩ = some (.int .i64 x) ∧ w'.cell? ⟨w.heap.size + 1, 3, none⟩ = some (.int .i64 y) ∧ w'.cell? ⟨w.heap.size + 1, 4, none⟩ = some (.bool fin) ∧ w'.cell? ⟨w.heap.size + 1, 5, none⟩ = some (.bool has) ∧ w'.cell? ⟨w.heap.size + 1, 6, none⟩ = some (.slice a n c) ∧ w'.cell? ⟨h8, 0, none⟩ = some (.bool hf) ∧ w'.cell? ⟨h8, 1, none⟩ = some (.bool hh))) (by kernel_rfl) ?_ (fun hHeld => ?_)
      · exact ⟨cell_blk H4.out.1.box 0 rfl, cell_blk H4.out.1.box 1 rfl, cell_blk H4.out.1.box 2 rfl, cell_blk H4.out.1.box 3 rfl, cell_blk H4.out.1.box 4 rfl, cell_blk H4.out.1.box 5 rfl, cell_blk H4.out.1.box 6 rfl, cell_blk H4.out.2 0 rfl, cell_blk H4.out.2 1 rfl⟩
      refine wpAnyH_take (i := 0) (v := .agg #[.int .i64 kd, .string key, .int .i64 x, .int .i64 y, .bool fin, .bool has, .slice a n c]) rfl (by kernel_rfl) (by kernel_rfl) (by kernel_rfl) (fun _ _ _ h => h) (Or.inl ⟨by rfl, ?_⟩) (by assumption) ?_
      · intro w9 hSw
        (try dsimp only at hSw)
        go_simp
      (try simp only [Act.put])
      refine wpAnyH_take (i := 7) (v := .agg #[.int .i64 kd, .string key, .int .i64 x, .int .i64 y, .bool fin, .bool has, .slice a n c]) rfl (by kernel_rfl) (by kernel_rfl) (by kernel_rfl) (fun _ _ _ h => h) (Or.inl ⟨by rfl, ?_⟩) (by assumption) ?_
      · intro w9 hSw
        (try dsimp only at hSw)
        go_simp
      (try simp only [Act.put])
      refine wpAnyH_ready (rs := [1]) (by kernel_rfl) (by simp) ?_
      refine AllReadyH.cons rfl (fun K hK => ?_) AllReadyH.nil
      go_simp
      refine (BR.out _).mono ?_
      rintro o wa ⟨rfl, K5⟩
      have HA : Hid (LK w wa (.map b) (.pointer pp) kd key x y fin has a n c p S M ∧ wa.heap[h8]? = some (.cells #[.bool hf, .bool hh, .slice ha hn hc] 87 (0, 0))) := ⟨H4D.out.1.k0 K5, K5.get H4D.out.2 (fun z => z)⟩
      clear K5
      refine hK.out _ _ ?_ (fun hHeld => ?_)
      · exact ⟨cell_blk HA.out.1.box 0 rfl, cell_blk HA.out.1.box 1 rfl, cell_blk HA.out.1.box 2 rfl, cell_blk HA.out.1.box 3 rfl, cell_blk HA.out.1.box 4 rfl, cell_blk HA.out.1.box 5 rfl, cell_blk HA.out.1.box 6 rfl, cell_blk HA.out.2 0 rfl, cell_blk HA.out.2 1 rfl⟩
      clear hK K
      (try simp only [Act.put])
      refine wpAnyH_take (i := 2) (v := .bool true) rfl (by kernel_rfl) (by kernel_rfl) (by kernel_rfl) (fun _ _ _ h => h) (Or.inl ⟨by rfl, ?_⟩) (by assumption) ?_
      · intro w9 hSw
        (try dsimp only at hSw)
        go_simp
      (try simp only [Act.put])
      refine wpAnyH_take (i := 3) (v := .pointer (some ⟨h8, 1, none⟩)) rfl (by kernel_rfl) (by kernel_rfl) (by kernel_rfl) (fun _ _ _ h => h) (Or.inl ⟨by rfl, ?_⟩) (by assumption) ?_
      · intro w9 hSw
        (try dsimp only at hSw)
        go_simp
      (try simp only [Act.put])
      refine wpAnyH_take (i := 4) (v := .bool hh) rfl (by kernel_rfl) (by kernel_rfl) (by kernel_rfl) (fun _ _ _ h => h) (Or.inl ⟨by rfl, ?_⟩) (by assumption) ?_
      · intro w9 hSw
        (try dsimp only at hSw)
        go_simp
      (try simp only [Act.put])
      refine wpAnyH_take (i := 5) (v := .bool (!hh)) rfl (by kernel_rfl) (by kernel_rfl) (by kernel_rfl) (fun _ _ _ h => h) (Or.inl ⟨by rfl, ?_⟩) (by assumption) ?_
      · intro w9 hSw
        (try dsimp only at hSw)
        go_simp
      (try simp only [Act.put])
      refine wpAnyH_take (i := 6) (v := .bool (!hh)) rfl (by kernel_rfl) (by kernel_rfl) (by kernel_rfl) (fun _ _ _ h => h) (Or.inl ⟨by rfl, ?_⟩) (by assumption) ?_
      · intro w9 hSw
        (try dsimp only at hSw)
        go_simp
      (try simp only [Act.put])
      refine wpAnyH_ready (rs := [8]) (by kernel_rfl) (by simp) ?_
      refine AllReadyH.cons rfl (fun K hK => ?_) AllReadyH.nil
      go_simp
      refine (FN.out _).mono ?_
      rintro o wb ⟨rfl, K5⟩
      have HB2 : Hid (LK w wb (.map b) (.pointer pp) kd key x y fin has a n c p S M ∧ wb.heap[h8]? = some (.cells #[.bool hf, .bool hh, .slice ha hn hc] 87 (0, 0))) := ⟨HA.out.1.k0 K5, K5.get HA.out.2 (fun z => z)⟩
      clear K5
      refine hK.out _ _ ?_ (fun hHeld => ?_)
      · exact ⟨cell_blk HB2.out.1.box 0 rfl, cell_blk HB2.out.1.box 1 rfl, cell_blk HB2.out.1.box 2 rfl, cell_blk HB2.out.1.box 3 rfl, cell_blk HB2.out.1.box 4 rfl, cell_blk HB2.out.1.box 5 rfl, cell_blk HB2.out.1.box 6 rfl, cell_blk HB2.out.2 0 rfl, cell_blk HB2.out.2 1 rfl⟩
      clear hK K
      (try simp only [Act.put])
      refine wpAnyH_take (i := 9) (v := .bool true) rfl (by kernel_rfl) (by kernel_rfl) (by kernel_rfl) (fun _ _ _ h => h) (Or.inl ⟨by rfl, ?_⟩) (by assumption) ?_
      · intro w9 hSw
        (try dsimp only at hSw)
        go_simp
      (try simp only [Act.put])
      refine wpAnyH_take (i := 10) (v := .pointer (some ⟨h8, 0, none⟩)) rfl (by kernel_rfl) (by kernel_rfl) (by kernel_rfl) (fun _ _ _ h => h) (Or.inl ⟨by rfl, ?_⟩) (by assumption) ?_
      · intro w9 hSw
        (try dsimp only at hSw)
        go_simp
      (try simp only [Act.put])
      refine wpAnyH_take (i := 11) (v := .bool hf) rfl (by kernel_rfl) (by kernel_rfl) (by kernel_rfl) (fun _ _ _ h => h) (Or.inl ⟨by rfl, ?_⟩) (by assumption) ?_
      · intro w9 hSw
        (try dsimp only at hSw)
        go_simp
      (try simp only [Act.put])
      refine wpAnyH_take (i := 12) (v := .bool (!hf)) rfl (by kernel_rfl) (by kernel_rfl) (by kernel_rfl) (fun _ _ _ h => h) (Or.inl ⟨by rfl, ?_⟩) (by assumption) ?_
      · intro w9 hSw
        (try dsimp only at hSw)
        go_simp
      (try simp only [Act.put])
      refine wpAnyH_take (i := 13) (v := .bool (!hf)) rfl (by kernel_rfl) (by kernel_rfl) (by kernel_rfl) (fun _ _ _ h => h) (Or.inl ⟨by rfl, ?_⟩) (by assumption) ?_
      · intro w9 hSw
        (try dsimp only at hSw)
        go_simp
      (try simp only [Act.put])
      refine wpAnyH_take (i := 14) (v := .agg #[.bool (!hh), .bool (!hf)]) rfl (by kernel_rfl) (by kernel_rfl) (by kernel_rfl) (fun _ _ _ h => h) (Or.inl ⟨by rfl, ?_⟩) (by assumption) ?_
      · intro w9 hSw
        (try dsimp only at hSw)
        go_simp
      (try simp only [Act.put])
      have r0 := cell_blk HB2.out.1.res 0 (v := .bool false) rfl
      have r1 := cell_blk HB2.out.1.res 1 (v := .bool false) rfl
      have s0 := soft_blk HB2.out.1.res 0
      have s1 := soft_blk HB2.out.1.res 1
      refine wpAnyH_ready (rs := [15]) (by kernel_rfl) (by simp) ?_
      refine AllReadyH.cons rfl (fun K hK => ?_) AllReadyH.nil
      go_simp
      refine hK.out _ _ ?_ (fun hHeld => ?_)
      · have q := HB2.out
        have K9 : Kept (fun k => k = w.heap.size + 2) wb ((wb.setCell ⟨w.heap.size + 2, 0, none⟩ (.bool (!hh))).setCell ⟨w.heap.size + 2, 1, none⟩ (.bool (!hf))) := ((Kept.refl (fun k => k = w.heap.size + 2) wb).setCell (p := ⟨w.heap.size + 2, 0, none⟩) (fun _ => rfl) _).setCell (p := ⟨w.heap.size + 2, 1, none⟩) (fun _ => rfl) _
        have b1 := K9.get q.1.box (by omega)
        have b2 := K9.get q.2 nz1
        exact ⟨cell_blk b1 0 rfl, cell_blk b1 1 rfl, cell_blk b1 2 rfl, cell_blk b1 3 rfl, cell_blk b1 4 rfl, cell_blk b1 5 rfl, cell_blk b1 6 rfl, cell_blk b2 0 rfl, cell_blk b2 1 rfl⟩
      clear hK K
      refine wpAnyH_done (by kernel_rfl) ?_ _
      go_wp2_with fail
      refine bodyPost_ret (results_lack rfl _ _ _ (!hh) (!hf) rfl (heap_set (heap_set HB2.out.1.res 0 _) 1 _)) rfl ⟨?_, ?_⟩
      · rw [LE2.out]
        simp
      · exact (HB2.out.1.kept.setCell (p := ⟨w.heap.size + 2, 0, none⟩) (fun z => by have z : w.heap.size + 2 < w.heap.size := z; omega) _).setCell (p := ⟨w.heap.size + 2, 1, none⟩) (fun z => by have z : w.heap.size + 2 < w.heap.size := z; omega) _
end Go.Proofs.YtojepeefphbekabGreat
