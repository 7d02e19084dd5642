import Derived.Test.YtbnnmelkbjkkjaaAbJ
namespace Go.Proofs.Ytbnnmelkbjkkjaa
open Go.RowKit

set_option maxRecDepth 100000 in
theorem do38_0 (base B : Nat) (d : DK) (D1 D2 D3 : Nat) (a : Option Addr) (n c : Nat) (l : List Nat) (w : World) (h : IsD base w B d) (hb : base ≤ w.heap.size) (c1 : w.cell? ⟨D1, 0, none⟩ = some (.pointer (some ⟨B, 0, none⟩))) (c2 : w.cell? ⟨D2, 0, none⟩ = some (.int .i64 0)) (c3 : w.cell? ⟨D3, 0, none⟩ = some (.slice a n c)) (hf : ∀ k, d.Foot B k → k ≠ D1 ∧ k ≠ D2 ∧ k ≠ D3) (r : Reads w a n c l) (hn : n ≤ Lim) (ok : d.ab.Ok) :
    Calls Try.prog 38 #[.pointer (some ⟨D1, 0, none⟩), .pointer (some ⟨D2, 0, none⟩), .pointer (some ⟨D3, 0, none⟩)] w fun x w' => x = .returned (.tuple #[]) ∧ ∃ d', IsD base w' B d' ∧ DM w w' B d d' ∧ d'.ab = d.ab.add 0 l := by
  have H : Hid (IsD base w B d ∧ base ≤ w.heap.size ∧ Reads w a n c l ∧ n ≤ Lim ∧ d.ab.Ok ∧ l.length = n) := ⟨h, hb, r, hn, ok, r.length⟩
  have HF : Hid (∀ k, d.Foot B k → k ≠ D1 ∧ k ≠ D2 ∧ k ≠ D3) := hf
  have KD : Hid (Kept (fun _ => False) w w.drew) := (Kept.refl (fun _ => False) w).drew
  clear h hb r hn ok hf
  by_cases h0 : n = 0
  · subst h0
    go_enter Try.func38, Try.ntmps38
    go_upto_region 0 with fail
    go_region_held3 (fun w' => w'.cell? ⟨D1, 0, none⟩ = some (.pointer (some ⟨B, 0, none⟩)) ∧ w'.cell? ⟨D2, 0, none⟩ = some (.int .i64 0) ∧ w'.cell? ⟨D3, 0, none⟩ = some (.slice a 0 c)) (first | go_keep)
      (first
        | (go_at_call 39; refine (add_none _ a c _).mono ?_; rintro x w1 ⟨rfl, rfl⟩)
        | fail)
    go_wp2_with fail
    go_end0
    refine ⟨rfl, d, H.out.1.kept0 KD.out, DM.of_kept KD.out B d, ?_⟩
    unfold AB.add
    rw [if_pos H.out.2.2.2.2.2]
  · go_enter Try.func38, Try.ntmps38
    go_upto_region 0 with fail
    have AC : Hid (Calls Try.prog 39 #[.pointer (some ⟨B, 0, none⟩), .slice a n c] w.drew fun x w' => x = .returned (.tuple #[]) ∧ ∃ d', IsD base w' B d' ∧ DM w w' B d d' ∧ d'.ab = d.ab.add 0 l) := by
      have hD := H.out.1.kept0 KD.out
      refine (add base B 0 d.s0 d.cells a n c l w.drew hD.z0 H.out.2.1 hD.blk rfl rfl hD.u0 (H.out.2.2.1.kept' KD.out (fun _ _ z => z)) (by omega) H.out.2.2.2.1 (by have := H.out.2.2.2.2.1.n0; rw [← H.out.1.z0.xlen]; exact this)).mono ?_
      rintro x w1 ⟨s', e, rfl, e1, e2, e3, m⟩
      obtain ⟨m1, m2⟩ := hD.move0 m
      refine ⟨rfl, _, m1, (DM.of_kept KD.out B d).trans m2, ?_⟩
      unfold AB.add
      rw [if_neg (by rw [H.out.2.2.2.2.2]; exact h0)]
      simp [AB.more, DK.ab, SL.xs, e1, e2, e3]
    go_region_held3 (fun w' => w'.cell? ⟨D1, 0, none⟩ = some (.pointer (some ⟨B, 0, none⟩)) ∧ w'.cell? ⟨D2, 0, none⟩ = some (.int .i64 0) ∧ w'.cell? ⟨D3, 0, none⟩ = some (.slice a n c)) (first | go_keep)
      (first
        | (go_at_call 39; refine AC.out.mono ?_; rintro x w1 ⟨rfl, d', q⟩
           have Q : Hid (IsD base w1 B d' ∧ DM w w1 B d d' ∧ d'.ab = d.ab.add 0 l) := q
           have y1 := Q.out.2.1.kept.cell c1 (fun z => (HF.out _ z).1 rfl)
           have y2 := Q.out.2.1.kept.cell c2 (fun z => (HF.out _ z).2.1 rfl)
           have y3 := Q.out.2.1.kept.cell c3 (fun z => (HF.out _ z).2.2 rfl)
           clear q)
        | fail)
    go_wp2_with fail
    go_end0
    exact ⟨rfl, d', Q.out⟩
set_option maxRecDepth 100000 in
theorem do42_0 (base B : Nat) (d : DK) (D1 D2 : Nat) (w : World) (h : IsD base w B d) (hb : base ≤ w.heap.size) (c1 : w.cell? ⟨D1, 0, none⟩ = some (.pointer (some ⟨B, 0, none⟩))) (c2 : w.cell? ⟨D2, 0, none⟩ = some (.int .i64 0)) (hf : ∀ k, d.Foot B k → k ≠ D1 ∧ k ≠ D2) (ok : d.ab.Ok) :
    Calls Try.prog 42 #[.pointer (some ⟨D1, 0, none⟩), .pointer (some ⟨D2, 0, none⟩)] w fun x w' => x = .returned (.tuple #[]) ∧ ∃ d', IsD base w' B d' ∧ DM w w' B d d' ∧ d'.ab = d.ab.sync 0 := by
  have H : Hid (IsD base w B d ∧ base ≤ w.heap.size ∧ d.ab.Ok) := ⟨h, hb, ok⟩
  have HF : Hid (∀ k, d.Foot B k → k ≠ D1 ∧ k ≠ D2) := hf
  have KD : Hid (Kept (fun _ => False) w w.drew) := (Kept.refl (fun _ => False) w).drew
  clear h hb ok hf
  go_enter Try.func42, Try.ntmps42
  go_upto_region 0 with fail
  have AC : Hid (Calls Try.prog 43 #[.pointer (some ⟨B, 0, none⟩)] w.drew fun x w' => x = .returned (.tuple #[]) ∧ ∃ d', IsD base w' B d' ∧ DM w w' B d d' ∧ d'.ab = d.ab.sync 0) := by
    have hD := H.out.1.kept0 KD.out
    refine (sync base B 0 d.s0 d.cells w.drew hD.z0 H.out.2.1 hD.blk rfl rfl (by have := H.out.2.2.w0; exact this)).mono ?_
    rintro x w1 ⟨s', rfl, e1, e2, m⟩
    obtain ⟨m1, m2⟩ := hD.move0 m
    refine ⟨rfl, _, m1, (DM.of_kept KD.out B d).trans m2, ?_⟩
    simp [AB.sync, DK.ab, SL.xs, e1, e2]
  go_region_held3 (fun w' => w'.cell? ⟨D1, 0, none⟩ = some (.pointer (some ⟨B, 0, none⟩)) ∧ w'.cell? ⟨D2, 0, none⟩ = some (.int .i64 0)) (first | go_keep)
    (first
      | (go_at_call 43; refine AC.out.mono ?_; rintro x w1 ⟨rfl, d', q⟩
         have Q : Hid (IsD base w1 B d' ∧ DM w w1 B d d' ∧ d'.ab = d.ab.sync 0) := q
         have y1 := Q.out.2.1.kept.cell c1 (fun z => (HF.out _ z).1 rfl)
         have y2 := Q.out.2.1.kept.cell c2 (fun z => (HF.out _ z).2 rfl)
         clear q)
      | fail)
  go_wp2_with fail
  go_end0
  exact ⟨rfl, d', Q.out⟩
set_option maxRecDepth 100000 in
theorem do45_0 (base B : Nat) (d : DK) (D1 D2 : Nat) (w : World) (h : IsD base w B d) (hb : base ≤ w.heap.size) (c1 : w.cell? ⟨D1, 0, none⟩ = some (.pointer (some ⟨B, 0, none⟩))) (c2 : w.cell? ⟨D2, 0, none⟩ = some (.int .i64 0)) (hf : ∀ k, d.Foot B k → k ≠ D1 ∧ k ≠ D2) (ok : d.ab.Ok) :
    Calls Try.prog 45 #[.pointer (some ⟨D1, 0, none⟩), .pointer (some ⟨D2, 0, none⟩)] w fun x w' => x = .returned (.tuple #[]) ∧ ∃ d', IsD base w' B d' ∧ DM w w' B d d' ∧ d'.ab = d.ab.more 0 none := by
  have H : Hid (IsD base w B d ∧ base ≤ w.heap.size ∧ d.ab.Ok) := ⟨h, hb, ok⟩
  have HF : Hid (∀ k, d.Foot B k → k ≠ D1 ∧ k ≠ D2) := hf
  have KD : Hid (Kept (fun _ => False) w w.drew) := (Kept.refl (fun _ => False) w).drew
  clear h hb ok hf
  go_enter Try.func45, Try.ntmps45
  go_upto_region 0 with fail
  have AC : Hid (Calls Try.prog 46 #[.pointer (some ⟨B, 0, none⟩)] w.drew fun x w' => x = .returned (.tuple #[]) ∧ ∃ d', IsD base w' B d' ∧ DM w w' B d d' ∧ d'.ab = d.ab.more 0 none) := by
    have hD := H.out.1.kept0 KD.out
    refine (wipe base B 0 d.s0 d.cells w.drew hD.z0 H.out.2.1 hD.blk rfl rfl hD.u0 (by have := H.out.2.2.n0; rw [← H.out.1.z0.xlen]; exact this)).mono ?_
    rintro x w1 ⟨s', e, rfl, e1, e2, e3, m⟩
    obtain ⟨m1, m2⟩ := hD.move0 m
    refine ⟨rfl, _, m1, (DM.of_kept KD.out B d).trans m2, ?_⟩
    simp [AB.more, DK.ab, SL.xs, e1, e2, e3]
  go_region_held3 (fun w' => w'.cell? ⟨D1, 0, none⟩ = some (.pointer (some ⟨B, 0, none⟩)) ∧ w'.cell? ⟨D2, 0, none⟩ = some (.int .i64 0)) (first | go_keep)
    (first
      | (go_at_call 46; refine AC.out.mono ?_; rintro x w1 ⟨rfl, d', q⟩
         have Q : Hid (IsD base w1 B d' ∧ DM w w1 B d d' ∧ d'.ab = d.ab.more 0 none) := q
         have y1 := Q.out.2.1.kept.cell c1 (fun z => (HF.out _ z).1 rfl)
         have y2 := Q.out.2.1.kept.cell c2 (fun z => (HF.out _ z).2 rfl)
         clear q)
      | fail)
  go_wp2_with fail
  go_end0
  exact ⟨rfl, d', Q.out⟩
set_option maxRecDepth 100000 in
theorem do44_0 (base B : Nat) (d : DK) (D1 D2 : Nat) (w : World) (h : IsD base w B d) (c1 : w.cell? ⟨D1, 0, none⟩ = some (.pointer (some ⟨B, 0, none⟩))) (c2 : w.cell? ⟨D2, 0, none⟩ = some (.int .i64 0)) :
    Calls Try.prog 44 #[.pointer (some ⟨D2, 0, none⟩), .pointer (some ⟨D1, 0, none⟩)] w fun x w' => x = .returned (.tuple #[]) ∧ ∃ d', IsD base w' B d' ∧ DM w w' B d d' ∧ d'.ab = d.ab.switch 0 := by
  have H : Hid (IsD base w B d) := h
  have c4 : w.cell? ⟨B, 4, none⟩ = some (.int .i64 (d.cur : Int)) := h.cell 4 rfl
  have f4 := h.soft 4
  clear h
  go_enter Try.func44, Try.ntmps44
  go_wp2_with fail
  go_end0
  refine ⟨rfl, { d with cur := 0 }, ?_⟩
  obtain ⟨m1, m2⟩ := H.out.put (d' := { d with cur := 0 }) 4 (.int .i64 0) rfl rfl rfl (by show (0 : Nat) < 2; omega)
  exact ⟨m1, m2, rfl⟩
set_option maxRecDepth 100000 in
theorem do38_1 (base B : Nat) (d : DK) (D1 D2 D3 : Nat) (a : Option Addr) (n c : Nat) (l : List Nat) (w : World) (h : IsD base w B d) (hb : base ≤ w.heap.size) (c1 : w.cell? ⟨D1, 0, none⟩ = some (.pointer (some ⟨B, 0, none⟩))) (c2 : w.cell? ⟨D2, 0, none⟩ = some (.int .i64 1)) (c3 : w.cell? ⟨D3, 0, none⟩ = some (.slice a n c)) (hf : ∀ k, d.Foot B k → k ≠ D1 ∧ k ≠ D2 ∧ k ≠ D3) (r : Reads w a n c l) (hn : n ≤ Lim) (ok : d.ab.Ok) :
    Calls Try.prog 38 #[.pointer (some ⟨D1, 0, none⟩), .pointer (some ⟨D2, 0, none⟩), .pointer (some ⟨D3, 0, none⟩)] w fun x w' => x = .returned (.tuple #[]) ∧ ∃ d', IsD base w' B d' ∧ DM w w' B d d' ∧ d'.ab = d.ab.add 1 l := by
  have H : Hid (IsD base w B d ∧ base ≤ w.heap.size ∧ Reads w a n c l ∧ n ≤ Lim ∧ d.ab.Ok ∧ l.length = n) := ⟨h, hb, r, hn, ok, r.length⟩
  have HF : Hid (∀ k, d.Foot B k → k ≠ D1 ∧ k ≠ D2 ∧ k ≠ D3) := hf
  have KD : Hid (Kept (fun _ => False) w w.drew) := (Kept.refl (fun _ => False) w).drew
  clear h hb r hn ok hf
  by_cases h0 : n = 0
  · subst h0
    go_enter Try.func38, Try.ntmps38
    go_upto_region 0 with fail
    go_region_held3 (fun w' => w'.cell? ⟨D1, 0, none⟩ = some (.pointer (some ⟨B, 0, none⟩)) ∧ w'.cell? ⟨D2, 0, none⟩ = some (.int .i64 1) ∧ w'.cell? ⟨D3, 0, none⟩ = some (.slice a 0 c)) (first | go_keep)
      (first
        | (go_at_call 39; refine (add_none _ a c _).mono ?_; rintro x w1 ⟨rfl, rfl⟩)
        | fail)
    go_wp2_with fail
    go_end0
    refine ⟨rfl, d, H.out.1.kept0 KD.out, DM.of_kept KD.out B d, ?_⟩
    unfold AB.add
    rw [if_pos H.out.2.2.2.2.2]
  · go_enter Try.func38, Try.ntmps38
    go_upto_region 0 with fail
    have AC : Hid (Calls Try.prog 39 #[.pointer (some ⟨B, 2, none⟩), .slice a n c] w.drew fun x w' => x = .returned (.tuple #[]) ∧ ∃ d', IsD base w' B d' ∧ DM w w' B d d' ∧ d'.ab = d.ab.add 1 l) := by
      have hD := H.out.1.kept0 KD.out
      refine (add base B 2 d.s1 d.cells a n c l w.drew hD.z1 H.out.2.1 hD.blk rfl rfl hD.u1 (H.out.2.2.1.kept' KD.out (fun _ _ z => z)) (by omega) H.out.2.2.2.1 (by have := H.out.2.2.2.2.1.n1; rw [← H.out.1.z1.xlen]; exact this)).mono ?_
      rintro x w1 ⟨s', e, rfl, e1, e2, e3, m⟩
      obtain ⟨m1, m2⟩ := hD.move1 m
      refine ⟨rfl, _, m1, (DM.of_kept KD.out B d).trans m2, ?_⟩
      unfold AB.add
      rw [if_neg (by rw [H.out.2.2.2.2.2]; exact h0)]
      simp [AB.more, DK.ab, SL.xs, e1, e2, e3]
    go_region_held3 (fun w' => w'.cell? ⟨D1, 0, none⟩ = some (.pointer (some ⟨B, 0, none⟩)) ∧ w'.cell? ⟨D2, 0, none⟩ = some (.int .i64 1) ∧ w'.cell? ⟨D3, 0, none⟩ = some (.slice a n c)) (first | go_keep)
      (first
        | (go_at_call 39; refine AC.out.mono ?_; rintro x w1 ⟨rfl, d', q⟩
           have Q : Hid (IsD base w1 B d' ∧ DM w w1 B d d' ∧ d'.ab = d.ab.add 1 l) := q
           have y1 := Q.out.2.1.kept.cell c1 (fun z => (HF.out _ z).1 rfl)
           have y2 := Q.out.2.1.kept.cell c2 (fun z => (HF.out _ z).2.1 rfl)
           have y3 := Q.out.2.1.kept.cell c3 (fun z => (HF.out _ z).2.2 rfl)
           clear q)
        | fail)
    go_wp2_with fail
    go_end0
    exact ⟨rfl, d', Q.out⟩
set_option maxRecDepth 100000 in
theorem do42_1 (base B : Nat) (d : DK) (D1 D2 : Nat) (w : World) (h : IsD base w B d) (hb : base ≤ w.heap.size) (c1 : w.cell? ⟨D1, 0, none⟩ = some (.pointer (some ⟨B, 0, none⟩))) (c2 : w.cell? ⟨D2, 0, none⟩ = some (.int .i64 1)) (hf : ∀ k, d.Foot B k → k ≠ D1 ∧ k ≠ D2) (ok : d.ab.Ok) :
    Calls Try.prog 42 #[.pointer (some ⟨D1, 0, none⟩), .pointer (some ⟨D2, 0, none⟩)] w fun x w' => x = .returned (.tuple #[]) ∧ ∃ d', IsD base w' B d' ∧ DM w w' B d d' ∧ d'.ab = d.ab.sync 1 := by
  have H : Hid (IsD base w B d ∧ base ≤ w.heap.size ∧ d.ab.Ok) := ⟨h, hb, ok⟩
  have HF : Hid (∀ k, d.Foot B k → k ≠ D1 ∧ k ≠ D2) := hf
  have KD : Hid (Kept (fun _ => False) w w.drew) := (Kept.refl (fun _ => False) w).drew
  clear h hb ok hf
  go_enter Try.func42, Try.ntmps42
  go_upto_region 0 with fail
  have AC : Hid (Calls Try.prog 43 #[.pointer (some ⟨B, 2, none⟩)] w.drew fun x w' => x = .returned (.tuple #[]) ∧ ∃ d', IsD base w' B d' ∧ DM w w' B d d' ∧ d'.ab = d.ab.sync 1) := by
    have hD := H.out.1.kept0 KD.out
    refine (sync base B 2 d.s1 d.cells w.drew hD.z1 H.out.2.1 hD.blk rfl rfl (by have := H.out.2.2.w1; exact this)).mono ?_
    rintro x w1 ⟨s', rfl, e1, e2, m⟩
    obtain ⟨m1, m2⟩ := hD.move1 m
    refine ⟨rfl, _, m1, (DM.of_kept KD.out B d).trans m2, ?_⟩
    simp [AB.sync, DK.ab, SL.xs, e1, e2]
  go_region_held3 (fun w' => w'.cell? ⟨D1, 0, none⟩ = some (.pointer (some ⟨B, 0, none⟩)) ∧ w'.cell? ⟨D2, 0, none⟩ = some (.int .i64 1)) (first | go_keep)
    (first
      | (go_at_call 43; refine AC.out.mono ?_; rintro x w1 ⟨rfl, d', q⟩
         have Q : Hid (IsD base w1 B d' ∧ DM w w1 B d d' ∧ d'.ab = d.ab.sync 1) := q
         have y1 := Q.out.2.1.kept.cell c1 (fun z => (HF.out _ z).1 rfl)
         have y2 := Q.out.2.1.kept.cell c2 (fun z => (HF.out _ z).2 rfl)
         clear q)
      | fail)
  go_wp2_with fail
  go_end0
  exact ⟨rfl, d', Q.out⟩
set_option maxRecDepth 100000 in
theorem do45_1 (base B : Nat) (d : DK) (D1 D2 : Nat) (w : World) (h : IsD base w B d) (hb : base ≤ w.heap.size) (c1 : w.cell? ⟨D1, 0, none⟩ = some (.pointer (some ⟨B, 0, none⟩))) (c2 : w.cell? ⟨D2, 0, none⟩ = some (.int .i64 1)) (hf : ∀ k, d.Foot B k → k ≠ D1 ∧ k ≠ D2) (ok : d.ab.Ok) :
    Calls Try.prog 45 #[.pointer (some ⟨D1, 0, none⟩), .pointer (some ⟨D2, 0, none⟩)] w fun x w' => x = .returned (.tuple #[]) ∧ ∃ d', IsD base w' B d' ∧ DM w w' B d d' ∧ d'.ab = d.ab.more 1 none := by
  have H : Hid (IsD base w B d ∧ base ≤ w.heap.size ∧ d.ab.Ok) := ⟨h, hb, ok⟩
  have HF : Hid (∀ k, d.Foot B k → k ≠ D1 ∧ k ≠ D2) := hf
  have KD : Hid (Kept (fun _ => False) w w.drew) := (Kept.refl (fun _ => False) w).drew
  clear h hb ok hf
  go_enter Try.func45, Try.ntmps45
  go_upto_region 0 with fail
  have AC : Hid (Calls Try.prog 46 #[.pointer (some ⟨B, 2, none⟩)] w.drew fun x w' => x = .returned (.tuple #[]) ∧ ∃ d', IsD base w' B d' ∧ DM w w' B d d' ∧ d'.ab = d.ab.more 1 none) := by
    have hD := H.out.1.kept0 KD.out
    refine (wipe base B 2 d.s1 d.cells w.drew hD.z1 H.out.2.1 hD.blk rfl rfl hD.u1 (by have := H.out.2.2.n1; rw [← H.out.1.z1.xlen]; exact this)).mono ?_
    rintro x w1 ⟨s', e, rfl, e1, e2, e3, m⟩
    obtain ⟨m1, m2⟩ := hD.move1 m
    refine ⟨rfl, _, m1, (DM.of_kept KD.out B d).trans m2, ?_⟩
    simp [AB.more, DK.ab, SL.xs, e1, e2, e3]
  go_region_held3 (fun w' => w'.cell? ⟨D1, 0, none⟩ = some (.pointer (some ⟨B, 0, none⟩)) ∧ w'.cell? ⟨D2, 0, none⟩ = some (.int .i64 1)) (first | go_keep)
    (first
      | (go_at_call 46; refine AC.out.mono ?_; rintro x w1 ⟨rfl, d', q⟩
         have Q : Hid (IsD base w1 B d' ∧ DM w w1 B d d' ∧ d'.ab = d.ab.more 1 none) := q
         have y1 := Q.out.2.1.kept.cell c1 (fun z => (HF.out _ z).1 rfl)
         have y2 := Q.out.2.1.kept.cell c2 (fun z => (HF.out _ z).2 rfl)
         clear q)
      | fail)
  go_wp2_with fail
  go_end0
  exact ⟨rfl, d', Q.out⟩
set_option maxRecDepth 100000 in
theorem do44_1 (base B : Nat) (d : DK) (D1 D2 : Nat) (w : World) (h : IsD base w B d) (c1 : w.cell? ⟨D1, 0, none⟩ = some (.pointer (some ⟨B, 0, none⟩))) (c2 : w.cell? ⟨D2, 0, none⟩ = some (.int .i64 1)) :
    Calls Try.prog 44 #[.pointer (some ⟨D2, 0, none⟩), .pointer (some ⟨D1, 0, none⟩)] w fun x w' => x = .returned (.tuple #[]) ∧ ∃ d', IsD base w' B d' ∧ DM w w' B d d' ∧ d'.ab = d.ab.switch 1 := by
  have H : Hid (IsD base w B d) := h
  have c4 : w.cell? ⟨B, 4, none⟩ = some (.int .i64 (d.cur : Int)) := h.cell 4 rfl
  have f4 := h.soft 4
  clear h
  go_enter Try.func44, Try.ntmps44
  go_wp2_with fail
  go_end0
  refine ⟨rfl, { d with cur := 1 }, ?_⟩
  obtain ⟨m1, m2⟩ := H.out.put (d' := { d with cur := 1 }) 4 (.int .i64 1) rfl rfl rfl (by show (1 : Nat) < 2; omega)
  exact ⟨m1, m2, rfl⟩
end Go.Proofs.Ytbnnmelkbjkkjaa
