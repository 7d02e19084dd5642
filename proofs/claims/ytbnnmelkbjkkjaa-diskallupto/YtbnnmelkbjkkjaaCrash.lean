import Derived.Test.YtbnnmelkbjkkjaaRead
namespace Go.Proofs.Ytbnnmelkbjkkjaa
open Go.RowKit

/-- What a crash finds. -/
def AB.crash (A : AB) (cs : List Int) : AB := ⟨(leftL A.l0 A.X0 cs).1, [], (leftL A.l1 A.X1 (leftL A.l0 A.X0 cs).2).1, [], A.cur, 0, false, 0, false⟩
/-- Behind i slots. -/
def AB.crashN (A : AB) (cs : List Int) (i : Nat) : AB := ⟨if 1 ≤ i then (leftL A.l0 A.X0 cs).1 else [], [], if 2 ≤ i then (leftL A.l1 A.X1 (leftL A.l0 A.X0 cs).2).1 else [], [], A.cur, 0, false, 0, false⟩
def restN (A : AB) (cs : List Int) (i : Nat) : List Int := if 2 ≤ i then (leftL A.l1 A.X1 (leftL A.l0 A.X0 cs).2).2 else if 1 ≤ i then (leftL A.l0 A.X0 cs).2 else cs
structure CR (base B F P : Nat) (w wr : World) (d df : DK) (cs : List Int) (i : Nat) : Prop where
  D : IsD base wr B { d with dead := true }
  Fd : IsD w.heap.size wr F df
  pk : PK wr P w.heap.size (restN d.ab cs i)
  kept : Kept (fun k => k = B) w wr
  ab : df.ab = d.ab.crashN cs i
  new : ∀ k, df.Uses F k → w.heap.size ≤ k ∧ k ≠ P
  pw : w.heap.size ≤ P
  ne : P ≠ F
theorem IsD.zero {base : Nat} {W : World} {F cur : Nat} (hb : W.heap[F]? = some (.cells #[.slice none 0 0, .slice none 0 0, .slice none 0 0, .slice none 0 0, .int .i64 (cur : Int), .int .i64 0, .bool false, .int .i64 0, .bool false] 72 (0, 0))) (hl : base ≤ F) (hc : cur < 2) : IsD base W F ⟨⟨none, 0, 0, [], none, 0, 0, []⟩, ⟨none, 0, 0, [], none, 0, 0, []⟩, cur, 0, false, 0, false⟩ := by
  have ze : IsS base W ⟨none, 0, 0, [], none, 0, 0, []⟩ := ⟨World.ownsRow_nil _ _ _ _, fun c hc => by simp at hc, World.ownsRow_nil _ _ _ _, fun e he => by simp at he, fun k _ e he => by simp at he⟩
  have nu : ∀ k, ¬ SL.Uses ⟨none, 0, 0, [], none, 0, 0, []⟩ k := fun k z => by
    rcases z with z | z | ⟨e, he, _⟩
    · simp [blockOf] at z
    · simp [blockOf] at z
    · simp at he
  exact ⟨hb, hl, ze, ze, nu _, nu _, fun k hk => absurd hk.uses (nu k), fun k hk => absurd hk.uses (nu k), hc⟩
theorem zero_uses {F k cur acts : Nat} {dead done : Bool} {named : Int} (hk : DK.Uses ⟨⟨none, 0, 0, [], none, 0, 0, []⟩, ⟨none, 0, 0, [], none, 0, 0, []⟩, cur, acts, dead, named, done⟩ F k) : k = F := by
  rcases hk with z | z | z
  · exact z
  all_goals
    rcases z with z | z | ⟨e, he, _⟩
    · simp [blockOf] at z
    · simp [blockOf] at z
    · simp at he
theorem xs_nil {s : SL} (h : s.xs = []) : s.L = [] := List.map_eq_nil_iff.1 h
theorem leftL_bytes (l : List Nat) (xs : List (Option (List Nat))) (cs : List Int) (hl : ∀ c ∈ l, c < 256) (hx : ∀ x ∈ xs, ∀ y, x = some y → ∀ c ∈ y, c < 256) : ∀ c ∈ (leftL l xs cs).1, c < 256 := by
  have hb : ∀ k, ∀ c ∈ redoL l (xs.take k), c < 256 := fun k => redoL_bytes _ _ hl (fun x hm => hx x (List.mem_of_mem_take hm))
  unfold leftL
  split
  · rename_i x he
    intro c hc
    rcases List.mem_append.1 hc with z | z
    · exact hb _ c z
    · exact hx _ (List.mem_of_getElem? he) x rfl c (List.mem_of_mem_take z)
  · exact hb _
theorem CR.step0 {base B F P : Nat} {w wr w2 : World} {d df : DK} {cs : List Int} {a : Option Addr} {n c : Nat} (h : CR base B F P w wr d df cs 0) (hd : ∀ k, d.Uses B k → k < w.heap.size) (o : w2.ownsRow wr.heap.size 5 1 (.slice a n c) n (cellsOf (leftL d.ab.l0 d.ab.X0 (restN d.ab cs 0)).1)) (pk : PK w2 P w.heap.size (leftL d.ab.l0 d.ab.X0 (restN d.ab cs 0)).2) (K : Kept (fun k => k = P) wr w2) :
    w2.heap[F]? = some (.cells df.cells 72 (0, 0)) ∧ CR base B F P w (w2.setCell ⟨F, 0, none⟩ (.slice a n c)) d { df with s0 := { df.s0 with a := a, n := n, c := c, l := (leftL d.ab.l0 d.ab.X0 (restN d.ab cs 0)).1 } } cs 1 := by
  have hF := h.Fd.off K (fun k hk z => (h.new k hk).2 z)
  have hD := h.D.off K (fun k hk z => by
    have z : k = P := z
    have := hd k hk
    have := h.pw
    omega)
  have hs := h.kept.size
  have hz : df.s0.L = [] := xs_nil (by have := congrArg AB.X0 h.ab; exact this)
  have F0 : w.heap.size ≤ F := (h.new F (.inl rfl)).1
  have KF : Kept (fun k => k = F) w2 (w2.setCell ⟨F, 0, none⟩ (.slice a n c)) := (Kept.refl (fun k => k = F) w2).setCell (p := ⟨F, 0, none⟩) (fun _ => rfl) _
  have lt : ∀ k, df.Uses F k → k < wr.heap.size := fun k hk => h.Fd.lt hk
  have la : ∀ k, blockOf a = some k → wr.heap.size ≤ k := fun k hk => (own_lt o k hk).1
  refine ⟨hF.blk, hD.off KF (fun k hk z => ?_), hF.lasts0 hz (owns_mono o hs) (leftL_bytes _ _ _ h.D.z0.bytes (good_bytes h.D.z0.good)) (fun k hk z => ?_), ?_, ?_, ?_, fun k hk => ?_, h.pw, h.ne⟩
  · have z : k = F := z
    have := hd k hk
    omega
  · have := lt k z
    have := la k hk
    omega
  · obtain ⟨q, m, e, b1, b2, b3⟩ := pk.ex
    have hq : restN d.ab cs 1 = (leftL d.ab.l0 d.ab.X0 (restN d.ab cs 0)).2 := rfl
    rw [hq]
    exact ⟨q, m, e, KF.get b1 h.ne, b2.off KF (fun h0 k hk z => by have z : k = F := z; have := (b3 h0 k hk).2; omega), b3⟩
  · exact (h.kept.trans K (fun k hk z => by have z : k = P := z; have := h.pw; omega)).trans KF (fun k hk z => by have z : k = F := z; omega)
  · have e1 := h.ab
    have e0 := congrArg AB.l1 e1
    have ex0 := congrArg AB.X0 e1
    have ex1 := congrArg AB.X1 e1
    have ec := congrArg AB.cur e1
    have ea := congrArg AB.acts e1
    have ed := congrArg AB.dead e1
    have en := congrArg AB.named e1
    have eo := congrArg AB.done e1
    simp only [DK.ab, AB.crashN] at e0 ex0 ex1 ec ea ed en eo ⊢
    simp [SL.xs] at ex0 ex1
    simp [e0, ex0, ex1, ec, ea, ed, en, eo, SL.xs, restN]
  · have cs' : blockOf a = some k ∨ df.Uses F k := by
      rcases hk with z | z | z
      · exact .inr (.inl z)
      · rcases z with z | z | ⟨e, he, z⟩
        · exact .inl z
        · exact .inr (.inr (.inl (.inr (.inl z))))
        · exact .inr (.inr (.inl (.inr (.inr ⟨e, he, z⟩))))
      · exact .inr (.inr (.inr z))
    rcases cs' with z | z
    · have q1 := la k z
      have q2 := h.pk.lt
      exact ⟨by omega, by omega⟩
    · exact h.new k z
theorem CR.step1 {base B F P : Nat} {w wr w2 : World} {d df : DK} {cs : List Int} {a : Option Addr} {n c : Nat} (h : CR base B F P w wr d df cs 1) (hd : ∀ k, d.Uses B k → k < w.heap.size) (o : w2.ownsRow wr.heap.size 5 1 (.slice a n c) n (cellsOf (leftL d.ab.l1 d.ab.X1 (restN d.ab cs 1)).1)) (pk : PK w2 P w.heap.size (leftL d.ab.l1 d.ab.X1 (restN d.ab cs 1)).2) (K : Kept (fun k => k = P) wr w2) :
    w2.heap[F]? = some (.cells df.cells 72 (0, 0)) ∧ CR base B F P w (w2.setCell ⟨F, 2, none⟩ (.slice a n c)) d { df with s1 := { df.s1 with a := a, n := n, c := c, l := (leftL d.ab.l1 d.ab.X1 (restN d.ab cs 1)).1 } } cs 2 := by
  have hF := h.Fd.off K (fun k hk z => (h.new k hk).2 z)
  have hD := h.D.off K (fun k hk z => by
    have z : k = P := z
    have := hd k hk
    have := h.pw
    omega)
  have hs := h.kept.size
  have hz : df.s1.L = [] := xs_nil (by have := congrArg AB.X1 h.ab; exact this)
  have F0 : w.heap.size ≤ F := (h.new F (.inl rfl)).1
  have KF : Kept (fun k => k = F) w2 (w2.setCell ⟨F, 2, none⟩ (.slice a n c)) := (Kept.refl (fun k => k = F) w2).setCell (p := ⟨F, 2, none⟩) (fun _ => rfl) _
  have lt : ∀ k, df.Uses F k → k < wr.heap.size := fun k hk => h.Fd.lt hk
  have la : ∀ k, blockOf a = some k → wr.heap.size ≤ k := fun k hk => (own_lt o k hk).1
  refine ⟨hF.blk, hD.off KF (fun k hk z => ?_), hF.lasts1 hz (owns_mono o hs) (leftL_bytes _ _ _ h.D.z1.bytes (good_bytes h.D.z1.good)) (fun k hk z => ?_), ?_, ?_, ?_, fun k hk => ?_, h.pw, h.ne⟩
  · have z : k = F := z
    have := hd k hk
    omega
  · have := lt k z
    have := la k hk
    omega
  · obtain ⟨q, m, e, b1, b2, b3⟩ := pk.ex
    have hq : restN d.ab cs 2 = (leftL d.ab.l1 d.ab.X1 (restN d.ab cs 1)).2 := rfl
    rw [hq]
    exact ⟨q, m, e, KF.get b1 h.ne, b2.off KF (fun h0 k hk z => by have z : k = F := z; have := (b3 h0 k hk).2; omega), b3⟩
  · exact (h.kept.trans K (fun k hk z => by have z : k = P := z; have := h.pw; omega)).trans KF (fun k hk z => by have z : k = F := z; omega)
  · have e1 := h.ab
    have e0 := congrArg AB.l0 e1
    have ex0 := congrArg AB.X0 e1
    have ex1 := congrArg AB.X1 e1
    have ec := congrArg AB.cur e1
    have ea := congrArg AB.acts e1
    have ed := congrArg AB.dead e1
    have en := congrArg AB.named e1
    have eo := congrArg AB.done e1
    simp only [DK.ab, AB.crashN] at e0 ex0 ex1 ec ea ed en eo ⊢
    simp [SL.xs] at ex0 ex1
    simp [e0, ex0, ex1, ec, ea, ed, en, eo, SL.xs, restN]
  · have cs' : blockOf a = some k ∨ df.Uses F k := by
      rcases hk with z | z | z
      · exact .inr (.inl z)
      · exact .inr (.inr (.inl z))
      · rcases z with z | z | ⟨e, he, z⟩
        · exact .inl z
        · exact .inr (.inr (.inr (.inr (.inl z))))
        · exact .inr (.inr (.inr (.inr (.inr ⟨e, he, z⟩))))
    rcases cs' with z | z
    · have q1 := la k z
      have q2 := h.pk.lt
      exact ⟨by omega, by omega⟩
    · exact h.new k z
theorem enter40 (vs : Array Value) (w : World) : (callFunc 40 vs).run Try.prog w = .ok (.enter 40 vs) w := by kernel_rfl
set_option maxRecDepth 100000 in
set_option maxHeartbeats 8000000 in
theorem dCrash (base B : Nat) (d : DK) (q : Option Addr) (n c : Nat) (cs : List Int) (w : World) (h : IsD base w B d) (ok : d.ab.Ok) (r : IRd w q n c cs) (hqB : 0 < n → ∀ k, blockOf q = some k → k ≠ B) :
    Calls Try.prog 14 #[.pointer (some ⟨B, 0, none⟩), .slice q n c] w fun x w' => ∃ df, x = .returned (.pointer (some ⟨w.heap.size, 0, none⟩)) ∧ IsD base w' B { d with dead := true } ∧ IsD w.heap.size w' w.heap.size df ∧ df.ab = d.ab.crash cs ∧ Kept (fun k => k = B) w w' ∧ (∀ k, df.Uses w.heap.size k → w.heap.size ≤ k) := by
  have OK : Hid d.ab.Ok := ok
  have HB : Hid (B < w.heap.size) := block_lt h.blk
  have HU : Hid (∀ k, d.Uses B k → k < w.heap.size) := fun k hk => h.lt hk
  have c6 : w.cell? ⟨B, 6, none⟩ = some (.bool d.dead) := h.cell 6 rfl
  have s6 := h.soft 6
  have c4 : w.cell? ⟨B, 4, none⟩ = some (.int .i64 (d.cur : Int)) := h.cell 4 rfl
  obtain ⟨W, hW⟩ : ∃ W, W = ((w.setCell ⟨B, 6, none⟩ (.bool true)).alloc (.cells #[.slice none 0 0, .slice none 0 0, .slice none 0 0, .slice none 0 0, .int .i64 (d.cur : Int), .int .i64 0, .bool false, .int .i64 0, .bool false] 72)).alloc (.cells #[.slice q n c] 75) := ⟨_, rfl⟩
  have EW : Hid (W = ((w.setCell ⟨B, 6, none⟩ (.bool true)).alloc (.cells #[.slice none 0 0, .slice none 0 0, .slice none 0 0, .slice none 0 0, .int .i64 (d.cur : Int), .int .i64 0, .bool false, .int .i64 0, .bool false] 72)).alloc (.cells #[.slice q n c] 75)) := hW
  have ST : Hid (∃ df, CR base B w.heap.size (w.heap.size + 1) w W d df cs 0) := by
    have hz : (w.setCell ⟨B, 6, none⟩ (.bool true)).heap.size = w.heap.size := by simp
    obtain ⟨p1, p2⟩ := h.put (d' := { d with dead := true }) 6 (.bool true) rfl rfl rfl h.two
    have KA : Kept (fun _ => False) (w.setCell ⟨B, 6, none⟩ (.bool true)) W := by rw [hW]; exact ((Kept.refl _ _).alloc _).alloc _
    have K : Kept (fun k => k = B) w W := ((Kept.refl (fun k => k = B) w).setCell (p := ⟨B, 6, none⟩) (fun _ => rfl) _).trans KA (fun _ _ z => z.elim)
    have bF : W.heap[w.heap.size]? = some (.cells #[.slice none 0 0, .slice none 0 0, .slice none 0 0, .slice none 0 0, .int .i64 (d.cur : Int), .int .i64 0, .bool false, .int .i64 0, .bool false] 72 (0, 0)) := by
      rw [hW, ← hz]; exact get_alloc (alloc_new _ _)
    have bP : W.heap[w.heap.size + 1]? = some (.cells #[.slice q n c] 75 (0, 0)) := by
      rw [hW, ← hz]; exact alloc_new2 _ _ _ _
    refine ⟨⟨⟨none, 0, 0, [], none, 0, 0, []⟩, ⟨none, 0, 0, [], none, 0, 0, []⟩, d.cur, 0, false, 0, false⟩, p1.kept0 KA, IsD.zero bF (Nat.le_refl _) h.two, ⟨q, n, c, bP, r.off K (fun h0 k hk z => ?_), fun h0 k hk => ?_⟩, K, by simp [AB.crashN, DK.ab, SL.xs], fun k hk => ?_, by omega, by omega⟩
    · exact hqB h0 k hk z
    · obtain ⟨b, off, e, hc⟩ := r.cells h0
      rw [e] at hk
      simp [blockOf] at hk
      subst hk
      have hx := World.block_lt_of_cell? w _ (hc 0 (cs[0]'(by rw [r.length]; exact h0)) (List.getElem?_eq_getElem _))
      have hx : b < w.heap.size := hx
      exact ⟨by omega, hx⟩
    · have : k = w.heap.size := zero_uses hk
      omega
  clear h ok r hW hqB
  go_enter Try.func14, Try.ntmps14
  go_wp2_with fail
  rw [← EW.out]
  go_loopw [7, 21] (fun _ x wr => ∃ (i : Nat) (df : DK), x = .int .i64 (i : Int) ∧ i ≤ 2 ∧ Hid (CR base B w.heap.size (w.heap.size + 1) w wr d df cs i)) (fun _ x _ => 2 - (intOf x).toNat)
  case atStart =>
    obtain ⟨df, hdf⟩ := ST.out
    exact ⟨0, df, rfl, by omega, hdf⟩
  case round =>
    obtain ⟨i, df, rfl, hi, S⟩ := hrel
    by_cases h0 : i = 0
    · subst h0
      have i1 : ((0 : Nat) : Int) < 2 := by omega
      have LC : Hid (Calls Try.prog 40 #[.pointer (some ⟨B, 0, none⟩), .pointer (some ⟨w.heap.size + 1, 0, none⟩)] wr.drew fun x w' => ∃ a n c, x = .returned (.slice a n c) ∧ w'.heap[w.heap.size]? = some (.cells df.cells 72 (0, 0)) ∧ ∃ df', df'.cells = df.cells.setIfInBounds 0 (.slice a n c) ∧ CR base B w.heap.size (w.heap.size + 1) w (w'.setCell ⟨w.heap.size, 0, none⟩ (.slice a n c)) d df' cs 1) := by
        have KD : Kept (fun _ => False) wr wr.drew := (Kept.refl (fun _ => False) wr).drew
        have hD := S.out.D.kept0 KD
        refine (left base B 0 (w.heap.size + 1) w.heap.size d.s0 (restN d.ab cs 0) wr.drew hD.z0 (hD.cell 0 rfl) (hD.cell 1 rfl) (S.out.pk.kept0 KD) (by have := HB.out; omega) (fun z => by have := HU.out _ (.inr (.inl z)); omega) OK.out.w0 (by have := OK.out.n0; rw [← hD.z0.xlen]; exact this)).mono ?_
        rintro x w2 ⟨a, n, c, rfl, o2, pk2, K2⟩
        have K2' : Kept (fun k => k = w.heap.size + 1) wr w2 := (KD.mono (fun _ _ z => z.elim)).trans K2 (fun _ _ z => z)
        obtain ⟨q1, q2⟩ := S.out.step0 HU.out o2 pk2 K2'
        exact ⟨a, n, c, rfl, q1, _, rfl, q2⟩
      go_wp2_with fail
      go_region_held3 (fun _ => True) (first | trivial)
        (first
          | (go_at_call 40; refine LC.out.mono ?_; rintro x w2 ⟨a2, n2, c2, rfl, bk2, df2, e2, cr2⟩
             have C2 : Hid (CR base B w.heap.size (w.heap.size + 1) w (w2.setCell ⟨w.heap.size, 0, none⟩ (.slice a2 n2 c2)) d df2 cs 1) := cr2
             have y0 : w2.cell? ⟨w.heap.size, 0, none⟩ = some (.slice df.s0.a df.s0.n df.s0.c) := cell_blk bk2 0 rfl
             have f0 := soft_blk bk2 0
             clear bk2 e2 cr2)
          | fail)
      all_goals go_wp2_with fail
      all_goals go_roundw
      all_goals first | exact ⟨1, df2, by go_num, by omega, C2.out⟩ | (simp [intOf]; done)
    by_cases h1 : i = 1
    · subst h1
      have i1 : ((1 : Nat) : Int) < 2 := by omega
      have LC : Hid (Calls Try.prog 40 #[.pointer (some ⟨B, 2, none⟩), .pointer (some ⟨w.heap.size + 1, 0, none⟩)] wr.drew fun x w' => ∃ a n c, x = .returned (.slice a n c) ∧ w'.heap[w.heap.size]? = some (.cells df.cells 72 (0, 0)) ∧ ∃ df', df'.cells = df.cells.setIfInBounds 2 (.slice a n c) ∧ CR base B w.heap.size (w.heap.size + 1) w (w'.setCell ⟨w.heap.size, 2, none⟩ (.slice a n c)) d df' cs 2) := by
        have KD : Kept (fun _ => False) wr wr.drew := (Kept.refl (fun _ => False) wr).drew
        have hD := S.out.D.kept0 KD
        refine (left base B 2 (w.heap.size + 1) w.heap.size d.s1 (restN d.ab cs 1) wr.drew hD.z1 (hD.cell 2 rfl) (hD.cell 3 rfl) (S.out.pk.kept0 KD) (by have := HB.out; omega) (fun z => by have := HU.out _ (.inr (.inr z)); omega) OK.out.w1 (by have := OK.out.n1; rw [← hD.z1.xlen]; exact this)).mono ?_
        rintro x w2 ⟨a, n, c, rfl, o2, pk2, K2⟩
        have K2' : Kept (fun k => k = w.heap.size + 1) wr w2 := (KD.mono (fun _ _ z => z.elim)).trans K2 (fun _ _ z => z)
        obtain ⟨q1, q2⟩ := S.out.step1 HU.out o2 pk2 K2'
        exact ⟨a, n, c, rfl, q1, _, rfl, q2⟩
      go_wp2_with fail
      go_region_held3 (fun _ => True) (first | trivial)
        (first
          | (go_at_call 40; refine LC.out.mono ?_; rintro x w2 ⟨a2, n2, c2, rfl, bk2, df2, e2, cr2⟩
             have C2 : Hid (CR base B w.heap.size (w.heap.size + 1) w (w2.setCell ⟨w.heap.size, 2, none⟩ (.slice a2 n2 c2)) d df2 cs 2) := cr2
             have y0 : w2.cell? ⟨w.heap.size, 2, none⟩ = some (.slice df.s1.a df.s1.n df.s1.c) := cell_blk bk2 2 rfl
             have f0 := soft_blk bk2 2
             clear bk2 e2 cr2)
          | fail)
      all_goals go_wp2_with fail
      all_goals go_roundw
      all_goals first | exact ⟨2, df2, by go_num, by omega, C2.out⟩ | (simp [intOf]; done)
    have h2 : i = 2 := by omega
    subst h2
    have i1 : ¬ ((2 : Nat) : Int) < 2 := by omega
    go_wp2_with fail
    go_ret
    exact ⟨rfl, S.out.D, df, S.out.Fd, S.out.ab, S.out.kept, fun k hk => (S.out.new k hk).1⟩
end Go.Proofs.Ytbnnmelkbjkkjaa
