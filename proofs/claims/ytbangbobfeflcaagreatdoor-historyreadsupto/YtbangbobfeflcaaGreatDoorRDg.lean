import Derived.Test.YtbangbobfeflcaaGreatDoorRFo
import Derived.Test.YtbangbobfeflcaaGreatDoorLG1J
import Derived.Deep.RegionHeld3
import Derived.Deep.DeepCutAuto
import Derived.Laws.Concat
import Derived.Lib.ItoaLen
import Derived.Lib.ItoaMem
namespace Go.Proofs.YtbangbobfeflcaaGreatDoor
open Go.RowKit 

theorem Tryz.info37 : (Tryz.prog.info? 37).map (·.size) = some 2 := by kernel_rfl
theorem rValidB (a b : Int) (w : World) : Calls Tryz.prog 95 #[.agg #[.int .i64 a, .int .i64 b]] w fun x w' => x = .returned (.bool (kIsZero a b || kIsProper a b)) ∧ Below w.heap.size w w' := by
  refine (hRValid a b w).mono ?_
  rintro o w1 ⟨rfl, K⟩
  exact ⟨rfl, below_kept K⟩
structure TagAt (w : World) (b : Nat) (x y : Int) : Prop where
  blk : w.heap[b]? = some (.cells #[.int .i64 x, .int .i64 y] 37 (0, 0))
theorem heap_set {w : World} {B : Nat} {cs : Array Value} {t : TypeId} {fr : Nat × Nat} (h : w.heap[B]? = some (.cells cs t fr)) (i : Nat) (u : Value) : (w.setCell ⟨B, i, none⟩ u).heap[B]? = some (.cells (cs.setIfInBounds i u) t fr) := by
  simp only [World.setCell, Array.getElem?_modify]
  rw [h]; rfl
theorem TagAt.lt {w : World} {b : Nat} {x y : Int} (h : TagAt w b x y) : b < w.heap.size := (Array.getElem?_eq_some_iff.1 h.blk).1
theorem TagAt.new (w : World) (x y : Int) : TagAt (w.alloc (.cells #[.int .i64 x, .int .i64 y] 37)) w.heap.size x y := ⟨heap_alloc_new w _⟩
theorem TagAt.alloc {w : World} {b : Nat} {x y : Int} (h : TagAt w b x y) (o : Obj) : TagAt (w.alloc o) b x y := ⟨(Below.heap_alloc w o b h.lt).trans h.blk⟩
theorem TagAt.below {w w' : World} {b N : Nat} {x y : Int} (h : TagAt w b x y) (B : Below N w w') (hN : b < N) : TagAt w' b x y := ⟨(B.block b hN).trans h.blk⟩
theorem TagAt.by {w w' : World} {b : Nat} {x y : Int} (h : TagAt w b x y) (B : Below w.heap.size w w') : TagAt w' b x y := h.below B h.lt
theorem TagAt.drew {w : World} {b : Nat} {x y : Int} (h : TagAt w b x y) : TagAt w.drew b x y := ⟨h.blk⟩
theorem TagAt.drewN {w : World} {b : Nat} {x y : Int} (h : TagAt w b x y) (n : Nat) : TagAt (w.drewN n) b x y := ⟨h.blk⟩
theorem TagAt.set0 {w : World} {b : Nat} {x y : Int} (h : TagAt w b x y) (p : Int) : TagAt (w.setCell ⟨b, 0, none⟩ (.int .i64 p)) b p y := ⟨heap_set h.blk 0 _⟩
theorem TagAt.set1 {w : World} {b : Nat} {x y : Int} (h : TagAt w b x y) (q : Int) : TagAt (w.setCell ⟨b, 1, none⟩ (.int .i64 q)) b x q := ⟨heap_set h.blk 1 _⟩
theorem TagAt.other {w : World} {b : Nat} {x y : Int} (h : TagAt w b x y) {k i : Nat} (u : Value) (hk : b ≠ k) : TagAt (w.setCell ⟨k, i, none⟩ u) b x y := ⟨(Below.heap_setCell w ⟨k, i, none⟩ u b hk).trans h.blk⟩
theorem TagAt.facts {w : World} {b : Nat} {x y : Int} (h : TagAt w b x y) : w.cell? ⟨b, 0, none⟩ = some (.int .i64 x) ∧ w.cell? ⟨b, 1, none⟩ = some (.int .i64 y) ∧ w.frozen? ⟨b, 0, none⟩ = false ∧ w.frozen? ⟨b, 1, none⟩ = false := by
  refine ⟨?_, ?_, ?_, ?_⟩
  · rw [cell_of_row w b 0 _ 37 (0, 0) h.blk]; rfl
  · rw [cell_of_row w b 1 _ 37 (0, 0) h.blk]; rfl
  · simp [World.frozen?, h.blk]
  · simp [World.frozen?, h.blk]
theorem results_tagQ {fn : Func} {p u : Tmp} (h : fn.results = #[.cell p 37, .tmp u]) (tmps : Array Value) (w : World) (b : Nat) (x y : Int) (hp : tmps.getD p undef = .pointer (some ⟨b, 0, none⟩)) (T : TagAt w b x y) :
    (results fn tmps).run Tryz.prog w = .ok (.tuple #[.agg #[.int .i64 x, .int .i64 y], tmps.getD u undef]) w := by
  rw [results_cell_tmp h, hp]
  simp [asAddr, run_loadVar_row w b 37 37 _ (0, 0) _ T.blk Tryz.underlying37 rfl Tryz.info37]
def textL (a b : Int) : List UInt8 := if (kIsZero a b || kIsProper a b) = true then Lib.itoa a ++ (46 :: Lib.itoa b) else []
theorem eq_bytes (x y : ByteArray) : (x.toList == y.toList) = decide (x = y) := by
  rw [Go.ByteArray.toList_eq, Go.ByteArray.toList_eq]
  by_cases h : x = y
  · subst h; simp
  · rw [decide_eq_false h]
    apply beq_eq_false_iff_ne.2
    intro e
    apply h
    apply ByteArray.ext
    exact Array.toList_inj.1 e
theorem valid_bounds (a b : Int) (h : (kIsZero a b || kIsProper a b) = true) : 0 ≤ a ∧ a ≤ 4611686018427387903 ∧ 0 ≤ b ∧ b ≤ 65535 := by
  unfold kIsZero kIsProper at h
  simp at h
  omega
theorem itoa_digs (a : Int) (h : 0 ≤ a) : Lib.itoa a = Lib.decDigits a.toNat := by
  unfold Lib.itoa
  rw [if_neg (by omega)]
theorem text_valid (a b : Int) (h : (kIsZero a b || kIsProper a b) = true) : textL a b = Lib.decDigits a.toNat ++ (46 :: Lib.decDigits b.toNat) := by
  have q := valid_bounds a b h
  unfold textL
  rw [if_pos h, itoa_digs a q.1, itoa_digs b q.2.2.1]
theorem text_none (a b : Int) (h : (kIsZero a b || kIsProper a b) = false) : textL a b = [] := by
  unfold textL
  rw [if_neg (by rw [h]; simp)]
theorem digs_step (n : Nat) (h : ¬ n < 10) : Lib.decDigits n = Lib.decDigits (n / 10) ++ [UInt8.ofNat (48 + n % 10)] := by
  rw [Lib.decDigits, dif_neg h]
/-- A row of one byte as a text. -/
theorem one_string (w : World) (d : Nat) (hd : d < 256) : (convert 34 9 (.slice (some ⟨w.heap.size, 0, none⟩) 1 1)).run Tryz.prog (w.alloc (.cells #[.int .u8 (d : Int)] 5)) = .ok (.string ⟨#[UInt8.ofNat d]⟩) (w.alloc (.cells #[.int .u8 (d : Int)] 5)) := by
  have := run_convert_bytes_back (P := Tryz.prog) (w.alloc (.cells #[.int .u8 (d : Int)] 5)) 34 9 5 ⟨w.heap.size, 0, none⟩ 1 [UInt8.ofNat d] Tryz.underlying34 Tryz.underlying5 Tryz.underlying9 (fun j hj => by
    have : j = 0 := by simpa using hj
    subst this
    have e : (⟨w.heap.size, 0, none⟩ : Addr).add 0 = ⟨w.heap.size, 0, none⟩ := by unfold Addr.add; split <;> simp_all
    rw [e]
    simp
    omega)
  exact this
structure DG (n : Nat) (k m : Nat) (S : ByteArray) : Prop where
  le : m ≤ n
  sz : S.size ≤ 21
  st : (S.size = 0 ∧ m = n ∧ k = n + 1) ∨ (S.size ≠ 0 ∧ k = m ∧ ((m = 0 ∧ S.data.toList = Lib.decDigits n) ∨ (0 < m ∧ Lib.decDigits m ++ S.data.toList = Lib.decDigits n)))
theorem size_list (S : ByteArray) : S.data.toList.length = S.size := by rw [Array.length_toList]; rfl
theorem empty_of (S : ByteArray) (h : S.size = 0) : S = ⟨#[]⟩ := by
  apply ByteArray.ext
  exact Array.eq_empty_of_size_eq_zero h
theorem DG.step {n k m : Nat} {S : ByteArray} (h : DG n k m S) (hn : n < 9223372036854775808) (hr : 0 < m ∨ S.size = 0) :
    DG n (m / 10) (m / 10) ((⟨#[UInt8.ofNat (48 + m % 10)]⟩ : ByteArray) ++ S) ∧ m / 10 < k := by
  have lim := Lib.itoa_length_le (n : Int) (by omega) (by omega)
  rw [Lib.itoa_nonneg] at lim
  have dl : ((⟨#[UInt8.ofNat (48 + m % 10)]⟩ : ByteArray) ++ S).data.toList = UInt8.ofNat (48 + m % 10) :: S.data.toList := by simp
  have sl := size_list ((⟨#[UInt8.ofNat (48 + m % 10)]⟩ : ByteArray) ++ S)
  rw [dl, List.length_cons, size_list] at sl
  have key : ((m / 10 = 0 ∧ UInt8.ofNat (48 + m % 10) :: S.data.toList = Lib.decDigits n) ∨ (0 < m / 10 ∧ Lib.decDigits (m / 10) ++ (UInt8.ofNat (48 + m % 10) :: S.data.toList) = Lib.decDigits n)) := by
    have whole : Lib.decDigits m ++ S.data.toList = Lib.decDigits n := by
      rcases h.st with ⟨h1, h2, h3⟩ | ⟨h1, h2, ⟨h3, h4⟩ | ⟨h3, h4⟩⟩
      · rw [empty_of S h1, h2]; simp
      · omega
      · exact h4
    by_cases hm : m < 10
    · left
      refine ⟨by omega, ?_⟩
      rw [Lib.decDigits_one hm] at whole
      rw [← whole, Nat.mod_eq_of_lt hm]
      rfl
    · right
      refine ⟨by omega, ?_⟩
      rw [digs_step m hm] at whole
      rw [← whole, List.append_assoc]
      rfl
  refine ⟨⟨by have := h.le; omega, ?_, .inr ⟨by omega, rfl, ?_⟩⟩, ?_⟩
  · rcases key with ⟨_, e⟩ | ⟨_, e⟩
    · have := congrArg List.length e
      rw [List.length_cons, size_list] at this
      omega
    · have := congrArg List.length e
      rw [List.length_append, List.length_cons, size_list] at this
      omega
  · rw [dl]; exact key
  · rcases h.st with ⟨h1, h2, h3⟩ | ⟨h1, h2, _⟩
    · omega
    · omega
set_option maxRecDepth 100000 in
set_option maxHeartbeats 1000000 in
theorem digits (n : Nat) (w : World) (hn : n < 9223372036854775808) :
    Calls Tryz.prog 96 #[.int .i64 (n : Int)] w fun x w' => x = .returned (.string ⟨(Lib.decDigits n).toArray⟩) ∧ Below w.heap.size w w' := by
  go_enter Tryz.func96, Tryz.ntmps96
  go_wp2_with fail
  go_loopg [0, 3] (n + 1) (fun k x y wr => ∃ (m : Nat) (S : ByteArray), x = .int .i64 (m : Int) ∧ y = .string S ∧ m ≤ n ∧ Hid (DG n k m S ∧ Below w.heap.size w wr))
  case atStart => exact ⟨n, ⟨#[]⟩, rfl, rfl, Nat.le_refl _, ⟨⟨Nat.le_refl _, Nat.zero_le _, .inl ⟨rfl, rfl, rfl⟩⟩, Below.refl _ _⟩⟩
  case round =>
    obtain ⟨m, S, rfl, rfl, hm, P⟩ := hrel
    by_cases hr : 0 < m ∨ S.size = 0
    · obtain ⟨D2, lt⟩ := P.out.1.step hn hr
      have PP : Hid (DG n (m / 10) (m / 10) ((⟨#[UInt8.ofNat (48 + m % 10)]⟩ : ByteArray) ++ S) ∧ Below w.heap.size w wr) := ⟨D2, P.out.2⟩
      have sz := P.out.1.sz
      have c1 := one_string wr (48 + m % 10) (by omega)
      have e1 : 48 + (m : Int) % 10 = ((48 + m % 10 : Nat) : Int) := by omega
      obtain ⟨d, hd⟩ : ∃ d, 48 + m % 10 = d := ⟨_, rfl⟩
      rw [hd] at c1 e1 PP
      obtain ⟨N, hN⟩ : ∃ N, (⟨#[UInt8.ofNat d]⟩ : ByteArray) ++ S = N := ⟨_, rfl⟩
      have add : ∀ w, (Op.stringOp .add ⟨#[UInt8.ofNat d]⟩ S).run Tryz.prog w = .ok (.string N) w := fun w => by rw [run_string_add_sum w ⟨#[UInt8.ofNat d]⟩ S (by show 1 + S.size ≤ _; omega), hN]
      rw [hN] at PP
      clear hN hd D2 P
      have mb : m < 9223372036854775808 := by omega
      by_cases h0 : 0 < m
      · go_wp2_with fail
        go_roundg (m / 10)
        case rel => exact ⟨m / 10, N, by simp, rfl, by omega, PP.out.1, PP.out.2.alloc PP.out.2.size _⟩
        all_goals exact lt
      · have S0 := empty_of S (by omega)
        have se : S.toList.isEmpty = true := by rw [S0, Go.ByteArray.toList_eq]; rfl
        clear S0
        go_wp2_with fail
        go_roundg (m / 10)
        case rel => exact ⟨m / 10, N, by simp, rfl, by omega, PP.out.1, PP.out.2.alloc PP.out.2.size _⟩
        all_goals exact lt
    · have m0 : m = 0 := by omega
      have se : S.toList.isEmpty = false := by
        rw [Go.ByteArray.toList_eq]
        have := size_list S
        cases e : S.data.toList with
        | nil => rw [e] at this; simp at this; omega
        | cons c r => rfl
      have fin : Hid ((⟨(Lib.decDigits n).toArray⟩ : ByteArray) = S) := by
        show (⟨(Lib.decDigits n).toArray⟩ : ByteArray) = S
        rcases P.out.1.st with ⟨h1, _⟩ | ⟨_, _, ⟨_, h4⟩ | ⟨h3, _⟩⟩
        · omega
        · rw [← h4]
        · omega
      subst m0
      go_wp2_with fail
      go_ret
      exact ⟨by rw [fin.out]; rfl, P.out.2⟩
set_option maxRecDepth 100000 in
theorem rText (a b : Int) (w : World) : Calls Tryz.prog 77 #[.agg #[.int .i64 a, .int .i64 b]] w fun x w' => x = .returned (.string ⟨(textL a b).toArray⟩) ∧ Below w.heap.size w w' := by
  have B0 : Below w.heap.size w (w.alloc (Obj.cells #[.int .i64 a, .int .i64 b] 37)) := (Below.refl w.heap.size w).alloc (Nat.le_refl _) _
  have T0 : TagAt (w.alloc (Obj.cells #[.int .i64 a, .int .i64 b] 37)) w.heap.size a b := TagAt.new w a b
  have S0 : Hid (_ ∧ _) := And.intro B0 T0
  clear B0 T0
  go_enter Tryz.func77, Tryz.ntmps77
  go_wp2_with fail
  refine (rValidB a b _).mono ?_
  rintro x w1 ⟨rfl, B1⟩
  have S1 : Hid (Below w.heap.size w w1 ∧ TagAt w1 w.heap.size a b) := ⟨S0.out.1.trans (B1.mono S0.out.1.size), S0.out.2.by B1⟩
  clear B1 S0
  obtain ⟨c0, c1, _, _⟩ := S1.out.2.facts
  have lt := S1.out.2.lt
  cases hv : kIsZero a b || kIsProper a b
  · go_wp2_with fail
    go_ret
    exact ⟨by simp [textL, hv], S1.out.1⟩
  · have vb := valid_bounds a b hv
    have la := Lib.itoa_length_le a (by omega) (by omega)
    have lb := Lib.itoa_length_le b (by omega) (by omega)
    rw [itoa_digs a vb.1] at la
    rw [itoa_digs b vb.2.2.1] at lb
    obtain ⟨A, hA⟩ : ∃ A, (⟨(Lib.decDigits a.toNat).toArray⟩ : ByteArray) = A := ⟨_, rfl⟩
    obtain ⟨B, hB⟩ : ∃ A, (⟨(Lib.decDigits b.toNat).toArray⟩ : ByteArray) = A := ⟨_, rfl⟩
    obtain ⟨C, hC⟩ : ∃ C, A ++ (⟨#[46]⟩ : ByteArray) = C := ⟨_, rfl⟩
    obtain ⟨D, hD⟩ : ∃ D, C ++ B = D := ⟨_, rfl⟩
    have sA : A.size ≤ 21 := by rw [← hA]; simpa [ByteArray.size] using la
    have sB : B.size ≤ 21 := by rw [← hB]; simpa [ByteArray.size] using lb
    have sC : C.size ≤ 22 := by rw [← hC, ByteArray.size_append]; show A.size + 1 ≤ 22; omega
    have add1 : ∀ w, (Op.stringOp .add A ⟨#[46]⟩).run Tryz.prog w = .ok (.string C) w := fun w => by rw [run_string_add_sum w A ⟨#[46]⟩ (by show A.size + 1 ≤ _; omega), hC]
    have add2 : ∀ w, (Op.stringOp .add C B).run Tryz.prog w = .ok (.string D) w := fun w => by rw [run_string_add_sum w C B (by omega), hD]
    have TX : Hid ((⟨(textL a b).toArray⟩ : ByteArray) = D) := by
      show (⟨(textL a b).toArray⟩ : ByteArray) = D
      rw [text_valid a b hv, ← hD, ← hC, ← hA, ← hB]
      apply ByteArray.ext
      simp
    have cF : Hid (∀ w, Calls Tryz.prog 96 #[.int .i64 a] w fun x w' => x = .returned (.string A) ∧ Below w.heap.size w w') := fun w => by
      have := digits a.toNat w (by omega)
      rw [Int.toNat_of_nonneg vb.1, hA] at this
      exact this
    have cI : Hid (∀ w, Calls Tryz.prog 96 #[.int .i64 b] w fun x w' => x = .returned (.string B) ∧ Below w.heap.size w w') := fun w => by
      have := digits b.toNat w (by omega)
      rw [Int.toNat_of_nonneg vb.2.2.1, hB] at this
      exact this
    clear hA hB hC hD sA sB sC la lb vb
    have KP : Hid (∀ w2, Below w1.drew.heap.size w1.drew w2 → w2.cell? ⟨w.heap.size, 0, none⟩ = some (.int .i64 a) ∧ w2.cell? ⟨w.heap.size, 1, none⟩ = some (.int .i64 b) ∧ Below w.heap.size w w2) :=
      fun w2 B2 => ⟨(B2.cell lt).trans c0, (B2.cell lt).trans c1, S1.out.1.drew.trans (B2.mono S1.out.1.size)⟩
    go_upto_region 3 with fail
    go_region_held3 (fun w' => w'.cell? ⟨w.heap.size, 0, none⟩ = some (.int .i64 a) ∧ w'.cell? ⟨w.heap.size, 1, none⟩ = some (.int .i64 b)) (go_keep)
      (first | (go_at_call 96; refine (cF.out _).mono ?_; rintro x w2 ⟨rfl, B2⟩; clear cF; obtain ⟨q0, q1, B3⟩ := KP.out w2 B2; have S2 : Hid (Below w.heap.size w w2) := B3; clear B3 B2) | (go_at_call 96; refine (cI.out _).mono ?_; rintro x w3 ⟨rfl, B3⟩; have B4 : Hid (Below w.heap.size w w3) := S2.out.trans (B3.mono S2.out.size); have q2 : w3.cell? ⟨w.heap.size, 0, none⟩ = some (.int .i64 a) := (B3.cell (World.block_lt_of_cell? w2 _ q0)).trans q0; have q3 : w3.cell? ⟨w.heap.size, 1, none⟩ = some (.int .i64 b) := (B3.cell (World.block_lt_of_cell? w2 _ q1)).trans q1; clear B3) | fail)
    go_wp2_with fail
    go_ret
    refine ⟨?_, B4.out⟩
    rw [TX.out]
    rfl
/-- One byte more. -/
def pstep (st : Nat × Int × Int) (c : UInt8) : Nat × Int × Int :=
  if c = 46 then (st.1 + 1, st.2.1, st.2.2)
  else if st.1 = 0 then (st.1, wrap64 (wrap64 (st.2.1 * 10) + ((c.toNat : Int) - 48)), st.2.2)
  else (st.1, st.2.1, wrap64 (wrap64 (st.2.2 * 10) + ((c.toNat : Int) - 48)))
def pst (l : List UInt8) : Nat × Int × Int := l.foldl pstep (0, 0, 0)
theorem wrap_small (x : Int) (h : 0 ≤ x ∧ x < 9223372036854775808) : wrap64 x = x := by unfold wrap64; omega
theorem pst_left (l : List UInt8) : ∀ acc : Nat, (∀ c ∈ l, Digit c) → dv acc l < 9223372036854775808 → l.foldl pstep (0, (acc : Int), 0) = (0, ((dv acc l : Nat) : Int), 0) := by
  induction l with
  | nil => intro acc _ _; rfl
  | cons c r ih =>
    intro acc hd hs
    have hc : 48 ≤ c.toNat ∧ c.toNat ≤ 57 := hd c (by simp)
    have hs' : dv (acc * 10 + (c.toNat - 48)) r < 9223372036854775808 := hs
    have ge := dv_ge r (acc * 10 + (c.toNat - 48))
    have hn : c ≠ 46 := by
      intro e; subst e
      have : (46 : UInt8).toNat = 46 := rfl
      omega
    have st : pstep (0, (acc : Int), 0) c = (0, ((acc * 10 + (c.toNat - 48) : Nat) : Int), 0) := by
      unfold pstep
      rw [if_neg hn, if_pos rfl]
      simp only []
      rw [wrap_small ((acc : Int) * 10) (by omega), wrap_small _ (by omega)]
      congr 2
      omega
    rw [List.foldl_cons, st]
    exact ih _ (fun x hx => hd x (by simp [hx])) hs'
theorem pst_right (l : List UInt8) (C : Int) : ∀ acc : Nat, (∀ c ∈ l, Digit c) → dv acc l < 9223372036854775808 → l.foldl pstep (1, C, (acc : Int)) = (1, C, ((dv acc l : Nat) : Int)) := by
  induction l with
  | nil => intro acc _ _; rfl
  | cons c r ih =>
    intro acc hd hs
    have hc : 48 ≤ c.toNat ∧ c.toNat ≤ 57 := hd c (by simp)
    have hs' : dv (acc * 10 + (c.toNat - 48)) r < 9223372036854775808 := hs
    have ge := dv_ge r (acc * 10 + (c.toNat - 48))
    have hn : c ≠ 46 := by
      intro e; subst e
      have : (46 : UInt8).toNat = 46 := rfl
      omega
    have st : pstep (1, C, (acc : Int)) c = (1, C, ((acc * 10 + (c.toNat - 48) : Nat) : Int)) := by
      unfold pstep
      rw [if_neg hn, if_neg (by simp)]
      simp only []
      rw [wrap_small ((acc : Int) * 10) (by omega), wrap_small _ (by omega)]
      congr 2
      omega
    rw [List.foldl_cons, st]
    exact ih _ (fun x hx => hd x (by simp [hx])) hs'
theorem pst_text (p q : Int) (h : (kIsZero p q || kIsProper p q) = true) : pst (textL p q) = (1, p, q) := by
  have b := valid_bounds p q h
  rw [text_valid p q h]
  unfold pst
  rw [List.foldl_append, List.foldl_cons]
  have l1 := pst_left (Lib.decDigits p.toNat) 0 (digs_digit _) (by rw [digs_dv]; omega)
  have l2 := pst_right (Lib.decDigits q.toNat) p 0 (digs_digit _) (by rw [digs_dv]; omega)
  rw [digs_dv, Int.toNat_of_nonneg b.1] at l1
  rw [digs_dv, Int.toNat_of_nonneg b.2.2.1] at l2
  have e0 : ((0 : Nat) : Int) = 0 := rfl
  rw [e0] at l1 l2
  rw [l1]
  show List.foldl pstep (1, p, 0) (Lib.decDigits q.toNat) = _
  rw [l2]
theorem nDigits_le : ∀ (k u : Nat), u < 10 ^ (k + 1) → Lib.nDigits u ≤ k + 1 := by
  intro k
  induction k with
  | zero => intro u h; rw [Lib.nDigits_small (by simpa using h)]; omega
  | succ k ih =>
    intro u h
    by_cases h1 : u < 10
    · rw [Lib.nDigits_small h1]; omega
    · rw [Lib.nDigits_big h1]
      have : u / 10 < 10 ^ (k + 1) := by
        rw [Nat.div_lt_iff_lt_mul (by omega)]
        rw [Nat.pow_succ] at h
        exact h
      have := ih _ this
      omega
theorem text_short (p q : Int) : (textL p q).length ≤ 40 := by
  cases h : kIsZero p q || kIsProper p q
  · rw [text_none p q h]; simp
  · have b := valid_bounds p q h
    rw [text_valid p q h, List.length_append, List.length_cons, Lib.decDigits_length, Lib.decDigits_length]
    have h1 := nDigits_le 18 p.toNat (by have : (10 : Nat) ^ (18 + 1) = 10000000000000000000 := by decide
                                         omega)
    have h2 := nDigits_le 4 q.toNat (by have : (10 : Nat) ^ (4 + 1) = 100000 := by decide
                                        omega)
    omega
theorem text_bytes (p q : Int) : ∀ c ∈ textL p q, c = 46 ∨ Digit c := by
  cases h : kIsZero p q || kIsProper p q
  · rw [text_none p q h]; simp
  · rw [text_valid p q h]
    intro c hc
    rcases List.mem_append.1 hc with m | m
    · exact .inr (digs_digit _ c m)
    · rcases List.mem_cons.1 m with m | m
      · exact .inl m
      · exact .inr (digs_digit _ c m)
/-- What the document's Parse takes. -/
def TPar (l : List UInt8) (p q e : Int) : Prop := ((kIsZero p q || kIsProper p q) = true ∧ textL p q = l ∧ e = 0) ∨ (p = 0 ∧ q = 0 ∧ e = 31 ∧ ∀ x y, (kIsZero x y || kIsProper x y) = true → textL x y ≠ l)
theorem parseT_of (l : List UInt8) (n : Nat) (C K : Int) (h : pst l = (n, C, K)) : ((textL C K = l ∧ l ≠ []) → TPar l C K 0) ∧ (¬ (textL C K = l ∧ l ≠ []) → TPar l 0 0 31) := by
  refine ⟨fun ⟨e, ne⟩ => .inl ⟨?_, e, rfl⟩, fun no => .inr ⟨rfl, rfl, rfl, fun x y hv e => ?_⟩⟩
  · cases hv : kIsZero C K || kIsProper C K
    · rw [text_none C K hv] at e
      exact absurd e.symm ne
    · rfl
  · have q := pst_text x y hv
    rw [e, h] at q
    simp at q
    obtain ⟨_, rfl, rfl⟩ := q
    refine no ⟨e, fun z => ?_⟩
    rw [text_valid C K hv, z] at e
    simp at e
theorem parseT_bad (l : List UInt8) (h : ∀ p q, textL p q ≠ l) : TPar l 0 0 31 := .inr ⟨rfl, rfl, rfl, fun x y _ => h x y⟩
theorem rParse_end {w w1 : World} {s : ByteArray} {p q e : Int} {tmps : Array Value} (B1 : Below w.heap.size w w1) (Z1 : TagAt w1 w.heap.size 0 0) (hp : tmps.getD 2 undef = .pointer (some ⟨w.heap.size, 0, none⟩)) (he : tmps.getD 3 undef = .int .i64 e) (hn : TPar s.data.toList p q e) :
    bodyPost Tryz.prog Tryz.f94 (fun x w' => ∃ p q e, x = .returned (.tuple #[.agg #[.int .i64 p, .int .i64 q], .int .i64 e]) ∧ TPar s.data.toList p q e ∧ Below w.heap.size w w') .ret { tmps := tmps, defers := [] }
      ((w1.setCell ⟨w.heap.size, 0, none⟩ (.int .i64 p)).setCell ⟨w.heap.size, 1, none⟩ (.int .i64 q)) := by
  refine bodyPost_ret (results_tagQ rfl _ _ _ p q hp ((Z1.set0 p).set1 q)) rfl ⟨p, q, e, by rw [he], hn, ?_⟩
  exact (B1.setCell (by simp) _).setCell (by simp) _
theorem rParse_end0 {w w1 : World} {s : ByteArray} {p q e : Int} {tmps : Array Value} (B1 : Below w.heap.size w w1) (Z1 : TagAt w1 w.heap.size p q) (hp : tmps.getD 2 undef = .pointer (some ⟨w.heap.size, 0, none⟩)) (he : tmps.getD 3 undef = .int .i64 e) (hn : TPar s.data.toList p q e) :
    bodyPost Tryz.prog Tryz.f94 (fun x w' => ∃ p q e, x = .returned (.tuple #[.agg #[.int .i64 p, .int .i64 q], .int .i64 e]) ∧ TPar s.data.toList p q e ∧ Below w.heap.size w w') .ret { tmps := tmps, defers := [] } w1 :=
  bodyPost_ret (results_tagQ rfl _ _ _ p q hp Z1) rfl ⟨p, q, e, by rw [he], hn, B1⟩
/-- Where the loop stands. -/
structure PL (w wr : World) (l : List UInt8) (i n : Nat) (C K : Int) : Prop where
  st : pst (l.take i) = (n, C, K)
  bel : Below w.heap.size w wr
  z : TagAt wr w.heap.size 0 0
  t : TagAt wr (w.heap.size + 1) C K
  n : n ≤ i
theorem pst_take (l : List UInt8) (i : Nat) (h : i < l.length) : pst (l.take (i + 1)) = pstep (pst (l.take i)) l[i] := by
  rw [List.take_succ_eq_append_getElem h]
  unfold pst
  rw [List.foldl_append]
  rfl
set_option maxRecDepth 100000 in
set_option maxHeartbeats 1000000 in
theorem rParse (s : ByteArray) (w : World) (hs : s.size ≤ 140737488355328) :
    Calls Tryz.prog 94 #[.string s] w fun x w' => ∃ p q e, x = .returned (.tuple #[.agg #[.int .i64 p, .int .i64 q], .int .i64 e]) ∧ TPar s.data.toList p q e ∧ Below w.heap.size w w' := by
  have hl := size_list s
  have B0 : Hid (Below w.heap.size w (w.alloc (Obj.cells #[.int .i64 0, .int .i64 0] 37)) ∧ TagAt (w.alloc (Obj.cells #[.int .i64 0, .int .i64 0] 37)) w.heap.size 0 0) := ⟨(Below.refl w.heap.size w).alloc (Nat.le_refl _) _, TagAt.new w 0 0⟩
  by_cases h40 : 40 < s.size
  · have fin : Hid (TPar s.data.toList 0 0 31) := parseT_bad _ fun p q e => by
      have := text_short p q
      rw [e] at this
      omega
    clear hl
    go_enter Tryz.func94, Tryz.ntmps94
    go_wp2_with fail
    exact rParse_end0 B0.out.1 B0.out.2 rfl rfl fin.out
  · have P0 : PL w ((w.alloc (Obj.cells #[.int .i64 0, .int .i64 0] 37)).alloc (Obj.cells #[.int .i64 0, .int .i64 0] 37)) s.data.toList 0 0 0 0 :=
      ⟨rfl, B0.out.1.alloc (by simp) _, B0.out.2.alloc _, by simpa using TagAt.new (w.alloc (Obj.cells #[.int .i64 0, .int .i64 0] 37)) 0 0, Nat.le_refl _⟩
    have P0' : Hid (PL _ _ _ _ _ _ _) := P0
    have HL : Hid (s.data.toList.length = s.size) := hl
    clear P0 B0 hl
    go_enter Tryz.func94, Tryz.ntmps94
    go_wp2_with fail
    go_loopw [5, 6] (fun x y wr => ∃ (n i : Nat) (C K : Int), x = .int .i64 (n : Int) ∧ y = .int .i64 (i : Int) ∧ i ≤ s.size ∧ n ≤ i ∧ Hid (PL w wr s.data.toList i n C K)) (fun _ y _ => s.size - (intOf y).toNat)
    case atStart => exact ⟨0, 0, 0, 0, rfl, rfl, Nat.zero_le _, Nat.le_refl _, P0'.out⟩
    case round =>
      clear P0'
      obtain ⟨n, i, C, K, rfl, rfl, hi, hn, P⟩ := hrel
      obtain ⟨z0, z1, fz0, fz1⟩ := P.out.z.facts
      obtain ⟨t0, t1, ft0, ft1⟩ := P.out.t.facts
      have lt := P.out.t.lt
      by_cases hlt : i < s.size
      · have i1 : (i : Int) < (s.size : Int) := by omega
        have hll : i < s.data.toList.length := by rw [HL.out]; exact hlt
        have ge : s.data.toList[i] = s[i] := by
          rw [Array.getElem_toList]
          rfl
        have stp := pst_take s.data.toList i hll
        rw [P.out.st, ge] at stp
        obtain ⟨b, hb⟩ : ∃ b, s[i] = b := ⟨_, rfl⟩
        rw [hb] at stp ge
        obtain ⟨c, hc⟩ : ∃ c, b.toNat = c := ⟨_, rfl⟩
        have sc : s[i].toNat = c := by rw [hb, hc]
        have STP : Hid (pst (s.data.toList.take (i + 1)) = pstep (n, C, K) b) := stp
        have GE : Hid (s.data.toList[i] = b) := ge
        have HC : Hid (b.toNat = c) := hc
        have cl : c < 256 := by rw [← hc]; exact b.toNat_lt
        clear stp ge hb hc
        by_cases hd : c = 46
        · have b46 : b = 46 := by
            have := HC.out
            rw [hd] at this
            exact UInt8.toNat_inj.1 (by rw [this]; rfl)
          have ns : Hid (pst (s.data.toList.take (i + 1)) = (n + 1, C, K)) := by
            show pst (s.data.toList.take (i + 1)) = _
            rw [STP.out, b46]
            rfl
          subst hd
          go_wp2_with fail
          go_roundw
          case rel => exact ⟨n + 1, i + 1, C, K, by go_num, by go_num, by omega, by omega, ⟨ns.out, P.out.bel, P.out.z, P.out.t, by omega⟩⟩
          case measure => simp [intOf]; omega
        · have n46 : ((c : Int) == 46) = false := by simp; omega
          have b46 : b ≠ 46 := by
            intro e
            apply hd
            rw [← HC.out, e]
            rfl
          by_cases h1 : c < 48
          · have fin : Hid (TPar s.data.toList 0 0 31) := parseT_bad _ fun p q e => by
              have m : s.data.toList[i] ∈ textL p q := by rw [e]; exact List.getElem_mem hll
              rw [GE.out] at m
              rcases text_bytes p q b m with q1 | q1
              · exact b46 q1
              · have := q1.1
                rw [HC.out] at this
                omega
            go_wp2_with fail
            exact rParse_end P.out.bel P.out.z rfl rfl fin.out
          · by_cases h2 : 57 < c
            · have fin : Hid (TPar s.data.toList 0 0 31) := parseT_bad _ fun p q e => by
                have m : s.data.toList[i] ∈ textL p q := by rw [e]; exact List.getElem_mem hll
                rw [GE.out] at m
                rcases text_bytes p q b m with q1 | q1
                · exact b46 q1
                · have := q1.2
                  rw [HC.out] at this
                  omega
              go_wp2_with fail
              exact rParse_end P.out.bel P.out.z rfl rfl fin.out
            · by_cases hn0 : n = 0
              · have ns : Hid (pst (s.data.toList.take (i + 1)) = (n, wrap64 (wrap64 (C * 10) + ((c : Int) - 48)), K)) := by
                  show pst (s.data.toList.take (i + 1)) = _
                  rw [STP.out]
                  unfold pstep
                  rw [if_neg b46, if_pos hn0, HC.out]
                subst hn0
                go_wp2_with fail
                go_roundw
                case rel => exact ⟨0, i + 1, _, K, rfl, by go_num, by omega, by omega, ⟨ns.out, P.out.bel.setCell (by simp) _, P.out.z.other _ (by omega), P.out.t.set0 _, by omega⟩⟩
                case measure => simp [intOf]; omega
              · have nz : ((n : Int) == 0) = false := by simp; omega
                have ns : Hid (pst (s.data.toList.take (i + 1)) = (n, C, wrap64 (wrap64 (K * 10) + ((c : Int) - 48)))) := by
                  show pst (s.data.toList.take (i + 1)) = _
                  rw [STP.out]
                  unfold pstep
                  rw [if_neg b46, if_neg hn0, HC.out]
                go_wp2_with fail
                go_roundw
                case rel => exact ⟨n, i + 1, C, _, rfl, by go_num, by omega, by omega, ⟨ns.out, P.out.bel.setCell (by simp) _, P.out.z.other _ (by omega), P.out.t.set1 _, by omega⟩⟩
                case measure => simp [intOf]; omega
      · have he : s.size = i := by omega
        have PS := P.out.st
        rw [List.take_of_length_le (by rw [HL.out]; omega)] at PS
        have PTc := parseT_of _ n C K PS
        have PTc : Hid (_ ∧ _) := PTc
        have P' : Hid (Below w.heap.size w wr ∧ TagAt wr w.heap.size 0 0 ∧ TagAt wr (w.heap.size + 1) C K) := ⟨P.out.bel, P.out.z, P.out.t⟩
        have i2 : ¬ (i : Int) < (s.size : Int) := by omega
        obtain ⟨D, hD⟩ : ∃ D, (⟨(textL C K).toArray⟩ : ByteArray) = D := ⟨_, rfl⟩
        have cT : Hid (∀ w, Calls Tryz.prog 77 #[.agg #[.int .i64 C, .int .i64 K]] w fun x w' => x = .returned (.string D) ∧ Below w.heap.size w w') := fun w => by
          have := rText C K w
          rw [hD] at this
          exact this
        have DH : Hid ((⟨(textL C K).toArray⟩ : ByteArray) = D) := hD
        clear PS P hD z0 z1 fz0 fz1 ft0 ft1
        go_wp2_with fail
        refine (cT.out _).mono ?_
        rintro x w4 ⟨rfl, B4⟩
        have S4 : Hid (Below w.heap.size w w4 ∧ TagAt w4 w.heap.size 0 0 ∧ TagAt w4 (w.heap.size + 1) C K) := ⟨P'.out.1.trans (B4.mono P'.out.1.size), P'.out.2.1.by B4, P'.out.2.2.by B4⟩
        clear B4 P' t0 t1 lt cT
        obtain ⟨z0, z1, fz0, fz1⟩ := S4.out.2.1.facts
        obtain ⟨t0, t1, _, _⟩ := S4.out.2.2.facts
        by_cases hds : D = s
        · by_cases hse : s.size = 0
          · have fin : Hid (TPar s.data.toList 0 0 31) := by
              refine PTc.out.2 ?_
              rintro ⟨_, ne⟩
              apply ne
              rw [empty_of s hse]
            have se : s.toList.isEmpty = true := by rw [empty_of s hse, Go.ByteArray.toList_eq]; rfl
            clear DH
            subst hds
            go_wp2_with fail
            exact rParse_end S4.out.1 S4.out.2.1 rfl rfl fin.out
          · have fin : Hid (TPar s.data.toList C K 0) := by
              refine PTc.out.1 ?_
              refine ⟨by rw [← hds, ← DH.out], fun e => ?_⟩
              have := HL.out
              rw [e] at this
              simp at this
              omega
            have se : s.toList.isEmpty = false := by
              rw [Go.ByteArray.toList_eq]
              have := HL.out
              cases e : s.data.toList with
              | nil => rw [e] at this; simp at this; omega
              | cons c r => rfl
            clear DH
            subst hds
            go_wp2_with fail
            exact rParse_end S4.out.1 S4.out.2.1 rfl rfl fin.out
        · have fin : Hid (TPar s.data.toList 0 0 31) := by
            refine PTc.out.2 ?_
            rintro ⟨e, _⟩
            apply hds
            rw [← DH.out, e]
          have hne : (D.toList == s.toList) = false := by rw [eq_bytes]; exact decide_eq_false hds
          clear DH
          go_wp2_with fail
          exact rParse_end S4.out.1 S4.out.2.1 rfl rfl fin.out
end Go.Proofs.YtbangbobfeflcaaGreatDoor
