import Derived.Test.YtonfefhegghapaaDoorSPurJ
import Derived.Test.YtonfefhegghapaaDoorAPa
namespace Go.Proofs.YtonfefhegghapaaDoor
open Go.RowKit 

theorem eq_bytes (x y : ByteArray) : (x.toList == y.toList) = decide (x = y) := by
  rw [Go.ByteArray.toList_eq, Go.ByteArray.toList_eq]
  by_cases h : x = y
  · subst h; simp
  · rw [decide_eq_false h]
    apply beq_eq_false_iff_ne.2
    intro e
    apply h
    apply ByteArray.ext
    exact Array.toList_inj.1 e
theorem ofL_list (l : List UInt8) : (ofL l).data.toList = l := rfl
/-- What Config tells. -/
def CfA (s : ByteArray) (N K D C e : Int) : Prop := ∃ n k d c, GuQ s n k d c ∧
  ((s.data.toList ≠ cfgL n k d c ∧ N = 0 ∧ K = 0 ∧ D = 0 ∧ C = 0 ∧ e = 82) ∨
   (s.data.toList = cfgL n k d c ∧ ¬ ckE n k d = 0 ∧ N = 0 ∧ K = 0 ∧ D = 0 ∧ C = 0 ∧ e = ckE n k d) ∨
   (s.data.toList = cfgL n k d c ∧ ckE n k d = 0 ∧ (c < 0 ∨ 255 < c) ∧ N = 0 ∧ K = 0 ∧ D = 0 ∧ C = 0 ∧ e = 1) ∨
   (s.data.toList = cfgL n k d c ∧ ckE n k d = 0 ∧ 0 ≤ c ∧ c ≤ 255 ∧ N = n ∧ K = k ∧ D = d ∧ C = c ∧ e = 0))
def RetF (Q : Int → Int → Int → Int → Int → World → Prop) (o : Ending) (w : World) : Prop := ∃ N K D C e : Int, o = .returned (.tuple #[.agg #[.int .i64 N, .int .i64 K, .int .i64 D], .int .i64 C, .int .i64 e]) ∧ Q N K D C e w
theorem set3 {V : World} {b : Nat} {cs : Array Value} (hc : cs.size = 3) (h : V.heap[b]? = some (.cells cs 23 (0, 0))) (x y z : Value) : (((V.setCell ⟨b, 0, none⟩ x).setCell ⟨b, 1, none⟩ y).setCell ⟨b, 2, none⟩ z).heap[b]? = some (.cells #[x, y, z] 23 (0, 0)) ∧ Kept (fun j => j = b) V (((V.setCell ⟨b, 0, none⟩ x).setCell ⟨b, 1, none⟩ y).setCell ⟨b, 2, none⟩ z) := by
  refine ⟨?_, (((Kept.refl (fun j => j = b) V).setCell (p := ⟨b, 0, none⟩) (fun _ => rfl) _).setCell (p := ⟨b, 1, none⟩) (fun _ => rfl) _).setCell (p := ⟨b, 2, none⟩) (fun _ => rfl) _⟩
  rw [set_heap (set_heap (set_heap h 0 x) 1 y) 2 z]
  obtain ⟨l⟩ := cs
  match l, hc with
  | [a, b, c], _ => rfl
/-- Where Config is: the answer's cell, the config that was guessed. -/
structure CS (w W : World) (B : Nat) (n k d : Int) : Prop where
  an : W.heap[w.heap.size]? = some (.cells #[.int .i64 0, .int .i64 0, .int .i64 0] 23 (0, 0))
  bx : W.heap[B]? = some (.cells #[.int .i64 n, .int .i64 k, .int .i64 d] 23 (0, 0))
  kept : Kept (fun _ => False) w W
theorem CS.keep {w W W' : World} {B : Nat} {n k d : Int} (h : CS w W B n k d) (K : Kept (fun _ => False) W W') : CS w W' B n k d := ⟨K.get h.an (fun z => z), K.get h.bx (fun z => z), h.kept.trans K (fun _ _ z => z)⟩
theorem CS.fin {w W : World} {B : Nat} {n k d : Int} (h : CS w W B n k d) (x y z : Int) : (((W.setCell ⟨w.heap.size, 0, none⟩ (.int .i64 x)).setCell ⟨w.heap.size, 1, none⟩ (.int .i64 y)).setCell ⟨w.heap.size, 2, none⟩ (.int .i64 z)).heap[w.heap.size]? = some (.cells #[.int .i64 x, .int .i64 y, .int .i64 z] 23 (0, 0)) ∧ Kept (fun _ => False) w (((W.setCell ⟨w.heap.size, 0, none⟩ (.int .i64 x)).setCell ⟨w.heap.size, 1, none⟩ (.int .i64 y)).setCell ⟨w.heap.size, 2, none⟩ (.int .i64 z)) := by
  obtain ⟨h1, h2⟩ := set3 rfl h.an (.int .i64 x) (.int .i64 y) (.int .i64 z)
  exact ⟨h1, h.kept.trans h2 (fun j hj z => by omega)⟩
set_option maxRecDepth 100000 in
set_option maxHeartbeats 1000000 in
theorem hConfig (s : ByteArray) (w : World) (hs : s.size ≤ 281474976710656) (V : Vars w) : Calls Tryd.prog 9 #[.string s] w (RetF fun N K D C e w' => CfA s N K D C e ∧ Kept (fun _ => False) w w') := by
  have A1 : Hid ((w.alloc (.cells #[.int .i64 0, .int .i64 0, .int .i64 0] 23)).heap[w.heap.size]? = some (.cells #[.int .i64 0, .int .i64 0, .int .i64 0] 23 (0, 0)) ∧ Kept (fun _ => False) w (w.alloc (.cells #[.int .i64 0, .int .i64 0, .int .i64 0] 23))) := ⟨alloc_new _ _, (Kept.refl _ _).alloc _⟩
  have VV : Hid (Vars w) := V
  have CG : Hid (Calls Tryd.prog 29 #[.string s] (w.alloc (.cells #[.int .i64 0, .int .i64 0, .int .i64 0] 23)) (RetG fun n k d c w' => GuQ s n k d c ∧ Kept (fun _ => False) (w.alloc (.cells #[.int .i64 0, .int .i64 0, .int .i64 0] 23)) w')) := hGuess s _ hs (V.kept A1.out.2)
  clear V
  go_enter Tryd.func9, Tryd.ntmps9
  go_wp2_with fail
  refine CG.out.mono ?_
  rintro o w2 ⟨n, k, d, c, rfl, Q', K2⟩
  have Q : Hid (GuQ s n k d c) := Q'
  obtain ⟨W3, hW3⟩ : ∃ W3, W3 = w2.alloc (.cells #[.int .i64 n, .int .i64 k, .int .i64 d] 23) := ⟨_, rfl⟩
  obtain ⟨B3, hB3⟩ : ∃ B3, w2.heap.size = B3 := ⟨_, rfl⟩
  have S3 : Hid (CS w W3 B3 n k d) := by
    rw [hW3, ← hB3]
    exact ⟨alloc_old _ (K2.get A1.out.1 (fun z => z)), alloc_new _ _, (A1.out.2.trans K2 (fun _ _ z => z)).alloc _⟩
  clear Q' K2 CG A1
  go_upto_region 2 with fail
  rw [← hW3]
  clear hW3 hB3
  have b0 := cell_blk S3.out.bx 0 (v := .int .i64 n) rfl
  have b1 := cell_blk S3.out.bx 1 (v := .int .i64 k) rfl
  have b2 := cell_blk S3.out.bx 2 (v := .int .i64 d) rfl
  have CP : Hid (Calls Tryd.prog 30 #[.slice none 0 0, .agg #[.int .i64 n, .int .i64 k, .int .i64 d], .int .i64 c] W3 (RetT fun p' k' c' w' => TX W3 w' p' k' c' (cfgL n k d c))) := hApp W3 (VV.out.kept S3.out.kept).tab n k d c Q.out.ki
  go_wp2_with fail
  refine CP.out.mono ?_
  rintro o w4 ⟨p', k', c', rfl, T'⟩
  have S4 : Hid (CS w w4 B3 n k d) := S3.out.keep T'.kept
  have cv := T'.string
  obtain ⟨TT, hTT⟩ : ∃ TT, TT = ofL (cfgL n k d c) := ⟨_, rfl⟩
  rw [← hTT] at cv
  have HT : Hid (TT = ofL (cfgL n k d c)) := hTT
  clear T' CP b0 b1 b2 S3 hTT
  have a0 := cell_blk S4.out.an 0 (v := .int .i64 0) rfl
  have a1 := cell_blk S4.out.an 1 (v := .int .i64 0) rfl
  have a2 := cell_blk S4.out.an 2 (v := .int .i64 0) rfl
  have s0 := soft_blk S4.out.an 0
  have s1 := soft_blk S4.out.an 1
  have s2 := soft_blk S4.out.an 2
  by_cases hE : TT = s
  · have HE : Hid (s.data.toList = cfgL n k d c) := by have q := ofL_list (cfgL n k d c); rw [← HT.out, hE] at q; exact q
    have eb : (TT.toList == s.toList) = true := by rw [eq_bytes]; exact decide_eq_true hE
    have eb2 : (TT.toList != s.toList) = false := by show (!(TT.toList == s.toList)) = false; rw [eb]; rfl
    clear hE HT
    go_upto_region 4 with fail
    clear cv eb eb2 a0 a1 a2 s0 s1 s2
    have b0 := cell_blk S4.out.bx 0 (v := .int .i64 n) rfl
    have b1 := cell_blk S4.out.bx 1 (v := .int .i64 k) rfl
    have b2 := cell_blk S4.out.bx 2 (v := .int .i64 d) rfl
    obtain ⟨e, he⟩ : ∃ e, e = ckE n k d := ⟨_, rfl⟩
    have CQ : Hid (Calls Tryd.prog 10 #[.agg #[.int .i64 n, .int .i64 k, .int .i64 d]] w4 fun o w' => o = .returned (.int .i64 e) ∧ Kept (fun _ => False) w4 w') := by rw [he]; exact hQ n k d w4
    have EE : Hid (e = ckE n k d) := he
    clear he
    go_wp2_with fail
    refine CQ.out.mono ?_
    rintro o w5 ⟨rfl, K5⟩
    have S5 : Hid (CS w w5 B3 n k d) := S4.out.keep K5
    clear K5 CQ S4 b0 b1 b2
    have a0 := cell_blk S5.out.an 0 (v := .int .i64 0) rfl
    have a1 := cell_blk S5.out.an 1 (v := .int .i64 0) rfl
    have a2 := cell_blk S5.out.an 2 (v := .int .i64 0) rfl
    have s0 := soft_blk S5.out.an 0
    have s1 := soft_blk S5.out.an 1
    have s2 := soft_blk S5.out.an 2
    have b0 := cell_blk S5.out.bx 0 (v := .int .i64 n) rfl
    have b1 := cell_blk S5.out.bx 1 (v := .int .i64 k) rfl
    have b2 := cell_blk S5.out.bx 2 (v := .int .i64 d) rfl
    have F0 : Hid _ := S5.out.fin 0 0 0
    have FN : Hid _ := S5.out.fin n k d
    by_cases h0 : e = 0
    · subst h0
      by_cases hc1 : c < 0
      · have AN : Hid (CfA s 0 0 0 0 1) := ⟨n, k, d, c, Q.out, .inr (.inr (.inl ⟨HE.out, EE.out.symm, .inl hc1, rfl, rfl, rfl, rfl, rfl⟩))⟩
        clear EE HE Q
        go_wp2_with fail
        refine bodyPost_ret (results_cfg3 rfl _ _ w.heap.size 0 0 0 rfl F0.out.1) rfl ?_
        exact ⟨0, 0, 0, 0, 1, rfl, AN.out, F0.out.2⟩
      · by_cases hc2 : 255 < c
        · have AN : Hid (CfA s 0 0 0 0 1) := ⟨n, k, d, c, Q.out, .inr (.inr (.inl ⟨HE.out, EE.out.symm, .inr hc2, rfl, rfl, rfl, rfl, rfl⟩))⟩
          clear EE HE Q
          go_wp2_with fail
          refine bodyPost_ret (results_cfg3 rfl _ _ w.heap.size 0 0 0 rfl F0.out.1) rfl ?_
          exact ⟨0, 0, 0, 0, 1, rfl, AN.out, F0.out.2⟩
        · have AN : Hid (CfA s n k d c 0) := ⟨n, k, d, c, Q.out, .inr (.inr (.inr ⟨HE.out, EE.out.symm, by omega, by omega, rfl, rfl, rfl, rfl, rfl⟩))⟩
          clear EE HE Q
          go_wp2_with fail
          refine bodyPost_ret (results_cfg3 rfl _ _ w.heap.size n k d rfl FN.out.1) rfl ?_
          exact ⟨n, k, d, c, 0, rfl, AN.out, FN.out.2⟩
    · have q0 : (e != 0) = true := by simp [h0]
      have AN : Hid (CfA s 0 0 0 0 e) := ⟨n, k, d, c, Q.out, .inr (.inl ⟨HE.out, by rw [← EE.out]; exact h0, rfl, rfl, rfl, rfl, EE.out⟩)⟩
      clear EE HE Q
      go_wp2_with fail
      refine bodyPost_ret (results_cfg3 rfl _ _ w.heap.size 0 0 0 rfl F0.out.1) rfl ?_
      exact ⟨0, 0, 0, 0, e, rfl, AN.out, F0.out.2⟩
  · have eb : (TT.toList == s.toList) = false := by rw [eq_bytes]; exact decide_eq_false hE
    have eb2 : (TT.toList != s.toList) = true := by show (!(TT.toList == s.toList)) = true; rw [eb]; rfl
    have AN : Hid (CfA s 0 0 0 0 82) := ⟨n, k, d, c, Q.out, .inl ⟨fun z => hE (by rw [HT.out, ← z]; exact ofL_self s), rfl, rfl, rfl, rfl, rfl⟩⟩
    have F0 : Hid _ := S4.out.fin 0 0 0
    clear hE HT Q
    go_wp2_with fail
    refine bodyPost_ret (results_cfg3 rfl _ _ w.heap.size 0 0 0 rfl F0.out.1) rfl ?_
    exact ⟨0, 0, 0, 0, 82, rfl, AN.out, F0.out.2⟩
end Go.Proofs.YtonfefhegghapaaDoor

namespace Go.Proofs.YtonfefhegghapaaDoor
open Go.RowKit 

/-- A config's line, cut at its blanks. -/
theorem prt_cfg (n k d c : Int) : prtL 32 (cfgL n k d c) = [[99, 111, 110, 102, 105, 103], Lib.itoa n, Lib.itoa k, Lib.itoa d, Lib.itoa c] := by
  have P : ∀ z, (32 : UInt8) ∉ Lib.itoa z := fun z => no32 (fun x hx => (itoa_plain z x hx).1)
  rw [cfg_eq, prt_at _ (by decide), prt_at _ (P n), prt_at _ (P k), prt_at _ (P d), prt_last (P c)]
def K4 (n k d c : Int) : Prop := KI n ∧ KI k ∧ KI d ∧ KI c
theorem itoa_inj {x y : Int} (hx : KI x) (hy : KI y) (e : Lib.itoa x = Lib.itoa y) : x = y := by
  have h := congrArg numV e
  rw [numV_back x hx, numV_back y hy] at h
  exact h
theorem cfg_inj {n k d c n' k' d' c' : Int} (K : K4 n k d c) (K' : K4 n' k' d' c') (e : cfgL n k d c = cfgL n' k' d' c') : n = n' ∧ k = k' ∧ d = d' ∧ c = c' := by
  have h := congrArg (prtL 32) e
  rw [prt_cfg, prt_cfg] at h
  simp only [List.cons.injEq, and_true, true_and] at h
  obtain ⟨h1, h2, h3, h4⟩ := h
  exact ⟨itoa_inj K.1 K'.1 h1, itoa_inj K.2.1 K'.2.1 h2, itoa_inj K.2.2.1 K'.2.2.1 h3, itoa_inj K.2.2.2 K'.2.2.2 h4⟩
/-- What is cut at its blanks is its parts with a blank between. -/
theorem prt_back : ∀ (l x : List UInt8) (r : List (List UInt8)), prtL 32 l = x :: r → l = x ++ (r.map (fun y => 32 :: y)).flatten
  | [], x, r, h => by
    have h' : ([[]] : List (List UInt8)) = x :: r := h
    injection h' with h1 h2
    rw [← h1, ← h2]
    rfl
  | y :: t, x, r, h => by
    obtain ⟨a, b, e⟩ := prt_ne 32 t
    have q := prt_back t a b e
    unfold prtL at h
    rw [e] at h
    by_cases hy : y = 32
    · rw [if_pos hy] at h
      injection h with h1 h2
      rw [← h1, ← h2, hy, q]
      simp
    · rw [if_neg hy] at h
      have h' : (y :: a) :: b = x :: r := h
      injection h' with h1 h2
      rw [← h1, ← h2, q]
      simp
def NoC (l : List UInt8) : Prop := ∀ n k d c, K4 n k d c → l ≠ cfgL n k d c
theorem noc_len {l : List UInt8} (h : (prtL 32 l).length ≠ 5) : NoC l := fun n k d c _ e => h (by rw [e, prt_cfg]; rfl)
theorem noc_word {l u : List UInt8} (h0 : (prtL 32 l)[0]? = some u) (h : u ≠ [99, 111, 110, 102, 105, 103]) : NoC l := fun n k d c _ e => by
  rw [e, prt_cfg] at h0
  exact h (by simpa using h0.symm)
theorem noc_num {l u : List UInt8} {i : Nat} (hi : 1 ≤ i) (h0 : (prtL 32 l)[i]? = some u) (h : Lib.itoa (numV u) ≠ u) : NoC l := fun n k d c K e => by
  rw [e, prt_cfg] at h0
  have key : ∀ z, KI z → Lib.itoa z = u → False := fun z hz q => h (by rw [← q, numV_back z hz])
  match i, hi with
  | 1, _ => exact key n K.1 (by simpa using h0)
  | 2, _ => exact key k K.2.1 (by simpa using h0)
  | 3, _ => exact key d K.2.2.1 (by simpa using h0)
  | 4, _ => exact key c K.2.2.2 (by simpa using h0)
  | i + 5, _ => simp at h0
theorem cfg_of {l a b c d : List UInt8} (h : prtL 32 l = [[99, 111, 110, 102, 105, 103], a, b, c, d]) (ha : Lib.itoa (numV a) = a) (hb : Lib.itoa (numV b) = b) (hc : Lib.itoa (numV c) = c) (hd : Lib.itoa (numV d) = d) : l = cfgL (numV a) (numV b) (numV c) (numV d) := by
  rw [prt_back l _ _ h, cfg_eq, ha, hb, hc, hd]
  simp
/-- What Config answers at a config's line. -/
def CfT (n k d c N K D C e : Int) : Prop := (¬ ckE n k d = 0 ∧ N = 0 ∧ K = 0 ∧ D = 0 ∧ C = 0 ∧ e = 40) ∨ (ckE n k d = 0 ∧ (c < 0 ∨ 255 < c) ∧ N = 0 ∧ K = 0 ∧ D = 0 ∧ C = 0 ∧ e = 1) ∨ (ckE n k d = 0 ∧ 0 ≤ c ∧ c ≤ 255 ∧ N = n ∧ K = k ∧ D = d ∧ C = c ∧ e = 0)
/-- What Config answers. -/
def CfS (l : List UInt8) (N K D C e : Int) : Prop := (∃ n k d c, K4 n k d c ∧ l = cfgL n k d c ∧ CfT n k d c N K D C e) ∨ (NoC l ∧ N = 0 ∧ K = 0 ∧ D = 0 ∧ C = 0 ∧ e = 82)
theorem CfT.one {n k d c N K D C e N' K' D' C' e' : Int} (h : CfT n k d c N K D C e) (h' : CfT n k d c N' K' D' C' e') : N = N' ∧ K = K' ∧ D = D' ∧ C = C' ∧ e = e' := by
  unfold CfT at h h'
  omega
theorem CfS.one {l : List UInt8} {N K D C e N' K' D' C' e' : Int} (h : CfS l N K D C e) (h' : CfS l N' K' D' C' e') : N = N' ∧ K = K' ∧ D = D' ∧ C = C' ∧ e = e' := by
  rcases h with ⟨n, k, d, c, k4, e1, t⟩ | ⟨no, a1, a2, a3, a4, a5⟩
  · rcases h' with ⟨n', k', d', c', k4', e1', t'⟩ | ⟨no, _⟩
    · obtain ⟨rfl, rfl, rfl, rfl⟩ := cfg_inj k4 k4' (e1.symm.trans e1')
      exact t.one t'
    · exact absurd e1 (no n k d c k4)
  · rcases h' with ⟨n', k', d', c', k4', e1', t'⟩ | ⟨_, b1, b2, b3, b4, b5⟩
    · exact absurd e1' (no _ _ _ _ k4')
    · exact ⟨a1.trans b1.symm, a2.trans b2.symm, a3.trans b3.symm, a4.trans b4.symm, a5.trans b5.symm⟩
theorem num_step2 {s b : ByteArray} {v n : Int} {y : List UInt8} (q : NumQ s b v) (ha : Asc s) (e : s.data.toList = Lib.itoa n ++ 32 :: y) (hn : KI n) : v = n ∧ b.data.toList = y ∧ Asc b := by
  have h := q.asc ha
  rw [e, cutL_word _ _ (fun c hc => (itoa_plain n c hc).1)] at h
  have hb : b.data.toList = y := h.1
  refine ⟨h.2 n (atoi_back n hn), hb, asc_of ha (x := Lib.itoa n) (by rw [e, hb])⟩
theorem num_last2 {s b : ByteArray} {v n : Int} (q : NumQ s b v) (ha : Asc s) (e : s.data.toList = Lib.itoa n) (hn : KI n) : v = n := by
  have h := q.asc ha
  rw [e, cutL_last _ (fun c hc => (itoa_plain n c hc).1)] at h
  exact h.2 n (atoi_back n hn)
theorem GuQ.exact2 {s : ByteArray} {n k d c N K D C : Int} (q : GuQ s n k d c) (e : s.data.toList = cfgL N K D C) (h : K4 N K D C) : n = N ∧ k = K ∧ d = D ∧ c = C := by
  obtain ⟨a, t0, t1, t2, t3, t4, q0, q1, q2, q3, q4⟩ := q.ch
  have ha : Asc s := fun x hx => by
    rw [e, cfg_eq] at hx
    have P : ∀ z, x ∈ Lib.itoa z → x.toNat < 128 := fun z hz => (itoa_plain z x hz).2
    have key : ∀ y ∈ ([99, 111, 110, 102, 105, 103] : List UInt8), y.toNat < 128 := by decide
    have B : x = 32 → x.toNat < 128 := fun z => by rw [z]; decide
    rcases List.mem_append.1 hx with z | z
    · exact key x z
    rcases List.mem_cons.1 z with z | z
    · exact B z
    rcases List.mem_append.1 z with z | z
    · exact P _ z
    rcases List.mem_cons.1 z with z | z
    · exact B z
    rcases List.mem_append.1 z with z | z
    · exact P _ z
    rcases List.mem_cons.1 z with z | z
    · exact B z
    rcases List.mem_append.1 z with z | z
    · exact P _ z
    rcases List.mem_cons.1 z with z | z
    · exact B z
    · exact P _ z
  have e0 := e
  rw [cfg_eq] at e0
  have c0 := q0.asc ha
  rw [e0, cutL_word _ _ (by decide)] at c0
  have b0 : t0.data.toList = Lib.itoa N ++ 32 :: (Lib.itoa K ++ 32 :: (Lib.itoa D ++ 32 :: Lib.itoa C)) := congrArg Prod.snd c0
  have a0 : Asc t0 := asc_of ha (x := [99, 111, 110, 102, 105, 103]) (by rw [e0, b0])
  obtain ⟨r1, b1, a1⟩ := num_step2 q1 a0 b0 h.1
  obtain ⟨r2, b2, a2⟩ := num_step2 q2 a1 b1 h.2.1
  obtain ⟨r3, b3, a3⟩ := num_step2 q3 a2 b2 h.2.2.1
  exact ⟨r1, r2, r3, num_last2 q4 a3 b3 h.2.2.2⟩
theorem ck_40 {n k d : Int} (h : ¬ ckE n k d = 0) : ckE n k d = 40 := by
  unfold ckE at h ⊢
  split at h
  · rename_i z
    rw [if_pos z]
  · exact absurd rfl h
/-- script.Config, exactly. -/
theorem CfA.all {s : ByteArray} {N K D C e : Int} (h : CfA s N K D C e) : CfS s.data.toList N K D C e := by
  obtain ⟨n, k, d, c, q, ⟨h1, a1, a2, a3, a4, a5⟩ | ⟨h1, h2, a1, a2, a3, a4, a5⟩ | ⟨h1, h2, h3, a⟩ | ⟨h1, h2, h3, h4, a⟩⟩ := h
  · refine .inr ⟨fun n' k' d' c' K' z => ?_, a1, a2, a3, a4, a5⟩
    obtain ⟨rfl, rfl, rfl, rfl⟩ := q.exact2 z K'
    exact h1 z
  · exact .inl ⟨n, k, d, c, q.ki, h1, .inl ⟨h2, a1, a2, a3, a4, a5.trans (ck_40 h2)⟩⟩
  · exact .inl ⟨n, k, d, c, q.ki, h1, .inr (.inl ⟨h2, h3, a⟩)⟩
  · exact .inl ⟨n, k, d, c, q.ki, h1, .inr (.inr ⟨h2, h3, h4, a⟩)⟩
end Go.Proofs.YtonfefhegghapaaDoor
