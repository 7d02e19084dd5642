import Derived.Test.YtojfnehdanhgiaaRight
namespace Go.Proofs.Ytojfnehdanhgiaa
open Go.RowKit

/-- A list of bytes that was handed in. -/
structure Sli where
  a : Option Addr
  len : Nat
  cap : Nat
  l : List Nat
structure Datas (w : World) (q : Option Addr) (n cap : Nat) (D : List Sli) : Prop where
  length : D.length = n
  room : n ≤ cap
  small : cap ≤ maxLen
  cells : 0 < n → ∃ b off, q = some ⟨b, off, none⟩ ∧ ∀ i (h : i < D.length), w.cell? ⟨b, off + i, none⟩ = some (.slice D[i].a D[i].len D[i].cap)
  reads : ∀ s ∈ D, Reads w s.a s.len s.cap s.l
theorem Datas.kept0 {w w' : World} {q : Option Addr} {n cap : Nat} {D : List Sli} (h : Datas w q n cap D) (K : Kept (fun _ => False) w w') : Datas w' q n cap D := by
  refine ⟨h.length, h.room, h.small, fun h0 => ?_, fun s hs => (h.reads s hs).kept' K (fun _ _ q => q)⟩
  obtain ⟨b, off, e, hc⟩ := h.cells h0
  exact ⟨b, off, e, fun i hi => K.cell (hc i hi) (fun q => q)⟩
/-- What 'flown' sends. -/
def flownP (D : List Sli) : List Pk := D.mapIdx fun i s => rightP i s.l
theorem flownP_length (D : List Sli) : (flownP D).length = D.length := by simp [flownP]
theorem flownP_take (D : List Sli) (i : Nat) (h : i < D.length) : (flownP D).take (i + 1) = (flownP D).take i ++ [rightP i D[i].l] := by
  rw [List.take_succ_eq_append_getElem (by rw [flownP_length]; exact h)]
  simp [flownP]
/-- One more is appended to a list. -/
theorem IsL.more {base : Nat} {w w1 w2 : World} {q : Option Addr} {len cap : Nat} {R : List Ent} (h : IsL base w q len cap R) (K : Kept (fun _ => False) w w1) {e : Ent} (ge : Good base w1 e) {p : Option Addr} {c : Nat}
    (ho : w2.ownsRow base 39 6 (.slice p (len + 1) c) (len + 1) (rcells R ++ e.cells)) (hg : w1.grownBy w2 (Value.slice q len cap).ownBlock) (hn : (Value.slice p (len + 1) c).ownBlock = (Value.slice q len cap).ownBlock ∨ ((Value.slice p (len + 1) c).ownBlock = some w1.heap.size ∧ w1.grownBy w2 none)) :
    IsL base w2 p (len + 1) c (R ++ [e]) ∧ Kept (fun k => blockOf q = some k) w1 w2 ∧ (∀ k, blockOf p = some k → blockOf q = some k ∨ w1.heap.size ≤ k) := by
  rw [blockOf_own] at hg hn
  rw [blockOf_own] at hn
  have h1 := h.kept0 K
  have K2 : Kept (fun k => blockOf q = some k) w1 w2 := (Kept.refl _ _).grown hg (fun k _ e => e)
  refine ⟨⟨by rw [rcells_append, rcells_one']; exact ho, fun f hf => ?_⟩, K2, fun k hk => ?_⟩
  · rcases List.mem_append.1 hf with m | m
    · exact (h1.good f m).kept K2 (fun k _ e => h1.notdata k e)
    · rw [List.mem_singleton.1 m]
      exact ge.kept K2 (fun k _ e => h1.notdata k e)
  · rcases hn with e | ⟨e, _⟩
    · exact .inl (by rw [← e]; exact hk)
    · rw [e] at hk; simp at hk; exact .inr (by omega)
/-- A network beside a list that grows. -/
theorem NetOf.beside {ty base : Nat} {w w' : World} {C : Nat} {g : Option Nat} {ps : List Pk} (h : NetOf ty base w C g ps) {base2 : Nat} {q : Option Addr} {len cap : Nat} {R : List Ent} (L : IsL base2 w q len cap R) (K : Kept (fun k => blockOf q = some k) w w') (hg : ∀ k, blockOf q = some k → g ≠ some k) : NetOf ty base w' C g ps := by
  have h' := h
  obtain ⟨q2, len2, cap2, R2, n, rfl, e⟩ := h
  refine h'.kept K (fun z => ?_) (fun k hk z => hg k z hk) (fun k _ z => L.notdata k z)
  obtain ⟨cs, hc⟩ := own_type L.own C z
  rw [n.blk] at hc
  simp at hc
  exact n.t39 hc.2
/-- What 'flown' has in hand behind i rounds. -/
structure Fzs (w wr : World) (C : Nat) (g : Option Nat) (p : Option Addr) (c : Nat) (R : List Ent) (ps : List Pk) : Prop where
  kept : Kept (fun _ => False) w wr
  net : NetOf 67 w.heap.size wr C g ps
  list : IsL w.heap.size wr p ps.length c R
  same : R.map Ent.p = ps
  off : ∀ k, blockOf p = some k → g ≠ some k
theorem Fzs.quiet {w wr w' : World} {C : Nat} {g : Option Nat} {p : Option Addr} {c : Nat} {R : List Ent} {ps : List Pk} (s : Fzs w wr C g p c R ps) (K : Kept (fun _ => False) wr w') : Fzs w w' C g p c R ps :=
  ⟨s.kept.trans K (fun _ _ q => q), s.net.kept0 K, s.list.kept0 K, s.same, s.off⟩
set_option maxRecDepth 100000 in
set_option maxHeartbeats 2000000 in
theorem flown (q : Option Addr) (n cap : Nat) (D : List Sli) (w : World) (hD : Datas w q n cap D) (hb : n ≤ Big) :
    Calls Try.prog 7 #[.slice q n cap] w fun x w' => ∃ C g p c R, x = .returned (.tuple #[.pointer (some ⟨C, 0, none⟩), .slice p n c, .bool true]) ∧ Fzs w w' C g p c R (flownP D) := by
  have hl := hD.length
  have hr := hD.room
  have hs := hD.small
  have HD : Hid (Datas w q n cap D ∧ n ≤ Big) := ⟨hD, hb⟩
  unfold maxLen at hs
  clear hD hb
  go_enter Try.func7, Try.ntmps7
  go_wp2_with fail
  refine (nNew w).mono ?_
  rintro x w1 ⟨rfl, hw1⟩
  have F0 : Hid (Fzs w w1 w.heap.size none none 0 [] []) := by
    rw [hw1]
    exact ⟨alloc_kept0 _ _, net_of_new w (Nat.le_refl _) (by decide) (by decide), ⟨World.ownsRow_nil _ _ _ _, fun _ h => by simp at h⟩, rfl, fun k hk => by simp [blockOf] at hk⟩
  clear hw1
  go_wp2_with fail
  go_loopw [6, 13] (fun y x wr => ∃ (i : Nat) (p : Option Addr) (c : Nat) (g : Option Nat) (R : List Ent), x = .int .i64 (i : Int) ∧ y = .slice p i c ∧ i ≤ n ∧ Hid (Fzs w wr w.heap.size g p c R ((flownP D).take i))) (fun _ x _ => n - (intOf x).toNat)
  case atStart => exact ⟨0, none, 0, none, [], rfl, rfl, Nat.zero_le _, by rw [List.take_zero]; exact F0.out⟩
  case round =>
    obtain ⟨i, p, c, g, R, rfl, rfl, hi, S⟩ := hrel
    by_cases hlt : i < n
    · obtain ⟨b, off, rfl, hc⟩ := HD.out.1.cells (by omega)
      have hiD : i < D.length := by omega
      obtain ⟨s, hsE⟩ : ∃ s, D[i] = s := ⟨_, rfl⟩
      have d0 : wr.cell? ⟨b, off + i, none⟩ = some (.slice s.a s.len s.cap) := by rw [← hsE]; exact S.out.kept.cell (hc i hiD) (fun q => q)
      have HS : Hid (Reads w s.a s.len s.cap s.l ∧ D[i] = s) := ⟨by rw [← hsE]; exact HD.out.1.reads _ (List.getElem_mem hiD), hsE⟩
      have tl : Hid (((flownP D).take i).length = i) := by show ((flownP D).take i).length = i; rw [List.length_take, flownP_length]; omega
      have i1 : (i : Int) < (n : Int) := by omega
      have iB : Hid (i + 1 ≤ Big) := Nat.le_trans hlt HD.out.2
      clear hc hsE
      go_wp2_with fail
      refine (right i (Nat.le_of_succ_le iB.out) s.a s.len s.cap s.l _ (HS.out.1.kept' S.out.kept (fun _ _ q => q))).mono ?_
      rintro x w2 ⟨e, he, rfl, ge, K2⟩
      have S2 : Hid (Fzs w w2 w.heap.size g p c R ((flownP D).take i) ∧ Good w.heap.size w2 e ∧ e.p = rightP i s.l) := ⟨S.out.quiet K2, ge.mono S.out.kept.size, he⟩
      clear S ge K2 he
      obtain ⟨W, hW⟩ : ∃ W, W = (w2.alloc (.cells #[.int .i64 e.p.fk, .int .i64 e.p.fi, .int .i64 e.p.tk, .int .i64 e.p.ti, .slice e.a e.len e.cap, .bool e.p.lost] 39)).alloc (.cells #[.int .i64 e.p.fk, .int .i64 e.p.fi, .int .i64 e.p.tk, .int .i64 e.p.ti, .slice e.a e.len e.cap, .bool e.p.lost] 39) := ⟨_, rfl⟩
      have KW : Kept (fun _ => False) w2 W := by rw [hW]; exact ((Kept.refl _ _).alloc _).alloc _
      have SW : Hid (Fzs w W w.heap.size g p c R ((flownP D).take i) ∧ Good w.heap.size W e ∧ e.p = rightP i s.l ∧ Src Try.prog 6 27 (.slice (some ⟨w2.heap.size + 1, 0, none⟩) 1 1) 1 e.cells W ∧ w.heap.size ≤ W.heap.size) := by
        have S3 := S2.out.1.quiet KW
        refine ⟨S3, S2.out.2.1.kept0 KW, S2.out.2.2, src_one ?_, S3.kept.size⟩
        rw [hW, ← alloc_size w2 (.cells #[.int .i64 e.p.fk, .int .i64 e.p.fi, .int .i64 e.p.tk, .int .i64 e.p.ti, .slice e.a e.len e.cap, .bool e.p.lost] 39)]
        exact alloc_new _ _
      have LW : Hid (W.ownsRow w.heap.size 39 6 (.slice p i c) i (rcells R)) := by
        have := SW.out.1.list.own
        rw [tl.out] at this
        exact this
      have EW : Hid (W = (w2.alloc (.cells #[.int .i64 e.p.fk, .int .i64 e.p.fi, .int .i64 e.p.tk, .int .i64 e.p.ti, .slice e.a e.len e.cap, .bool e.p.lost] 39)).alloc (.cells #[.int .i64 e.p.fk, .int .i64 e.p.fi, .int .i64 e.p.tk, .int .i64 e.p.ti, .slice e.a e.len e.cap, .bool e.p.lost] 39)) := hW
      clear hW KW S2
      go_wp2_with (first | (at_builtin; rw [← EW.out]; refine wpList_append_all _ rfl (.tmp 21) (.tmp 23) 27 39 27 _ 6 64 rfl Try.underlying27 Try.info39 rfl w.heap.size (.slice p i c) i (rcells R) rfl LW.out _ 1 e.cells rfl SW.out.2.2.2.1 (big_max iB.out) (big_wide iB.out) SW.out.2.2.2.2 ?_; intro p4 c4 w4 ho hg hn) | fail)
      have hL4 := IsL.more (by have := SW.out.1.list; rw [tl.out] at this; exact this) (Kept.refl _ W) SW.out.2.1 ho.out hg.out hn.out
      have S4 : Hid (Kept (fun _ => False) w w4 ∧ NetOf 67 w.heap.size w4 w.heap.size g ((flownP D).take i) ∧ IsL w.heap.size w4 p4 (i + 1) c4 (R ++ [e]) ∧ (∀ k, blockOf p4 = some k → g ≠ some k) ∧ (R ++ [e]).map Ent.p = (flownP D).take (i + 1)) := by
        refine ⟨SW.out.1.kept.trans hL4.2.1 (fun j hj z => ?_), SW.out.1.net.beside SW.out.1.list hL4.2.1 SW.out.1.off, hL4.1, fun k hk z => ?_, ?_⟩
        · have := (own_lt SW.out.1.list.own j z).1; omega
        · rcases hL4.2.2 k hk with y | y
          · exact SW.out.1.off k y z
          · have := (SW.out.1.net.glt k z).1; omega
        · rw [List.map_append, SW.out.1.same, flownP_take D i hiD, HS.out.2]
          simp [SW.out.2.2.1]
      clear ho hg hn hL4 SW LW
      refine (right i (Nat.le_of_succ_le iB.out) s.a s.len s.cap s.l _ (HS.out.1.kept' S4.out.1 (fun _ _ q => q))).mono ?_
      rintro x w5 ⟨e5, he5, rfl, ge5, K5⟩
      have S5 : Hid (Kept (fun _ => False) w w5 ∧ NetOf 67 w.heap.size w5 w.heap.size g ((flownP D).take i) ∧ IsL w.heap.size w5 p4 (i + 1) c4 (R ++ [e]) ∧ Good w.heap.size w5 e5 ∧ e5.p = rightP i s.l) := ⟨S4.out.1.trans K5 (fun _ _ q => q), S4.out.2.1.kept0 K5, S4.out.2.2.1.kept0 K5, ge5.mono S4.out.1.size, he5⟩
      clear ge5 K5 he5
      go_wp2_with fail
      refine (send_of w.heap.size w.heap.size g _ _ S5.out.2.1 S5.out.1.size (by rw [tl.out]; exact iB.out) e5.p.fk e5.p.fi e5.p.tk e5.p.ti e5.a e5.len e5.cap e5.p.lost e5.p.data S5.out.2.2.2.1.reads (by rw [S5.out.2.2.2.2]; exact rightP_from _ _) (by rw [S5.out.2.2.2.2]; exact rightP_to _ _) S5.out.2.2.2.1.short).mono ?_
      rintro x w6 ⟨g6, rfl, n6, m6⟩
      have S6 : Hid (Fzs w w6 w.heap.size g6 p4 c4 (R ++ [e]) ((flownP D).take (i + 1))) := by
        have tl2 : ((flownP D).take (i + 1)).length = i + 1 := by rw [List.length_take, flownP_length]; omega
        refine ⟨m6.kept0 S5.out.2.1 (Nat.le_refl _) S5.out.1, ?_, ?_, S4.out.2.2.2.2, fun k hk => m6.far (own_lt S5.out.2.2.1.own k hk).2 (S4.out.2.2.2.1 k hk)⟩
        · rw [flownP_take D i hiD, HS.out.2, ← S5.out.2.2.2.2]
          exact n6
        · rw [tl2]
          exact m6.list S5.out.2.1 S5.out.2.2.1 S4.out.2.2.2.1
      clear n6 m6 S5 S4
      go_wp2_with fail
      go_roundw
      case rel => exact ⟨i + 1, p4, c4, g6, R ++ [e], by go_num, rfl, by omega, S6.out⟩
      case measure => simp [intOf]; omega
    · have he : i = n := by omega
      subst he
      have i1 : ¬ (i : Int) < (i : Int) := by omega
      have S2 : Hid (Fzs w wr w.heap.size g p c R (flownP D)) := by
        have := S.out
        rw [List.take_of_length_le (by rw [flownP_length]; omega)] at this
        exact this
      have ln : Hid ((flownP D).length = i) := (flownP_length D).trans hl
      clear S
      go_wp2_with fail
      refine (len_of w.heap.size w.heap.size g _ _ S2.out.net).mono ?_
      rw [ln.out]
      rintro x w2 ⟨rfl, rfl⟩
      go_wp2_with fail
      go_ret3
      exact ⟨w.heap.size, g, p, c, R, by simp, S2.out⟩
end Go.Proofs.Ytojfnehdanhgiaa
