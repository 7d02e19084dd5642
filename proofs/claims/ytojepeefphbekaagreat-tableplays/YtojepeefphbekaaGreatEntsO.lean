import Derived.Test.YtojepeefphbekaaGreatFragJ
namespace Go.Proofs.YtojepeefphbekaaGreat
open Go.RowKit 

abbrev Et6 : Type := (Int × Int) × Bool × Bool × Option Addr × Nat × Nat
/-- The entries' fragments lie each in a block of their own, none older than b0. -/
structure EOwn (b0 : Nat) (w : World) (L : List Et6) : Prop where
  own : ∀ e ∈ L, e.2.2.2.2.1 ≤ 140737488355328 ∧ ∃ xs, w.ownsRow b0 5 1 (.slice e.2.2.2.1 e.2.2.2.2.1 e.2.2.2.2.2) e.2.2.2.2.1 xs
  apart : L.Pairwise fun e e' => ∀ k, blockOf e.2.2.2.1 = some k → blockOf e'.2.2.2.1 ≠ some k
theorem EOwn.nil (b0 : Nat) (w : World) : EOwn b0 w [] := ⟨fun e he => (by cases he), List.Pairwise.nil⟩
theorem EOwn.off {S : Nat → Prop} {b0 : Nat} {w w' : World} {L : List Et6} (h : EOwn b0 w L) (K : Kept S w w') (hn : ∀ k cs, w.heap[k]? = some (.cells cs 5 (0, 0)) → ¬ S k) : EOwn b0 w' L := by
  refine ⟨fun e he => ?_, h.apart⟩
  obtain ⟨h1, xs, ow⟩ := h.own e he
  refine ⟨h1, xs, K.owns ow (fun k hk => ?_)⟩
  obtain ⟨cs, hc⟩ := own_type ow k (by rw [← blockOf_own]; exact hk)
  exact hn k cs hc
theorem EOwn.perm {b0 : Nat} {w : World} {L L' : List Et6} (h : EOwn b0 w L) (P : L'.Perm L) : EOwn b0 w L' := by
  refine ⟨fun e he => h.own e (P.mem_iff.1 he), (P.pairwise_iff (fun {a b} hab k hk z => hab k z hk)).2 h.apart⟩
theorem EOwn.lt {b0 : Nat} {w : World} {L : List Et6} (h : EOwn b0 w L) {e : Et6} (he : e ∈ L) {k : Nat} (hk : blockOf e.2.2.2.1 = some k) : b0 ≤ k ∧ k < w.heap.size := by
  obtain ⟨_, xs, ow⟩ := h.own e he
  exact own_lt ow k hk
theorem EOwn.mono {b0 b1 : Nat} {w : World} {L : List Et6} (h : EOwn b1 w L) (hb : b0 ≤ b1) : EOwn b0 w L := by
  refine ⟨fun e he => ?_, h.apart⟩
  obtain ⟨h1, xs, ow⟩ := h.own e he
  exact ⟨h1, xs, owns_mono ow hb⟩
/-- Some more, that came later. -/
theorem EOwn.app {b0 b1 : Nat} {w : World} {L L' : List Et6} (h : EOwn b0 w L) (h' : EOwn b1 w L') (hb : b0 ≤ b1) (old : ∀ f ∈ L, ∀ k, blockOf f.2.2.2.1 = some k → k < b1) : EOwn b0 w (L ++ L') := by
  refine ⟨fun e he => ?_, List.pairwise_append.2 ⟨h.apart, h'.apart, fun a ha b hb' k hk z => ?_⟩⟩
  · rcases List.mem_append.1 he with z | z
    · exact h.own e z
    · exact (h'.mono hb).own e z
  · have h1 := old a ha k hk
    have h2 := (h'.lt hb' z).1
    omega
theorem EOwn.one {b1 : Nat} {w : World} {e : Et6} {xs : List Value} (h1 : e.2.2.2.2.1 ≤ 140737488355328) (ow : w.ownsRow b1 5 1 (.slice e.2.2.2.1 e.2.2.2.2.1 e.2.2.2.2.2) e.2.2.2.2.1 xs) : EOwn b1 w [e] := ⟨fun f hf => by rw [List.mem_singleton.1 hf]; exact ⟨h1, xs, ow⟩, List.pairwise_singleton _ _⟩
/-- What the entries' fragments are, and that they are their own. -/
def EOK2 (b0 : Nat) (w : World) (L : List Et6) (dat : Int × Int → List Nat) : Prop := EOK w L dat ∧ EOwn b0 w L
theorem EOK2.nil (b0 : Nat) (w : World) (dat : Int × Int → List Nat) : EOK2 b0 w [] dat := ⟨fun e he => (by cases he), EOwn.nil b0 w⟩
theorem EOK2.off {S : Nat → Prop} {b0 : Nat} {w w' : World} {L : List Et6} {dat : Int × Int → List Nat} (h : EOK2 b0 w L dat) (K : Kept S w w') (hn : ∀ k cs, w.heap[k]? = some (.cells cs 5 (0, 0)) → ¬ S k) : EOK2 b0 w' L dat := ⟨h.1.off K hn, h.2.off K hn⟩
theorem EOK2.perm {b0 : Nat} {w : World} {L L' : List Et6} {dat : Int × Int → List Nat} (h : EOK2 b0 w L dat) (P : L'.Perm L) : EOK2 b0 w L' dat := ⟨h.1.perm P, h.2.perm P⟩
/-- The round's state. -/
def EI2 (w : World) (mb rr n cnt0 : Nat) (M : Int × Int → Option Hd) (dat : Int × Int → List Nat) (v : Value) (wr : World) (cnt : Nat) : Prop :=
  ∃ (p : Option Addr) (cp : Nat) (L : List ((Int × Int) × Bool × Bool × Option Addr × Nat × Nat)) (Lf : Int × Int → Prop), v = .slice p L.length cp ∧ RG 37 tl TFit Hd.val RH wr mb rr n M Lf cnt ∧ GE M Lf L ∧ wr.ownsRow w.heap.size 40 5 (.slice p L.length cp) L.length (ecells L) ∧ Kept (fun _ => False) w wr ∧ L.length + cnt ≤ cnt0 ∧ blockOf p ≠ some rr ∧ p ≠ none ∧ EOK2 w.heap.size wr L dat
set_option maxRecDepth 100000 in
set_option maxHeartbeats 2000000 in
theorem entriesO (n : Nat) (r : RK) (dat : Int × Int → List Nat) (w : World) (h : IsRow w n r) (hd : DataAt w r.M dat) (hn : n ≤ 4398046511104) : Calls Tryz.prog 36 #[.agg #[.map (some r.mb), .pointer (some ⟨r.sb, 0, none⟩)]] w fun o w' => ∃ (p : Option Addr) (cp : Nat) (L : List ((Int × Int) × Bool × Bool × Option Addr × Nat × Nat)), o = .returned (.slice p L.length cp) ∧ GE r.M (fun _ => False) L ∧ (L.Pairwise fun x y => ¬ tc y.1 x.1 < 0) ∧ w'.ownsRow w.heap.size 40 5 (.slice p L.length cp) L.length (ecells L) ∧ Kept (fun _ => False) w w' ∧ EOK2 w.heap.size w' L dat := by
  obtain ⟨mb, sb, q, len, cap, S, M⟩ := r
  have h : IsRow w n ⟨mb, sb, q, len, cap, S, M⟩ := h
  have hd : DataAt w M dat := hd
  obtain ⟨W, hW⟩ : ∃ W, W = w.alloc (.cells #[.map (some mb), .pointer (some ⟨sb, 0, none⟩)] 89) := ⟨_, rfl⟩
  have KZ : Kept (fun _ => False) w W := by rw [hW]; exact k0_alloc _ _
  have bW : W.heap[w.heap.size]? = some (.cells #[.map (some mb), .pointer (some ⟨sb, 0, none⟩)] 89 (0, 0)) := by rw [hW]; exact heap_alloc_new _ _
  obtain ⟨D, hM, sM⟩ := h.tm.kept KZ (fun z => z)
  have hM : W.ownsMap Tryz.prog 37 RH mb n D := hM
  have hz : Maps.size D ≤ n := by
    obtain ⟨es, clock, _, _, h3, e⟩ := hM
    rw [e, Maps.size_eq, length_sorted]
    simpa using h3
  have ln : ∀ ty, (Builtin.len_ #[86] ty #[.map (some mb)]).run Tryz.prog W = .ok (.int .i64 (Maps.size D : Int)) W := fun ty => hM.len Tryz.underlying86 ty
  obtain ⟨i0, hi, hz0, hz1, hz2⟩ := info_parts Tryz.info40c
  obtain ⟨w3, mk, ow, gr⟩ := run_make_own (P := Tryz.prog) W w.heap.size 33 40 i0 _ 5 Tryz.underlying33 hi hz0 hz1 .i64 .i64 (Maps.size D) (by rw [hz2]; omega) (by unfold maxLen; omega) KZ.size
  have K3 : Kept (fun _ => False) W w3 := (Kept.refl _ W).grown gr (fun k _ z => by cases z)
  obtain ⟨cp, hcp⟩ : ∃ cp, cp = Maps.size D := ⟨_, rfl⟩
  obtain ⟨g0, hg0⟩ : ∃ g0, g0 = W.heap.size := ⟨_, rfl⟩
  rw [← hcp, ← hg0] at mk ow
  have ln2 : ∀ ty, (Builtin.len_ #[86] ty #[.map (some mb)]).run Tryz.prog W = .ok (.int .i64 (cp : Int)) W := fun ty => by rw [hcp]; exact ln ty
  have H : Hid (TM 37 tl TFit Hd.val RH w3 mb n M ∧ w3.ownsRow w.heap.size 40 5 (.slice (some ⟨g0, 0, none⟩) 0 cp) 0 [] ∧ Kept (fun _ => False) w w3 ∧ w3.heap[w.heap.size]? = some (.cells #[.map (some mb), .pointer (some ⟨sb, 0, none⟩)] 89 (0, 0)) ∧ g0 < w3.heap.size ∧ mb < w.heap.size ∧ DataAt w M dat ∧ n ≤ 4398046511104) := by
    refine ⟨(h.tm.kept KZ (fun z => z)).kept K3 (fun z => z), ow, KZ.and0 K3, K3.get bW (fun z => z), ?_, h.lt (.inl rfl), hd, hn⟩
    exact (own_lt ow g0 rfl).2
  have EW : Hid (W = w.alloc (.cells #[.map (some mb), .pointer (some ⟨sb, 0, none⟩)] 89)) := hW
  have c0 := cell_blk bW 0 (v := .map (some mb)) rfl
  have d0 := cell_blk H.out.2.2.2.1 0 (v := .map (some mb)) rfl
  clear h hd hn KZ bW hM sM hz ln hi hz0 hz1 hz2 ow gr K3 hcp hg0 hW
  dsimp only
  go_enter Tryz.func36, Tryz.ntmps36
  go_upto_region 1 with fail
  rw [← EW.out]
  go_wp2_with
    (first
      | (at_range; refine wpList_rng tagsK _ rfl _ rfl mb n M rfl H.out.1 ?_; intro w4 hrg0 hk0 hs0)
      | fail)
  obtain ⟨rr, hrr⟩ : ∃ rr, rr = w3.heap.size := ⟨_, rfl⟩
  rw [← hrr]
  have I0 : Hid (∃ cnt0, cnt0 ≤ n ∧ EI2 w mb rr n cnt0 M dat (.slice (some ⟨g0, 0, none⟩) 0 cp) w4 cnt0 ∧ w.heap.size ≤ rr) := by
    obtain ⟨cnt, g⟩ := hrg0.out
    rw [← hrr] at g
    have hl := H.out.2.2.2.2.1
    refine ⟨cnt, g.cnt_le, ⟨some ⟨g0, 0, none⟩, cp, [], _, rfl, g, ⟨fun t k hm => .inl (by rw [hm]; simp), fun e he => (by cases he), by simp⟩, hk0.out.owns H.out.2.1 (fun _ _ z => z), H.out.2.2.1.and0 hk0.out, by simp, fun z => ?_, by simp, EOK2.nil _ _ _⟩, ?_⟩
    · have z : g0 = rr := Option.some.inj z
      omega
    · have := H.out.2.2.1.size
      omega
  obtain ⟨cnt0, hc0, hI0, hrl⟩ := I0.out
  have C0 : Hid (cnt0 ≤ n ∧ EI2 w mb rr n cnt0 M dat (.slice (some ⟨g0, 0, none⟩) 0 cp) w4 cnt0 ∧ w.heap.size ≤ rr) := ⟨hc0, hI0, hrl⟩
  clear hrg0 hk0 hs0 hrr I0 hc0 hI0 hrl c0 d0 mk ln2
  (try go_frame)
  go_loopw [3] (fun v wr => ∃ cnt, Hid (EI2 w mb rr n cnt0 M dat v wr cnt)) (fun _ wr => wr.rangeLeft mb rr)
  case atStart => exact ⟨cnt0, C0.out.2.1⟩
  case round =>
    obtain ⟨cnt, I⟩ := hrel
    obtain ⟨wq, rfl⟩ : ∃ wq : World, wq = wr := ⟨_, rfl⟩
    obtain ⟨p, c1, L, Lf, ev, rg, ge, ow, Kq, hb, nb, np, eo⟩ := I.out
    subst ev
    obtain ⟨g, rfl⟩ : ∃ g, p = some ⟨g, 0, none⟩ := by
      rcases ow.2 with ⟨e0, _⟩ | ⟨g, _, _, e0, _⟩
      · simp at e0; exact absurd e0.1 np
      · simp at e0; exact ⟨g, e0.1⟩
    obtain ⟨kk, hkk⟩ : ∃ kk, kk = L.length := ⟨_, rfl⟩
    have HK : Hid (kk = L.length) := hkk
    rw [← hkk] at ow hb
    rw [← hkk]
    have J : Hid (RG 37 tl TFit Hd.val RH wq mb rr n M Lf cnt ∧ GE M Lf L ∧ wq.ownsRow w.heap.size 40 5 (.slice (some ⟨g, 0, none⟩) kk c1) kk (ecells L) ∧ Kept (fun _ => False) w wq ∧ kk + cnt ≤ cnt0 ∧ g ≠ rr) := ⟨rg, ge, ow, Kq, hb, fun z => nb (by rw [z]; rfl)⟩
    have EO : Hid (EOK2 w.heap.size wq L dat) := eo
    clear rg ge ow Kq hb nb np hkk eo
    go_wp2_with
      (first
        | (at_next; refine wpList_nxt tagsK _ rfl _ rfl mb rr n M Lf cnt rfl J.out.1 ?_ ?_)
        | fail)
    · intro hdn
      go_wp2_with fail
      have BL : kk * 48 ≤ 281474976710656 := by
        have h1 := J.out.2.2.2.2.1
        have h2 := C0.out.1
        have h3 := H.out.2.2.2.2.2.2.2
        omega
      refine (sortE g kk c1 w.heap.size L wq J.out.2.2.1 BL).mono ?_
      rintro o w8 ⟨rfl, L', P, srt, ow', K8⟩
      have F8 : Hid (GE M (fun _ => False) L' ∧ (L'.Pairwise fun x y => ¬ tc y.1 x.1 < 0) ∧ w8.ownsRow w.heap.size 40 5 (.slice (some ⟨g, 0, none⟩) kk c1) kk (ecells L') ∧ Kept (fun _ => False) w w8 ∧ L'.length = kk ∧ EOK2 w.heap.size w8 L' dat) := by
        obtain ⟨D', _, sD⟩ := J.out.1.tm
        refine ⟨J.out.2.1.done P sD.2 (fun t ht => hdn.out t.1 t.2 ht), srt, ow', J.out.2.2.2.1.trans K8 (fun j hj z => ?_), P.length_eq.trans HK.out.symm, (EO.out.off K8 (fun k cs hc z => ?_)).perm P⟩
        · have z : j = g := z
          have := (own_lt J.out.2.2.1 g rfl).1
          omega
        · have z : k = g := z
          obtain ⟨c2, h2⟩ := own_type J.out.2.2.1 g rfl
          rw [z, h2] at hc
          simp at hc
      clear P srt ow' K8 BL
      go_wp2_with fail
      go_ret
      exact ⟨some ⟨g, 0, none⟩, c1, L', by rw [F8.out.2.2.2.2.1]; rfl, F8.out.1, F8.out.2.1, by rw [F8.out.2.2.2.2.1]; exact F8.out.2.2.1, F8.out.2.2.2.1, F8.out.2.2.2.2.2⟩
    · intro ta tb hd w5 cnt5 hk hrg hlt hK hen
      obtain ⟨df, dh, da, dn, dc⟩ := hd
      replace hen : (Instr.entry (.pointer (some ⟨rr, 0, none⟩))).run Tryz.prog w5 = .ok (.tuple #[.agg #[.int .i64 ta, .int .i64 tb], .agg #[.bool df, .bool dh, .slice da dn dc]]) w5 := hen
      dsimp only [tv, Hd.val]
      obtain ⟨rl, hdn⟩ := H.out.2.2.2.2.2.2.1 (ta, tb) _ hk.out.2.2
      obtain ⟨l, hl⟩ : ∃ l, l = dat (ta, tb) := ⟨_, rfl⟩
      rw [← hl] at rl
      have HLD : Hid (l = dat (ta, tb)) := hl
      clear hl
      obtain ⟨W6, hW6⟩ : ∃ W6, W6 = (w5.alloc (.cells #[.int .i64 ta, .int .i64 tb] 37)).alloc (.cells #[.bool df, .bool dh, .slice da dn dc] 94) := ⟨_, rfl⟩
      obtain ⟨b6, hb6⟩ : ∃ b6, b6 = w5.heap.size := ⟨_, rfl⟩
      have GR : Hid (w.heap.size ≤ g ∧ g ≠ rr ∧ rr < wq.heap.size ∧ g < wq.heap.size) := ⟨(own_lt J.out.2.2.1 g rfl).1, J.out.2.2.2.2.2, J.out.1.lt.1, (own_lt J.out.2.2.1 g rfl).2⟩
      have J6 : Hid (RG 37 tl TFit Hd.val RH W6 mb rr n M (fun j => Lf j ∧ j ≠ (ta, tb)) cnt5 ∧ W6.ownsRow w.heap.size 40 5 (.slice (some ⟨g, 0, none⟩) kk c1) kk (ecells L) ∧ Kept (fun _ => False) w W6 ∧ W6.heap[b6]? = some (.cells #[.int .i64 ta, .int .i64 tb] 37 (0, 0)) ∧ W6.heap[b6 + 1]? = some (.cells #[.bool df, .bool dh, .slice da dn dc] 94 (0, 0)) ∧ Reads W6 da dn dc l ∧ dn ≤ 140737488355328 ∧ rr < W6.heap.size) := by
        have K56 : Kept (fun _ => False) w5 W6 := by rw [hW6]; exact ((Kept.refl _ _).alloc _).alloc _
        have K5 : Kept (fun _ => False) w w5 := J.out.2.2.2.1.trans hK.out (fun j hj z => by have z : j = rr := z; have := C0.out.2.2; omega)
        have K6 := K5.and0 K56
        refine ⟨hrg.out.kept K56 (fun z => z) (fun z => z), K56.owns (hK.out.owns J.out.2.2.1 (fun k hk z => ?_)) (fun _ _ z => z), K6, by rw [hW6, hb6]; exact two0 _ _ _, by rw [hW6, hb6]; exact two1 _ _ _, rl.kept' K6 (fun _ _ z => z), hdn, ?_⟩
        · have z : k = rr := z
          have hk : some g = some k := hk
          exact GR.out.2.1 ((Option.some.inj hk).trans z)
        · have := hrg.out.lt.1
          have := K56.size
          omega
      have EW6 : Hid (W6 = (w5.alloc (.cells #[.int .i64 ta, .int .i64 tb] 37)).alloc (.cells #[.bool df, .bool dh, .slice da dn dc] 94) ∧ b6 = w5.heap.size) := ⟨hW6, hb6⟩
      clear hW6 hb6 rl hdn
      go_upto_region 5 with fail
      rw [← EW6.out.1, ← EW6.out.2]
      have u0 := cell_blk J6.out.2.2.2.1 0 (v := .int .i64 ta) rfl
      have u1 := cell_blk J6.out.2.2.2.1 1 (v := .int .i64 tb) rfl
      have v0 := cell_blk J6.out.2.2.2.2.1 0 (v := .bool df) rfl
      have v1 := cell_blk J6.out.2.2.2.2.1 1 (v := .bool dh) rfl
      have v2 := cell_blk J6.out.2.2.2.2.1 2 (v := .slice da dn dc) rfl
      clear hen
      go_wp2_with fail
      refine (entry df dh da dn dc ta tb l W6 J6.out.2.2.2.2.2.1 J6.out.2.2.2.2.2.2.1).mono ?_
      rintro o w7 ⟨p7, c7, rfl, ow7, K7⟩
      have J7 : Hid (RG 37 tl TFit Hd.val RH w7 mb rr n M (fun j => Lf j ∧ j ≠ (ta, tb)) cnt5 ∧ w7.ownsRow w.heap.size 40 5 (.slice (some ⟨g, 0, none⟩) kk c1) kk (ecells L) ∧ Kept (fun _ => False) w w7 ∧ rr < w7.heap.size) := ⟨J6.out.1.kept K7 (fun z => z) (fun z => z), K7.owns J6.out.2.1 (fun _ _ z => z), J6.out.2.2.1.and0 K7, by have := K7.size; have := J6.out.2.2.2.2.2.2.2; omega⟩
      have E7 : Hid (EOK2 w.heap.size w7 L dat ∧ Reads w7 p7 dn c7 l ∧ (∀ k, blockOf p7 = some k → ∃ cs, w7.heap[k]? = some (.cells cs 5 (0, 0))) ∧ (∃ xs, w7.ownsRow W6.heap.size 5 1 (.slice p7 dn c7) dn xs) ∧ dn ≤ 140737488355328 ∧ (∀ f ∈ L, ∀ k, blockOf f.2.2.2.1 = some k → k < W6.heap.size) ∧ w.heap.size ≤ W6.heap.size) := by
        have k56 : Kept (fun _ => False) w5 w7 := (show Kept (fun _ => False) w5 W6 by rw [EW6.out.1]; exact ((Kept.refl _ _).alloc _).alloc _).and0 K7
        refine ⟨(EO.out.off hK.out (fun k cs hc z => ?_)).off k56 (fun _ _ _ z => z), ?_, own_type ow7, ⟨_, ow7⟩, J6.out.2.2.2.2.2.2.1, fun f hf k hk => ?_, J6.out.2.2.1.size⟩
        · have z : k = rr := z
          obtain ⟨D2, l2, ⟨es2, ck2, si2, se2, c02, _, _, _, _, hm2, _⟩, _⟩ := J.out.1
          rw [z, hm2] at hc
          cases hc
        · obtain ⟨a3, cap3, e3, r3, _⟩ := owns_reads ow7 J6.out.2.2.2.2.2.1.bytes
          simp at e3
          obtain ⟨rfl, rfl⟩ := e3
          exact r3
        · have h1 := (EO.out.2.lt hf hk).2
          have h2 := hK.out.size
          have h3 : w5.heap.size ≤ W6.heap.size := by rw [EW6.out.1]; exact (((Kept.refl (fun _ => False) w5).alloc _).alloc _).size
          omega
      have BL : Hid (kk + 1 ≤ maxLen ∧ ((kk + 1) + (kk + 1) / 4 + 192) * 48 ≤ 281474976710656 ∧ kk + 1 + cnt5 ≤ cnt0) := by
        have h1 := J.out.2.2.2.2.1
        have h2 := C0.out.1
        have h3 := H.out.2.2.2.2.2.2.2
        have h4 := hlt.out
        unfold maxLen
        exact ⟨by omega, by omega, by omega⟩
      clear ow7 K7 u0 u1 v0 v1 v2
      go_wp2_with
        (first
          | (at_builtin; refine wpList_append_all _ rfl (.tmp 18) (.tmp 22) 33 40 33 _ 5 48 rfl Tryz.underlying33 Tryz.info40c rfl w.heap.size (.slice (some ⟨g, 0, none⟩) kk c1) kk (ecells L) rfl ((k0_alloc w7 _).owns J7.out.2.1 (fun _ _ z => z)) _ 1 (encE ((ta, tb), df, dh, p7, dn, c7)) rfl (src_ent (heap_alloc_new w7 _)) BL.out.1 BL.out.2.1 (Nat.le_trans J7.out.2.2.1.size (k0_alloc w7 _).size) ?_; intro p9 c9 w9 ho hg hn; go_frame)
          | fail)
      have O9 : w9.ownsRow w.heap.size 40 5 (.slice p9 (kk + 1) c9) (kk + 1) (ecells (L ++ [((ta, tb), df, dh, p7, dn, c7)])) := by
        rw [ecells_append]
        have e : ecells [((ta, tb), df, dh, p7, dn, c7)] = encE ((ta, tb), df, dh, p7, dn, c7) := by simp [ecells]
        rw [e]
        exact ho.out
      have KG : Kept (fun k => k = g) w7 w9 := ((Kept.refl (fun k => k = g) w7).alloc _).grown hg.out (fun k _ z => by simp [Value.ownBlock] at z; exact z.symm)
      have eL : (L ++ [((ta, tb), df, dh, p7, dn, c7)]).length = kk + 1 := by rw [List.length_append, HK.out]; rfl
      have R9 : RG 37 tl TFit Hd.val RH w9 mb rr n M (fun j => Lf j ∧ j ≠ (ta, tb)) cnt5 := J7.out.1.kept KG (fun z => by have z : mb = g := z; have := H.out.2.2.2.2.2.1; have := GR.out.1; omega) (fun z => GR.out.2.1 z.symm)
      go_roundw
      case rel =>
        refine ⟨cnt5, p9, c9, L ++ [((ta, tb), df, dh, p7, dn, c7)], _, by rw [eL], R9, J.out.2.1.more (h := ⟨df, dh, da, dn, dc⟩) hk.out.2.1 hk.out.2.2 p7 c7, by rw [eL]; exact O9, J7.out.2.2.1.trans KG (fun j hj z => ?_), by rw [eL]; exact BL.out.2.2, fun z => ?_, fun z => ?_, ?_⟩
        · have z : j = g := z
          have := GR.out.1
          omega
        · rcases hn.out with e | ⟨e, _⟩
          · rw [blockOf_own, blockOf_own, z] at e
            exact GR.out.2.1 (Option.some.inj e).symm
          · rw [blockOf_own, z] at e
            have e := Option.some.inj e
            have h1 := J7.out.2.2.2
            simp at e
            omega
        · rw [z] at O9
          rcases O9.2 with ⟨e0, _⟩ | ⟨_, _, _, e0, _⟩
          · simp at e0
          · simp at e0
        · have KX : Kept (fun k => k = g) w7 w9 := KG
          have ng : ∀ k cs, w7.heap[k]? = some (.cells cs 5 (0, 0)) → ¬ k = g := fun k cs hc z => by
            obtain ⟨c2, h2⟩ := own_type J7.out.2.1 g rfl
            rw [z, h2] at hc
            simp at hc
          refine ⟨(E7.out.1.1.off KX ng).snoc _ ?_ (fun k hk => ?_), ?_⟩
          · have := E7.out.2.1
            rw [HLD.out] at this
            refine this.kept KX (fun q hq z => ?_)
            obtain ⟨cs, hc⟩ := E7.out.2.2.1 q.block (by rw [hq]; rfl)
            exact ng _ _ hc z
          · obtain ⟨cs, hc⟩ := E7.out.2.2.1 k hk
            exact ⟨cs, KX.get hc (ng _ _ hc)⟩
          · obtain ⟨xs, ow9⟩ := E7.out.2.2.2.1
            refine (EOwn.app E7.out.1.2 (EOwn.one (e := ((ta, tb), df, dh, p7, dn, c7)) E7.out.2.2.2.2.1 ow9) E7.out.2.2.2.2.2.2 E7.out.2.2.2.2.2.1).off KX ng
      case measure =>
        rw [R9.left_eq, J.out.1.left_eq]
        exact hlt.out
set_option maxRecDepth 100000 in
set_option maxHeartbeats 2000000 in
theorem tEntriesO (nn : Nat) (t : TK) (key : ByteArray) (dat : Int × Int → List Nat) (w : World) (h : IsT w nn t) (hk : key.size ≤ maxLen) (hd : ∀ r, t.R key = some r → DataAt w r.M dat) (hn : nn ≤ 4398046511104) : Calls Tryz.prog 14 #[.pointer (some ⟨t.tb, 0, none⟩), .string key] w fun o w' => ∃ (p : Option Addr) (cp : Nat) (L : List ((Int × Int) × Bool × Bool × Option Addr × Nat × Nat)), o = .returned (.slice p L.length cp) ∧ GE (TMp t key) (fun _ => False) L ∧ (L.Pairwise fun x y => ¬ tc y.1 x.1 < 0) ∧ w'.ownsRow w.heap.size 40 5 (.slice p L.length cp) L.length (ecells L) ∧ Kept (fun _ => False) w w' ∧ EOK2 w.heap.size w' L dat := by
  obtain ⟨tb, rb, delta, R⟩ := t
  have lk := h.rows.look rowsK hk
  have e1 : w.cell? ⟨tb, 1, none⟩ = some (.map (some rb)) := cell_blk h.blk 1 rfl
  have HR : Hid (∀ r, R key = some r → IsRow w nn r ∧ DataAt w r.M dat ∧ nn ≤ 4398046511104) := fun r hr => ⟨h.row key r hr, hd r hr, hn⟩
  dsimp only at lk ⊢
  cases hr : R key with
  | none =>
    have e2 : TMp ⟨tb, rb, delta, R⟩ key = fun _ => none := by
      unfold TMp
      dsimp only
      rw [hr]
      rfl
    have e3 : RV.val ((TK.rv ⟨tb, rb, delta, R⟩ key).getD RV.zero) = .agg #[.map none, .pointer none] := by
      unfold TK.rv
      dsimp only
      rw [hr]
      rfl
    rw [e3] at lk
    rw [e2]
    clear h hk hd hn e2 e3 hr HR
    go_enter Tryz.func14, Tryz.ntmps14
    go_wp2_with fail
    refine (entriesN none w).mono ?_
    rintro o w2 ⟨p, cp, rfl, ow, K2⟩
    have F : Hid (w2.ownsRow w.heap.size 40 5 (.slice p 0 cp) 0 (ecells []) ∧ Kept (fun _ => False) w w2) := ⟨ow, K2⟩
    clear ow K2
    go_wp2_with fail
    go_ret
    exact ⟨p, cp, [], rfl, ⟨fun t k hm => (by cases hm), fun e he => (by cases he), by simp⟩, List.Pairwise.nil, F.out.1, F.out.2, EOK2.nil _ _ _⟩
  | some r =>
    have e2 : TMp ⟨tb, rb, delta, R⟩ key = r.M := by
      unfold TMp
      dsimp only
      rw [hr]
      rfl
    have e3 : RV.val ((TK.rv ⟨tb, rb, delta, R⟩ key).getD RV.zero) = .agg #[.map (some r.mb), .pointer (some ⟨r.sb, 0, none⟩)] := by
      unfold TK.rv
      dsimp only
      rw [hr]
      rfl
    rw [e3] at lk
    rw [e2]
    obtain ⟨i1, i2, i3⟩ := HR.out r hr
    have HI : Hid (IsRow w nn r ∧ DataAt w r.M dat ∧ nn ≤ 4398046511104) := ⟨i1, i2, i3⟩
    clear h hk hd hn e2 e3 hr HR i1 i2 i3
    go_enter Tryz.func14, Tryz.ntmps14
    go_wp2_with fail
    refine (entriesO nn r dat w HI.out.1 HI.out.2.1 HI.out.2.2).mono ?_
    rintro o w2 ⟨p, cp, L, rfl, ge, srt, ow, K2, eo⟩
    have F : Hid (GE r.M (fun _ => False) L ∧ (L.Pairwise fun x y => ¬ tc y.1 x.1 < 0) ∧ w2.ownsRow w.heap.size 40 5 (.slice p L.length cp) L.length (ecells L) ∧ Kept (fun _ => False) w w2 ∧ EOK2 w.heap.size w2 L dat) := ⟨ge, srt, ow, K2, eo⟩
    clear ge srt ow K2 eo
    go_wp2_with fail
    go_ret
    exact ⟨p, cp, L, rfl, F.out.1, F.out.2.1, F.out.2.2.1, F.out.2.2.2.1, F.out.2.2.2.2⟩
end Go.Proofs.YtojepeefphbekaaGreat
