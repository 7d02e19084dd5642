import Derived.Test.YtojepeefphbekabGreatSortEJ
namespace Go.Proofs.YtojepeefphbekabGreat
open Go.RowKit 

theorem RG.cnt_le {κ ε : Type} {K : TypeId} {kl : κ → Lit} {KF : κ → Prop} {ev : ε → Value} {RD : Value → Option (DataW Value × List MemPlace)} {w : World} {b r n : Nat} {M : κ → Option ε} {L : κ → Prop} {cnt : Nat} (h : RG K kl KF ev RD w b r n M L cnt) : cnt ≤ n := by
  obtain ⟨D, left, ⟨es, clock, since, seen, c0, _, _, h3, _, _, _, h7, _⟩, _⟩ := h
  have : (leftOf es seen).size ≤ es.size := by unfold leftOf; exact Array.size_filter_le
  omega
theorem Tryz.info34c : (Tryz.prog.info? 34).map (fun i => (i.zero, i.size, i.bytes)) = some (some (.agg #[.int .i64 0, .int .i64 0, .bool false, .bool false, .slice none 0 0]), 5, 48) := by kernel_rfl
/-- What has been gathered. -/
structure GE (M : Int × Int → Option Hd) (Lf : Int × Int → Prop) (L : List ((Int × Int) × Bool × Bool × Option Addr × Nat × Nat)) : Prop where
  all : ∀ t h, M t = some h → Lf t ∨ ∃ e ∈ L, e.1 = t
  each : ∀ e ∈ L, ¬ Lf e.1 ∧ ∃ h, M e.1 = some h ∧ e.2.1 = h.fin ∧ e.2.2.1 = h.has ∧ e.2.2.2.2.1 = h.n
  one : (L.map fun e => e.1).Nodup
theorem GE.more {M : Int × Int → Option Hd} {Lf : Int × Int → Prop} {L : List ((Int × Int) × Bool × Bool × Option Addr × Nat × Nat)} (g : GE M Lf L) {t : Int × Int} {h : Hd} (hl : Lf t) (hm : M t = some h) (p : Option Addr) (c : Nat) : GE M (fun j => Lf j ∧ j ≠ t) (L ++ [(t, h.fin, h.has, p, h.n, c)]) := by
  refine ⟨fun s k hs => ?_, fun e he => ?_, ?_⟩
  · by_cases e : s = t
    · exact .inr ⟨(t, h.fin, h.has, p, h.n, c), List.mem_append.2 (.inr (List.mem_singleton.2 rfl)), e.symm⟩
    · rcases g.all s k hs with z | ⟨e', h1, h2⟩
      · exact .inl ⟨z, e⟩
      · exact .inr ⟨e', List.mem_append.2 (.inl h1), h2⟩
  · rcases List.mem_append.1 he with z | z
    · exact ⟨fun q => (g.each e z).1 q.1, (g.each e z).2⟩
    · rw [List.mem_singleton.1 z]
      exact ⟨fun q => q.2 rfl, h, hm, rfl, rfl, rfl⟩
  · rw [List.map_append]
    refine List.nodup_append.2 ⟨g.one, by simp, fun a ha b hb => ?_⟩
    simp at hb
    subst hb
    intro e
    obtain ⟨e', h1, h2⟩ := List.mem_map.1 ha
    rw [e] at h2
    have := (g.each e' h1).1
    rw [h2] at this
    exact this hl
/-- All fragments can be read. -/
def DataOK (w : World) (M : Int × Int → Option Hd) : Prop := ∀ t h, M t = some h → ∃ l, Reads w h.a h.n h.c l ∧ h.n ≤ 140737488355328
/-- The fragments, each by its tag. -/
def DataAt (w : World) (M : Int × Int → Option Hd) (dat : Int × Int → List Nat) : Prop := ∀ t h, M t = some h → Reads w h.a h.n h.c (dat t) ∧ h.n ≤ 140737488355328
/-- The entries' fragments are these, each in a block of bytes. -/
def EOK (w : World) (L : List ((Int × Int) × Bool × Bool × Option Addr × Nat × Nat)) (dat : Int × Int → List Nat) : Prop := ∀ e ∈ L, Reads w e.2.2.2.1 e.2.2.2.2.1 e.2.2.2.2.2 (dat e.1) ∧ ∀ k, blockOf e.2.2.2.1 = some k → ∃ cs, w.heap[k]? = some (.cells cs 5 (0, 0))
theorem EOK.off {S : Nat → Prop} {w w' : World} {L : List ((Int × Int) × Bool × Bool × Option Addr × Nat × Nat)} {dat : Int × Int → List Nat} (h : EOK w L dat) (K : Kept S w w') (hn : ∀ k cs, w.heap[k]? = some (.cells cs 5 (0, 0)) → ¬ S k) : EOK w' L dat := fun e he => by
  obtain ⟨r, b⟩ := h e he
  refine ⟨r.kept K (fun p hp => ?_), fun k hk => ?_⟩
  · obtain ⟨cs, hc⟩ := b p.block (by rw [hp]; rfl)
    exact hn _ _ hc
  · obtain ⟨cs, hc⟩ := b k hk
    exact ⟨cs, K.get hc (hn _ _ hc)⟩
theorem EOK.perm {w : World} {L L' : List ((Int × Int) × Bool × Bool × Option Addr × Nat × Nat)} {dat : Int × Int → List Nat} (h : EOK w L dat) (P : L'.Perm L) : EOK w L' dat := fun e he => h e (P.mem_iff.1 he)
theorem EOK.snoc {w : World} {L : List ((Int × Int) × Bool × Bool × Option Addr × Nat × Nat)} {dat : Int × Int → List Nat} (h : EOK w L dat) (e : (Int × Int) × Bool × Bool × Option Addr × Nat × Nat) (r : Reads w e.2.2.2.1 e.2.2.2.2.1 e.2.2.2.2.2 (dat e.1)) (b : ∀ k, blockOf e.2.2.2.1 = some k → ∃ cs, w.heap[k]? = some (.cells cs 5 (0, 0))) : EOK w (L ++ [e]) dat := fun f hf => by
  rcases List.mem_append.1 hf with z | z
  · exact h f z
  · rw [List.mem_singleton.1 z]; exact ⟨r, b⟩
theorem GE.done {M : Int × Int → Option Hd} {Lf : Int × Int → Prop} {L L' : List ((Int × Int) × Bool × Bool × Option Addr × Nat × Nat)} (g : GE M Lf L) (P : L'.Perm L) (fit : ∀ t h, M t = some h → TFit t) (no : ∀ t, TFit t → ¬ Lf t) : GE M (fun _ => False) L' := by
  refine ⟨fun t h hm => ?_, fun e he => ⟨fun z => z, (g.each e (P.mem_iff.1 he)).2⟩, (P.map _).nodup_iff.2 g.one⟩
  rcases g.all t h hm with z | ⟨e, h1, h2⟩
  · exact absurd z (no t (fit t h hm))
  · exact .inr ⟨e, P.mem_iff.2 h1, h2⟩
theorem src_ent {w : World} {b : Nat} {e : (Int × Int) × Bool × Bool × Option Addr × Nat × Nat} (h : w.heap[b]? = some (.cells (encE e).toArray 34 (0, 0))) : Src Tryz.prog 5 48 (.slice (some ⟨b, 0, none⟩) 1 1) 1 (encE e) w :=
  Src.ofSlice w Tryz.underlying48 ⟨b, 0, none⟩ 1 1 (encE e) rfl (fun j u hj => by
    rw [Addr.add_none, Nat.zero_add, cell_of_row w b j _ 34 (0, 0) h]
    simpa using hj) (fun v hv => by simp [encE] at hv; rcases hv with rfl | rfl | rfl | rfl | rfl <;> rfl)
/-- The round's state. -/
def EI (w : World) (mb rr n cnt0 : Nat) (M : Int × Int → Option Hd) (dat : Int × Int → List Nat) (v : Value) (wr : World) (cnt : Nat) : Prop :=
  ∃ (p : Option Addr) (cp : Nat) (L : List ((Int × Int) × Bool × Bool × Option Addr × Nat × Nat)) (Lf : Int × Int → Prop), v = .slice p L.length cp ∧ RG 31 tl TFit Hd.val RH wr mb rr n M Lf cnt ∧ GE M Lf L ∧ wr.ownsRow w.heap.size 34 5 (.slice p L.length cp) L.length (ecells L) ∧ Kept (fun _ => False) w wr ∧ L.length + cnt ≤ cnt0 ∧ blockOf p ≠ some rr ∧ p ≠ none ∧ EOK wr L dat
set_option maxRecDepth 100000 in
set_option maxHeartbeats 2000000 in
theorem entriesB (n : Nat) (r : RK) (dat : Int × Int → List Nat) (w : World) (h : IsRow w n r) (hd : DataAt w r.M dat) (hn : n ≤ 4398046511104) : Calls Tryz.prog 34 #[.agg #[.map (some r.mb), .pointer (some ⟨r.sb, 0, none⟩)]] w fun o w' => ∃ (p : Option Addr) (cp : Nat) (L : List ((Int × Int) × Bool × Bool × Option Addr × Nat × Nat)), o = .returned (.slice p L.length cp) ∧ GE r.M (fun _ => False) L ∧ (L.Pairwise fun x y => ¬ tc y.1 x.1 < 0) ∧ w'.ownsRow w.heap.size 34 5 (.slice p L.length cp) L.length (ecells L) ∧ Kept (fun _ => False) w w' ∧ EOK w' L dat := by
  obtain ⟨mb, sb, q, len, cap, S, M⟩ := r
  have h : IsRow w n ⟨mb, sb, q, len, cap, S, M⟩ := h
  have hd : DataAt w M dat := hd
  obtain ⟨W, hW⟩ : ∃ W, W = w.alloc (.cells #[.map (some mb), .pointer (some ⟨sb, 0, none⟩)] 60) := ⟨_, rfl⟩
  have KZ : Kept (fun _ => False) w W := by rw [hW]; exact k0_alloc _ _
  have bW : W.heap[w.heap.size]? = some (.cells #[.map (some mb), .pointer (some ⟨sb, 0, none⟩)] 60 (0, 0)) := by rw [hW]; exact heap_alloc_new _ _
  obtain ⟨D, hM, sM⟩ := h.tm.kept KZ (fun z => z)
  have hM : W.ownsMap Tryz.prog 31 RH mb n D := hM
  have hz : Maps.size D ≤ n := by
    obtain ⟨es, clock, _, _, h3, e⟩ := hM
    rw [e, Maps.size_eq, length_sorted]
    simpa using h3
  have ln : ∀ ty, (Builtin.len_ #[57] ty #[.map (some mb)]).run Tryz.prog W = .ok (.int .i64 (Maps.size D : Int)) W := fun ty => hM.len Tryz.underlying57 ty
  obtain ⟨i0, hi, hz0, hz1, hz2⟩ := info_parts Tryz.info34c
  obtain ⟨w3, mk, ow, gr⟩ := run_make_own (P := Tryz.prog) W w.heap.size 48 34 i0 _ 5 Tryz.underlying48 hi hz0 hz1 .i64 .i64 (Maps.size D) (by rw [hz2]; omega) (by unfold maxLen; omega) KZ.size
  have K3 : Kept (fun _ => False) W w3 := (Kept.refl _ W).grown gr (fun k _ z => by cases z)
  obtain ⟨cp, hcp⟩ : ∃ cp, cp = Maps.size D := ⟨_, rfl⟩
  obtain ⟨g0, hg0⟩ : ∃ g0, g0 = W.heap.size := ⟨_, rfl⟩
  rw [← hcp, ← hg0] at mk ow
  have ln2 : ∀ ty, (Builtin.len_ #[57] ty #[.map (some mb)]).run Tryz.prog W = .ok (.int .i64 (cp : Int)) W := fun ty => by rw [hcp]; exact ln ty
  have H : Hid (TM 31 tl TFit Hd.val RH w3 mb n M ∧ w3.ownsRow w.heap.size 34 5 (.slice (some ⟨g0, 0, none⟩) 0 cp) 0 [] ∧ Kept (fun _ => False) w w3 ∧ w3.heap[w.heap.size]? = some (.cells #[.map (some mb), .pointer (some ⟨sb, 0, none⟩)] 60 (0, 0)) ∧ g0 < w3.heap.size ∧ mb < w.heap.size ∧ DataAt w M dat ∧ n ≤ 4398046511104) := by
    refine ⟨(h.tm.kept KZ (fun z => z)).kept K3 (fun z => z), ow, KZ.and0 K3, K3.get bW (fun z => z), ?_, h.lt (.inl rfl), hd, hn⟩
    exact (own_lt ow g0 rfl).2
  have EW : Hid (W = w.alloc (.cells #[.map (some mb), .pointer (some ⟨sb, 0, none⟩)] 60)) := hW
  have c0 := cell_blk bW 0 (v := .map (some mb)) rfl
  have d0 := cell_blk H.out.2.2.2.1 0 (v := .map (some mb)) rfl
  clear h hd hn KZ bW hM sM hz ln hi hz0 hz1 hz2 ow gr K3 hcp hg0 hW
  dsimp only
  go_enter Tryz.func34, Tryz.ntmps34
  go_upto_region 1 with fail
  rw [← EW.out]
  go_wp2_with
    (first
      | (at_range; refine wpList_rng tagsK _ rfl _ rfl mb n M rfl H.out.1 ?_; intro w4 hrg0 hk0 hs0)
      | fail)
  obtain ⟨rr, hrr⟩ : ∃ rr, rr = w3.heap.size := ⟨_, rfl⟩
  rw [← hrr]
  have I0 : Hid (∃ cnt0, cnt0 ≤ n ∧ EI w mb rr n cnt0 M dat (.slice (some ⟨g0, 0, none⟩) 0 cp) w4 cnt0 ∧ w.heap.size ≤ rr) := by
    obtain ⟨cnt, g⟩ := hrg0.out
    rw [← hrr] at g
    have hl := H.out.2.2.2.2.1
    refine ⟨cnt, g.cnt_le, ⟨some ⟨g0, 0, none⟩, cp, [], _, rfl, g, ⟨fun t k hm => .inl (by rw [hm]; simp), fun e he => (by cases he), by simp⟩, hk0.out.owns H.out.2.1 (fun _ _ z => z), H.out.2.2.1.and0 hk0.out, by simp, fun z => ?_, by simp, fun e he => (by cases he)⟩, ?_⟩
    · have z : g0 = rr := Option.some.inj z
      omega
    · have := H.out.2.2.1.size
      omega
  obtain ⟨cnt0, hc0, hI0, hrl⟩ := I0.out
  have C0 : Hid (cnt0 ≤ n ∧ EI w mb rr n cnt0 M dat (.slice (some ⟨g0, 0, none⟩) 0 cp) w4 cnt0 ∧ w.heap.size ≤ rr) := ⟨hc0, hI0, hrl⟩
  clear hrg0 hk0 hs0 hrr I0 hc0 hI0 hrl c0 d0 mk ln2
  (try go_frame)
  go_loopw [3] (fun v wr => ∃ cnt, Hid (EI w mb rr n cnt0 M dat v wr cnt)) (fun _ wr => wr.rangeLeft mb rr)
  case atStart => exact ⟨cnt0, C0.out.2.1⟩
  case round =>
    obtain ⟨cnt, I⟩ := hrel
    obtain ⟨wq, rfl⟩ : ∃ wq : World, wq = wr := ⟨_, rfl⟩
    obtain ⟨p, c1, L, Lf, ev, rg, ge, ow, Kq, hb, nb, np, eo⟩ := I.out
    subst ev
    obtain ⟨g, rfl⟩ : ∃ g, p = some ⟨g, 0, none⟩ := by
      rcases ow.2 with ⟨e0, _⟩ | ⟨g, _, _, e0, _⟩
      · simp at e0; exact absurd e0.1 np
      · simp at e0; exact ⟨g, e0.1⟩
    obtain ⟨kk, hkk⟩ : ∃ kk, kk = L.length := ⟨_, rfl⟩
    have HK : Hid (kk = L.length) := hkk
    rw [← hkk] at ow hb
    rw [← hkk]
    have J : Hid (RG 31 tl TFit Hd.val RH wq mb rr n M Lf cnt ∧ GE M Lf L ∧ wq.ownsRow w.heap.size 34 5 (.slice (some ⟨g, 0, none⟩) kk c1) kk (ecells L) ∧ Kept (fun _ => False) w wq ∧ kk + cnt ≤ cnt0 ∧ g ≠ rr) := ⟨rg, ge, ow, Kq, hb, fun z => nb (by rw [z]; rfl)⟩
    have EO : Hid (EOK wq L dat) := eo
    clear rg ge ow Kq hb nb np hkk eo
    go_wp2_with
      (first
        | (at_next; refine wpList_nxt tagsK _ rfl _ rfl mb rr n M Lf cnt rfl J.out.1 ?_ ?_)
        | fail)
    · intro hdn
      go_wp2_with fail
      have BL : kk * 48 ≤ 281474976710656 := by
        have h1 := J.out.2.2.2.2.1
        have h2 := C0.out.1
        have h3 := H.out.2.2.2.2.2.2.2
        omega
      refine (sortE g kk c1 w.heap.size L wq J.out.2.2.1 BL).mono ?_
      rintro o w8 ⟨rfl, L', P, srt, ow', K8⟩
      have F8 : Hid (GE M (fun _ => False) L' ∧ (L'.Pairwise fun x y => ¬ tc y.1 x.1 < 0) ∧ w8.ownsRow w.heap.size 34 5 (.slice (some ⟨g, 0, none⟩) kk c1) kk (ecells L') ∧ Kept (fun _ => False) w w8 ∧ L'.length = kk ∧ EOK w8 L' dat) := by
        obtain ⟨D', _, sD⟩ := J.out.1.tm
        refine ⟨J.out.2.1.done P sD.2 (fun t ht => hdn.out t.1 t.2 ht), srt, ow', J.out.2.2.2.1.trans K8 (fun j hj z => ?_), P.length_eq.trans HK.out.symm, (EO.out.off K8 (fun k cs hc z => ?_)).perm P⟩
        · have z : j = g := z
          have := (own_lt J.out.2.2.1 g rfl).1
          omega
        · have z : k = g := z
          obtain ⟨c2, h2⟩ := own_type J.out.2.2.1 g rfl
          rw [z, h2] at hc
          simp at hc
      clear P srt ow' K8 BL
      go_wp2_with fail
      go_ret
      exact ⟨some ⟨g, 0, none⟩, c1, L', by rw [F8.out.2.2.2.2.1]; rfl, F8.out.1, F8.out.2.1, by rw [F8.out.2.2.2.2.1]; exact F8.out.2.2.1, F8.out.2.2.2.1, F8.out.2.2.2.2.2⟩
    · intro ta tb hd w5 cnt5 hk hrg hlt hK hen
      obtain ⟨df, dh, da, dn, dc⟩ := hd
      replace hen : (Instr.entry (.pointer (some ⟨rr, 0, none⟩))).run Tryz.prog w5 = .ok (.tuple #[.agg #[.int .i64 ta, .int .i64 tb], .agg #[.bool df, .bool dh, .slice da dn dc]]) w5 := hen
      dsimp only [tv, Hd.val]
      obtain ⟨rl, hdn⟩ := H.out.2.2.2.2.2.2.1 (ta, tb) _ hk.out.2.2
      obtain ⟨l, hl⟩ : ∃ l, l = dat (ta, tb) := ⟨_, rfl⟩
      rw [← hl] at rl
      have HLD : Hid (l = dat (ta, tb)) := hl
      clear hl
      obtain ⟨W6, hW6⟩ : ∃ W6, W6 = (w5.alloc (.cells #[.int .i64 ta, .int .i64 tb] 31)).alloc (.cells #[.bool df, .bool dh, .slice da dn dc] 87) := ⟨_, rfl⟩
      obtain ⟨b6, hb6⟩ : ∃ b6, b6 = w5.heap.size := ⟨_, rfl⟩
      have GR : Hid (w.heap.size ≤ g ∧ g ≠ rr ∧ rr < wq.heap.size ∧ g < wq.heap.size) := ⟨(own_lt J.out.2.2.1 g rfl).1, J.out.2.2.2.2.2, J.out.1.lt.1, (own_lt J.out.2.2.1 g rfl).2⟩
      have J6 : Hid (RG 31 tl TFit Hd.val RH W6 mb rr n M (fun j => Lf j ∧ j ≠ (ta, tb)) cnt5 ∧ W6.ownsRow w.heap.size 34 5 (.slice (some ⟨g, 0, none⟩) kk c1) kk (ecells L) ∧ Kept (fun _ => False) w W6 ∧ W6.heap[b6]? = some (.cells #[.int .i64 ta, .int .i64 tb] 31 (0, 0)) ∧ W6.heap[b6 + 1]? = some (.cells #[.bool df, .bool dh, .slice da dn dc] 87 (0, 0)) ∧ Reads W6 da dn dc l ∧ dn ≤ 140737488355328 ∧ rr < W6.heap.size) := by
        have K56 : Kept (fun _ => False) w5 W6 := by rw [hW6]; exact ((Kept.refl _ _).alloc _).alloc _
        have K5 : Kept (fun _ => False) w w5 := J.out.2.2.2.1.trans hK.out (fun j hj z => by have z : j = rr := z; have := C0.out.2.2; omega)
        have K6 := K5.and0 K56
        refine ⟨hrg.out.kept K56 (fun z => z) (fun z => z), K56.owns (hK.out.owns J.out.2.2.1 (fun k hk z => ?_)) (fun _ _ z => z), K6, by rw [hW6, hb6]; exact two0 _ _ _, by rw [hW6, hb6]; exact two1 _ _ _, rl.kept' K6 (fun _ _ z => z), hdn, ?_⟩
        · have z : k = rr := z
          have hk : some g = some k := hk
          exact GR.out.2.1 ((Option.some.inj hk).trans z)
        · have := hrg.out.lt.1
          have := K56.size
          omega
      have EW6 : Hid (W6 = (w5.alloc (.cells #[.int .i64 ta, .int .i64 tb] 31)).alloc (.cells #[.bool df, .bool dh, .slice da dn dc] 87) ∧ b6 = w5.heap.size) := ⟨hW6, hb6⟩
      clear hW6 hb6 rl hdn
      go_upto_region 5 with fail
      rw [← EW6.out.1, ← EW6.out.2]
      have u0 := cell_blk J6.out.2.2.2.1 0 (v := .int .i64 ta) rfl
      have u1 := cell_blk J6.out.2.2.2.1 1 (v := .int .i64 tb) rfl
      have v0 := cell_blk J6.out.2.2.2.2.1 0 (v := .bool df) rfl
      have v1 := cell_blk J6.out.2.2.2.2.1 1 (v := .bool dh) rfl
      have v2 := cell_blk J6.out.2.2.2.2.1 2 (v := .slice da dn dc) rfl
      clear hen
      go_wp2_with fail
      refine (entry df dh da dn dc ta tb l W6 J6.out.2.2.2.2.2.1 J6.out.2.2.2.2.2.2.1).mono ?_
      rintro o w7 ⟨p7, c7, rfl, ow7, K7⟩
      have J7 : Hid (RG 31 tl TFit Hd.val RH w7 mb rr n M (fun j => Lf j ∧ j ≠ (ta, tb)) cnt5 ∧ w7.ownsRow w.heap.size 34 5 (.slice (some ⟨g, 0, none⟩) kk c1) kk (ecells L) ∧ Kept (fun _ => False) w w7 ∧ rr < w7.heap.size) := ⟨J6.out.1.kept K7 (fun z => z) (fun z => z), K7.owns J6.out.2.1 (fun _ _ z => z), J6.out.2.2.1.and0 K7, by have := K7.size; have := J6.out.2.2.2.2.2.2.2; omega⟩
      have E7 : Hid (EOK w7 L dat ∧ Reads w7 p7 dn c7 l ∧ ∀ k, blockOf p7 = some k → ∃ cs, w7.heap[k]? = some (.cells cs 5 (0, 0))) := by
        have k56 : Kept (fun _ => False) w5 w7 := (show Kept (fun _ => False) w5 W6 by rw [EW6.out.1]; exact ((Kept.refl _ _).alloc _).alloc _).and0 K7
        refine ⟨(EO.out.off hK.out (fun k cs hc z => ?_)).off k56 (fun _ _ _ z => z), ?_, own_type ow7⟩
        · have z : k = rr := z
          obtain ⟨D2, l2, ⟨es2, ck2, si2, se2, c02, _, _, _, _, hm2, _⟩, _⟩ := J.out.1
          rw [z, hm2] at hc
          cases hc
        · obtain ⟨a3, cap3, e3, r3, _⟩ := owns_reads ow7 J6.out.2.2.2.2.2.1.bytes
          simp at e3
          obtain ⟨rfl, rfl⟩ := e3
          exact r3
      have BL : Hid (kk + 1 ≤ maxLen ∧ ((kk + 1) + (kk + 1) / 4 + 192) * 48 ≤ 281474976710656 ∧ kk + 1 + cnt5 ≤ cnt0) := by
        have h1 := J.out.2.2.2.2.1
        have h2 := C0.out.1
        have h3 := H.out.2.2.2.2.2.2.2
        have h4 := hlt.out
        unfold maxLen
        exact ⟨by omega, by omega, by omega⟩
      clear ow7 K7 u0 u1 v0 v1 v2
      go_wp2_with
        (first
          | (at_builtin; refine wpList_append_all _ rfl (.tmp 18) (.tmp 22) 48 34 48 _ 5 48 rfl Tryz.underlying48 Tryz.info34c rfl w.heap.size (.slice (some ⟨g, 0, none⟩) kk c1) kk (ecells L) rfl ((k0_alloc w7 _).owns J7.out.2.1 (fun _ _ z => z)) _ 1 (encE ((ta, tb), df, dh, p7, dn, c7)) rfl (src_ent (heap_alloc_new w7 _)) BL.out.1 BL.out.2.1 (Nat.le_trans J7.out.2.2.1.size (k0_alloc w7 _).size) ?_; intro p9 c9 w9 ho hg hn; go_frame)
          | fail)
      have O9 : w9.ownsRow w.heap.size 34 5 (.slice p9 (kk + 1) c9) (kk + 1) (ecells (L ++ [((ta, tb), df, dh, p7, dn, c7)])) := by
        rw [ecells_append]
        have e : ecells [((ta, tb), df, dh, p7, dn, c7)] = encE ((ta, tb), df, dh, p7, dn, c7) := by simp [ecells]
        rw [e]
        exact ho.out
      have KG : Kept (fun k => k = g) w7 w9 := ((Kept.refl (fun k => k = g) w7).alloc _).grown hg.out (fun k _ z => by simp [Value.ownBlock] at z; exact z.symm)
      have eL : (L ++ [((ta, tb), df, dh, p7, dn, c7)]).length = kk + 1 := by rw [List.length_append, HK.out]; rfl
      have R9 : RG 31 tl TFit Hd.val RH w9 mb rr n M (fun j => Lf j ∧ j ≠ (ta, tb)) cnt5 := J7.out.1.kept KG (fun z => by have z : mb = g := z; have := H.out.2.2.2.2.2.1; have := GR.out.1; omega) (fun z => GR.out.2.1 z.symm)
      go_roundw
      case rel =>
        refine ⟨cnt5, p9, c9, L ++ [((ta, tb), df, dh, p7, dn, c7)], _, by rw [eL], R9, J.out.2.1.more (h := ⟨df, dh, da, dn, dc⟩) hk.out.2.1 hk.out.2.2 p7 c7, by rw [eL]; exact O9, J7.out.2.2.1.trans KG (fun j hj z => ?_), by rw [eL]; exact BL.out.2.2, fun z => ?_, fun z => ?_, ?_⟩
        · have z : j = g := z
          have := GR.out.1
          omega
        · rcases hn.out with e | ⟨e, _⟩
          · rw [blockOf_own, blockOf_own, z] at e
            exact GR.out.2.1 (Option.some.inj e).symm
          · rw [blockOf_own, z] at e
            have e := Option.some.inj e
            have h1 := J7.out.2.2.2
            simp at e
            omega
        · rw [z] at O9
          rcases O9.2 with ⟨e0, _⟩ | ⟨_, _, _, e0, _⟩
          · simp at e0
          · simp at e0
        · have KX : Kept (fun k => k = g) w7 w9 := KG
          have ng : ∀ k cs, w7.heap[k]? = some (.cells cs 5 (0, 0)) → ¬ k = g := fun k cs hc z => by
            obtain ⟨c2, h2⟩ := own_type J7.out.2.1 g rfl
            rw [z, h2] at hc
            simp at hc
          refine (E7.out.1.off KX ng).snoc _ ?_ (fun k hk => ?_)
          · have := E7.out.2.1
            rw [HLD.out] at this
            refine this.kept KX (fun q hq z => ?_)
            obtain ⟨cs, hc⟩ := E7.out.2.2 q.block (by rw [hq]; rfl)
            exact ng _ _ hc z
          · obtain ⟨cs, hc⟩ := E7.out.2.2 k hk
            exact ⟨cs, KX.get hc (ng _ _ hc)⟩
      case measure =>
        rw [R9.left_eq, J.out.1.left_eq]
        exact hlt.out
end Go.Proofs.YtojepeefphbekabGreat
