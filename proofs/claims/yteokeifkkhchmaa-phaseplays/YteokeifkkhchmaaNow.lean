import Derived.Test.YteokeifkkhchmaaSort
import Derived.Deep.DeepAppendWide
namespace Go.Proofs.Yteokeifkkhchmaa
open Go.RowKit 

theorem append_all {P : Program} (w : World) (base : Nat) (t tx ty e : TypeId) (i : TypeInfo) (z : Value) (size bytes : Nat) (ht : P.underlying t = some (.slice e)) (hi : P.info? e = some i) (hz : i.zero = some z)
    (hsize : i.size = size) (hby : i.bytes = bytes) (hzs : z.cells.size = size)
    (v : Value) (n : Nat) (xs : List Value) (hown : w.ownsRow base e size v n xs)
    (x : Value) (m : Nat) (news : List Value) (hs : Src P size tx x m news w)
    (h63 : n + m ≤ maxLen) (hbytes : ((n + m) + (n + m) / 4 + 192) * bytes ≤ 281474976710656) (hbase : base ≤ w.heap.size) :
    ∃ v' w', (Builtin.append_ #[t, tx] ty #[v, x]).run P w = .ok v' w' ∧ w'.ownsRow base e size v' (n + m) (xs ++ news) ∧ w.grownBy w' v.ownBlock ∧
      (v' = .slice none 0 0 ↔ v = .slice none 0 0 ∧ m = 0) ∧ (v'.ownBlock = v.ownBlock ∨ (v'.ownBlock = some w.heap.size ∧ w.grownBy w' none)) := by
  subst hby
  subst hsize
  have hsmall : n + m ≤ 9223372036854775807 := by simp only [maxLen] at h63; omega
  have hl : news.length = m * i.size := by simpa using hs.newsLen
  have hx0 : xs.length = n * i.size := by simpa using hown.1
  have hlen : (xs ++ news).length = (n + m) * i.size := by rw [List.length_append, hx0, hl, Nat.add_mul]
  have grown : ∀ (old : Nat), old < n + m → ∀ (row : Option Nat),
      (w.drew.alloc (.cells ((xs ++ news).toArray ++ Builtin.zeroCells z.cells (grownCap w (n + m) old e - (n + m))) e)).ownsRow base e i.size
        (.slice (some ⟨w.heap.size, 0, none⟩) (n + m) (grownCap w (n + m) old e)) (n + m) (xs ++ news) ∧
      w.grownBy (w.drew.alloc (.cells ((xs ++ news).toArray ++ Builtin.zeroCells z.cells (grownCap w (n + m) old e - (n + m))) e)) row := by
    intro old ho row
    have hge := grownCap_ge w (n + m) old e
    have hcm : grownCap w (n + m) old e ≤ maxLen := grownCap_le_maxLen w (n + m) old e h63
    refine ⟨⟨hlen, .inr ⟨w.heap.size, _, _, rfl, hbase, heap_alloc_new w.drew _, hge, hcm, ?_, ?_⟩⟩, ⟨rfl, rfl, rfl, by simp, fun k hk _ => _root_.Go.heap_alloc_old w.drew _ hk⟩⟩
    · simp only [Array.size_append, List.size_toArray, size_zeroCells, hzs, hlen, ← Nat.add_mul]
      congr 1
      omega
    · simp only [Array.toList_append]
      rw [← hlen]
      exact List.take_left
  have growrun : ∀ (bs : Option Addr) (cap : Nat), cap < n + m → n ≤ cap →
      (Builtin.firstCells i.size n (.slice bs n cap)).run P w.drew = .ok xs.toArray w.drew → v = .slice bs n cap →
      ∃ v' w', (Builtin.append_ #[t, tx] ty #[v, x]).run P w = .ok v' w' ∧ w'.ownsRow base e i.size v' (n + m) (xs ++ news) ∧ w.grownBy w' v.ownBlock ∧
        (v' = .slice none 0 0 ↔ v = .slice none 0 0 ∧ m = 0) ∧ (v'.ownBlock = v.ownBlock ∨ (v'.ownBlock = some w.heap.size ∧ w.grownBy w' none)) := by
    intro bs cap hc hnc hold hv
    have hr := run_append_grow_src (P := P) w t tx ty e i z ht hi hz bs n cap xs hold x m news hs hc (by omega) (growslice_fits_wide (by omega) hbytes)
    have hgr := grown cap hc v.ownBlock
    refine ⟨_, _, hv ▸ hr, hgr.1, hgr.2, ?_, .inr ⟨rfl, (grown cap hc none).2⟩⟩
    subst hv
    simp
    intro _ h0 h1
    omega
  rcases hown.2 with ⟨rfl, rfl⟩ | ⟨g, cap, cur, rfl, hbg, hg, hnc, hcm, hcs, htake⟩
  · have hx : xs = [] := List.eq_nil_of_length_eq_zero (by simpa using hx0)
    subst hx
    by_cases hm : m = 0
    · subst hm
      have hn : news = [] := List.eq_nil_of_length_eq_zero (by simpa using hl)
      subst hn
      refine ⟨.slice none 0 0, w, ?_, World.ownsRow_nil w base e i.size, ⟨rfl, rfl, rfl, Nat.le_refl _, fun _ _ _ => rfl⟩, by simp, Or.inl rfl⟩
      rcases hs.kind with ⟨e', hk⟩ | hk <;> simp [Builtin.append_, run_underlying ht, run_underlying hk, sizeOf, typeInfo, hi, hs.len, hs.cells]
    · exact growrun none 0 (by omega) (by omega) (run_firstCells_none w.drew i.size 0 0 0) rfl
  · by_cases hroom : n + m ≤ cap
    · have hfit : n * i.size + news.length ≤ cur.size := by rw [hl, hcs, ← Nat.add_mul]; exact Nat.mul_le_mul_right _ hroom
      have hst := run_storeCells_at P g (n * i.size) e news 0 cur w hg (by simpa using hfit) hs.one
      simp only [Nat.add_zero] at hst
      have hr : (Builtin.append_ #[t, tx] ty #[.slice (some ⟨g, 0, none⟩) n cap, x]).run P w =
          .ok (.slice (some ⟨g, 0, none⟩) (n + m) cap) (w.setRow g (cur.toList.take (n * i.size) ++ news ++ cur.toList.drop (n * i.size + news.length)).toArray) := by
        rcases hs.kind with ⟨e', hk⟩ | hk <;> simp [Builtin.append_, run_underlying ht, run_underlying hk, sizeOf, typeInfo, hi, hs.len, hroom, hs.cells, Addr.add_lit, hst]
      refine ⟨_, _, hr, ⟨hlen, .inr ⟨g, cap, _, rfl, hbg, setRow_heap w g cur _ e _ hg, hroom, hcm, ?_, ?_⟩⟩, ⟨rfl, rfl, rfl, by simp, fun k _ hk => setRow_other w g k _ (fun e => hk (by simp [Value.ownBlock, e]))⟩, by simp, Or.inl rfl⟩
      · simp only [List.size_toArray, List.length_append, List.length_take, List.length_drop, Array.length_toList]
        omega
      · rw [htake, ← hlen]
        exact List.take_left
    · have holds : ∀ j u, xs[j]? = some u → w.drew.cell? ((⟨g, 0, none⟩ : Addr).add j) = some u := hown.cells (g := g) rfl
      exact growrun (some ⟨g, 0, none⟩) cap (by omega) hnc (run_firstCells_some w.drew i.size n ⟨g, 0, none⟩ n cap xs (by simpa using hx0) holds) rfl
/-- append onto an owned row, at the operation. -/
theorem wpList_append_all {ops : Array Oper} {rest : List Oper} {o : Oper} {a : Act} {Q : Exit → Act → World → Prop} (w : World) (hgd : o.guard = none) (s x : Operand) (t e tx : TypeId) (z : Value) (size bytes : Nat)
    (ho : o.op = .call { callee := .builtin .append, args := #[s, x], argTypes := #[t, tx] }) (ht : Try.prog.underlying t = some (.slice e)) (hinfo : (Try.prog.info? e).map (fun i => (i.zero, i.size, i.bytes)) = some (some z, size, bytes)) (hzs : z.cells.size = size)
    (base : Nat) (v : Value) (n : Nat) (xs : List Value) (hs : a.eval s = v) (hown : w.ownsRow base e size v n xs)
    (y : Value) (m : Nat) (news : List Value) (hx : a.eval x = y) (r : Src Try.prog size tx y m news w)
    (h63 : n + m ≤ maxLen) (hbytes : ((n + m) + (n + m) / 4 + 192) * bytes ≤ 281474976710656) (hbase : base ≤ w.heap.size)
    (h : ∀ p c w', Hid (w'.ownsRow base e size (.slice p (n + m) c) (n + m) (xs ++ news)) → Hid (w.grownBy w' v.ownBlock) → Hid ((Value.slice p (n + m) c).ownBlock = v.ownBlock ∨ ((Value.slice p (n + m) c).ownBlock = some w.heap.size ∧ w.grownBy w' none)) → wpList Try.prog ops Q rest (a.put o.dst (.slice p (n + m) c)) w') : wpList Try.prog ops Q (o :: rest) a w := by
  obtain ⟨i, hi, hz, hsize, hby⟩ := info_parts hinfo
  obtain ⟨v', w', hr, h2, h3, _, h5⟩ := append_all (P := Try.prog) w base t tx o.type e i z size bytes ht hi hz hsize hby hzs v n xs hown y m news r h63 hbytes hbase
  refine wpList_plain hgd fun K hK => ?_
  unfold Oper.wp execOp
  simp only [ho, resolve, invoke, builtin, Sem.run_bind, Sem.run_pure, Result.andThen_ok, List.map_toArray, List.map_cons, List.map_nil, hs, hx, hr]
  obtain ⟨p, c, rfl⟩ : ∃ p c, v' = .slice p (n + m) c := by
    rcases h2.2 with ⟨rfl, e⟩ | ⟨g, cap, cur, rfl, _⟩
    · exact ⟨none, 0, by rw [e]⟩
    · exact ⟨_, _, rfl⟩
  exact hK _ _ (h p c w' h2 h3 h5)
theorem blockOf_own (a : Option Addr) (n c : Nat) : (Value.slice a n c).ownBlock = blockOf a := by cases a <;> rfl
theorem own_lt {w : World} {base : Nat} {e : TypeId} {s : Nat} {a : Option Addr} {n c : Nat} {xs : List Value} (h : w.ownsRow base e s (.slice a n c) n xs) : ∀ k, blockOf a = some k → base ≤ k ∧ k < w.heap.size := fun k hk => h.lt k (by rw [blockOf_own]; exact hk)
theorem own_type {w : World} {base : Nat} {e : TypeId} {s : Nat} {a : Option Addr} {n c : Nat} {xs : List Value} (h : w.ownsRow base e s (.slice a n c) n xs) : ∀ k, blockOf a = some k → ∃ cs, w.heap[k]? = some (.cells cs e (0, 0)) := fun k hk => by
  rcases h.2 with ⟨e0, _⟩ | ⟨g, cap, cur, e0, _, hg, _⟩
  · simp at e0; rw [e0.1] at hk; simp [blockOf] at hk
  · simp at e0; rw [e0.1] at hk; simp [blockOf] at hk; subst hk; exact ⟨_, hg⟩
theorem own_room {w : World} {base : Nat} {e : TypeId} {s : Nat} {a : Option Addr} {n c : Nat} {xs : List Value} (h : w.ownsRow base e s (.slice a n c) n xs) : n ≤ c ∧ c ≤ maxLen := by
  rcases h.2 with ⟨e0, e1⟩ | ⟨g, cap, cur, e0, _, _, h1, h2, _⟩
  · simp at e0; obtain ⟨_, rfl, rfl⟩ := e0; exact ⟨Nat.le_refl _, by unfold maxLen; omega⟩
  · simp at e0; obtain ⟨_, rfl⟩ := e0; exact ⟨h1, h2⟩

theorem Try.info74c : (Try.prog.info? 74).map (fun i => (i.zero, i.size, i.bytes)) = some (some (.agg #[.int .i64 0, .int .i64 0]), 2, 16) := by kernel_rfl
/-- All answers, by rising servers. -/
def prs (M : Int → Option Int) : Nat → List (Int × Int)
  | 0 => []
  | n + 1 => prs M n ++ (match M (n : Int) with | some v => [((n : Int), v)] | none => [])
theorem prs_some (M : Int → Option Int) (n : Nat) (v : Int) (h : M (n : Int) = some v) : prs M (n + 1) = prs M n ++ [((n : Int), v)] := by
  show prs M n ++ _ = _
  rw [h]
theorem prs_none (M : Int → Option Int) (n : Nat) (h : M (n : Int) = none) : prs M (n + 1) = prs M n := by
  show prs M n ++ _ = _
  rw [h, List.append_nil]
theorem prs_mem (M : Int → Option Int) (n : Nat) (e : Int × Int) : e ∈ prs M n ↔ 0 ≤ e.1 ∧ e.1 < (n : Int) ∧ M e.1 = some e.2 := by
  induction n with
  | zero => constructor
            · intro h; cases h
            · intro h; omega
  | succ n ih =>
    cases h : M (n : Int) with
    | none =>
      rw [prs_none M n h, ih]
      constructor
      · intro ⟨a, b, c⟩; exact ⟨a, by omega, c⟩
      · intro ⟨a, b, c⟩
        refine ⟨a, ?_, c⟩
        by_cases e1 : e.1 = (n : Int)
        · rw [e1, h] at c; cases c
        · omega
    | some v =>
      rw [prs_some M n v h, List.mem_append, ih, List.mem_singleton]
      constructor
      · rintro (⟨a, b, c⟩ | rfl)
        · exact ⟨a, by omega, c⟩
        · exact ⟨by show (0 : Int) ≤ (n : Int); omega, by show (n : Int) < _; omega, h⟩
      · intro ⟨a, b, c⟩
        by_cases e1 : e.1 = (n : Int)
        · right
          rw [e1, h] at c
          exact Prod.ext e1 (Option.some.inj c).symm
        · left; exact ⟨a, by omega, c⟩
theorem prs_up (M : Int → Option Int) (n : Nat) : (prs M n).Pairwise fun x y => x.1 < y.1 := by
  induction n with
  | zero => exact List.Pairwise.nil
  | succ n ih =>
    cases h : M (n : Int) with
    | none => rw [prs_none M n h]; exact ih
    | some v =>
      rw [prs_some M n v h, List.pairwise_append]
      refine ⟨ih, List.pairwise_singleton _ _, fun x hx y hy => ?_⟩
      rw [List.mem_singleton] at hy
      subst hy
      exact ((prs_mem M n x).1 hx).2.1
theorem prs_len (M : Int → Option Int) (n : Nat) : (prs M n).length = cntM M n := by
  induction n with
  | zero => rfl
  | succ n ih =>
    rw [cntM_succ]
    cases h : M (n : Int) with
    | none => rw [prs_none M n h, ih]; rfl
    | some v => rw [prs_some M n v h, List.length_append, ih]; rfl
/-- Rising lists with the same members are one. -/
theorem rise_eq : ∀ (A B : List (Int × Int)), (A.Pairwise fun x y => x.1 < y.1) → (B.Pairwise fun x y => x.1 < y.1) → (∀ e, e ∈ A ↔ e ∈ B) → A = B
  | [], [], _, _, _ => rfl
  | [], b :: B, _, _, h => by have := (h b).2 List.mem_cons_self; cases this
  | a :: A, [], _, _, h => by have := (h a).1 List.mem_cons_self; cases this
  | a :: A, b :: B, hA, hB, h => by
    have pA := List.pairwise_cons.1 hA
    have pB := List.pairwise_cons.1 hB
    have e : a = b := by
      rcases List.mem_cons.1 ((h a).1 List.mem_cons_self) with e | e
      · exact e
      · rcases List.mem_cons.1 ((h b).2 List.mem_cons_self) with e' | e'
        · exact e'.symm
        · have := pB.1 a e; have := pA.1 b e'; omega
    subst e
    have t : A = B := rise_eq A B pA.2 pB.2 (fun x => ⟨fun hx => by
      rcases List.mem_cons.1 ((h x).1 (List.mem_cons_of_mem _ hx)) with e | e
      · subst e; have := pA.1 x hx; omega
      · exact e, fun hx => by
      rcases List.mem_cons.1 ((h x).2 (List.mem_cons_of_mem _ hx)) with e | e
      · subst e; have := pB.1 x hx; omega
      · exact e⟩)
    rw [t]
/-- What has been gathered. -/
structure GE (M : Int → Option Int) (Lf : Int → Prop) (L : List (Int × Int)) : Prop where
  all : ∀ k v, M k = some v → Lf k ∨ (k, v) ∈ L
  each : ∀ e ∈ L, ¬ Lf e.1 ∧ M e.1 = some e.2
  one : (L.map fun e => e.1).Nodup
theorem GE.more {M : Int → Option Int} {Lf : Int → Prop} {L : List (Int × Int)} (g : GE M Lf L) {k v : Int} (hl : Lf k) (hm : M k = some v) : GE M (fun j => Lf j ∧ j ≠ k) (L ++ [(k, v)]) := by
  refine ⟨fun s u hs => ?_, fun e he => ?_, ?_⟩
  · by_cases e : s = k
    · subst e
      rw [hm] at hs
      have := Option.some.inj hs
      subst this
      exact .inr (List.mem_append.2 (.inr (List.mem_singleton.2 rfl)))
    · rcases g.all s u hs with z | z
      · exact .inl ⟨z, e⟩
      · exact .inr (List.mem_append.2 (.inl z))
  · rcases List.mem_append.1 he with z | z
    · exact ⟨fun q => (g.each e z).1 q.1, (g.each e z).2⟩
    · rw [List.mem_singleton.1 z]
      exact ⟨fun q => q.2 rfl, hm⟩
  · rw [List.map_append]
    refine List.nodup_append.2 ⟨g.one, by simp, fun a ha b hb => ?_⟩
    simp at hb
    subst hb
    intro e
    obtain ⟨e', h1, h2⟩ := List.mem_map.1 ha
    rw [e] at h2
    have := (g.each e' h1).1
    rw [h2] at this
    exact this hl
theorem GE.done {M : Int → Option Int} {Lf : Int → Prop} {L L' : List (Int × Int)} {N : Nat} (g : GE M Lf L) (P : L'.Perm L) (srt : L'.Pairwise fun x y => ¬ icmp y.1 x.1 < 0) (dom : ∀ k v, M k = some v → 0 ≤ k ∧ k < (N : Int)) (no : ∀ k v, M k = some v → ¬ Lf k) : L' = prs M N := by
  have nd : (L'.map fun e => e.1).Nodup := (P.map _).nodup_iff.2 g.one
  refine rise_eq L' (prs M N) ?_ (prs_up M N) (fun e => ?_)
  · have n2 := List.pairwise_map.1 nd
    exact (srt.and n2).imp (fun {x y} h => by have := h.1; rw [icmp_neg] at this; have := h.2; omega)
  · rw [prs_mem, P.mem_iff]
    constructor
    · intro h
      have := (g.each e h).2
      have d := dom _ _ this
      exact ⟨d.1, d.2, this⟩
    · intro ⟨_, _, h⟩
      rcases g.all _ _ h with z | z
      · exact absurd z (no _ _ h)
      · exact z
theorem src_ent {w : World} {b : Nat} {e : Int × Int} (h : w.heap[b]? = some (.cells (encE e).toArray 74 (0, 0))) : Src Try.prog 2 71 (.slice (some ⟨b, 0, none⟩) 1 1) 1 (encE e) w :=
  Src.ofSlice w Try.underlying71 ⟨b, 0, none⟩ 1 1 (encE e) rfl (fun j u hj => by
    rw [Addr.add_none, Nat.zero_add, cell_of_row w b j _ 74 (0, 0) h]
    simpa using hj) (fun v hv => by simp [encE] at hv; rcases hv with rfl | rfl <;> rfl)
/-- The round's state. -/
def EI (w : World) (mb rr n cnt0 : Nat) (M : Int → Option Int) (v : Value) (wr : World) (cnt : Nat) : Prop :=
  ∃ (p : Option Addr) (cp : Nat) (L : List (Int × Int)) (Lf : Int → Prop), v = .slice p L.length cp ∧ RG 3 (Lit.int .i64) KF (Value.int .i64) RI wr mb rr n M Lf cnt ∧ GE M Lf L ∧ wr.ownsRow w.heap.size 74 2 (.slice p L.length cp) L.length (ecells L) ∧ Kept (fun _ => False) w wr ∧ L.length + cnt ≤ cnt0 ∧ blockOf p ≠ some rr ∧ p ≠ none
set_option maxRecDepth 100000 in
set_option maxHeartbeats 2000000 in
theorem now {pb mb : Nat} {N Q : Int} {M : Int → Option Int} (w : World) (h : IsP 49 (Value.int .i64) RI w pb mb N Q M) : Calls Try.prog 31 #[.pointer (some ⟨pb, 0, none⟩)] w fun o w' => ∃ g cp, o = .returned (.slice (some ⟨g, 0, none⟩) (cntM M N.toNat) cp) ∧ w'.ownsRow w.heap.size 74 2 (.slice (some ⟨g, 0, none⟩) (cntM M N.toNat) cp) (cntM M N.toNat) (ecells (prs M N.toNat)) ∧ Kept (fun _ => False) w w' := by
  have H0 : Hid (IsP 49 (Value.int .i64) RI w pb mb N Q M) := h
  obtain ⟨n, hn⟩ : ∃ n, n = cntM M N.toNat := ⟨_, rfl⟩
  have NB : Hid (n = cntM M N.toNat ∧ n ≤ 255) := ⟨hn, by have := cntM_le M N.toNat; have := h.ok; omega⟩
  have n255 : n ≤ 255 := NB.out.2
  have ln : ∀ ty, (Builtin.len_ #[47] ty #[.map (some mb)]).run Try.prog w = .ok (.int .i64 (n : Int)) w := fun ty => by rw [hn]; exact TM.len intsK h.tm ty
  have c2 := cell_blk h.blk 2 (v := .map (some mb)) rfl
  obtain ⟨i0, hi, hz0, hz1, hz2⟩ := info_parts Try.info74c
  obtain ⟨w3, mk, ow, gr⟩ := run_make_own (P := Try.prog) w w.heap.size 71 74 i0 _ 2 Try.underlying71 hi hz0 hz1 .i64 .i64 n (by rw [hz2]; omega) (by unfold maxLen; omega) (Nat.le_refl _)
  have K3 : Kept (fun _ => False) w w3 := (Kept.refl _ w).grown gr (fun k _ z => by cases z)
  obtain ⟨g0, hg0⟩ : ∃ g0, g0 = w.heap.size := ⟨_, rfl⟩
  rw [← hg0] at mk ow
  have d2 := cell_blk (h.k0 K3).blk 2 (v := .map (some mb)) rfl
  have t3 : TM 3 (Lit.int .i64) KF (Value.int .i64) RI w3 mb n M := by rw [hn]; exact (h.k0 K3).tm
  have H : Hid (TM 3 (Lit.int .i64) KF (Value.int .i64) RI w3 mb n M ∧ w3.ownsRow w.heap.size 74 2 (.slice (some ⟨g0, 0, none⟩) 0 n) 0 [] ∧ Kept (fun _ => False) w w3 ∧ g0 < w3.heap.size ∧ mb < w.heap.size) := by
    refine ⟨t3, by rw [← hg0]; exact ow, K3, ?_, h.lt.2⟩
    exact (own_lt ow g0 rfl).2
  rw [← hn]
  clear h hn hi hz0 hz1 hz2 ow gr K3 hg0 t3
  go_enter Try.func31, Try.ntmps31
  go_wp2_with
    (first
      | (at_range; refine wpList_rng intsK _ rfl _ rfl mb n M rfl H.out.1 ?_; intro w4 hrg0 hk0 hs0)
      | fail)
  obtain ⟨rr, hrr⟩ : ∃ rr, rr = w3.heap.size := ⟨_, rfl⟩
  rw [← hrr]
  have I0 : Hid (∃ cnt0, cnt0 ≤ n ∧ EI w mb rr n cnt0 M (.slice (some ⟨g0, 0, none⟩) 0 n) w4 cnt0 ∧ w.heap.size ≤ rr) := by
    obtain ⟨cnt, g⟩ := hrg0.out
    rw [← hrr] at g
    have hl := H.out.2.2.2.1
    refine ⟨cnt, g.cnt_le, ⟨some ⟨g0, 0, none⟩, n, [], _, rfl, g, ⟨fun t k hm => .inl (by rw [hm]; simp), fun e he => (by cases he), by simp⟩, hk0.out.owns H.out.2.1 (fun _ _ z => z), H.out.2.2.1.and0 hk0.out, by simp, fun z => ?_, by simp⟩, ?_⟩
    · have z : g0 = rr := Option.some.inj z
      omega
    · have := H.out.2.2.1.size
      omega
  obtain ⟨cnt0, hc0, hI0, hrl⟩ := I0.out
  have C0 : Hid (cnt0 ≤ n ∧ EI w mb rr n cnt0 M (.slice (some ⟨g0, 0, none⟩) 0 n) w4 cnt0 ∧ w.heap.size ≤ rr) := ⟨hc0, hI0, hrl⟩
  clear hrg0 hk0 hs0 hrr I0 hc0 hI0 hrl c2 d2 mk ln
  (try go_frame)
  go_loopw [3] (fun v wr => ∃ cnt, Hid (EI w mb rr n cnt0 M v wr cnt)) (fun _ wr => wr.rangeLeft mb rr)
  case atStart => exact ⟨cnt0, C0.out.2.1⟩
  case round =>
    obtain ⟨cnt, I⟩ := hrel
    obtain ⟨wq, rfl⟩ : ∃ wq : World, wq = wr := ⟨_, rfl⟩
    obtain ⟨p, c1, L, Lf, ev, rg, ge, ow, Kq, hb, nb, np⟩ := I.out
    subst ev
    obtain ⟨g, rfl⟩ : ∃ g, p = some ⟨g, 0, none⟩ := by
      rcases ow.2 with ⟨e0, _⟩ | ⟨g, _, _, e0, _⟩
      · simp at e0; exact absurd e0.1 np
      · simp at e0; exact ⟨g, e0.1⟩
    obtain ⟨kk, hkk⟩ : ∃ kk, kk = L.length := ⟨_, rfl⟩
    have HK : Hid (kk = L.length) := hkk
    rw [← hkk] at ow hb
    rw [← hkk]
    have J : Hid (RG 3 (Lit.int .i64) KF (Value.int .i64) RI wq mb rr n M Lf cnt ∧ GE M Lf L ∧ wq.ownsRow w.heap.size 74 2 (.slice (some ⟨g, 0, none⟩) kk c1) kk (ecells L) ∧ Kept (fun _ => False) w wq ∧ kk + cnt ≤ cnt0 ∧ g ≠ rr) := ⟨rg, ge, ow, Kq, hb, fun z => nb (by rw [z]; rfl)⟩
    clear rg ge ow Kq hb nb np hkk
    go_wp2_with
      (first
        | (at_next; refine wpList_nxt intsK _ rfl _ rfl mb rr n M Lf cnt rfl J.out.1 ?_ ?_)
        | fail)
    · intro hdn
      go_wp2_with fail
      have BL : kk * 16 ≤ 281474976710656 := by
        have h1 := J.out.2.2.2.2.1
        have h2 := C0.out.1
        omega
      refine (sortE g kk c1 w.heap.size L wq J.out.2.2.1 BL).mono ?_
      rintro o w8 ⟨rfl, L', P, srt, ow', K8⟩
      have F8 : Hid (w8.ownsRow w.heap.size 74 2 (.slice (some ⟨g, 0, none⟩) kk c1) kk (ecells L') ∧ Kept (fun _ => False) w w8 ∧ L'.length = kk ∧ L' = prs M N.toNat) := by
        obtain ⟨D', _, sD, _⟩ := J.out.1.tm
        have dm : ∀ k v, M k = some v → 0 ≤ k ∧ k < ((N.toNat : Nat) : Int) := fun k v hk => by have := H0.out.dom k v hk; omega
        refine ⟨ow', J.out.2.2.2.1.trans K8 (fun j hj z => ?_), P.length_eq.trans HK.out.symm, J.out.2.1.done P srt dm (fun k v hk => hdn.out k (sD.2 k v hk))⟩
        have z : j = g := z
        have := (own_lt J.out.2.2.1 g rfl).1
        omega
      clear P srt ow' K8 BL
      go_wp2_with fail
      go_ret
      have e : kk = n := by
        rw [← F8.out.2.2.1, F8.out.2.2.2, prs_len]
        exact NB.out.1.symm
      subst e
      exact ⟨g, c1, rfl, by have := F8.out.1; rw [F8.out.2.2.2] at this; exact this, F8.out.2.1⟩
    · intro ta va w5 cnt5 hk hrg hlt hK hen
      have GR : Hid (w.heap.size ≤ g ∧ g ≠ rr ∧ rr < wq.heap.size ∧ g < wq.heap.size) := ⟨(own_lt J.out.2.2.1 g rfl).1, J.out.2.2.2.2.2, J.out.1.lt.1, (own_lt J.out.2.2.1 g rfl).2⟩
      have J7 : Hid (RG 3 (Lit.int .i64) KF (Value.int .i64) RI w5 mb rr n M (fun j => Lf j ∧ j ≠ ta) cnt5 ∧ w5.ownsRow w.heap.size 74 2 (.slice (some ⟨g, 0, none⟩) kk c1) kk (ecells L) ∧ Kept (fun _ => False) w w5 ∧ rr < w5.heap.size) := by
        refine ⟨hrg.out, hK.out.owns J.out.2.2.1 (fun k hk z => ?_), J.out.2.2.2.1.trans hK.out (fun j hj z => by have z : j = rr := z; have := C0.out.2.2; omega), hrg.out.lt.1⟩
        have z : k = rr := z
        have hk : some g = some k := hk
        exact GR.out.2.1 ((Option.some.inj hk).trans z)
      have BL : Hid (kk + 1 ≤ maxLen ∧ ((kk + 1) + (kk + 1) / 4 + 192) * 16 ≤ 281474976710656 ∧ kk + 1 + cnt5 ≤ cnt0) := by
        have h1 := J.out.2.2.2.2.1
        have h2 := C0.out.1
        have h4 := hlt.out
        unfold maxLen
        exact ⟨by omega, by omega, by omega⟩
      go_wp2_with
        (first
          | (at_builtin; refine wpList_append_all _ rfl (.tmp 22) (.tmp 26) 71 74 71 _ 2 16 rfl Try.underlying71 Try.info74c rfl w.heap.size (.slice (some ⟨g, 0, none⟩) kk c1) kk (ecells L) rfl ((k0_alloc w5 _).owns J7.out.2.1 (fun _ _ z => z)) _ 1 (encE (ta, va)) rfl (src_ent (heap_alloc_new w5 _)) BL.out.1 BL.out.2.1 (Nat.le_trans J7.out.2.2.1.size (k0_alloc w5 _).size) ?_; intro p9 c9 w9 ho hg hn)
          | fail)
      have O9 : w9.ownsRow w.heap.size 74 2 (.slice p9 (kk + 1) c9) (kk + 1) (ecells (L ++ [(ta, va)])) := by
        rw [ecells_append]
        have e : ecells [(ta, va)] = encE (ta, va) := by simp [ecells]
        rw [e]
        exact ho.out
      have KG : Kept (fun k => k = g) w5 w9 := ((Kept.refl (fun k => k = g) w5).alloc _).grown hg.out (fun k _ z => by simp [Value.ownBlock] at z; exact z.symm)
      have eL : (L ++ [(ta, va)]).length = kk + 1 := by rw [List.length_append, HK.out]; rfl
      have R9 : RG 3 (Lit.int .i64) KF (Value.int .i64) RI w9 mb rr n M (fun j => Lf j ∧ j ≠ ta) cnt5 := J7.out.1.kept KG (fun z => by have z : mb = g := z; have := H.out.2.2.2.2; have := GR.out.1; omega) (fun z => GR.out.2.1 z.symm)
      go_roundw
      case rel =>
        refine ⟨cnt5, p9, c9, L ++ [(ta, va)], _, by rw [eL], R9, J.out.2.1.more hk.out.2.1 hk.out.2.2, by rw [eL]; exact O9, J7.out.2.2.1.trans KG (fun j hj z => ?_), by rw [eL]; exact BL.out.2.2, fun z => ?_, fun z => ?_⟩
        · have z : j = g := z
          have := GR.out.1
          omega
        · rcases hn.out with e | ⟨e, _⟩
          · rw [blockOf_own, blockOf_own, z] at e
            exact GR.out.2.1 (Option.some.inj e).symm
          · rw [blockOf_own, z] at e
            have e := Option.some.inj e
            have h1 := J7.out.2.2.2
            simp at e
            omega
        · rw [z] at O9
          rcases O9.2 with ⟨e0, _⟩ | ⟨_, _, _, e0, _⟩
          · simp at e0
          · simp at e0
      case measure =>
        rw [R9.left_eq, J.out.1.left_eq]
        exact hlt.out
end Go.Proofs.Yteokeifkkhchmaa
