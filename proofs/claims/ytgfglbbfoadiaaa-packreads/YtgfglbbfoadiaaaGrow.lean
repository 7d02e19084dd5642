import Derived.Test.YtgfglbbfoadiaaaMore
namespace Go.Proofs.Ytgfglbbfoadiaaa
open Go.RowKit

/-- How an append went: a new row; the old row, with the room that it had; nothing onto nil. -/
def Grew (w w' : World) (v v' : Value) (n m : Nat) : Prop :=
  (v'.ownBlock = some w.heap.size ∧ w.grownBy w' none) ∨ (∃ g c, v = .slice (some ⟨g, 0, none⟩) n c ∧ v' = .slice (some ⟨g, 0, none⟩) (n + m) c ∧ w.grownBy w' (some g)) ∨ (v = .slice none 0 0 ∧ v' = .slice none 0 0 ∧ w' = w ∧ m = 0)
/-- append of whatever onto nil or an owned row of one-cell elements: the row is a new one, or the old one with the room that it had. -/
theorem append_two {P : Program} (w : World) (base : Nat) (t tx ty e : TypeId) (i : TypeInfo) (z : Value) (bytes : Nat) (ht : P.underlying t = some (.slice e)) (hi : P.info? e = some i) (hz : i.zero = some z)
    (hsize : i.size = 1) (hby : i.bytes = bytes) (hzs : z.cells.size = 1)
    (v : Value) (n : Nat) (xs : List Value) (hown : w.ownsRow base e 1 v n xs)
    (x : Value) (m : Nat) (news : List Value) (hs : Src P 1 tx x m news w)
    (h63 : n + m ≤ maxLen) (hbytes : (n + m) * bytes ≤ 140737488355328) (hbase : base ≤ w.heap.size) :
    ∃ v' w', (Builtin.append_ #[t, tx] ty #[v, x]).run P w = .ok v' w' ∧ w'.ownsRow base e 1 v' (n + m) (xs ++ news) ∧ Grew w w' v v' n m := by
  subst hby
  have hsmall : n + m ≤ 9223372036854775807 := by simp only [maxLen] at h63; omega
  have hl : news.length = m := by simpa using hs.newsLen
  have hx0 : xs.length = n := by simpa using hown.1
  have hlen : (xs ++ news).length = (n + m) * 1 := by rw [List.length_append, hx0, hl, Nat.mul_one]
  have hs' : Src P i.size tx x m news w := by rw [hsize]; exact hs
  have grown : ∀ (old : Nat), old < n + m → ∀ (row : Option Nat),
      (w.drew.alloc (.cells ((xs ++ news).toArray ++ Builtin.zeroCells z.cells (grownCap w (n + m) old e - (n + m))) e)).ownsRow base e 1
        (.slice (some ⟨w.heap.size, 0, none⟩) (n + m) (grownCap w (n + m) old e)) (n + m) (xs ++ news) ∧
      w.grownBy (w.drew.alloc (.cells ((xs ++ news).toArray ++ Builtin.zeroCells z.cells (grownCap w (n + m) old e - (n + m))) e)) row := by
    intro old ho row
    have hge := grownCap_ge w (n + m) old e
    have hcm : grownCap w (n + m) old e ≤ maxLen := grownCap_le_maxLen w (n + m) old e h63
    refine ⟨⟨hlen, .inr ⟨w.heap.size, _, _, rfl, hbase, heap_alloc_new w.drew _, hge, hcm, ?_, ?_⟩⟩, ⟨rfl, rfl, rfl, by simp, fun k hk _ => _root_.Go.heap_alloc_old w.drew _ hk⟩⟩
    · simp only [Array.size_append, List.size_toArray, size_zeroCells, hzs, hlen]
      omega
    · simp only [Array.toList_append]
      rw [← hlen]
      exact List.take_left
  have growrun : ∀ (bs : Option Addr) (cap : Nat), cap < n + m → n ≤ cap →
      (Builtin.firstCells i.size n (.slice bs n cap)).run P w.drew = .ok xs.toArray w.drew → v = .slice bs n cap →
      ∃ v' w', (Builtin.append_ #[t, tx] ty #[v, x]).run P w = .ok v' w' ∧ w'.ownsRow base e 1 v' (n + m) (xs ++ news) ∧ Grew w w' v v' n m := by
    intro bs cap hc hnc hold hv
    have hr := run_append_grow_src (P := P) w t tx ty e i z ht hi hz bs n cap xs hold x m news hs' hc (by omega) (growslice_fits (by omega) hbytes)
    have hgr := grown cap hc none
    exact ⟨_, _, hv ▸ hr, hgr.1, .inl ⟨rfl, hgr.2⟩⟩
  rcases hown.2 with ⟨rfl, rfl⟩ | ⟨g, cap, cur, rfl, hbg, hg, hnc, hcm, hcs, htake⟩
  · have hx : xs = [] := List.eq_nil_of_length_eq_zero hx0
    subst hx
    by_cases hm : m = 0
    · subst hm
      have hn : news = [] := List.eq_nil_of_length_eq_zero hl
      subst hn
      refine ⟨.slice none 0 0, w, ?_, World.ownsRow_nil w base e 1, .inr (.inr ⟨rfl, rfl, rfl, rfl⟩)⟩
      rcases hs.kind with ⟨e', hk⟩ | hk <;> simp [Builtin.append_, run_underlying ht, run_underlying hk, sizeOf, typeInfo, hi, hs.len, hsize, hs.cells]
    · exact growrun none 0 (by omega) (by omega) (run_firstCells_none w.drew i.size 0 0 0) rfl
  · by_cases hroom : n + m ≤ cap
    · have hfit : n * i.size + news.length ≤ cur.size := by rw [hl, hcs, hsize]; omega
      have hst := run_storeCells_at P g (n * i.size) e news 0 cur w hg (by simpa using hfit) hs.one
      simp only [Nat.add_zero] at hst
      have hr : (Builtin.append_ #[t, tx] ty #[.slice (some ⟨g, 0, none⟩) n cap, x]).run P w =
          .ok (.slice (some ⟨g, 0, none⟩) (n + m) cap) (w.setRow g (cur.toList.take (n * i.size) ++ news ++ cur.toList.drop (n * i.size + news.length)).toArray) := by
        rcases hs.kind with ⟨e', hk⟩ | hk <;> simp [Builtin.append_, run_underlying ht, run_underlying hk, sizeOf, typeInfo, hi, hs'.len, hroom, hs'.cells, Addr.add_lit, hst]
      refine ⟨_, _, hr, ⟨hlen, .inr ⟨g, cap, _, rfl, hbg, setRow_heap w g cur _ e _ hg, hroom, hcm, ?_, ?_⟩⟩, .inr (.inl ⟨g, cap, rfl, rfl, ⟨rfl, rfl, rfl, by simp, fun k _ hk => setRow_other w g k _ (fun e => hk (by simp [e]))⟩⟩)⟩
      · simp only [List.size_toArray, List.length_append, List.length_take, List.length_drop, Array.length_toList]
        rw [hsize] at hfit ⊢
        omega
      · rw [hsize, htake, ← hlen]
        exact List.take_left
    · have holds : ∀ j u, xs[j]? = some u → w.drew.cell? ((⟨g, 0, none⟩ : Addr).add j) = some u := hown.cells (g := g) rfl
      exact growrun (some ⟨g, 0, none⟩) cap (by omega) hnc (run_firstCells_some w.drew i.size n ⟨g, 0, none⟩ n cap xs (by rw [hsize]; simpa using hx0) holds) rfl


/-- append onto an owned row, at the operation; the elements have one cell. -/
theorem wpList_append_two {ops : Array Oper} {rest : List Oper} {o : Oper} {a : Act} {Q : Exit → Act → World → Prop} (w : World) (hgd : o.guard = none) (s x : Operand) (t e tx : TypeId) (z : Value) (bytes : Nat)
    (ho : o.op = .call { callee := .builtin .append, args := #[s, x], argTypes := #[t, tx] }) (ht : Try.prog.underlying t = some (.slice e)) (hinfo : (Try.prog.info? e).map (fun i => (i.zero, i.size, i.bytes)) = some (some z, 1, bytes)) (hzs : z.cells.size = 1)
    (base : Nat) (v : Value) (n : Nat) (xs : List Value) (hs : a.eval s = v) (hown : w.ownsRow base e 1 v n xs)
    (y : Value) (m : Nat) (news : List Value) (hx : a.eval x = y) (r : Src Try.prog 1 tx y m news w)
    (h63 : n + m ≤ maxLen) (hbytes : (n + m) * bytes ≤ 140737488355328) (hbase : base ≤ w.heap.size)
    (h : ∀ p c w', Hid (w'.ownsRow base e 1 (.slice p (n + m) c) (n + m) (xs ++ news)) → Hid (Grew w w' v (.slice p (n + m) c) n m) → wpList Try.prog ops Q rest (a.put o.dst (.slice p (n + m) c)) w') : wpList Try.prog ops Q (o :: rest) a w := by
  obtain ⟨i, hi, hz, hsize, hby⟩ := info_parts hinfo
  obtain ⟨v', w', hr, h2, h3⟩ := append_two (P := Try.prog) w base t tx o.type e i z bytes ht hi hz hsize hby hzs v n xs hown y m news r h63 hbytes hbase
  refine wpList_plain hgd fun K hK => ?_
  unfold Oper.wp execOp
  simp only [ho, resolve, invoke, builtin, Sem.run_bind, Sem.run_pure, Result.andThen_ok, List.map_toArray, List.map_cons, List.map_nil, hs, hx, hr]
  obtain ⟨p, c, rfl⟩ : ∃ p c, v' = .slice p (n + m) c := by
    rcases h2.2 with ⟨rfl, e⟩ | ⟨g, cap, cur, rfl, _⟩
    · exact ⟨none, 0, by rw [e]⟩
    · exact ⟨_, _, rfl⟩
  exact hK _ _ (h p c w' h2 h3)
theorem Grew.kept {w w' : World} {v v' : Value} {n m : Nat} (g : Grew w w' v v' n m) : Kept (fun j => v.ownBlock = some j) w w' := by
  rcases g with ⟨_, q⟩ | ⟨g, c, rfl, _, q⟩ | ⟨_, _, rfl, _⟩
  · exact (Kept.refl _ w).grown q (fun k _ e => by cases e)
  · exact (Kept.refl _ w).grown q (fun k _ e => e)
  · exact Kept.refl _ _
theorem Grew.near {w w' : World} {v v' : Value} {n m : Nat} (g : Grew w w' v v' n m) : Near w v v' := fun k hk => by
  rcases g with ⟨q, _⟩ | ⟨g, c, rfl, rfl, _⟩ | ⟨rfl, rfl, _, _⟩
  · rw [q] at hk; cases hk; exact .inr (Nat.le_refl _)
  · exact .inl hk
  · exact .inl hk
/-- A shorter slice of the same row still reads as its own part. -/
theorem Grew.part {w w' : World} {base : Nat} {e : TypeId} {v v' l : Value} {n m k : Nat} {xs ys zs : List Value} (g : Grew w w' v v' n m) (ho : w.ownsRow base e 1 v n xs) (ho' : w'.ownsRow base e 1 v' (n + m) ys) (hl : w.ownsRow base e 1 l k zs)
    (hk : k ≤ n) (hz : ys.take k = zs) : w'.ownsRow base e 1 l k zs := by
  rcases g with ⟨_, q⟩ | ⟨g, c, rfl, rfl, q⟩ | ⟨_, _, rfl, _⟩
  · exact hl.kept q (by cases l.ownBlock <;> simp)
  · refine ⟨hl.1, ?_⟩
    rcases hl.2 with h0 | ⟨g2, c2, cur, rfl, hb, hg, hkc, hm, hs, ht⟩
    · exact .inl h0
    · by_cases hgg : g2 = g
      · subst hgg
        rcases ho'.2 with ⟨e0, _⟩ | ⟨g3, c3, cur3, e3, hb3, hg3, hn3, hm3, hs3, ht3⟩
        · simp at e0
        · simp at e3
          obtain ⟨rfl, rfl⟩ := e3
          have cc : c2 = c := by
            rcases ho.2 with ⟨e0, _⟩ | ⟨g4, c4, cur4, e4, _, hg4, _, _, hs4, _⟩
            · simp at e0
            · simp at e4
              obtain ⟨rfl, rfl⟩ := e4
              rw [hg] at hg4
              simp at hg4
              obtain ⟨rfl, _⟩ := hg4
              omega
          subst cc
          refine .inr ⟨g2, c2, cur3, rfl, hb, hg3, hkc, hm, hs3, ?_⟩
          rw [Nat.mul_one] at ht3 ⊢
          rw [← hz, ← ht3, List.take_take, Nat.min_eq_left (by omega)]
      · refine .inr ⟨g2, c2, cur, rfl, hb, ?_, hkc, hm, hs, ht⟩
        rw [q.block g2 (block_lt hg) (by simpa using hgg)]
        exact hg
  · exact hl
/-- A store into an owned row. -/
theorem owns_set {w : World} {base : Nat} {e : TypeId} {g n c : Nat} {xs : List Value} (h : w.ownsRow base e 1 (.slice (some ⟨g, 0, none⟩) n c) n xs) (i : Nat) (u : Value) :
    (w.setCell ⟨g, i, none⟩ u).ownsRow base e 1 (.slice (some ⟨g, 0, none⟩) n c) n (xs.set i u) := by
  refine ⟨by rw [List.length_set]; exact h.1, ?_⟩
  rcases h.2 with ⟨e0, _⟩ | ⟨g4, c4, cur, e4, hb, hg, hn, hm, hs, ht⟩
  · simp at e0
  · simp at e4
    obtain ⟨rfl, rfl⟩ := e4
    refine .inr ⟨g, c, cur.setIfInBounds i u, rfl, hb, heap_set hg i u, hn, hm, by simpa using hs, ?_⟩
    rw [Nat.mul_one] at ht ⊢
    rw [← ht, Array.toList_setIfInBounds, List.take_set]
end Go.Proofs.Ytgfglbbfoadiaaa
