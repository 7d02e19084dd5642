import Derived.Test.YthcnpijgfhinhaaRef2
import Derived.Deep.RegionLaw
namespace Go.Proofs.Ythcnpijgfhinhaa
open Go.RowKit

theorem Addr.add_lit (g o j : Nat) : (⟨g, o, none⟩ : Addr).add j = ⟨g, o + j, none⟩ := by unfold Addr.add; split <;> simp_all
theorem append_any {P : Program} (w : World) (base : Nat) (t tx ty e : TypeId) (i : TypeInfo) (z : Value) (bytes : Nat) (ht : P.underlying t = some (.slice e)) (hi : P.info? e = some i) (hz : i.zero = some z)
    (hsize : i.size = 1) (hby : i.bytes = bytes) (hzs : z.cells.size = 1)
    (v : Value) (n : Nat) (xs : List Value) (hown : w.ownsRow base e 1 v n xs)
    (x : Value) (m : Nat) (news : List Value) (hs : Src P 1 tx x m news w)
    (h63 : n + m ≤ maxLen) (hbytes : (n + m) * bytes ≤ 140737488355328) (hbase : base ≤ w.heap.size) :
    ∃ v' w', (Builtin.append_ #[t, tx] ty #[v, x]).run P w = .ok v' w' ∧ w'.ownsRow base e 1 v' (n + m) (xs ++ news) ∧ w.grownBy w' v.ownBlock ∧
      (v' = .slice none 0 0 ↔ v = .slice none 0 0 ∧ m = 0) ∧ (v'.ownBlock = v.ownBlock ∨ v'.ownBlock = some w.heap.size) := by
  subst hby
  have hsmall : n + m ≤ 9223372036854775807 := by simp only [maxLen] at h63; omega
  have hl : news.length = m := by simpa using hs.newsLen
  have hx0 : xs.length = n := by simpa using hown.1
  have hlen : (xs ++ news).length = (n + m) * 1 := by rw [List.length_append, hx0, hl, Nat.mul_one]
  have hs' : Src P i.size tx x m news w := by rw [hsize]; exact hs
  have grown : ∀ (old : Nat), old < n + m → ∀ (row : Option Nat),
      (w.drew.alloc (.cells ((xs ++ news).toArray ++ Builtin.zeroCells z.cells (grownCap w (n + m) old e - (n + m))) e)).ownsRow base e 1
        (.slice (some ⟨w.heap.size, 0, none⟩) (n + m) (grownCap w (n + m) old e)) (n + m) (xs ++ news) ∧
      w.grownBy (w.drew.alloc (.cells ((xs ++ news).toArray ++ Builtin.zeroCells z.cells (grownCap w (n + m) old e - (n + m))) e)) row := by
    intro old ho row
    have hge := grownCap_ge w (n + m) old e
    have hcm : grownCap w (n + m) old e ≤ maxLen := grownCap_le_maxLen w (n + m) old e h63
    refine ⟨⟨hlen, .inr ⟨w.heap.size, _, _, rfl, hbase, heap_alloc_new w.drew _, hge, hcm, ?_, ?_⟩⟩, ⟨rfl, rfl, rfl, by simp, fun k hk _ => _root_.Go.heap_alloc_old w.drew _ hk⟩⟩
    · simp only [Array.size_append, List.size_toArray, size_zeroCells, hzs, hlen]
      omega
    · simp only [Array.toList_append]
      rw [← hlen]
      exact List.take_left
  have growrun : ∀ (bs : Option Addr) (cap : Nat), cap < n + m → n ≤ cap →
      (Builtin.firstCells i.size n (.slice bs n cap)).run P w.drew = .ok xs.toArray w.drew → v = .slice bs n cap →
      ∃ v' w', (Builtin.append_ #[t, tx] ty #[v, x]).run P w = .ok v' w' ∧ w'.ownsRow base e 1 v' (n + m) (xs ++ news) ∧ w.grownBy w' v.ownBlock ∧
        (v' = .slice none 0 0 ↔ v = .slice none 0 0 ∧ m = 0) ∧ (v'.ownBlock = v.ownBlock ∨ v'.ownBlock = some w.heap.size) := by
    intro bs cap hc hnc hold hv
    have hr := run_append_grow_src (P := P) w t tx ty e i z ht hi hz bs n cap xs hold x m news hs' hc (by omega) (growslice_fits (by omega) hbytes)
    have hgr := grown cap hc v.ownBlock
    refine ⟨_, _, hv ▸ hr, hgr.1, hgr.2, ?_, .inr rfl⟩
    subst hv
    simp
    intro _ h0 h1
    omega
  rcases hown.2 with ⟨rfl, rfl⟩ | ⟨g, cap, cur, rfl, hbg, hg, hnc, hcm, hcs, htake⟩
  · have hx : xs = [] := List.eq_nil_of_length_eq_zero hx0
    subst hx
    by_cases hm : m = 0
    · subst hm
      have hn : news = [] := List.eq_nil_of_length_eq_zero hl
      subst hn
      refine ⟨.slice none 0 0, w, ?_, World.ownsRow_nil w base e 1, ⟨rfl, rfl, rfl, Nat.le_refl _, fun _ _ _ => rfl⟩, by simp, Or.inl rfl⟩
      rcases hs.kind with ⟨e', hk⟩ | hk <;> simp [Builtin.append_, run_underlying ht, run_underlying hk, sizeOf, typeInfo, hi, hs.len, hsize, hs.cells]
    · exact growrun none 0 (by omega) (by omega) (run_firstCells_none w.drew i.size 0 0 0) rfl
  · by_cases hroom : n + m ≤ cap
    · have hfit : n * i.size + news.length ≤ cur.size := by rw [hl, hcs, hsize]; omega
      have hst := run_storeCells_at P g (n * i.size) e news 0 cur w hg (by simpa using hfit) hs.one
      simp only [Nat.add_zero] at hst
      have hr : (Builtin.append_ #[t, tx] ty #[.slice (some ⟨g, 0, none⟩) n cap, x]).run P w =
          .ok (.slice (some ⟨g, 0, none⟩) (n + m) cap) (w.setRow g (cur.toList.take (n * i.size) ++ news ++ cur.toList.drop (n * i.size + news.length)).toArray) := by
        rcases hs.kind with ⟨e', hk⟩ | hk <;> simp [Builtin.append_, run_underlying ht, run_underlying hk, sizeOf, typeInfo, hi, hs'.len, hroom, hs'.cells, Addr.add_lit, hst]
      refine ⟨_, _, hr, ⟨hlen, .inr ⟨g, cap, _, rfl, hbg, setRow_heap w g cur _ e _ hg, hroom, hcm, ?_, ?_⟩⟩, ⟨rfl, rfl, rfl, by simp, fun k _ hk => setRow_other w g k _ (fun e => hk (by simp [Value.ownBlock, e]))⟩, by simp, Or.inl rfl⟩
      · simp only [List.size_toArray, List.length_append, List.length_take, List.length_drop, Array.length_toList]
        rw [hsize] at hfit ⊢
        omega
      · rw [hsize, htake, ← hlen]
        exact List.take_left
    · have holds : ∀ j u, xs[j]? = some u → w.drew.cell? ((⟨g, 0, none⟩ : Addr).add j) = some u := hown.cells (g := g) rfl
      exact growrun (some ⟨g, 0, none⟩) cap (by omega) hnc (run_firstCells_some w.drew i.size n ⟨g, 0, none⟩ n cap xs (by rw [hsize]; simpa using hx0) holds) rfl

theorem Row.src {w : World} {a : Option Addr} {len cap : Nat} {xs : List Value} (r : Row w 3 a len cap xs) : Src Try.prog 1 24 (.slice a len cap) len xs w := by
  rcases r.pos with ⟨rfl, rfl⟩ | ⟨g, cur, rfl, hg, hs, ht⟩
  · have l0 : len = 0 := by have := r.room; omega
    subst l0
    have : xs = [] := List.eq_nil_of_length_eq_zero r.length
    subst this
    exact Src.ofNil w Try.underlying24 0
  · exact Src.ofSlice w Try.underlying24 ⟨g, 0, none⟩ len cap xs (by rw [Nat.mul_one]; exact r.length) (fun j u hj => by rw [Addr.add_lit, Nat.zero_add]; exact r.cell j u hj) r.one
/-- append of a whole list onto none. -/
theorem step_append_copy {ops : Array Oper} {o : Oper} {act : Act} {K : Act → World → Prop} {Q : Exit → Act → World → Prop} {E : Prop} (w : World) (hgd : o.guard = none) (s x : Operand)
    (ho : o.op = .call { callee := .builtin .append, args := #[s, x], argTypes := #[24, 24] })
    (hs : act.eval s = .slice none 0 0) (a : Option Addr) (len cap : Nat) (xs : List Value) (hx : act.eval x = .slice a len cap) (r : Row w 3 a len cap xs) (hbytes : len * 8 ≤ 140737488355328) (h63 : len ≤ maxLen)
    (h : ∀ q c w', Hid (Row w' 3 q len c xs) → Hid (w.grownBy w' none) → Hid (∀ g, blockOf q = some g → w.heap.size ≤ g) → K (act.put o.dst (.slice q len c)) w') : if Region.wanted o (yielded ops act.tmps) = true then Oper.wp Try.prog o act w K Q else E := by
  have hw : Region.wanted o (yielded ops act.tmps) = true := by simp [Region.wanted, hgd]
  rw [if_pos hw]
  obtain ⟨i, hi, hz, hsize, hby⟩ := info_parts Try.info3
  obtain ⟨v', w', hr, h2, h3, h4, h5⟩ := append_any (P := Try.prog) w w.heap.size 24 24 o.type 3 i (.int .i64 0) 8 Try.underlying24 hi hz hsize hby rfl (.slice none 0 0) 0 [] (World.ownsRow_nil _ _ _ _) (.slice a len cap) len xs r.src (by rw [Nat.zero_add]; exact h63) (by rw [Nat.zero_add]; exact hbytes) (Nat.le_refl _)
  rw [Nat.zero_add, List.nil_append] at h2
  obtain ⟨q, c, rfl, hrow, hfar⟩ := Row.of_owns h2 r.one
  unfold Oper.wp execOp
  simp only [ho, resolve, invoke, builtin, Sem.run_bind, Sem.run_pure, Result.andThen_ok, List.map_toArray, List.map_cons, List.map_nil, hs, hx, hr]
  exact h q c w' hrow h3 hfar
theorem rCopy_nil (w : World) : Calls Try.prog 44 #[.pointer none] w fun o w' => o = .returned (.pointer none) ∧ w' = w := by
  go_enter Try.func44, Try.ntmps44
  go_wp2_with fail
  go_ret
  exact ⟨rfl, rfl⟩
set_option maxRecDepth 100000 in
set_option maxHeartbeats 2000000 in
theorem rCopy {r : Nat} {N K D : Int} {a : Option Addr} {cap : Nat} {l : List Int} (w : World) (h : IsR w r N K D a cap l) :
    Calls Try.prog 44 #[.pointer (some ⟨r, 0, none⟩)] w fun o w' => ∃ B q c, w.heap.size ≤ B ∧ o = .returned (.pointer (some ⟨B, 0, none⟩)) ∧ Hid (IsR w' B N K D q c l ∧ (∀ g, blockOf q = some g → w.heap.size ≤ g) ∧ Below w.heap.size w w') := by
  obtain ⟨c0, c1, c2, c3, _⟩ := h.cells
  have hl := h.len255.2
  have cm := h.row.room
  have cs := h.row.small
  unfold maxLen at cs
  have H : Hid (IsR w r N K D a cap l) := h
  have H1 : Hid (IsR (w.alloc (Obj.cells #[.int .i64 N, .int .i64 K, .int .i64 D, .slice none 0 0] 78)) r N K D a cap l) := h.by ((Below.refl _ _).alloc (Nat.le_refl _) _)
  obtain ⟨_, _, _, d3, _⟩ := H1.out.cells
  have NB : Hid ((w.alloc (Obj.cells #[.int .i64 N, .int .i64 K, .int .i64 D, .slice none 0 0] 78)).heap[w.heap.size]? = some (.cells #[.int .i64 N, .int .i64 K, .int .i64 D, .slice none 0 0] 78 (0, 0))) := heap_alloc_new _ _
  have b3 := cell_blk NB.out 3 rfl
  have B1 : Hid (Below w.heap.size w (w.alloc (Obj.cells #[.int .i64 N, .int .i64 K, .int .i64 D, .slice none 0 0] 78))) := (Below.refl _ _).alloc (Nat.le_refl _) _
  have SZ : (w.alloc (Obj.cells #[.int .i64 N, .int .i64 K, .int .i64 D, .slice none 0 0] 78)).heap.size = w.heap.size + 1 := by simp
  clear h
  go_enter Try.func44, Try.ntmps44
  go_upto_region 4 with fail
  obtain ⟨w1, hw1⟩ : ∃ x, w.alloc (Obj.cells #[.int .i64 N, .int .i64 K, .int .i64 D, .slice none 0 0] 78) = x := ⟨_, rfl⟩
  rw [hw1] at d3 b3 NB B1 H1 SZ ⊢
  clear hw1 c0 c1 c2 c3
  have R1 : Hid (Row w1.drew 3 a l.length cap (ints l)) := H1.out.drew.row
  have D4 : Hid (∀ w5, w1.drew.grownBy w5 none → w5.heap[w.heap.size]? = some (.cells #[.int .i64 N, .int .i64 K, .int .i64 D, .slice none 0 0] 78 (0, 0))) := fun w5 hg => (hg.block _ (block_lt NB.out) (by simp)).trans NB.out
  have n1 : Hid (l.length * 8 ≤ 140737488355328) := Nat.le_trans (Nat.mul_le_mul_right 8 hl) (by decide)
  have n2 : Hid (l.length ≤ maxLen) := (by unfold maxLen; omega : l.length ≤ maxLen)
  go_region_law
    (first | (refine step_append_copy _ (by rfl) (.tmp 16) (.tmp 20) (by rfl) (by rfl) a l.length cap (ints l) (by rfl) R1.out n1.out n2.out ?_; intro q5 c5 w5 ho hg hf; have k5 := D4.out w5 hg.out; have k6 := cell_blk k5 3 rfl; have k7 := soft_blk k5 3; have c6 := ho.out.room; have K5 : Hid (w5.heap[w.heap.size]? = some (.cells #[.int .i64 N, .int .i64 K, .int .i64 D, .slice none 0 0] 78 (0, 0))) := k5; clear k5) | fail)
  all_goals go_wp2_with fail
  all_goals go_ret
  all_goals
    refine ⟨w.heap.size, q5, c5, Nat.le_refl _, rfl, ⟨⟨heap_set K5.out 3 _, ?_, H.out.ok, H.out.low, H.out.nodup⟩, ?_, ?_⟩⟩
    · refine ho.out.kept ((Kept.refl (fun k => k = w.heap.size) w5).setCell (p := ⟨w.heap.size, 3, none⟩) (fun _ => rfl) _) (fun g e => ?_)
      have h5 : w1.drew.heap.size = w1.heap.size := rfl
      have := hf.out g e
      omega
    · intro g e
      have h5 : w1.drew.heap.size = w1.heap.size := rfl
      have := hf.out g e
      omega
    · have b5 : Below w.heap.size w w5 := (B1.out.drew).grown hg.out (by have h5 : w1.drew.heap.size = w1.heap.size := rfl; omega) (fun k e => by cases e)
      exact b5.setCell (p := ⟨w.heap.size, 3, none⟩) (Nat.le_refl _) _
end Go.Proofs.Ythcnpijgfhinhaa
