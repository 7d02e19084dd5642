import Derived.Test.YthcnpijgfhinhaaBook
namespace Go.Proofs.Ythcnpijgfhinhaa
open Go.RowKit

theorem info26 : (Try.prog.info? 26).map (fun i => (i.zero, i.size, i.bytes)) = some (some (.pointer none), 1, 8) := by kernel_rfl
theorem info54 : (Try.prog.info? 54).map (fun i => (i.zero, i.size, i.bytes)) = some (some (.pointer none), 1, 8) := by kernel_rfl
theorem rowB_snoc (n : Nat) (f : Nat → Ent) (e : Ent) : rowB (n + 1) (fun j => if j = n then e else f j) = rowB n f ++ [ptrB e] := by
  unfold rowB
  rw [List.range_succ, List.map_append]
  congr 1
  · apply List.map_congr_left
    intro j hj
    have : j < n := by simpa using hj
    show ptrB (if j = n then e else f j) = _
    rw [if_neg (by omega)]
  · simp
theorem rowR_snoc (n : Nat) (f : Nat → Ent) (e : Ent) : rowR (n + 1) (fun j => if j = n then e else f j) = rowR n f ++ [ptrR e] := by
  unfold rowR
  rw [List.range_succ, List.map_append]
  congr 1
  · apply List.map_congr_left
    intro j hj
    have : j < n := by simpa using hj
    show ptrR (if j = n then e else f j) = _
    rw [if_neg (by omega)]
  · simp
/-- Behind the first append and its store. -/
theorem Bk.mid {w wr w1 : World} {B n : Nat} {f : Nat → Ent} {aS : Option Addr} {cS : Nat} {aR : Option Addr} {cR : Nat} (h : Bk w wr B n f aS cS aR cR) (tmp : Obj) (en : Ent) {qS : Option Addr} {dS : Nat}
    (hr : Row w1 26 qS (n + 1) dS (rowB n f ++ [ptrB en])) (hg : (wr.alloc tmp).grownBy w1 (blockOf aS)) (hq : qS = aS ∨ qS = some ⟨(wr.alloc tmp).heap.size, 0, none⟩) :
    w1.heap[B]? = some (.cells #[.slice aS n cS, .slice aR n cR] 49 (0, 0)) ∧
    (w1.setCell ⟨B, 0, none⟩ (.slice qS (n + 1) dS)).heap[B]? = some (.cells #[.slice qS (n + 1) dS, .slice aR n cR] 49 (0, 0)) ∧
    Row (w1.setCell ⟨B, 0, none⟩ (.slice qS (n + 1) dS)) 26 qS (n + 1) dS (rowB n f ++ [ptrB en]) ∧ Row (w1.setCell ⟨B, 0, none⟩ (.slice qS (n + 1) dS)) 54 aR n cR (rowR n f) ∧
    Kept (fun k => k = B ∨ blockOf aS = some k) wr (w1.setCell ⟨B, 0, none⟩ (.slice qS (n + 1) dS)) ∧ (∀ g, blockOf qS = some g → w.heap.size ≤ g) := by
  have k1 : Kept (fun k => blockOf aS = some k) wr w1 := ((Kept.refl _ _).alloc _).grown hg (fun k _ e => e)
  have b1 := k1.get h.blk (fun e => by obtain ⟨cur, hc⟩ := h.rs.blk e; exact blk_ne h.blk hc (by decide) rfl)
  have k2 : Kept (fun k => k = B) w1 (w1.setCell ⟨B, 0, none⟩ (.slice qS (n + 1) dS)) := (Kept.refl (fun k => k = B) w1).setCell (p := ⟨B, 0, none⟩) (fun _ => rfl) _
  refine ⟨b1, heap_set b1 0 _, hr.kept k2 (fun g e q => ?_), (h.rr.kept k1 (fun g e q => ?_)).kept k2 (fun g e q => ?_), ?_, fun g e => ?_⟩
  · obtain ⟨cur, hc⟩ := hr.blk e; exact blk_ne hc b1 (by decide) q
  · obtain ⟨cur, hc⟩ := h.rr.blk e
    obtain ⟨cur2, hc2⟩ := h.rs.blk q
    exact blk_ne hc hc2 (by decide) rfl
  · obtain ⟨cur, hc⟩ := h.rr.blk e; exact blk_ne hc h.blk (by decide) q
  · exact (k1.mono (fun k _ e => .inr e)).setCell (p := ⟨B, 0, none⟩) (fun _ => .inl rfl) _
  · rcases hq with q | q
    · rw [q] at e; exact h.fs g e
    · rw [q, blockOf_some] at e; simp at e; have := h.bel.size; omega
theorem Bk.push {w wr w1 w2 : World} {B n : Nat} {f : Nat → Ent} {aS : Option Addr} {cS : Nat} {aR : Option Addr} {cR : Nat} (h : Bk w wr B n f aS cS aR cR) (en : Ent) (ok : en.Ok wr) (far : en.Far w.heap.size) (ap : ∀ i, i < n → (f i).Apart en ∧ en.Apart (f i)) {qS : Option Addr} {dS : Nat} {qR : Option Addr} {dR : Nat} (tmp : Obj)
    (b1 : w1.heap[B]? = some (.cells #[.slice qS (n + 1) dS, .slice aR n cR] 49 (0, 0))) (rs : Row w1 26 qS (n + 1) dS (rowB n f ++ [ptrB en])) (rr : Row w1 54 aR n cR (rowR n f)) (k1 : Kept (fun k => k = B ∨ blockOf aS = some k) wr w1) (fq : ∀ g, blockOf qS = some g → w.heap.size ≤ g)
    (hr : Row w2 54 qR (n + 1) dR (rowR n f ++ [ptrR en])) (hg : (w1.alloc tmp).grownBy w2 (blockOf aR)) (hq : qR = aR ∨ qR = some ⟨(w1.alloc tmp).heap.size, 0, none⟩) :
    w2.heap[B]? = some (.cells #[.slice qS (n + 1) dS, .slice aR n cR] 49 (0, 0)) ∧ Bk w (w2.setCell ⟨B, 1, none⟩ (.slice qR (n + 1) dR)) B (n + 1) (fun j => if j = n then en else f j) qS dS qR dR := by
  have k2 : Kept (fun k => blockOf aR = some k) w1 w2 := ((Kept.refl _ _).alloc _).grown hg (fun k _ e => e)
  have b2 := k2.get b1 (fun e => by obtain ⟨cur, hc⟩ := rr.blk e; exact blk_ne b1 hc (by decide) rfl)
  have k3 : Kept (fun k => k = B) w2 (w2.setCell ⟨B, 1, none⟩ (.slice qR (n + 1) dR)) := (Kept.refl (fun k => k = B) w2).setCell (p := ⟨B, 1, none⟩) (fun _ => rfl) _
  have kk : Kept (fun k => k = B ∨ blockOf aS = some k ∨ blockOf aR = some k) wr (w2.setCell ⟨B, 1, none⟩ (.slice qR (n + 1) dR)) :=
    ((k1.mono (fun k _ e => e.elim .inl (fun q => .inr (.inl q)))).trans (k2.mono (S' := fun k => k = B ∨ blockOf aS = some k ∨ blockOf aR = some k) (fun k _ e => .inr (.inr e))) (fun _ _ e => e)).setCell (p := ⟨B, 1, none⟩) (fun _ => .inl rfl) _
  have typ : ∀ {c : Nat} {cs : Array Value} {t : TypeId}, wr.heap[c]? = some (.cells cs t (0, 0)) → t ≠ 49 → t ≠ 26 → t ≠ 54 → ¬ (c = B ∨ blockOf aS = some c ∨ blockOf aR = some c) := fun hc h1 h2 h3 q => by
    rcases q with q | q | q
    · exact blk_ne hc h.blk h1 q
    · obtain ⟨cur, hg⟩ := h.rs.blk q; exact blk_ne hc hg h2 rfl
    · obtain ⟨cur, hg⟩ := h.rr.blk q; exact blk_ne hc hg h3 rfl
  have keep : ∀ e : Ent, e.Ok wr → e.Ok (w2.setCell ⟨B, 1, none⟩ (.slice qR (n + 1) dR)) := fun e he =>
    ⟨he.s.kept kk (typ he.s.blk (by decide) (by decide) (by decide)), he.f.kept kk (typ he.f.blk (by decide) (by decide) (by decide)) (fun g e2 => by obtain ⟨cur, hg⟩ := he.f.row.blk e2; exact typ hg (by decide) (by decide) (by decide))⟩
  refine ⟨b2, heap_set b2 1 _, ?_, ?_, fun i hi => ?_, fun i j hi hj hne => ?_, fun i hi => ?_, h.hB, fq, fun g e => ?_, ?_⟩
  · rw [rowB_snoc]
    refine (rs.kept k2 (fun g e q => ?_)).kept k3 (fun g e q => ?_)
    · obtain ⟨cur, hc⟩ := rs.blk e
      obtain ⟨cur2, hc2⟩ := rr.blk q
      exact blk_ne hc hc2 (by decide) rfl
    · obtain ⟨cur, hc⟩ := rs.blk e; exact blk_ne hc b1 (by decide) q
  · rw [rowR_snoc]
    exact hr.kept k3 (fun g e q => by obtain ⟨cur, hc⟩ := hr.blk e; exact blk_ne hc b2 (by decide) q)
  · show (if i = n then en else f i).Ok _
    split
    · exact keep en ok
    · exact keep _ (h.ent i (by omega))
  · show (if i = n then en else f i).Apart (if j = n then en else f j)
    by_cases q : i = n
    · rw [if_pos q, if_neg (by omega)]; exact (ap j (by omega)).2
    · rw [if_neg q]
      by_cases q2 : j = n
      · rw [if_pos q2]; exact (ap i (by omega)).1
      · rw [if_neg q2]; exact h.ap i j (by omega) (by omega) hne
  · show (if i = n then en else f i).Far _
    split
    · exact far
    · exact h.far i (by omega)
  · rcases hq with q | q
    · rw [q] at e; exact h.fr g e
    · rw [q, blockOf_some] at e; simp at e; have := h.bel.size; have := k1.size; omega
  · exact h.bel.trans (kk.below h.bel.size (fun k e => by
      rcases e with e | e | e
      · rw [e]; exact h.hB
      · exact h.fs k e
      · exact h.fr k e))
theorem new_cell (X : World) (u : Value) (t : TypeId) (k : Nat) (hk : X.heap.size = k) : (X.alloc (.cells #[u] t)).cell? ⟨k, 0, none⟩ = some u := by
  subst hk
  exact cell_blk (heap_alloc_new _ _) 0 rfl
/-- What a step leaves: the book, no more than n entries. -/
def Left (w : World) (B n : Nat) (w' : World) : Prop := ∃ m f aS cS aR cR, m ≤ n ∧ Bk w w' B m f aS cS aR cR
def Kept1 (w : World) (B n : Nat) (o : Ending) (w' : World) : Prop := o = .returned (.bool true) ∧ Left w B n w'
set_option maxRecDepth 100000 in
set_option maxHeartbeats 2000000 in
theorem keep_none {w wr : World} {B n : Nat} {f : Nat → Ent} {aS : Option Addr} {cS : Nat} {aR : Option Addr} {cR : Nat} (h : Bk w wr B n f aS cS aR cR) (e : Int) :
    Calls Try.prog 39 #[.pointer (some ⟨B, 0, none⟩), .pointer none, .int .i64 e, .pointer none, .int .i64 e] wr (Kept1 w B (n + 1)) := by
  have H : Hid (Bk w wr B n f aS cS aR cR) := h
  clear h
  go_enter Try.func39, Try.ntmps39
  go_wp2_with fail
  refine (same_none 0 false [] [] wr (tells_nil wr)).mono ?_
  rintro o w1 ⟨rfl, b1⟩
  go_wp2_with fail
  go_ret
  exact ⟨rfl, n, f, aS, cS, aR, cR, Nat.le_succ _, H.out.by b1⟩
set_option maxRecDepth 100000 in
set_option maxHeartbeats 2000000 in
theorem keep_some {w wr : World} {B n : Nat} {f : Nat → Ent} {aS : Option Addr} {cS : Nat} {aR : Option Addr} {cR : Nat} (h : Bk w wr B n f aS cS aR cR) (en : Ent) (ok : en.Ok wr) (far : en.Far w.heap.size) (ap : ∀ i, i < n → (f i).Apart en ∧ en.Apart (f i)) (hn : (n + 1) * 8 ≤ 140737488355328) :
    Calls Try.prog 39 #[.pointer (some ⟨B, 0, none⟩), .pointer (some ⟨en.b, 0, none⟩), .int .i64 0, .pointer (some ⟨en.r, 0, none⟩), .int .i64 0] wr (Kept1 w B (n + 1)) := by
  have H : Hid (Bk w wr B n f aS cS aR cR ∧ en.Ok wr ∧ en.Far w.heap.size ∧ (∀ i, i < n → (f i).Apart en ∧ en.Apart (f i)) ∧ (n + 1) * 8 ≤ 140737488355328) := ⟨h, ok, far, ap, hn⟩
  clear h ok far ap hn
  go_enter Try.func39, Try.ntmps39
  go_wp2_with fail
  refine (same_some en.b en.r en.l.length _ _ _ wr (tells_of H.out.2.1.s H.out.2.1.f)).mono ?_
  rintro o w1 ⟨rfl, b1⟩
  have H1 : Hid (Bk w w1 B n f aS cS aR cR ∧ en.Ok w1 ∧ en.Far w.heap.size ∧ (∀ i, i < n → (f i).Apart en ∧ en.Apart (f i)) ∧ (n + 1) * 8 ≤ 140737488355328) := ⟨H.out.1.by b1, H.out.2.1.by b1, H.out.2.2⟩
  clear H b1
  obtain ⟨c0, c1, f0, f1⟩ := H1.out.1.cells
  have ms := H1.out.1.rs.room
  have mr := H1.out.1.rr.room
  go_upto_region 4 with fail
  go_wp2_with (first | (at_builtin; refine wpList_append_row _ rfl (.tmp 26) (.tmp 28) 46 26 (.pointer none) rfl Try.underlying46 info26 rfl aS n cS (rowB n f) rfl (H1.out.1.rs.by ((Below.refl _ _).alloc (Nat.le_refl _) _)) w1.heap.size (ptrB en) rfl rfl (by simp [ptrB]) H1.out.2.2.2.2 ?_; intro qS dS w2 hr hg hq; have c5 := hr.out.room; obtain ⟨m0, m1, m2, m3, m4, m5⟩ := H1.out.1.mid _ en hr.out hg.out hq.out; have d0 := cell_blk m0 0 rfl; have g0 := soft_blk m0 0; have d1 := cell_blk m0 1 rfl; have g1 := soft_blk m0 1; have M : Hid ((w2.setCell ⟨B, 0, none⟩ (.slice qS (n + 1) dS)).heap[B]? = some (.cells #[.slice qS (n + 1) dS, .slice aR n cR] 49 (0, 0)) ∧ Row (w2.setCell ⟨B, 0, none⟩ (.slice qS (n + 1) dS)) 26 qS (n + 1) dS (rowB n f ++ [ptrB en]) ∧ Row (w2.setCell ⟨B, 0, none⟩ (.slice qS (n + 1) dS)) 54 aR n cR (rowR n f) ∧ Kept (fun k => k = B ∨ blockOf aS = some k) w1 (w2.setCell ⟨B, 0, none⟩ (.slice qS (n + 1) dS)) ∧ (∀ g, blockOf qS = some g → w.heap.size ≤ g)) := ⟨m1, m2, m3, m4, m5⟩; clear m0 m1 m2 m3 m4 m5 hr hg hq) | (at_builtin; refine wpList_append_row _ rfl (.tmp 36) (.tmp 38) 47 54 (.pointer none) rfl Try.underlying47 info54 rfl aR n cR (rowR n f) rfl (M.out.2.2.1.by ((Below.refl _ _).alloc (Nat.le_refl _) _)) w2.heap.size (ptrR en) rfl rfl (new_cell _ _ _ _ (by simp [World.setCell])) H1.out.2.2.2.2 ?_; intro qR dR w3 hr hg hq; have c6 := hr.out.room; obtain ⟨p0, p1⟩ := H1.out.1.push en H1.out.2.1 H1.out.2.2.1 H1.out.2.2.2.1 _ M.out.1 M.out.2.1 M.out.2.2.1 M.out.2.2.2.1 M.out.2.2.2.2 hr.out hg.out hq.out; have d2 := cell_blk p0 1 rfl; have g2 := soft_blk p0 1; have P : Hid (Bk w (w3.setCell ⟨B, 1, none⟩ (.slice qR (n + 1) dR)) B (n + 1) (fun j => if j = n then en else f j) qS dS qR dR) := p1; clear p0 p1 hr hg hq) | fail)
  go_ret
  exact ⟨rfl, n + 1, _, _, _, _, _, Nat.le_refl _, P.out⟩
end Go.Proofs.Ythcnpijgfhinhaa
