import Derived.Test.YtojepeefphbekabGreatFragJ
import Derived.Test.YtojepeefphbekabGreatBytes
import Derived.Deep.CutRange
namespace Go.Proofs.YtojepeefphbekabGreat
open Go.RowKit

/-- The boxes of 'change', behind its first line. -/
structure CB (w wc : World) (mb sb : Nat) (kd : Int) (key : ByteArray) (x y : Int) (fin has : Bool) (a : Option Addr) (n c : Nat) (f g : Bool) (X Y : Nat) : Prop where
  row : wc.heap[w.heap.size]? = some (.cells #[.map (some mb), .pointer (some ⟨sb, 0, none⟩)] 60 (0, 0))
  box : wc.heap[w.heap.size + 1]? = some (.cells #[.int .i64 kd, .string key, .int .i64 x, .int .i64 y, .bool fin, .bool has, .slice a n c] 36 (0, 0))
  tag : wc.heap[X]? = some (.cells #[.int .i64 x, .int .i64 y] 31 (0, 0))
  lk : wc.heap[Y]? = some (.cells #[.bool f, .bool g] 56 (0, 0))
  kept : Kept (fun _ => False) w wc
  ne : X ≠ Y
  lo : w.heap.size + 2 ≤ X ∧ w.heap.size + 2 ≤ Y
theorem IsRow.ne {w : World} {n mb sb len cap : Nat} {q : Option Addr} {S : List (Int × Int)} {M : Int × Int → Option Hd} (h : IsRow w n ⟨mb, sb, q, len, cap, S, M⟩) : mb ≠ sb ∧ blockOf q ≠ some mb ∧ blockOf q ≠ some sb := by
  obtain ⟨D, ⟨es, clock, hb, _⟩, _⟩ := h.tm
  have hb : w.heap[mb]? = some (.map es clock) := hb
  refine ⟨fun e => ?_, fun e => ?_, h.st.apart⟩
  · have := h.st.blk
    rw [← e] at this
    have this : w.heap[mb]? = _ := this
    rw [hb] at this
    cases this
  · rcases h.st.row.pos with ⟨e1, _⟩ | ⟨g, off, cur, e1, h1, _⟩
    · have e1 : q = none := e1
      rw [e1] at e
      cases e
    · have e1 : q = some ⟨g, off, none⟩ := e1
      rw [e1] at e
      have e : g = mb := Option.some.inj e
      rw [e, hb] at h1
      cases h1
theorem IsRow.nb {w : World} {n : Nat} {r : RK} (h : IsRow w n r) {k : Nat} {cs : Array Value} (hk : w.heap[k]? = some (.cells cs 5 (0, 0))) : ¬ r.Uses k := by
  rintro (z | z | z)
  · obtain ⟨D, ⟨es, clock, hb, _⟩, _⟩ := h.tm
    rw [← z, hk] at hb
    cases hb
  · have hb := h.st.blk
    rw [← z, hk] at hb
    have := Option.some.inj hb
    injection this with _ e
    exact absurd e (by decide)
  · rcases h.st.row.pos with ⟨e1, _⟩ | ⟨g, off, cur, e1, h1, _⟩
    · rw [e1] at z
      cases z
    · rw [e1] at z
      have z : g = k := Option.some.inj z
      rw [z, hk] at h1
      have := Option.some.inj h1
      injection this with _ e
      exact absurd e (by decide)
/-- What an update makes of a row. -/
def ChgR (w w' : World) (nn : Nat) (r : RK) (x y : Int) (n : Nat) (d : Int) (l : List Nat) (F : Bool × Bool) : Prop :=
  ∃ (h2 : Hd) (r' : RK), IsRow w' (nn + 1) r' ∧ RMoved w w' r r' ∧ h2.fin = (((r.M (x, y)).getD Hd.zero).fin || F.2) ∧
    (F.1 = false → h2.has = ((r.M (x, y)).getD Hd.zero).has ∧ h2.a = ((r.M (x, y)).getD Hd.zero).a ∧ h2.n = ((r.M (x, y)).getD Hd.zero).n ∧ h2.c = ((r.M (x, y)).getD Hd.zero).c) ∧
    (F.1 = true → h2.has = true ∧ h2.n = n ∧ w'.ownsRow w.heap.size 5 1 (.slice h2.a h2.n h2.c) h2.n (cellsOf l)) ∧
    (F.2 = false → r'.S = r.S ∧ r'.len = r.len ∧ r'.M = upd r.M (x, y) h2) ∧
    (F.2 = true → ∃ b e S1 fx fy, AddS r.S x y b e S1 ∧ floorT S1 d = (fx, fy) ∧ r'.len ≤ r.len + 1 ∧ ((isZero fx fy = true ∧ r'.S = S1 ∧ r'.M = upd r.M (x, y) h2) ∨ (isZero fx fy = false ∧ r'.S = S1.drop (ahead S1 (fx, fy)) ∧ r'.M = throwM (upd r.M (x, y) h2) (fx, fy))))
theorem cb_of {w W w2 V : World} {mb sb : Nat} {kd : Int} {key : ByteArray} {x y : Int} {fin has : Bool} {a : Option Addr} {n c : Nat} {f g : Bool} {X Y : Nat} (H0 : W.heap[w.heap.size]? = some (.cells #[.map (some mb), .pointer (some ⟨sb, 0, none⟩)] 60 (0, 0))) (H1 : W.heap[w.heap.size + 1]? = some (.cells #[.int .i64 kd, .string key, .int .i64 x, .int .i64 y, .bool fin, .bool has, .slice a n c] 36 (0, 0))) (K0 : Kept (fun _ => False) w W) (K3 : Kept (fun _ => False) W w2) (KV : Kept (fun k => W.heap.size ≤ k) w2 V) (tag : V.heap[X]? = some (.cells #[.int .i64 x, .int .i64 y] 31 (0, 0))) (lk : V.heap[Y]? = some (.cells #[.bool f, .bool g] 56 (0, 0))) (lx : W.heap.size ≤ X) (ly : W.heap.size ≤ Y) : CB w V mb sb kd key x y fin has a n c f g X Y := by
  have hs := block_lt H1
  refine ⟨KV.get (K3.get H0 (fun z => z)) (by omega), KV.get (K3.get H1 (fun z => z)) (by omega), tag, lk, (K0.and0 K3).trans KV (fun j hj z => by have z : W.heap.size ≤ j := z; omega), fun e => ?_, by omega, by omega⟩
  rw [e, lk] at tag
  cases tag
theorem set2 {w2 : World} {b : Nat} {u v : Value} {t : TypeId} (h : w2.heap[b]? = some (.cells #[u, v] t (0, 0))) (p q : Value) : ((w2.setCell ⟨b, 0, none⟩ p).setCell ⟨b, 1, none⟩ q).heap[b]? = some (.cells #[p, q] t (0, 0)) := heap_set (heap_set h 0 _) 1 _
theorem set2_far {w2 : World} {b k : Nat} (p q : Value) (hk : k ≠ b) : ((w2.setCell ⟨b, 0, none⟩ p).setCell ⟨b, 1, none⟩ q).heap[k]? = w2.heap[k]? := (Below.heap_setCell _ _ _ _ hk).trans (Below.heap_setCell _ _ _ _ hk)
theorem set2_size (w2 : World) (b : Nat) (p q : Value) : ((w2.setCell ⟨b, 0, none⟩ p).setCell ⟨b, 1, none⟩ q).heap.size = w2.heap.size := by simp [World.setCell]
theorem set2_kept {N : Nat} {w2 V : World} (h : Kept (fun k => N ≤ k) w2 V) (b : Nat) (p q : Value) (hb : N ≤ b) : Kept (fun k => N ≤ k) w2 ((V.setCell ⟨b, 0, none⟩ p).setCell ⟨b, 1, none⟩ q) := (h.setCell (p := ⟨b, 0, none⟩) (fun _ => hb) _).setCell (p := ⟨b, 1, none⟩) (fun _ => hb) _
theorem new_at {w2 : World} {k : Nat} (o : Obj) (h : w2.heap.size = k) : (w2.alloc o).heap[k]? = some o := by rw [← h]; exact heap_alloc_new _ _
theorem old_at {w2 : World} {k : Nat} {q : Obj} (o : Obj) (h : w2.heap[k]? = some q) : (w2.alloc o).heap[k]? = some q := (Below.heap_alloc _ _ _ (block_lt h)).trans h
set_option maxRecDepth 100000 in
set_option maxHeartbeats 4000000 in
theorem changeA (nn : Nat) (r : RK) (kd : Int) (key : ByteArray) (x y : Int) (fin has : Bool) (a : Option Addr) (n c : Nat) (d : Int) (w : World) (h : IsRow w nn r) (hlen : (r.len + 1) * 16 ≤ 211106232532992) (ft : TFit (x, y)) (l : List Nat) (rd : Reads w a n c l) (hnl : n ≤ 140737488355328) (hnn : nn < maxLen) : Calls Tryz.prog 23 #[.agg #[.map (some r.mb), .pointer (some ⟨r.sb, 0, none⟩)], .agg #[.int .i64 kd, .string key, .int .i64 x, .int .i64 y, .bool fin, .bool has, .slice a n c], .int .i64 d] w fun o w' => o = .returned (.tuple #[]) ∧ ChgR w w' nn r x y n d l (lackF r.S r.M ⟨kd, key, x, y, fin, has, a, n, c⟩ d) := by
  obtain ⟨mb, sb, q, len, cap, S, M⟩ := r
  have h : IsRow w nn ⟨mb, sb, q, len, cap, S, M⟩ := h
  have hlen : (len + 1) * 16 ≤ 211106232532992 := hlen
  obtain ⟨W, hW⟩ : ∃ W, W = (w.alloc (.cells #[.map (some mb), .pointer (some ⟨sb, 0, none⟩)] 60)).alloc (.cells #[.int .i64 kd, .string key, .int .i64 x, .int .i64 y, .bool fin, .bool has, .slice a n c] 36) := ⟨_, rfl⟩
  have KZ : Kept (fun _ => False) w W := by rw [hW]; exact ((Kept.refl _ w).alloc _).alloc _
  have b0 : W.heap[w.heap.size]? = some (.cells #[.map (some mb), .pointer (some ⟨sb, 0, none⟩)] 60 (0, 0)) := by rw [hW]; exact two0 _ _ _
  have b1 : W.heap[w.heap.size + 1]? = some (.cells #[.int .i64 kd, .string key, .int .i64 x, .int .i64 y, .bool fin, .bool has, .slice a n c] 36 (0, 0)) := by rw [hW]; exact two1 _ _ _
  have H : Hid (W.heap[w.heap.size]? = some (.cells #[.map (some mb), .pointer (some ⟨sb, 0, none⟩)] 60 (0, 0)) ∧ W.heap[w.heap.size + 1]? = some (.cells #[.int .i64 kd, .string key, .int .i64 x, .int .i64 y, .bool fin, .bool has, .slice a n c] 36 (0, 0)) ∧ Kept (fun _ => False) w W ∧ IsRow W nn ⟨mb, sb, q, len, cap, S, M⟩ ∧ (len + 1) * 16 ≤ 211106232532992 ∧ TFit (x, y)) := ⟨b0, b1, KZ, h.k0 KZ, hlen, ft⟩
  have HW : Hid (IsRow w nn ⟨mb, sb, q, len, cap, S, M⟩) := h
  have RD : Hid (Reads w a n c l ∧ n ≤ 140737488355328 ∧ nn < maxLen) := ⟨rd, hnl, hnn⟩
  clear rd hnl hnn
  have LA : Hid (∀ V, Kept (fun _ => False) W V → Calls Tryz.prog 21 #[.agg #[.map (some mb), .pointer (some ⟨sb, 0, none⟩)], .agg #[.int .i64 kd, .string key, .int .i64 x, .int .i64 y, .bool fin, .bool has, .slice a n c], .int .i64 d] V fun o w' => o = .returned (.agg #[.bool (lackF S M ⟨kd, key, x, y, fin, has, a, n, c⟩ d).1, .bool (lackF S M ⟨kd, key, x, y, fin, has, a, n, c⟩ d).2]) ∧ Kept (fun _ => False) V w') := by
    intro V K
    have i := H.out.2.2.2.1.k0 K
    exact rLacks (.map (some mb)) (.pointer (some ⟨sb, 0, none⟩)) (some sb) rfl S M ⟨kd, key, x, y, fin, has, a, n, c⟩ d V ⟨_, rfl⟩ (.inr ⟨mb, nn, rfl, i.tm⟩) (.inr ⟨sb, q, len, cap, rfl, i.st.sv, by have := H.out.2.2.2.2.1; omega⟩) H.out.2.2.2.2.2
  obtain ⟨f, hf⟩ : ∃ f, f = (lackF S M ⟨kd, key, x, y, fin, has, a, n, c⟩ d).1 := ⟨_, rfl⟩
  obtain ⟨g, hg⟩ : ∃ g, g = (lackF S M ⟨kd, key, x, y, fin, has, a, n, c⟩ d).2 := ⟨_, rfl⟩
  have HF : Hid (f = (lackF S M ⟨kd, key, x, y, fin, has, a, n, c⟩ d).1 ∧ g = (lackF S M ⟨kd, key, x, y, fin, has, a, n, c⟩ d).2) := ⟨hf, hg⟩
  rw [← hf, ← hg] at LA
  have EW : Hid (W = (w.alloc (.cells #[.map (some mb), .pointer (some ⟨sb, 0, none⟩)] 60)).alloc (.cells #[.int .i64 kd, .string key, .int .i64 x, .int .i64 y, .bool fin, .bool has, .slice a n c] 36)) := hW
  have c0 := cell_blk b0 0 (v := .map (some mb)) rfl
  have c1 := cell_blk b0 1 (v := .pointer (some ⟨sb, 0, none⟩)) rfl
  have g0 := cell_blk b1 0 (v := .int .i64 kd) rfl
  have g1 := cell_blk b1 1 (v := .string key) rfl
  have g2 := cell_blk b1 2 (v := .int .i64 x) rfl
  have g3 := cell_blk b1 3 (v := .int .i64 y) rfl
  have g4 := cell_blk b1 4 (v := .bool fin) rfl
  have g5 := cell_blk b1 5 (v := .bool has) rfl
  have g6 := cell_blk b1 6 (v := .slice a n c) rfl
  have l1 := block_lt b1
  have n1 : ¬ W.heap.size = w.heap.size := by omega
  have n2 : ¬ W.heap.size = w.heap.size + 1 := by omega
  have n3 : ¬ W.heap.size + 1 = w.heap.size := by omega
  have n4 : ¬ W.heap.size + 1 = w.heap.size + 1 := by omega
  clear h hlen ft hW KZ b0 b1 hf hg l1
  dsimp only
  go_enter Tryz.func23, Tryz.ntmps23
  go_upto_region 1 with fail
  rw [← EW.out]
  go_cut [6, 7] (fun u v wc => ∃ (X Y : Nat), u = .pointer (some ⟨X, 0, none⟩) ∧ v = .pointer (some ⟨Y, 0, none⟩) ∧ Hid (CB w wc mb sb kd key x y fin has a n c f g X Y))
  case first =>
    go_region_held3 (fun w' => w'.cell? ⟨w.heap.size, 0, none⟩ = some (.map (some mb)) ∧ w'.cell? ⟨w.heap.size, 1, none⟩ = some (.pointer (some ⟨sb, 0, none⟩)) ∧ w'.cell? ⟨w.heap.size + 1, 0, none⟩ = some (.int .i64 kd) ∧ w'.cell? ⟨w.heap.size + 1, 1, none⟩ = some (.string key) ∧ w'.cell? ⟨w.heap.size + 1, 2, none⟩ = some (.int .i64 x) ∧ w'.cell? ⟨w.heap.size + 1, 3, none⟩ = some (.int .i64 y) ∧ w'.cell? ⟨w.heap.size + 1, 4, none⟩ = some (.bool fin) ∧ w'.cell? ⟨w.heap.size + 1, 5, none⟩ = some (.bool has) ∧ w'.cell? ⟨w.heap.size + 1, 6, none⟩ = some (.slice a n c)) (first | go_keep)
      (first
        | (go_at_call 21; refine (LA.out _ (by repeat (first | with_reducible exact Kept.refl _ _ | with_reducible refine Kept.drew ?_ | with_reducible refine Kept.alloc ?_ _))).mono ?_; rintro o w2 ⟨rfl, K2⟩
           have KH : Hid _ := K2
           have K3 : Hid (Kept (fun _ => False) W w2) := Kept.and0 (by repeat (first | with_reducible exact Kept.refl _ _ | with_reducible refine Kept.drew ?_ | with_reducible refine Kept.alloc ?_ _)) K2
           have c0 := cell_blk (K3.out.get H.out.1 (fun z => z)) 0 (v := .map (some mb)) rfl
           have c1 := cell_blk (K3.out.get H.out.1 (fun z => z)) 1 (v := .pointer (some ⟨sb, 0, none⟩)) rfl
           have g0 := cell_blk (K3.out.get H.out.2.1 (fun z => z)) 0 (v := .int .i64 kd) rfl
           have g1 := cell_blk (K3.out.get H.out.2.1 (fun z => z)) 1 (v := .string key) rfl
           have g2 := cell_blk (K3.out.get H.out.2.1 (fun z => z)) 2 (v := .int .i64 x) rfl
           have g3 := cell_blk (K3.out.get H.out.2.1 (fun z => z)) 3 (v := .int .i64 y) rfl
           have g4 := cell_blk (K3.out.get H.out.2.1 (fun z => z)) 4 (v := .bool fin) rfl
           have g5 := cell_blk (K3.out.get H.out.2.1 (fun z => z)) 5 (v := .bool has) rfl
           have g6 := cell_blk (K3.out.get H.out.2.1 (fun z => z)) 6 (v := .slice a n c) rfl
           (try (have ta : w2.heap[W.heap.size]? = some (.cells #[.int .i64 0, .int .i64 0] 31 (0, 0)) := KH.out.get (heap_alloc_new W.drew _) (fun z => z); have tah : Hid (w2.heap[W.heap.size]? = some (.cells #[.int .i64 0, .int .i64 0] 31 (0, 0))) := ta; have tac0 := cell_blk ta 0 (v := .int .i64 0) rfl; have tac1 := cell_blk ta 1 (v := .int .i64 0) rfl; have tas0 := soft_blk ta 0; have tas1 := soft_blk ta 1; clear ta))
           (try (have tb : w2.heap[W.heap.size]? = some (.cells #[.int .i64 0, .int .i64 0] 31 (0, 0)) := KH.out.get (two0 W.drew _ _) (fun z => z); have tbh : Hid (w2.heap[W.heap.size]? = some (.cells #[.int .i64 0, .int .i64 0] 31 (0, 0))) := tb; have tbc0 := cell_blk tb 0 (v := .int .i64 0) rfl; have tbc1 := cell_blk tb 1 (v := .int .i64 0) rfl; have tbs0 := soft_blk tb 0; have tbs1 := soft_blk tb 1; clear tb))
           (try (have tc1 : w2.heap[W.heap.size + 1]? = some (.cells #[.int .i64 0, .int .i64 0] 31 (0, 0)) := KH.out.get (two1 W.drew _ _) (fun z => z); have tc1h : Hid (w2.heap[W.heap.size + 1]? = some (.cells #[.int .i64 0, .int .i64 0] 31 (0, 0))) := tc1; have tc1c0 := cell_blk tc1 0 (v := .int .i64 0) rfl; have tc1c1 := cell_blk tc1 1 (v := .int .i64 0) rfl; have tc1s0 := soft_blk tc1 0; have tc1s1 := soft_blk tc1 1; clear tc1))
           (try (have ka : w2.heap[W.heap.size]? = some (.cells #[.bool false, .bool false] 56 (0, 0)) := KH.out.get (heap_alloc_new W.drew _) (fun z => z); have kah : Hid (w2.heap[W.heap.size]? = some (.cells #[.bool false, .bool false] 56 (0, 0))) := ka; have kac0 := cell_blk ka 0 (v := .bool false) rfl; have kac1 := cell_blk ka 1 (v := .bool false) rfl; have kas0 := soft_blk ka 0; have kas1 := soft_blk ka 1; clear ka))
           (try (have kb : w2.heap[W.heap.size]? = some (.cells #[.bool false, .bool false] 56 (0, 0)) := KH.out.get (two0 W.drew _ _) (fun z => z); have kbh : Hid (w2.heap[W.heap.size]? = some (.cells #[.bool false, .bool false] 56 (0, 0))) := kb; have kbc0 := cell_blk kb 0 (v := .bool false) rfl; have kbc1 := cell_blk kb 1 (v := .bool false) rfl; have kbs0 := soft_blk kb 0; have kbs1 := soft_blk kb 1; clear kb))
           (try (have kc1 : w2.heap[W.heap.size + 1]? = some (.cells #[.bool false, .bool false] 56 (0, 0)) := KH.out.get (two1 W.drew _ _) (fun z => z); have kc1h : Hid (w2.heap[W.heap.size + 1]? = some (.cells #[.bool false, .bool false] 56 (0, 0))) := kc1; have kc1c0 := cell_blk kc1 0 (v := .bool false) rfl; have kc1c1 := cell_blk kc1 1 (v := .bool false) rfl; have kc1s0 := soft_blk kc1 0; have kc1s1 := soft_blk kc1 1; clear kc1))
           (try (have p0 : W.heap.size < w2.heap.size := block_lt tah.out; have p1 : ¬ W.heap.size = w2.heap.size := by omega
                 have p2 : ¬ w2.heap.size = W.heap.size := by omega))
           (try (have p0 : W.heap.size < w2.heap.size := block_lt kah.out; have p1 : ¬ W.heap.size = w2.heap.size := by omega
                 have p2 : ¬ w2.heap.size = W.heap.size := by omega))
           (try (have p0 : W.heap.size < w2.heap.size := block_lt tbh.out; have p3 : W.heap.size + 1 < w2.heap.size := block_lt kc1h.out))
           (try (have p0 : W.heap.size < w2.heap.size := block_lt kbh.out; have p3 : W.heap.size + 1 < w2.heap.size := block_lt tc1h.out))
           have m0 := K3.out.size
           have m1 : ¬ w2.heap.size = w.heap.size := by have q := block_lt H.out.2.1; omega
           have m2 : ¬ w2.heap.size = w.heap.size + 1 := by have q := block_lt H.out.2.1; omega
           have m3 : ¬ w2.heap.size + 1 = w.heap.size := by have q := block_lt H.out.2.1; omega
           have m4 : ¬ w2.heap.size + 1 = w.heap.size + 1 := by have q := block_lt H.out.2.1; omega
           clear m0
           clear K2)
        | fail)
    all_goals go_wp2_with fail
    all_goals go_meet
    all_goals have z2 := K3.out.size
    · exact ⟨_, _, rfl, rfl, cb_of H.out.1 H.out.2.1 H.out.2.2.1 K3.out (((Kept.refl _ _).alloc _).alloc _) (two0 _ _ _) (two1 _ _ _) (by omega) (by omega)⟩
    · exact ⟨_, _, rfl, rfl, cb_of H.out.1 H.out.2.1 H.out.2.2.1 K3.out (((Kept.refl _ _).alloc _).alloc _) (two1 _ _ _) (two0 _ _ _) (by omega) (by omega)⟩
    · exact ⟨_, _, rfl, rfl, cb_of H.out.1 H.out.2.1 H.out.2.2.1 K3.out ((set2_kept (Kept.refl _ _) W.heap.size _ _ (Nat.le_refl _)).alloc _) (old_at _ (set2 tah.out _ _)) (new_at _ (set2_size _ _ _ _)) (by omega) (by omega)⟩
    · exact ⟨_, _, rfl, rfl, cb_of H.out.1 H.out.2.1 H.out.2.2.1 K3.out (set2_kept (set2_kept (Kept.refl _ _) W.heap.size _ _ (Nat.le_refl _)) (W.heap.size + 1) _ _ (by omega)) ((set2_far _ _ (by omega)).trans (set2 tbh.out _ _)) (set2 ((set2_far _ _ (by omega)).trans kc1h.out) _ _) (by omega) (by omega)⟩
    · exact ⟨_, _, rfl, rfl, cb_of H.out.1 H.out.2.1 H.out.2.2.1 K3.out ((set2_kept (Kept.refl _ _) W.heap.size _ _ (Nat.le_refl _)).alloc _) (new_at _ (set2_size _ _ _ _)) (old_at _ (set2 kah.out _ _)) (by omega) (by omega)⟩
    · exact ⟨_, _, rfl, rfl, cb_of H.out.1 H.out.2.1 H.out.2.2.1 K3.out (set2_kept (set2_kept (Kept.refl _ _) (W.heap.size + 1) _ _ (by omega)) W.heap.size _ _ (Nat.le_refl _)) ((set2_far _ _ (by omega)).trans (set2 tc1h.out _ _)) (set2 ((set2_far _ _ (by omega)).trans kbh.out) _ _) (by omega) (by omega)⟩
  case rest =>
    obtain ⟨X, Y, rfl, rfl, Q⟩ := hcut
    clear c0 c1 g0 g1 g2 g3 g4 g5 g6 n1 n2 n3 n4
    have i := HW.out.k0 Q.out.kept
    have lk := i.tm.look tagsK H.out.2.2.2.2.2
    have HI : Hid (IsRow wc nn ⟨mb, sb, q, len, cap, S, M⟩) := i
    clear i
    obtain ⟨hd, hhd⟩ : ∃ hd, hd = (M (x, y)).getD Hd.zero := ⟨_, rfl⟩
    dsimp only at lk
    rw [← hhd] at lk
    have HD : Hid (hd = (M (x, y)).getD Hd.zero) := hhd
    clear hhd
    obtain ⟨hf, hh, ha, hn, hc⟩ := hd
    have lk : (Instr.lookup 57 (.map (some mb)) (.agg #[.int .i64 x, .int .i64 y]) false).run Tryz.prog wc = .ok (.agg #[.bool hf, .bool hh, .slice ha hn hc]) wc := lk
    have c0 := cell_blk Q.out.row 0 (v := .map (some mb)) rfl
    have t0 := cell_blk Q.out.tag 0 (v := .int .i64 x) rfl
    have t1 := cell_blk Q.out.tag 1 (v := .int .i64 y) rfl
    go_upto_region 3 with fail
    obtain ⟨W4, hW4⟩ : ∃ W4, W4 = wc.alloc (.cells #[.bool hf, .bool hh, .slice ha hn hc] 87) := ⟨_, rfl⟩
    obtain ⟨h8, hh8⟩ : ∃ h8, h8 = wc.heap.size := ⟨_, rfl⟩
    have Q4 : Hid (CB w W4 mb sb kd key x y fin has a n c f g X Y ∧ W4.heap[h8]? = some (.cells #[.bool hf, .bool hh, .slice ha hn hc] 87 (0, 0)) ∧ IsRow W4 nn ⟨mb, sb, q, len, cap, S, M⟩ ∧ X < h8 ∧ Y < h8 ∧ w.heap.size + 2 ≤ h8 ∧ h8 < W4.heap.size) := by
      have K : Kept (fun _ => False) wc W4 := by rw [hW4]; exact k0_alloc _ _
      have z1 := block_lt Q.out.tag
      have z2 := block_lt Q.out.lk
      have z3 := Q.out.lo
      refine ⟨⟨K.get Q.out.row (fun z => z), K.get Q.out.box (fun z => z), K.get Q.out.tag (fun z => z), K.get Q.out.lk (fun z => z), Q.out.kept.and0 K, Q.out.ne, Q.out.lo⟩, by rw [hW4, hh8]; exact heap_alloc_new _ _, HI.out.k0 K, by omega, by omega, by omega, by rw [hW4, hh8]; simp⟩
    rw [← hW4, ← hh8]
    clear hW4 hh8 lk c0 t0 t1
    have l0 := cell_blk Q4.out.1.lk 0 (v := .bool f) rfl
    go_upto_if 21 with fail
    clear l0
    go_cut [] from 22 to 27 (fun w9 => ∃ (hh2 : Bool) (a2 : Option Addr) (n2 c2 : Nat), Hid (CB w w9 mb sb kd key x y fin has a n c f g X Y ∧ w9.heap[h8]? = some (.cells #[.bool hf, .bool hh2, .slice a2 n2 c2] 87 (0, 0)) ∧ IsRow w9 nn ⟨mb, sb, q, len, cap, S, M⟩ ∧ (f = false → hh2 = hh ∧ a2 = ha ∧ n2 = hn ∧ c2 = hc) ∧ (f = true → hh2 = true ∧ n2 = n ∧ w9.ownsRow w.heap.size 5 1 (.slice a2 n2 c2) n2 (cellsOf l))))
    case first =>
      cases f
      · go_wp2_with fail
        go_meet
        exact ⟨hh, ha, hn, hc, Q4.out.1, Q4.out.2.1, Q4.out.2.2.1, fun _ => ⟨rfl, rfl, rfl, rfl⟩, fun z => by cases z⟩
      · have g6 := cell_blk Q4.out.1.box 6 (v := .slice a n c) rfl
        go_wp2_with fail
        refine (cloneB a n c l W4 (RD.out.1.kept' Q4.out.1.kept (fun _ _ z => z)) RD.out.2.1).mono ?_
        rintro o w5 ⟨p, c5, rfl, ow, K5⟩
        have Q5 : Hid (CB w w5 mb sb kd key x y fin has a n c true g X Y ∧ w5.heap[h8]? = some (.cells #[.bool hf, .bool hh, .slice ha hn hc] 87 (0, 0)) ∧ IsRow w5 nn ⟨mb, sb, q, len, cap, S, M⟩ ∧ w5.ownsRow W4.heap.size 5 1 (.slice p n c5) n (cellsOf l)) := ⟨⟨K5.get Q4.out.1.row (fun z => z), K5.get Q4.out.1.box (fun z => z), K5.get Q4.out.1.tag (fun z => z), K5.get Q4.out.1.lk (fun z => z), Q4.out.1.kept.and0 K5, Q4.out.1.ne, Q4.out.1.lo⟩, K5.get Q4.out.2.1 (fun z => z), Q4.out.2.2.1.k0 K5, ow⟩
        have v1 := cell_blk Q5.out.2.1 1 (v := .bool hh) rfl
        have v2 := cell_blk Q5.out.2.1 2 (v := .slice ha hn hc) rfl
        have s1 := soft_blk Q5.out.2.1 1
        have s2 := soft_blk Q5.out.2.1 2
        clear ow K5 g6
        go_wp2_with fail
        go_meet
        have KS : Kept (fun k => k = h8) w5 ((w5.setCell ⟨h8, 1, none⟩ (.bool true)).setCell ⟨h8, 2, none⟩ (.slice p n c5)) := ((Kept.refl (fun k => k = h8) w5).setCell (p := ⟨h8, 1, none⟩) (fun _ => rfl) _).setCell (p := ⟨h8, 2, none⟩) (fun _ => rfl) _
        obtain ⟨z1, z2, z3, z4⟩ := Q4.out.2.2.2
        refine ⟨true, p, n, c5, ⟨KS.get Q5.out.1.row (by omega), KS.get Q5.out.1.box (by omega), KS.get Q5.out.1.tag (by omega), KS.get Q5.out.1.lk (by omega), Q5.out.1.kept.trans KS (fun j hj z => by have z : j = h8 := z; omega), Q5.out.1.ne, Q5.out.1.lo⟩, heap_set (heap_set Q5.out.2.1 1 _) 2 _, Q5.out.2.2.1.off KS (fun k hk z => ?_), fun z => (by cases z), fun _ => ⟨rfl, rfl, ?_⟩⟩
        · have z : k = h8 := z
          have := HW.out.lt hk
          omega
        · refine owns_mono (KS.owns Q5.out.2.2.2 (fun k hk z => ?_)) Q4.out.1.kept.size
          have z : k = h8 := z
          have := (own_lt Q5.out.2.2.2 k (by rw [← hk]; exact (blockOf_own ..).symm)).1
          omega
    case rest =>
      obtain ⟨hh2, a2, n2, c2, Z⟩ := hcut
      obtain ⟨z1, z2, z3, z4⟩ := Q4.out.2.2.2
      have NQ : Hid (X < h8 ∧ Y < h8 ∧ w.heap.size + 2 ≤ h8) := ⟨z1, z2, z3⟩
      have q1 : ¬ h8 = w.heap.size := by omega
      have q2 : ¬ h8 = X := by omega
      have q3 : ¬ h8 = Y := by omega
      obtain ⟨wd, hwd⟩ : ∃ wd : World, wd = wc := ⟨_, rfl⟩
      rw [← hwd] at Z ⊢
      clear z1 z2 z3 z4 Q4 hwd
      go_upto_region 5 with fail
      go_cut [] from 28 to 34 (fun w9 => Hid (CB w w9 mb sb kd key x y fin has a n c f g X Y ∧ w9.heap[h8]? = some (.cells #[.bool (hf || g), .bool hh2, .slice a2 n2 c2] 87 (0, 0)) ∧ IsRow w9 nn ⟨mb, sb, q, len, cap, S, M⟩ ∧ (f = false → hh2 = hh ∧ a2 = ha ∧ n2 = hn ∧ c2 = hc) ∧ (f = true → hh2 = true ∧ n2 = n ∧ w9.ownsRow w.heap.size 5 1 (.slice a2 n2 c2) n2 (cellsOf l))))
      case first =>
        have v0 := cell_blk Z.out.2.1 0 (v := .bool hf) rfl
        have s0 := soft_blk Z.out.2.1 0
        have y1 := cell_blk Z.out.1.lk 1 (v := .bool g) rfl
        have fin9 : ∀ b : Bool, b = (hf || g) → Hid (CB w (wd.setCell ⟨h8, 0, none⟩ (.bool b)) mb sb kd key x y fin has a n c f g X Y ∧ (wd.setCell ⟨h8, 0, none⟩ (.bool b)).heap[h8]? = some (.cells #[.bool (hf || g), .bool hh2, .slice a2 n2 c2] 87 (0, 0)) ∧ IsRow (wd.setCell ⟨h8, 0, none⟩ (.bool b)) nn ⟨mb, sb, q, len, cap, S, M⟩ ∧ (f = false → hh2 = hh ∧ a2 = ha ∧ n2 = hn ∧ c2 = hc) ∧ (f = true → hh2 = true ∧ n2 = n ∧ (wd.setCell ⟨h8, 0, none⟩ (.bool b)).ownsRow w.heap.size 5 1 (.slice a2 n2 c2) n2 (cellsOf l))) := by
          intro b hb
          have KS : Kept (fun k => k = h8) wd (wd.setCell ⟨h8, 0, none⟩ (.bool b)) := (Kept.refl (fun k => k = h8) wd).setCell (p := ⟨h8, 0, none⟩) (fun _ => rfl) _
          obtain ⟨z1, z2, z3⟩ := NQ.out
          refine ⟨⟨KS.get Z.out.1.row (by omega), KS.get Z.out.1.box (by omega), KS.get Z.out.1.tag (by omega), KS.get Z.out.1.lk (by omega), Z.out.1.kept.trans KS (fun j hj z => by have z : j = h8 := z; omega), Z.out.1.ne, Z.out.1.lo⟩, by rw [← hb]; exact heap_set Z.out.2.1 0 _, Z.out.2.2.1.off KS (fun k hk z => ?_), Z.out.2.2.2.1, fun hf1 => ⟨(Z.out.2.2.2.2 hf1).1, (Z.out.2.2.2.2 hf1).2.1, KS.owns (Z.out.2.2.2.2 hf1).2.2 (fun k hk z => ?_)⟩⟩
          · have z : k = h8 := z
            have := HW.out.lt hk
            omega
          · have z : k = h8 := z
            obtain ⟨cs, hcs⟩ := own_type (Z.out.2.2.2.2 hf1).2.2 k (by rw [← hk]; exact (blockOf_own ..).symm)
            rw [z, Z.out.2.1] at hcs
            cases hcs
        have F9 : Hid (∀ b : Bool, b = (hf || g) → Hid (CB w (wd.setCell ⟨h8, 0, none⟩ (.bool b)) mb sb kd key x y fin has a n c f g X Y ∧ (wd.setCell ⟨h8, 0, none⟩ (.bool b)).heap[h8]? = some (.cells #[.bool (hf || g), .bool hh2, .slice a2 n2 c2] 87 (0, 0)) ∧ IsRow (wd.setCell ⟨h8, 0, none⟩ (.bool b)) nn ⟨mb, sb, q, len, cap, S, M⟩ ∧ (f = false → hh2 = hh ∧ a2 = ha ∧ n2 = hn ∧ c2 = hc) ∧ (f = true → hh2 = true ∧ n2 = n ∧ (wd.setCell ⟨h8, 0, none⟩ (.bool b)).ownsRow w.heap.size 5 1 (.slice a2 n2 c2) n2 (cellsOf l)))) := fin9
        clear fin9
        cases hf
        · go_wp2_with fail
          go_meet
          exact F9.out g rfl
        · go_wp2_with fail
          go_meet
          exact F9.out true rfl
      case rest =>
        obtain ⟨we, hwe⟩ : ∃ we : World, we = wc := ⟨_, rfl⟩
        rw [← hwe] at hcut ⊢
        have Z5 : Hid _ := hcut
        clear hcut hwe Z
        have v0 := cell_blk Z5.out.2.1 0 (v := .bool (hf || g)) rfl
        have v1 := cell_blk Z5.out.2.1 1 (v := .bool hh2) rfl
        have v2 := cell_blk Z5.out.2.1 2 (v := .slice a2 n2 c2) rfl
        have c0 := cell_blk Z5.out.1.row 0 (v := .map (some mb)) rfl
        have t0 := cell_blk Z5.out.1.tag 0 (v := .int .i64 x) rfl
        have t1 := cell_blk Z5.out.1.tag 1 (v := .int .i64 y) rfl
        obtain ⟨hd2, hhd2⟩ : ∃ hd2 : Hd, hd2 = ⟨hf || g, hh2, a2, n2, c2⟩ := ⟨_, rfl⟩
        have H2 : Hid (hd2 = ⟨hf || g, hh2, a2, n2, c2⟩) := hhd2
        have HV : Hid (hd2.val = .agg #[.bool (hf || g), .bool hh2, .slice a2 n2 c2]) := by rw [hhd2]; rfl
        clear hhd2
        go_upto_region 7 with
          (first
            | (at_mapUpdate; refine wpList_put tagsK _ rfl _ _ _ rfl mb nn M rfl Z5.out.2.2.1.tm RD.out.2.2 (x, y) H.out.2.2.2.2.2 hd2 rfl HV.out.symm ?_; intro w6 tm6 k6; go_frame)
            | fail)
        have Q6 : Hid (CB w we mb sb kd key x y fin has a n c f g X Y ∧ w6.heap[Y]? = some (.cells #[.bool f, .bool g] 56 (0, 0)) ∧ w6.heap[X]? = some (.cells #[.int .i64 x, .int .i64 y] 31 (0, 0)) ∧ w6.heap[w.heap.size]? = some (.cells #[.map (some mb), .pointer (some ⟨sb, 0, none⟩)] 60 (0, 0)) ∧ IsRow w6 (nn + 1) ⟨mb, sb, q, len, cap, S, upd M (x, y) hd2⟩ ∧ Kept (fun k => k = mb) w w6 ∧ (f = true → hh2 = true ∧ n2 = n ∧ w6.ownsRow w.heap.size 5 1 (.slice a2 n2 c2) n2 (cellsOf l))) := by
          have lo := Z5.out.1.lo
          have lm := HW.out.lt (k := mb) (.inl rfl)
          have ne := Z5.out.2.2.1.ne
          refine ⟨Z5.out.1, k6.out.get Z5.out.1.lk (by omega), k6.out.get Z5.out.1.tag (by omega), k6.out.get Z5.out.1.row (by omega), ⟨tm6.out, Z5.out.2.2.1.st.off k6.out (fun z => ne.1 z.symm) (fun k hk z => ?_), Z5.out.2.2.1.up⟩, (Z5.out.1.kept.mono (fun _ _ z => z.elim)).trans k6.out (fun _ _ z => z), fun hf1 => ⟨(Z5.out.2.2.2.2 hf1).1, (Z5.out.2.2.2.2 hf1).2.1, k6.out.owns (Z5.out.2.2.2.2 hf1).2.2 (fun k hk z => ?_)⟩⟩
          rotate_left
          · obtain ⟨cs, hcs⟩ := own_type (Z5.out.2.2.2.2 hf1).2.2 k (by rw [← hk]; exact (blockOf_own ..).symm)
            exact Z5.out.2.2.1.nb hcs (.inl z)
          have z : k = mb := z
          exact ne.2.1 (by rw [← z]; exact hk)
        clear tm6 k6 v0 v1 v2 c0 t0 t1
        have y1 := cell_blk Q6.out.2.1 1 (v := .bool g) rfl
        have CM : Hid (hd2.fin = (((M (x, y)).getD Hd.zero).fin || g) ∧ (f = false → hd2.has = ((M (x, y)).getD Hd.zero).has ∧ hd2.a = ((M (x, y)).getD Hd.zero).a ∧ hd2.n = ((M (x, y)).getD Hd.zero).n ∧ hd2.c = ((M (x, y)).getD Hd.zero).c)) := by
          rw [← HD.out, H2.out]
          exact ⟨rfl, fun hf0 => Z5.out.2.2.2.1 hf0⟩
        have D6 : Hid (f = true → hd2.has = true ∧ hd2.n = n ∧ w6.ownsRow w.heap.size 5 1 (.slice hd2.a hd2.n hd2.c) hd2.n (cellsOf l)) := by
          rw [H2.out]
          exact Q6.out.2.2.2.2.2.2
        cases g
        · go_wp2_with fail
          go_end0
          refine ⟨rfl, hd2, ⟨mb, sb, q, len, cap, S, upd M (x, y) hd2⟩, Q6.out.2.2.2.2.1, ⟨rfl, rfl, Q6.out.2.2.2.2.2.1.mono (fun _ _ z => .inl z), fun k hk => .inl hk⟩, ?_, ?_, ?_, fun _ => ⟨rfl, rfl, rfl⟩, fun z => ?_⟩
          · show _ = (_ || (lackF S M _ d).2)
            rw [← HF.out.2]
            exact CM.out.1
          · show (lackF S M _ d).1 = false → _
            rw [← HF.out.1]
            exact CM.out.2
          · show (lackF S M _ d).1 = true → _
            rw [← HF.out.1]
            exact D6.out
          · have z : (lackF S M ⟨kd, key, x, y, fin, has, a, n, c⟩ d).2 = true := z
            rw [← HF.out.2] at z
            cases z
        · have c1 := cell_blk Q6.out.2.2.2.1 1 (v := .pointer (some ⟨sb, 0, none⟩)) rfl
          have t0 := cell_blk Q6.out.2.2.1 0 (v := .int .i64 x) rfl
          have t1 := cell_blk Q6.out.2.2.1 1 (v := .int .i64 y) rfl
          have FL : Fit [(x, y)] := fun t ht => by rw [List.mem_singleton.1 ht]; exact H.out.2.2.2.2.2
          go_wp2_with fail
          refine (sAdd sb q len cap S x y w6 Q6.out.2.2.2.2.1.st Q6.out.2.2.2.2.1.up FL H.out.2.2.2.2.1).mono ?_
          rintro o w7 ⟨b7, e7, q7, len7, cap7, S7, rfl, as7, st7, mv7⟩
          have R7 : Rising S7 ∧ len7 ≤ len + 1 := by
            have l7 := st7.row.length
            have l6 := Q6.out.2.2.2.2.1.st.row.length
            have l6 : S.length = len := l6
            rcases as7 with ⟨_, _, _, e⟩ | ⟨_, _, _, _, e⟩ | ⟨_, nm, _, _, e⟩
            · rw [e] at l7 ⊢; exact ⟨Q6.out.2.2.2.2.1.up, by omega⟩
            · rw [e] at l7 ⊢; exact ⟨Q6.out.2.2.2.2.1.up, by omega⟩
            · rw [e] at l7 ⊢; exact ⟨put_rising _ _ Q6.out.2.2.2.2.1.up nm, by rw [put_length] at l7; omega⟩
          have Q7 : Hid (w7.heap[w.heap.size]? = some (.cells #[.map (some mb), .pointer (some ⟨sb, 0, none⟩)] 60 (0, 0)) ∧ IsRow w7 (nn + 1) ⟨mb, sb, q7, len7, cap7, S7, upd M (x, y) hd2⟩ ∧ AddS S x y b7 e7 S7 ∧ Moved w6 w7 sb q q7 ∧ len7 * 16 ≤ 211106232532992 ∧ (∀ k, blockOf q7 = some k → k ≠ w.heap.size)) := by
            have lm := HW.out.lt (k := sb) (.inr (.inl rfl))
            have lq : ∀ k, blockOf q = some k → k < w.heap.size := fun k hk => HW.out.lt (.inr (.inr hk))
            have ne := HW.out.ne
            have sz := block_lt Q6.out.2.2.2.1
            refine ⟨mv7.kept.get Q6.out.2.2.2.1 (fun z => ?_), ⟨Q6.out.2.2.2.2.1.tm.kept mv7.kept (fun z => ?_), st7, R7.1⟩, as7, mv7, by have := H.out.2.2.2.2.1; have := R7.2; omega, fun k hk z => ?_⟩
            · rcases z with z | z
              · omega
              · have := lq _ z; omega
            · rcases z with z | z
              · exact ne.1 z
              · exact ne.2.1 z
            · rcases mv7.near k hk with e | e
              · have := lq k e; omega
              · omega
          have L7 : Hid (len7 ≤ len + 1) := R7.2
          clear as7 st7 mv7 R7 c1 t0 t1 y1
          have c0 := cell_blk Q7.out.1 0 (v := .map (some mb)) rfl
          have c1 := cell_blk Q7.out.1 1 (v := .pointer (some ⟨sb, 0, none⟩)) rfl
          go_upto_region 9 with fail
          go_region_held3 (fun w' => w'.cell? ⟨w.heap.size, 0, none⟩ = some (.map (some mb)) ∧ w'.cell? ⟨w.heap.size, 1, none⟩ = some (.pointer (some ⟨sb, 0, none⟩))) (first | go_keep)
            (first
              | (go_at_call 33; refine (rFloor (.map (some mb)) (.pointer (some ⟨sb, 0, none⟩)) (some sb) rfl S7 d w7.drew ⟨_, rfl⟩ (.inr ⟨sb, q7, len7, cap7, rfl, (Q7.out.2.1.k0 ((Kept.refl _ _).drew)).st.sv, Q7.out.2.2.2.2.1⟩)).mono ?_; rintro o w8 ⟨fx, fy, rfl, ff, K8⟩
                 have K78 : Kept (fun _ => False) w7 w8 := ((Kept.refl _ _).drew).and0 K8
                 have Q8 : Hid (w8.heap[w.heap.size]? = some (.cells #[.map (some mb), .pointer (some ⟨sb, 0, none⟩)] 60 (0, 0)) ∧ IsRow w8 (nn + 1) ⟨mb, sb, q7, len7, cap7, S7, upd M (x, y) hd2⟩ ∧ Kept (fun _ => False) w7 w8 ∧ floorT S7 d = (fx, fy)) := ⟨K78.get Q7.out.1 (fun z => z), Q7.out.2.1.k0 K78, K78, ff⟩
                 have c0 := cell_blk Q8.out.1 0 (v := .map (some mb)) rfl
                 have c1 := cell_blk Q8.out.1 1 (v := .pointer (some ⟨sb, 0, none⟩)) rfl
                 clear K8 ff K78)
              | (go_at_call 45; refine (throwAway (nn + 1) ⟨mb, sb, q7, len7, cap7, S7, upd M (x, y) hd2⟩ fx fy w8 Q8.out.2.1 Q7.out.2.2.2.2.1).mono ?_; rintro o w9 ⟨rfl, r9, i9, rm9, tr9⟩
                 have Q9 : Hid (IsRow w9 (nn + 1) r9 ∧ RMoved w8 w9 ⟨mb, sb, q7, len7, cap7, S7, upd M (x, y) hd2⟩ r9 ∧ w9.heap[w.heap.size]? = some (.cells #[.map (some mb), .pointer (some ⟨sb, 0, none⟩)] 60 (0, 0))) := by
                   refine ⟨i9, rm9, rm9.kept.get Q8.out.1 ?_⟩
                   rintro (z | z | z)
                   · have := HW.out.lt (k := mb) (.inl rfl); have z : w.heap.size = mb := z; omega
                   · have := HW.out.lt (k := sb) (.inr (.inl rfl)); have z : w.heap.size = sb := z; omega
                   · exact Q7.out.2.2.2.2.2 _ z rfl
                 have T9 : Hid _ := tr9
                 have c0 := cell_blk Q9.out.2.2 0 (v := .map (some mb)) rfl
                 have c1 := cell_blk Q9.out.2.2 1 (v := .pointer (some ⟨sb, 0, none⟩)) rfl
                 clear i9 rm9 tr9)
              | fail)
          go_wp2_with fail
          go_end0
          have U7 : ∀ k, (⟨mb, sb, q7, len7, cap7, S7, upd M (x, y) hd2⟩ : RK).Uses k → k = mb ∨ (k = sb ∨ blockOf q = some k) ∨ w6.heap.size ≤ k := by
            rintro k (z | z | z)
            · exact .inl z
            · exact .inr (.inl (.inl z))
            · rcases Q7.out.2.2.2.1.near k z with e | e
              · exact .inr (.inl (.inr e))
              · exact .inr (.inr e)
          have sz6 := Q6.out.2.2.2.2.2.1.size
          have K7 : Kept (⟨mb, sb, q, len, cap, S, M⟩ : RK).Uses w w7 := (Q6.out.2.2.2.2.2.1.mono (fun _ _ z => .inl z)).trans Q7.out.2.2.2.1.kept (fun _ _ z => .inr z)
          have K9 : Kept (⟨mb, sb, q, len, cap, S, M⟩ : RK).Uses w w9 := (K7.and0 Q8.out.2.2.1).trans Q9.out.2.1.kept (fun j hj z => by
            rcases U7 j z with e | e | e
            · exact .inl e
            · exact .inr e
            · omega)
          refine ⟨rfl, hd2, r9, Q9.out.1, ⟨Q9.out.2.1.mb, Q9.out.2.1.sb, K9, fun k hk => ?_⟩, ?_, ?_, ?_, fun z => ?_, fun _ => ⟨b7, e7, S7, fx, fy, Q7.out.2.2.1, Q8.out.2.2.2, ?_, ?_⟩⟩
          · rcases Q9.out.2.1.near k hk with e | e
            · rcases U7 k e with z | z | z
              · exact .inl (.inl z)
              · exact .inl (.inr z)
              · exact .inr (Nat.le_trans sz6 z)
            · have h1 := K7.size
              have h2 := Q8.out.2.2.1.size
              exact .inr (by omega)
          · show _ = (_ || (lackF S M _ d).2)
            rw [← HF.out.2]
            exact CM.out.1
          · show (lackF S M _ d).1 = false → _
            rw [← HF.out.1]
            exact CM.out.2
          · show (lackF S M _ d).1 = true → _
            rw [← HF.out.1]
            intro hf1
            obtain ⟨d1, d2, d3⟩ := D6.out hf1
            have o7 := Q7.out.2.2.2.1.kept.owns d3 (fun k hk z => by
              obtain ⟨cs, hcs⟩ := own_type d3 k (by rw [← hk]; exact (blockOf_own ..).symm)
              exact Q6.out.2.2.2.2.1.nb hcs (.inr z))
            have o8 := Q8.out.2.2.1.owns o7 (fun _ _ z => z)
            exact ⟨d1, d2, Q9.out.2.1.kept.owns o8 (fun k hk z => by
              obtain ⟨cs, hcs⟩ := own_type o8 k (by rw [← hk]; exact (blockOf_own ..).symm)
              exact Q8.out.2.1.nb hcs z)⟩
          · have z : (lackF S M ⟨kd, key, x, y, fin, has, a, n, c⟩ d).2 = false := z
            rw [← HF.out.2] at z
            cases z
          · have l7 := Q7.out.2.1.st.row.length
            have l7 : S7.length = len7 := l7
            have l9 := Q9.out.1.st.row.length
            have h7 := L7.out
            rcases T9.out with ⟨_, e1, _⟩ | ⟨_, _, e2, _⟩
            · have e1 : r9.S = S7 := e1
              rw [e1] at l9
              show r9.len ≤ len + 1
              omega
            · have e2 : r9.len ≤ len7 := e2
              show r9.len ≤ len + 1
              omega
          · rcases T9.out with ⟨z, e1, e2⟩ | ⟨z, e1, _, e3⟩
            · exact .inl ⟨z, e1, e2⟩
            · exact .inr ⟨z, e1, e3⟩
end Go.Proofs.YtojepeefphbekabGreat
