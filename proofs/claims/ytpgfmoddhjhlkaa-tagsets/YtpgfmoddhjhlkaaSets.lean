import Derived.Test.YtpgfmoddhjhlkaaScript
namespace Go.Proofs.Ytpgfmoddhjhlkaa
open Go.RowKit

/-- The given list, with its mark. -/
structure Given (w wr : World) (g c len : Nat) (l : List (Int × Int)) : Prop where
  bel : Below w.heap.size w wr
  row : Row wr (some ⟨g, 0, none⟩) (len + 1) c (l ++ [(-77, 0)])
  hg : w.heap.size ≤ g
theorem Given.by {w wr w' : World} {g c len : Nat} {l : List (Int × Int)} (h : Given w wr g c len l) (b : Below wr.heap.size wr w') : Given w w' g c len l := ⟨h.bel.trans (b.mono h.bel.size), h.row.by b, h.hg⟩
theorem tags_g (a : Option Addr) (len cap : Nat) (l : List (Int × Int)) (w w6 : World) (S : Below w.heap.size w w6) (r : TReads w a len cap l) (hb : (len + 1) * 16 ≤ 211106232532992) :
    Calls Try.prog 17 #[.slice a len cap] w6 fun x w' => ∃ g c, x = .returned (.slice (some ⟨g, 0, none⟩) len c) ∧ Hid (Given w w' g c len l) := by
  refine (tags a len cap l _ (r.by S) hb).mono ?_
  rintro x w7 ⟨g, c, rfl, hg, O7, B7⟩
  have R7 := (Row.of_owns O7 (fun t ht => by
    rcases List.mem_append.1 ht with m | m
    · exact r.fit t m
    · rw [List.mem_singleton] at m; subst m; exact ⟨by omega, by omega⟩)).1
  exact ⟨g, c, rfl, ⟨S.trans (B7.mono S.size), R7, Nat.le_trans S.size hg⟩⟩
/-- The program's set beside it. -/
structure Half (w wr : World) (g c len : Nat) (l : List (Int × Int)) (B : Nat) (q : Option Addr) (m c1 : Nat) (S : List (Int × Int)) : Prop where
  gv : Given w wr g c len l
  set : IsSet 62 wr B q m c1 S
  ri : Rising S
  me : ∀ t, t ∈ S ↔ t ∈ l
  hB : w.heap.size ≤ B
  gB : g < B
  fq : From w.heap.size q
  gq : ∀ k, blockOf q = some k → g < k
theorem newS_good (g c len : Nat) (l : List (Int × Int)) (w w7 : World) (G : Given w w7 g c len l) (hp : ∀ t ∈ l, isProper t.1 t.2 = true) (hb : (len + 1) * 16 ≤ 211106232532992) :
    Calls Try.prog 18 #[.slice (some ⟨g, 0, none⟩) len c] w7 fun x w8 => ∃ B q m c1 S, x = .returned (.tuple #[.pointer (some ⟨B, 0, none⟩), .int .i64 0]) ∧ Hid (Half w w8 g c len l B q m c1 S) := by
  refine (sNewSet (some ⟨g, 0, none⟩) len c l _ G.row.reads.short (fun e => by cases e) hb).mono ?_
  rintro x w8 (⟨pr, B, q, m, c1, S, rfl, I, ri, me, hB, fq, B8⟩ | ⟨⟨t, ht, hn⟩, _⟩)
  · have lg := G.row.lt
    exact ⟨B, q, m, c1, S, rfl, ⟨G.by B8, I, ri, me, Nat.le_trans G.bel.size hB, by omega, fun k hk => Nat.le_trans G.bel.size (fq k hk), fun k hk => by have := fq k hk; omega⟩⟩
  · rw [hp t ht] at hn; cases hn
theorem newS_bad (g c len : Nat) (l : List (Int × Int)) (w w7 : World) (G : Given w w7 g c len l) (hp : ¬ ∀ t ∈ l, isProper t.1 t.2 = true) (hb : (len + 1) * 16 ≤ 211106232532992) :
    Calls Try.prog 18 #[.slice (some ⟨g, 0, none⟩) len c] w7 fun x w8 => x = .returned (.tuple #[.pointer none, .int .i64 41]) ∧ Hid (Given w w8 g c len l) := by
  refine (sNewSet (some ⟨g, 0, none⟩) len c l _ G.row.reads.short (fun e => by cases e) hb).mono ?_
  rintro x w8 (⟨pr, _⟩ | ⟨_, rfl, B8⟩)
  · exact absurd pr hp
  · exact ⟨rfl, G.by B8⟩
/-- Both sets, and the list written over or not. -/
structure Full (w wr : World) (g c len : Nat) (T : List (Int × Int)) (B C : Nat) (q r : Option Addr) (m c1 m2 c2 : Nat) (S R : List (Int × Int)) : Prop where
  two : Two w.heap.size w wr B C q r m c1 m2 c2 S R
  row : Row wr (some ⟨g, 0, none⟩) (len + 1) c T
  hg : w.heap.size ≤ g
  gB : g ≠ B
  gC : g ≠ C
  gq : blockOf q ≠ some g
  gr : blockOf r ≠ some g
theorem newR_good (g c len : Nat) (l : List (Int × Int)) (B : Nat) (q : Option Addr) (m c1 : Nat) (S : List (Int × Int)) (a : Option Addr) (cap : Nat) (w w8 : World) (H : Half w w8 g c len l B q m c1 S) (r : TReads w a len cap l) (hp : ∀ t ∈ l, isProper t.1 t.2 = true) (hb : (len + 1) * 16 ≤ 211106232532992) :
    Calls Try.prog 19 #[.slice a len cap] w8 fun x w9 => ∃ C r m2 c2, x = .returned (.tuple #[.pointer (some ⟨C, 0, none⟩), .int .i64 0]) ∧ m ≤ len ∧ Hid (Full w w9 g c len (l ++ [(-77, 0)]) B C q r m c1 m2 c2 S (newR l)) := by
  refine (rNewSet a len cap l _ (r.by H.gv.bel) hb).mono ?_
  rintro x w9 (⟨pr, rr, m2, c2, rfl, I2, fr, B9⟩ | ⟨⟨t, ht, hn⟩, _⟩)
  · have bw : Below w.heap.size w w9 := H.gv.bel.trans (B9.mono H.gv.bel.size)
    have T9 : Two w.heap.size w w9 B w8.heap.size q rr m c1 m2 c2 S (newR l) := by
      refine ⟨⟨H.set.by B9, I2, fun k hk e => ?_, H.hB, H.gv.bel.size, H.fq, fun k hk => Nat.le_trans H.gv.bel.size (fr k hk), bw.size, bw⟩, H.ri, new_perm H.ri H.me⟩
      have h1 := H.set.rowlt k hk
      have h2 := fr k e
      omega
    have lg := H.gv.row.lt
    have hm : m ≤ len := by
      have e1 := T9.s.row.length
      have e2 := T9.perm.length_eq
      have e3 := newR_length l l.length
      rw [List.take_length] at e3
      have := r.length
      omega
    refine ⟨_, rr, m2, c2, rfl, hm, ⟨T9, H.gv.row.by B9, H.gv.hg, by have := H.gB; omega, by omega, fun e => ?_, fun e => ?_⟩⟩
    · have := H.gq g e; omega
    · have := fr g e; omega
  · rw [hp t ht] at hn; cases hn
theorem newR_bad (g c len : Nat) (l : List (Int × Int)) (a : Option Addr) (cap : Nat) (w w8 : World) (G : Given w w8 g c len l) (r : TReads w a len cap l) (hp : ¬ ∀ t ∈ l, isProper t.1 t.2 = true) (hb : (len + 1) * 16 ≤ 211106232532992) :
    Calls Try.prog 19 #[.slice a len cap] w8 fun x w9 => x = .returned (.tuple #[.pointer none, .int .i64 41]) ∧ Hid (Given w w9 g c len l) := by
  refine (rNewSet a len cap l _ (r.by G.bel) hb).mono ?_
  rintro x w9 (⟨pr, _⟩ | ⟨_, rfl, B9⟩)
  · exact absurd pr hp
  · exact ⟨rfl, G.by B9⟩
theorem Full.by {w wr w' : World} {g c len : Nat} {T : List (Int × Int)} {B C : Nat} {q r : Option Addr} {m c1 m2 c2 : Nat} {S R : List (Int × Int)} (h : Full w wr g c len T B C q r m c1 m2 c2 S R) (b : Below wr.heap.size wr w') : Full w w' g c len T B C q r m c1 m2 c2 S R :=
  ⟨h.two.by b, h.row.by b, h.hg, h.gB, h.gC, h.gq, h.gr⟩
theorem Full.write {w wr : World} {g c len : Nat} {T : List (Int × Int)} {B C : Nat} {q r : Option Addr} {m c1 m2 c2 : Nat} {S R : List (Int × Int)} (h : Full w wr g c len T B C q r m c1 m2 c2 S R) (i : Nat) (hi : i < len + 1) (u : Int × Int) (hu : Fit [u]) :
    Full w ((wr.setCell ⟨g, 0 + i * 2, none⟩ (.int .i64 u.1)).setCell ⟨g, 0 + i * 2 + 1, none⟩ (.int .i64 u.2)) g c len (T.set i u) B C q r m c1 m2 c2 S R :=
  ⟨h.two.keptG (((Kept.refl (fun j => j = g) wr).setCell (p := ⟨g, 0 + i * 2, none⟩) (fun _ => rfl) _).setCell (p := ⟨g, 0 + i * 2 + 1, none⟩) (fun _ => rfl) _) h.hg h.gB h.gC h.gq h.gr, row_store h.row i hi u hu, h.hg, h.gB, h.gC, h.gq, h.gr⟩
theorem Full.kept_call {w wr : World} {g c len : Nat} {l : List (Int × Int)} {B C : Nat} {q r : Option Addr} {m c1 m2 c2 : Nat} {S R : List (Int × Int)} (h : Full w wr g c len (l ++ [(-77, 0)]) B C q r m c1 m2 c2 S R) (a : Option Addr) (cap : Nat) (rd : TReads w a len cap l) :
    Calls Try.prog 20 #[.slice (some ⟨g, 0, none⟩) len c, .slice a len cap] wr fun x w' => x = .returned (.bool true) ∧ Hid (Full w w' g c len (l ++ [(-77, 0)]) B C q r m c1 m2 c2 S R) :=
  (kept g c a len cap l wr h.row.reads (rd.by h.two.below)).mono (fun _ _ ⟨he, hb⟩ => ⟨he, h.by hb⟩)
theorem Given.kept_call {w wr : World} {g c len : Nat} {l : List (Int × Int)} (h : Given w wr g c len l) (a : Option Addr) (cap : Nat) (rd : TReads w a len cap l) :
    Calls Try.prog 20 #[.slice (some ⟨g, 0, none⟩) len c, .slice a len cap] wr fun x w' => x = .returned (.bool true) ∧ Hid (Given w w' g c len l) :=
  (kept g c a len cap l wr h.row.reads (rd.by h.bel)).mono (fun _ _ ⟨he, hb⟩ => ⟨he, h.by hb⟩)
/-- Both sets after some steps. -/
structure On (w wr : World) (B C lim : Nat) : Prop where
  ex : ∃ q r m c1 m2 c2 S R, Two w.heap.size w wr B C q r m c1 m2 c2 S R ∧ m ≤ lim
theorem Full.on {w wr : World} {g c len : Nat} {T : List (Int × Int)} {B C : Nat} {q r : Option Addr} {m c1 m2 c2 : Nat} {S R : List (Int × Int)} (h : Full w wr g c len T B C q r m c1 m2 c2 S R) {lim : Nat} (hm : m ≤ lim) : On w wr B C lim := ⟨q, r, m, c1, m2, c2, S, R, h.two, hm⟩
theorem On.bel {w wr : World} {B C lim : Nat} (h : On w wr B C lim) : Below w.heap.size w wr := by
  obtain ⟨q, r, m, c1, m2, c2, S, R, h, _⟩ := h.ex
  exact h.below
theorem On.stepped {w wr : World} {B C lim : Nat} (h : On w wr B C lim) (k x y n : Int) (hf : Fit [(x, y)]) (hz : -9223372036854775808 ≤ n ∧ n < 9223372036854775808) (hb : (lim + 1) * 16 ≤ 211106232532992) :
    Calls Try.prog 21 #[.pointer (some ⟨B, 0, none⟩), .pointer (some ⟨C, 0, none⟩), .agg #[.int .i64 k, .int .i64 x, .int .i64 y, .int .i64 n]] wr fun o w' => o = .returned (.bool true) ∧ Hid (On w w' B C (lim + 1)) := by
  obtain ⟨q, r, m, c1, m2, c2, S, R, h, hm⟩ := h.ex
  refine (Ytpgfmoddhjhlkaa.step w.heap.size w B C q r m c1 m2 c2 S R k x y n wr h hf hz (by omega)).mono ?_
  rintro o w' ⟨he, q', r', m', c1', m2', c2', S', R', h', hm'⟩
  exact ⟨he, ⟨q', r', m', c1', m2', c2', S', R', h', by omega⟩⟩
theorem On.lens {w wr : World} {B C lim : Nat} (h : On w wr B C lim) : ∃ n : Nat, n ≤ lim ∧
    Hid (∀ wx, Below wr.heap.size wr wx → Calls Try.prog 13 #[.pointer (some ⟨B, 0, none⟩)] wx fun o w' => o = .returned (.int .i64 (n : Int)) ∧ Hid (Below wr.heap.size wr w')) ∧
    Hid (∀ wx, Below wr.heap.size wr wx → Calls Try.prog 22 #[.pointer (some ⟨C, 0, none⟩)] wx fun o w' => o = .returned (.int .i64 (n : Int)) ∧ Hid (Below wr.heap.size wr w')) := by
  obtain ⟨q, r, m, c1, m2, c2, S, R, h, hm⟩ := h.ex
  refine ⟨m, hm, fun wx b => ?_, fun wx b => ?_⟩
  · exact (sLen B q m c1 S wx (h.by b).s.sv).mono (fun _ _ ⟨he, hb⟩ => ⟨he, b.trans (hb.mono b.size)⟩)
  · have e : R.length = m := by rw [h.perm.length_eq]; exact h.s.row.length
    exact (rLen C r m2 c2 R wx (h.by b).rf.sv).mono (fun _ _ ⟨he, hb⟩ => ⟨by rw [e] at he; exact he, b.trans (hb.mono b.size)⟩)
theorem On.by {w wr w' : World} {B C lim : Nat} (h : On w wr B C lim) (b : Below wr.heap.size wr w') : On w w' B C lim := by
  obtain ⟨q, r, m, c1, m2, c2, S, R, h, hm⟩ := h.ex
  exact ⟨q, r, m, c1, m2, c2, S, R, h.by b, hm⟩
theorem Full.blk {w wr : World} {g c len : Nat} {T : List (Int × Int)} {B C : Nat} {q r : Option Addr} {m c1 m2 c2 : Nat} {S R : List (Int × Int)} (h : Full w wr g c len T B C q r m c1 m2 c2 S R) : ∃ cur, wr.heap[g]? = some (.cells cur 24 (0, 0)) ∧ (len + 1) * 2 ≤ cur.size := by
  rcases h.row.pos with ⟨e, _⟩ | ⟨g', off, cur, e, hg, hs, _⟩
  · cases e
  · simp at e
    obtain ⟨rfl, rfl⟩ := e
    have := h.row.room
    exact ⟨cur, hg, by omega⟩
theorem cell_ex {w : World} {g i : Nat} {cur : Array Value} {t : TypeId} (h : w.heap[g]? = some (.cells cur t (0, 0))) (hi : i < cur.size) : ∃ u, w.cell? ⟨g, i, none⟩ = some u := ⟨cur[i], cell_blk h i (Array.getElem?_eq_getElem hi)⟩
end Go.Proofs.Ytpgfmoddhjhlkaa
