import Derived.Test.YtojfnehdanhgiaaNets
import Derived.Test.YtojfnehdanhgiaaBecome
import Derived.Test.YtojfnehdanhgiaaCut
namespace Go.Proofs.Ytojfnehdanhgiaa
open Go.RowKit

/-- It answered r.2, and r.1 is in flight now. -/
def Did (ty base : Nat) (w : World) (C : Nat) (g : Option Nat) (r : List Pk × Int) (v : Value) (w' : World) : Prop := v = .int .i64 r.2 ∧ ∃ g', NetOf ty base w' C g' r.1 ∧ Mv w w' C g g'
theorem Did.late {ty base : Nat} {w W w' : World} {C : Nat} {g : Option Nat} {r : List Pk × Int} {v : Value} (K : Kept (fun _ => False) w W) (h : Did ty base W C g r v w') : Did ty base w C g r v w' := by
  obtain ⟨h1, g', h2, h3⟩ := h
  exact ⟨h1, g', h2, (Mv.of_kept K C g).trans h3⟩
theorem Did.same {ty base : Nat} {w w' : World} {C : Nat} {g : Option Nat} {ps : List Pk} (n : NetOf ty base w C g ps) (K : Kept (fun _ => False) w w') (e : Int) : Did ty base w C g (ps, e) (.int .i64 e) w' := ⟨rfl, g, n.kept0 K, Mv.of_kept K C g⟩
theorem len_eq {R : List Ent} {len : Nat} {ps : List Pk} (hl : R.length = len) (e : R.map Ent.p = ps) : ps.length = len := by rw [← e, List.length_map, hl]
set_option maxRecDepth 100000 in
theorem nDrop (base C : Nat) (g : Option Nat) (ps : List Pk) (i : Int) (w : World) (h : NetOf 67 base w C g ps) :
    Calls Try.prog 18 #[.pointer (some ⟨C, 0, none⟩), .int .i64 i] w fun x w' => ∃ v, x = .returned v ∧ Did 67 base w C g (aDrop ps i) v w' := by
  have D : Calls Try.prog 28 #[.pointer (some ⟨C, 0, none⟩), .int .i64 0, .int .i64 i, .agg #[.int .i64 0, .int .u32 0]] w fun x w' => ∃ v, x = .returned v ∧ Did 67 base w C g (aDrop ps i) v w' := by
    obtain ⟨q, len, cap, R, h, rfl, e⟩ := h
    have hl := len_eq h.list.length e
    cases hh : hasI i ps.length with
    | false =>
      rw [aDrop, if_neg (by simp [hh])]
      rw [hl] at hh
      refine (become_none C q len cap w 0 i 0 0 h.cell hh).mono ?_
      rintro x w' ⟨rfl, K⟩
      exact ⟨_, rfl, Did.same ⟨q, len, cap, R, h, rfl, e⟩ K 50⟩
    | true =>
      rw [aDrop, if_pos hh]
      rw [hl] at hh
      refine become0 C q len cap w i 0 0 _ h.cell hh (fun W K => ?_)
      obtain ⟨k, rfl, hk⟩ := hasI_nat hh
      refine (drop base C q len cap R W (h.kept0 K) k hk 0 0).mono ?_
      rintro x w' ⟨rfl, n, m⟩
      refine ⟨_, rfl, Did.late K ⟨rfl, blockOf q, ⟨q, len - 1, cap, _, n, rfl, ?_⟩, m.mv⟩⟩
      rw [← e, List.map_append, List.map_take, List.map_drop, Int.toNat_natCast]
  have DH : Hid (Calls Try.prog 28 #[.pointer (some ⟨C, 0, none⟩), .int .i64 0, .int .i64 i, .agg #[.int .i64 0, .int .u32 0]] w fun x w' => ∃ v, x = .returned v ∧ Did 67 base w C g (aDrop ps i) v w') := D
  clear D
  go_enter Try.func18, Try.ntmps18
  go_wp2_with fail
  refine DH.out.mono ?_
  rintro x w' ⟨v, rfl, F⟩
  have FH : Hid (Did 67 base w C g (aDrop ps i) v w') := F
  clear F
  go_wp2_with fail
  go_ret
  exact ⟨v, rfl, FH.out⟩
set_option maxRecDepth 100000 in
theorem nDouble (base C : Nat) (g : Option Nat) (ps : List Pk) (i : Int) (w : World) (h : NetOf 67 base w C g ps) (hbase : base ≤ w.heap.size) (hb : ps.length + 1 ≤ Big) :
    Calls Try.prog 8 #[.pointer (some ⟨C, 0, none⟩), .int .i64 i] w fun x w' => ∃ v, x = .returned v ∧ Did 67 base w C g (aDouble ps i) v w' := by
  have D : Calls Try.prog 28 #[.pointer (some ⟨C, 0, none⟩), .int .i64 1, .int .i64 i, .agg #[.int .i64 0, .int .u32 0]] w fun x w' => ∃ v, x = .returned v ∧ Did 67 base w C g (aDouble ps i) v w' := by
    obtain ⟨q, len, cap, R, h, rfl, e⟩ := h
    have hl := len_eq h.list.length e
    cases hh : hasI i ps.length with
    | false =>
      rw [aDouble, if_neg (by simp [hh])]
      rw [hl] at hh
      refine (become_none C q len cap w 1 i 0 0 h.cell hh).mono ?_
      rintro x w' ⟨rfl, K⟩
      exact ⟨_, rfl, Did.same ⟨q, len, cap, R, h, rfl, e⟩ K 50⟩
    | true =>
      rw [aDouble, if_pos hh]
      rw [hl] at hh hb
      refine become1 C q len cap w i 0 0 _ h.cell hh (fun W K => ?_)
      obtain ⟨k, rfl, hk⟩ := hasI_nat hh
      refine (double base C q len cap R W (h.kept0 K) (Nat.le_trans hbase K.size) hb k hk 0 0).mono ?_
      rintro x w' ⟨p, c, en, rfl, ⟨hkR, hen⟩, n, m⟩
      refine ⟨_, rfl, Did.late K ⟨rfl, blockOf p, ⟨p, len + 1, c, _, n, rfl, ?_⟩, m.mv⟩⟩
      rw [← e, List.map_append, Int.toNat_natCast, List.getElem?_map, List.getElem?_eq_getElem hkR]
      simp [hen]
  have DH : Hid (Calls Try.prog 28 #[.pointer (some ⟨C, 0, none⟩), .int .i64 1, .int .i64 i, .agg #[.int .i64 0, .int .u32 0]] w fun x w' => ∃ v, x = .returned v ∧ Did 67 base w C g (aDouble ps i) v w') := D
  clear D
  go_enter Try.func8, Try.ntmps8
  go_wp2_with fail
  refine DH.out.mono ?_
  rintro x w' ⟨v, rfl, F⟩
  have FH : Hid (Did 67 base w C g (aDouble ps i) v w') := F
  clear F
  go_wp2_with fail
  go_ret
  exact ⟨v, rfl, FH.out⟩
set_option maxRecDepth 100000 in
theorem nBurst (base C : Nat) (g : Option Nat) (ps : List Pk) (i bit : Int) (pat : Nat) (w : World) (h : NetOf 67 base w C g ps) (hbase : base ≤ w.heap.size) (hb : bit < 9223372036854775808) (hp : pat < 4294967296) :
    Calls Try.prog 9 #[.pointer (some ⟨C, 0, none⟩), .int .i64 i, .int .i64 bit, .int .u32 (pat : Int)] w fun x w' => ∃ v, x = .returned v ∧ Did 67 base w C g (aBurst turned ps i bit pat) v w' := by
  have D : Calls Try.prog 28 #[.pointer (some ⟨C, 0, none⟩), .int .i64 2, .int .i64 i, .agg #[.int .i64 bit, .int .u32 (pat : Int)]] w fun x w' => ∃ v, x = .returned v ∧ Did 67 base w C g (aBurst turned ps i bit pat) v w' := by
    obtain ⟨q, len, cap, R, h, rfl, e⟩ := h
    have hl := len_eq h.list.length e
    cases hh : hasI i ps.length with
    | false =>
      rw [aBurst, if_neg (by simp [hh])]
      rw [hl] at hh
      refine (become_none C q len cap w 2 i bit pat h.cell hh).mono ?_
      rintro x w' ⟨rfl, K⟩
      exact ⟨_, rfl, Did.same ⟨q, len, cap, R, h, rfl, e⟩ K 50⟩
    | true =>
      rw [aBurst, if_pos hh]
      rw [hl] at hh
      refine become2 C q len cap w i bit pat _ h.cell hh (fun W K => ?_)
      obtain ⟨k, rfl, hk⟩ := hasI_nat hh
      by_cases hn : bit < 0
      · rw [if_pos hn]
        refine (turn_bad base C q len cap R W (h.kept0 K) k hk bit pat hn).mono ?_
        rintro x w' ⟨rfl, K2⟩
        exact ⟨_, rfl, Did.late K (Did.same ⟨q, len, cap, R, h.kept0 K, rfl, e⟩ K2 1)⟩
      · rw [if_neg hn]
        obtain ⟨b, rfl⟩ : ∃ b : Nat, bit = (b : Int) := ⟨bit.toNat, by omega⟩
        refine (turn base C q len cap R W (h.kept0 K) (Nat.le_trans hbase K.size) k hk b pat (by omega) hp).mono ?_
        rintro x w' ⟨en, hkR, rfl, hen, n, m⟩
        refine ⟨_, rfl, Did.late K ⟨rfl, blockOf q, ⟨q, len, cap, _, n, rfl, ?_⟩, m.mv⟩⟩
        rw [map_upd hkR (fun p => { p with data := turned b pat p.data }) hen, ← e, Int.toNat_natCast, Int.toNat_natCast]
  have DH : Hid (Calls Try.prog 28 #[.pointer (some ⟨C, 0, none⟩), .int .i64 2, .int .i64 i, .agg #[.int .i64 bit, .int .u32 (pat : Int)]] w fun x w' => ∃ v, x = .returned v ∧ Did 67 base w C g (aBurst turned ps i bit pat) v w') := D
  clear D
  go_enter Try.func9, Try.ntmps9
  go_wp2_with fail
  refine DH.out.mono ?_
  rintro x w' ⟨v, rfl, F⟩
  have FH : Hid (Did 67 base w C g (aBurst turned ps i bit pat) v w') := F
  clear F
  go_wp2_with fail
  go_ret
  exact ⟨v, rfl, FH.out⟩
set_option maxRecDepth 100000 in
theorem nCut (base C : Nat) (g : Option Nat) (ps : List Pk) (i size : Int) (w : World) (h : NetOf 67 base w C g ps) (hbase : base ≤ w.heap.size) :
    Calls Try.prog 15 #[.pointer (some ⟨C, 0, none⟩), .int .i64 i, .int .i64 size] w fun x w' => ∃ v, x = .returned v ∧ Did 67 base w C g (aCut ps i size) v w' := by
  have D : Calls Try.prog 28 #[.pointer (some ⟨C, 0, none⟩), .int .i64 3, .int .i64 i, .agg #[.int .i64 size, .int .u32 0]] w fun x w' => ∃ v, x = .returned v ∧ Did 67 base w C g (aCut ps i size) v w' := by
    obtain ⟨q, len, cap, R, h, rfl, e⟩ := h
    have hl := len_eq h.list.length e
    cases hh : hasI i ps.length with
    | false =>
      rw [aCut, if_neg (by simp [hh])]
      rw [hl] at hh
      refine (become_none C q len cap w 3 i size 0 h.cell hh).mono ?_
      rintro x w' ⟨rfl, K⟩
      exact ⟨_, rfl, Did.same ⟨q, len, cap, R, h, rfl, e⟩ K 50⟩
    | true =>
      rw [aCut, if_pos hh]
      rw [hl] at hh
      refine become3 C q len cap w i size 0 _ h.cell hh (fun W K => ?_)
      obtain ⟨k, rfl, hk⟩ := hasI_nat hh
      by_cases hn : size < 0
      · rw [if_pos hn]
        refine (cut_bad C W k size 0 hn).mono ?_
        rintro x w' ⟨rfl, K2⟩
        exact ⟨_, rfl, Did.late K (Did.same ⟨q, len, cap, R, h.kept0 K, rfl, e⟩ K2 1)⟩
      · rw [if_neg hn]
        obtain ⟨b, rfl⟩ : ∃ b : Nat, size = (b : Int) := ⟨size.toNat, by omega⟩
        refine (cut base C q len cap R W (h.kept0 K) (Nat.le_trans hbase K.size) k hk b 0).mono ?_
        rintro x w' ⟨en, hkR, rfl, hen, n, m⟩
        refine ⟨_, rfl, Did.late K ⟨rfl, blockOf q, ⟨q, len, cap, _, n, rfl, ?_⟩, m.mv⟩⟩
        rw [map_upd hkR (fun p => { p with data := p.data.take b }) hen, ← e, Int.toNat_natCast, Int.toNat_natCast]
  have DH : Hid (Calls Try.prog 28 #[.pointer (some ⟨C, 0, none⟩), .int .i64 3, .int .i64 i, .agg #[.int .i64 size, .int .u32 0]] w fun x w' => ∃ v, x = .returned v ∧ Did 67 base w C g (aCut ps i size) v w') := D
  clear D
  go_enter Try.func15, Try.ntmps15
  go_wp2_with fail
  refine DH.out.mono ?_
  rintro x w' ⟨v, rfl, F⟩
  have FH : Hid (Did 67 base w C g (aCut ps i size) v w') := F
  clear F
  go_wp2_with fail
  go_ret
  exact ⟨v, rfl, FH.out⟩
set_option maxRecDepth 100000 in
theorem nLose (base C : Nat) (g : Option Nat) (ps : List Pk) (i : Int) (w : World) (h : NetOf 67 base w C g ps) :
    Calls Try.prog 40 #[.pointer (some ⟨C, 0, none⟩), .int .i64 i] w fun x w' => ∃ v, x = .returned v ∧ Did 67 base w C g (aLose ps i) v w' := by
  have D : Calls Try.prog 28 #[.pointer (some ⟨C, 0, none⟩), .int .i64 4, .int .i64 i, .agg #[.int .i64 0, .int .u32 0]] w fun x w' => ∃ v, x = .returned v ∧ Did 67 base w C g (aLose ps i) v w' := by
    obtain ⟨q, len, cap, R, h, rfl, e⟩ := h
    have hl := len_eq h.list.length e
    cases hh : hasI i ps.length with
    | false =>
      rw [aLose, if_neg (by simp [hh])]
      rw [hl] at hh
      refine (become_none C q len cap w 4 i 0 0 h.cell hh).mono ?_
      rintro x w' ⟨rfl, K⟩
      exact ⟨_, rfl, Did.same ⟨q, len, cap, R, h, rfl, e⟩ K 50⟩
    | true =>
      rw [aLose, if_pos hh]
      rw [hl] at hh
      refine become4 C q len cap w i 0 0 _ h.cell hh (fun W K => ?_)
      obtain ⟨k, rfl, hk⟩ := hasI_nat hh
      refine (lose base C q len cap R W (h.kept0 K) k hk 0 0).mono ?_
      rintro x w' ⟨hkR, rfl, n, m⟩
      refine ⟨_, rfl, Did.late K ⟨rfl, blockOf q, ⟨q, len, cap, _, n, rfl, ?_⟩, m.mv⟩⟩
      rw [map_upd hkR (fun p => { p with lost := true }) rfl, ← e, Int.toNat_natCast]
  have DH : Hid (Calls Try.prog 28 #[.pointer (some ⟨C, 0, none⟩), .int .i64 4, .int .i64 i, .agg #[.int .i64 0, .int .u32 0]] w fun x w' => ∃ v, x = .returned v ∧ Did 67 base w C g (aLose ps i) v w') := D
  clear D
  go_enter Try.func40, Try.ntmps40
  go_wp2_with fail
  refine DH.out.mono ?_
  rintro x w' ⟨v, rfl, F⟩
  have FH : Hid (Did 67 base w C g (aLose ps i) v w') := F
  clear F
  go_wp2_with fail
  go_ret
  exact ⟨v, rfl, FH.out⟩
end Go.Proofs.Ytojfnehdanhgiaa
