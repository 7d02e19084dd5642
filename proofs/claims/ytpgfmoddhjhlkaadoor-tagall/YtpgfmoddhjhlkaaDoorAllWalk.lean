import Derived.Test.YtpgfmoddhjhlkaaDoorTags
import Derived.Test.YtpgfmoddhjhlkaaDoorRefNext
import Derived.Test.YtpgfmoddhjhlkaaDoorRefParse
import Derived.BigRegion
namespace Go.Proofs.YtpgfmoddhjhlkaaDoor
open Go.RowKit

theorem maxAny (a : Option Addr) (len cap : Nat) (l : List (Int × Int)) (w : World) (r : TReads w a len cap l) :
    Calls Tryd.prog 14 #[.slice a len cap] w fun x w' => x = .returned (.agg #[.int .i64 (maxT l).1, .int .i64 (maxT l).2]) ∧ Below w.heap.size w w' := by
  by_cases h : 0 < len
  · exact max_some a len cap l w r h
  · have h0 : len = 0 := by omega
    subst h0
    have : l = [] := List.eq_nil_of_length_eq_zero r.length
    subst this
    exact max_zero w a cap
theorem rMaxAny (a : Option Addr) (len cap : Nat) (l : List (Int × Int)) (w : World) (r : TReads w a len cap l) :
    Calls Tryd.prog 15 #[.slice a len cap] w fun x w' => x = .returned (.agg #[.int .i64 (maxT l).1, .int .i64 (maxT l).2]) ∧ Below w.heap.size w w' := by
  by_cases h : 0 < len
  · exact rMax_some a len cap l w r h
  · have h0 : len = 0 := by omega
    subst h0
    have : l = [] := List.eq_nil_of_length_eq_zero r.length
    subst this
    exact rMax_none w a cap
theorem fit_more {l : List (Int × Int)} (h : Fit l) : Fit (l ++ [(-77, 0)]) := fun t ht => by
  rcases List.mem_append.1 ht with m | m
  · exact h t m
  · rw [List.mem_singleton] at m
    subst m
    simp
theorem given_reads {w : World} {g c len cap : Nat} {p : Option Addr} {l : List (Int × Int)} (r1 : TReads w (some ⟨g, 0, none⟩) (len + 1) c (l ++ [(-77, 0)])) (r2 : TReads w p len cap l) : TReads w (some ⟨g, 0, none⟩) len c l := by
  have hl := r2.length
  have k1 := r1.room
  refine ⟨hl, by omega, r1.small, r2.fit, fun h => ?_⟩
  obtain ⟨b, off, e, hc⟩ := r1.cells (by omega)
  refine ⟨b, off, e, fun i hi => ?_⟩
  have := hc i (by omega)
  have e2 : (l ++ [((-77 : Int), (0 : Int))]).getD i (0, 0) = l.getD i (0, 0) := by
    rw [List.getD_eq_getElem?_getD, List.getD_eq_getElem?_getD, List.getElem?_append_left (by omega)]
  rw [e2] at this
  exact this
/-- Where the law stands. -/
structure AS (w wr : World) (TA TB : Nat) (a1 a2 b1 b2 : Int) (p : Option Addr) (len cap : Nat) (l : List (Int × Int)) : Prop where
  bel : Below w.heap.size w wr
  a : TagAt wr TA a1 a2
  b : TagAt wr TB b1 b2
  v : Vars wr
  r : TReads wr p len cap l
  ge : w.heap.size ≤ TA ∧ w.heap.size ≤ TB
theorem AS.by {w wr w' : World} {TA TB : Nat} {a1 a2 b1 b2 : Int} {p : Option Addr} {len cap : Nat} {l : List (Int × Int)} (h : AS w wr TA TB a1 a2 b1 b2 p len cap l) (B : Below wr.heap.size wr w') : AS w w' TA TB a1 a2 b1 b2 p len cap l :=
  ⟨h.bel.trans (B.mono h.bel.size), h.a.by B, h.b.by B, h.v.by B, h.r.by B, h.ge⟩
theorem AS.cells {w wr : World} {TA TB : Nat} {a1 a2 b1 b2 : Int} {p : Option Addr} {len cap : Nat} {l : List (Int × Int)} (h : AS w wr TA TB a1 a2 b1 b2 p len cap l) :
    wr.cell? ⟨TA, 0, none⟩ = some (.int .i64 a1) ∧ wr.cell? ⟨TA, 1, none⟩ = some (.int .i64 a2) ∧ wr.cell? ⟨TB, 0, none⟩ = some (.int .i64 b1) ∧ wr.cell? ⟨TB, 1, none⟩ = some (.int .i64 b2) :=
  ⟨h.a.facts.1, h.a.facts.2.1, h.b.facts.1, h.b.facts.2.1⟩
theorem AS.start {w w1 w2 w3 : World} {TA TB : Nat} {a1 a2 b1 b2 : Int} {p : Option Addr} {len cap : Nat} {l : List (Int × Int)} (r : TReads w p len cap l) (V : Vars w) (B1 : Below w.heap.size w w1) (o2 o3 : Obj) (e2 : w2 = w1.alloc o2) (e3 : w3 = w2.alloc o3)
    (h : (o2 = .cells #[.int .i64 a1, .int .i64 a2] 23 ∧ o3 = .cells #[.int .i64 b1, .int .i64 b2] 23 ∧ TA = w1.heap.size ∧ TB = w1.heap.size + 1) ∨ (o2 = .cells #[.int .i64 b1, .int .i64 b2] 23 ∧ o3 = .cells #[.int .i64 a1, .int .i64 a2] 23 ∧ TB = w1.heap.size ∧ TA = w1.heap.size + 1)) : AS w w3.drew TA TB a1 a2 b1 b2 p len cap l := by
  have B : Below w.heap.size w w3.drew := by
    subst e2 e3
    exact ((B1.alloc B1.size _).alloc (by have := B1.size; simp; omega) _).drew
  have sz := B1.size
  subst e2 e3
  rcases h with ⟨rfl, rfl, rfl, rfl⟩ | ⟨rfl, rfl, rfl, rfl⟩
  · exact ⟨B, ((TagAt.new w1 a1 a2).alloc _).drew, TagAt.drew (by simpa using TagAt.new (w1.alloc (.cells #[.int .i64 a1, .int .i64 a2] 23)) b1 b2), V.by B, r.by B, by omega, by omega⟩
  · exact ⟨B, TagAt.drew (by simpa using TagAt.new (w1.alloc (.cells #[.int .i64 b1, .int .i64 b2] 23)) a1 a2), ((TagAt.new w1 b1 b2).alloc _).drew, V.by B, r.by B, by omega, by omega⟩
set_option maxRecDepth 100000 in
set_option maxHeartbeats 4000000 in
theorem tagAll_walk (a : Option Addr) (len cap : Nat) (l : List (Int × Int)) (a1 a2 b1 b2 u k o : Int) (s : ByteArray) (w : World)
    (f1 : -9223372036854775808 ≤ a1 ∧ a1 < 9223372036854775808) (f2 : -9223372036854775808 ≤ a2 ∧ a2 < 9223372036854775808) (fu : -9223372036854775808 ≤ u ∧ u < 9223372036854775808)
    (hs : s.size ≤ 140737488355328) (hb : (len + 1) * 16 ≤ 140737488355328) (r : TReads w a len cap l) (V : Vars w) :
    Calls Tryd.prog 4 #[.agg #[.slice a len cap, .int .i64 a1, .int .i64 a2, .int .i64 b1, .int .i64 b2, .int .i64 u, .int .i64 k, .int .i64 o, .string s]] w fun x w' => x = .returned (.bool true) ∧ Below w.heap.size w w' := by
  have F : Hid (_ ∧ _ ∧ _) := And.intro f1 (And.intro f2 fu)
  have SH : Hid (s.size ≤ 140737488355328 ∧ (len + 1) * 16 ≤ 140737488355328) := ⟨hs, hb⟩
  have RV : Hid (TReads w a len cap l ∧ Vars w) := ⟨r, V⟩
  clear f1 f2 fu hs hb r V
  go_enter Tryd.func4, Tryd.ntmps4
  go_upto_region 1 with fail
  go_cut [3, 4, 5, 6, 7, 8] from 14 to 25 (fun s3 s4 s5 s6 s7 s8 wc => ∃ TA TB, s3 = .slice a len cap ∧ s4 = .pointer (some ⟨TA, 0, none⟩) ∧ s5 = .pointer (some ⟨TB, 0, none⟩) ∧ s6 = .int .i64 u ∧ s7 = .int .i64 k ∧ s8 = .string s ∧ Hid (AS w wc TA TB a1 a2 b1 b2 a len cap l))
  case first =>
    go_region_held3 (fun w' => w'.cell? ⟨w.heap.size, 0, none⟩ = some (.slice a len cap) ∧ w'.cell? ⟨w.heap.size, 1, none⟩ = some (.int .i64 a1) ∧ w'.cell? ⟨w.heap.size, 2, none⟩ = some (.int .i64 a2) ∧ w'.cell? ⟨w.heap.size, 3, none⟩ = some (.int .i64 b1) ∧ w'.cell? ⟨w.heap.size, 4, none⟩ = some (.int .i64 b2) ∧ w'.cell? ⟨w.heap.size, 5, none⟩ = some (.int .i64 u) ∧ w'.cell? ⟨w.heap.size, 6, none⟩ = some (.int .i64 k) ∧ w'.cell? ⟨w.heap.size, 8, none⟩ = some (.string s)) (go_keep) (fail)
    all_goals go_wp2_with fail
    all_goals go_meet
    · refine ⟨w.heap.size + 1, w.heap.size + 1 + 1, rfl, rfl, rfl, rfl, rfl, rfl, ?_⟩
      exact AS.start RV.out.1 RV.out.2 ((Below.refl _ _).alloc (Nat.le_refl _) _) _ _ rfl rfl (.inl ⟨rfl, rfl, by simp, by simp⟩)
    · refine ⟨w.heap.size + 1 + 1, w.heap.size + 1, rfl, rfl, rfl, rfl, rfl, rfl, ?_⟩
      exact AS.start RV.out.1 RV.out.2 ((Below.refl _ _).alloc (Nat.le_refl _) _) _ _ rfl rfl (.inr ⟨rfl, rfl, by simp, by simp⟩)
  case rest =>
  clear RV
  obtain ⟨TA, TB, rfl, rfl, rfl, rfl, rfl, rfl, S1⟩ := hcut
  go_upto_region 2 with fail
  go_cut [9] from 26 to 27 (fun x wc => ∃ g c, x = .slice (some ⟨g, 0, none⟩) len c ∧ Hid (AS w wc TA TB a1 a2 b1 b2 a len cap l ∧ TReads wc (some ⟨g, 0, none⟩) (len + 1) c (l ++ [(-77, 0)])))
  case first =>
    go_wp2_with fail
    refine (tags a len cap l _ S1.out.r SH.out.2).mono ?_
    rintro x w2 ⟨g, c, rfl, hg, O2, B2⟩
    obtain ⟨p3, c3, e3, R3, _⟩ := owns_treads O2 (fit_more S1.out.r.fit)
    simp at e3
    obtain ⟨rfl, rfl⟩ := e3
    have S2 : Hid (AS w w2 TA TB a1 a2 b1 b2 a len cap l ∧ TReads w2 (some ⟨g, 0, none⟩) (len + 1) c (l ++ [(-77, 0)])) := ⟨S1.out.by B2, R3⟩
    clear O2 R3 B2 S1 hg
    go_wp2_with fail
    go_meet
    case rel => exact ⟨g, c, rfl, S2.out⟩
  case rest =>
  clear S1
  obtain ⟨g, c, rfl, S2⟩ := hcut
  obtain ⟨m, hm⟩ : ∃ m, maxT l = m := ⟨_, rfl⟩
  go_upto_region 3 with fail
  go_cut [61] from 28 to 60 (fun x wc => x = .bool false ∧ Hid (AS w wc TA TB a1 a2 b1 b2 a len cap l))
  case first =>
    have ST : Hid (AS w wc.drew TA TB a1 a2 b1 b2 a len cap l) := S2.out.1.by ((Below.refl _ _).drew)
    have G : Hid (TReads wc.drew (some ⟨g, 0, none⟩) (len + 1) c (l ++ [(-77, 0)])) := S2.out.2.by ((Below.refl _ _).drew)
    obtain ⟨q0, q1, q2, q3⟩ := S2.out.1.cells
    have t1 : ∀ b : Bool, (b == b) = true := by decide
    clear hm
    go_region_held3 (fun w' => w'.cell? ⟨TA, 0, none⟩ = some (.int .i64 a1) ∧ w'.cell? ⟨TA, 1, none⟩ = some (.int .i64 a2) ∧ w'.cell? ⟨TB, 0, none⟩ = some (.int .i64 b1) ∧ w'.cell? ⟨TB, 1, none⟩ = some (.int .i64 b2)) (go_keep)
      (first | (go_at_call 9; refine (zero a1 a2 _).mono ?_; rintro x w2 ⟨rfl, B2⟩; have ST2 := ST.out.by B2; have G2 := G.out.by B2; clear ST G; have ST : Hid (AS _ _ _ _ _ _ _ _ _ _ _ _) := ST2; have G : Hid (TReads _ _ _ _ _) := G2; obtain ⟨q0, q1, q2, q3⟩ := ST2.cells; clear ST2 G2 B2) | (go_at_call 10; refine (rZero a1 a2 _).mono ?_; rintro x w2 ⟨rfl, B2⟩; have ST2 := ST.out.by B2; have G2 := G.out.by B2; clear ST G; have ST : Hid (AS _ _ _ _ _ _ _ _ _ _ _ _) := ST2; have G : Hid (TReads _ _ _ _ _) := G2; obtain ⟨q0, q1, q2, q3⟩ := ST2.cells; clear ST2 G2 B2) | (go_at_call 6; refine (valid a1 a2 _).mono ?_; rintro x w2 ⟨rfl, B2⟩; have ST2 := ST.out.by B2; have G2 := G.out.by B2; clear ST G; have ST : Hid (AS _ _ _ _ _ _ _ _ _ _ _ _) := ST2; have G : Hid (TReads _ _ _ _ _) := G2; obtain ⟨q0, q1, q2, q3⟩ := ST2.cells; clear ST2 G2 B2) | (go_at_call 11; refine (rValid a1 a2 _).mono ?_; rintro x w2 ⟨rfl, B2⟩; have ST2 := ST.out.by B2; have G2 := G.out.by B2; clear ST G; have ST : Hid (AS _ _ _ _ _ _ _ _ _ _ _ _) := ST2; have G : Hid (TReads _ _ _ _ _) := G2; obtain ⟨q0, q1, q2, q3⟩ := ST2.cells; clear ST2 G2 B2) | (go_at_call 12; refine (compare a1 a2 b1 b2 _).mono ?_; rintro x w2 ⟨rfl, B2⟩; have ST2 := ST.out.by B2; have G2 := G.out.by B2; clear ST G; have ST : Hid (AS _ _ _ _ _ _ _ _ _ _ _ _) := ST2; have G : Hid (TReads _ _ _ _ _) := G2; obtain ⟨q0, q1, q2, q3⟩ := ST2.cells; clear ST2 G2 B2) | (go_at_call 13; refine (rCompare a1 a2 b1 b2 _).mono ?_; rintro x w2 ⟨rfl, B2⟩; have ST2 := ST.out.by B2; have G2 := G.out.by B2; clear ST G; have ST : Hid (AS _ _ _ _ _ _ _ _ _ _ _ _) := ST2; have G : Hid (TReads _ _ _ _ _) := G2; obtain ⟨q0, q1, q2, q3⟩ := ST2.cells; clear ST2 G2 B2) | (go_at_call 14; refine (maxAny _ _ _ l _ (given_reads G.out ST.out.r)).mono ?_; rintro x w2 ⟨rfl, B2⟩; have ST2 := ST.out.by B2; have G2 := G.out.by B2; clear ST G; have ST : Hid (AS _ _ _ _ _ _ _ _ _ _ _ _) := ST2; have G : Hid (TReads _ _ _ _ _) := G2; obtain ⟨q0, q1, q2, q3⟩ := ST2.cells; clear ST2 G2 B2) | (go_at_call 15; refine (rMaxAny _ _ _ l _ ST.out.r).mono ?_; rintro x w2 ⟨rfl, B2⟩; have ST2 := ST.out.by B2; have G2 := G.out.by B2; clear ST G; have ST : Hid (AS _ _ _ _ _ _ _ _ _ _ _ _) := ST2; have G : Hid (TReads _ _ _ _ _) := G2; obtain ⟨q0, q1, q2, q3⟩ := ST2.cells; clear ST2 G2 B2) | (go_at_call 16; refine (kept _ _ _ _ _ l _ G.out ST.out.r).mono ?_; rintro x w2 ⟨rfl, B2⟩; have ST2 := ST.out.by B2; have G2 := G.out.by B2; clear ST G; have ST : Hid (AS _ _ _ _ _ _ _ _ _ _ _ _) := ST2; have G : Hid (TReads _ _ _ _ _) := G2; obtain ⟨q0, q1, q2, q3⟩ := ST2.cells; clear ST2 G2 B2) | fail)
    go_wp2_with fail
    go_meet
    case rel => exact ⟨by simp, ST.out⟩
  case rest =>
  clear S2 hm
  obtain ⟨rfl, S3⟩ := hcut
  obtain ⟨q0, q1, q2, q3⟩ := S3.out.cells
  go_upto_region 5 with fail
  go_cut [10, 11] from 62 to 68 (fun s10 s11 wc => ∃ X p q e, s10 = .pointer (some ⟨X, 0, none⟩) ∧ s11 = .int .i64 e ∧ Hid (nextT a1 a2 u k = (p, q, e) ∧ AS w wc TA TB a1 a2 b1 b2 a len cap l ∧ TagAt wc X p q ∧ w.heap.size ≤ X))
  case first =>
    go_wp2_with fail
    refine (next a1 a2 u k _ F.out.1 F.out.2.2).mono ?_
    rintro x w3 ⟨p, q, e, rfl, hn, B3⟩
    have S4 : Hid (AS w w3 TA TB a1 a2 b1 b2 a len cap l) := S3.out.by B3
    have hn' : Hid (nextT a1 a2 u k = (p, q, e)) := hn
    clear B3 S3 hn q0 q1 q2 q3
    go_wp2_with fail
    go_meet
    case rel => exact ⟨_, p, q, e, rfl, rfl, hn'.out, S4.out.by ((Below.refl _ _).alloc (Nat.le_refl _) _), TagAt.new w3 p q, S4.out.bel.size⟩
  case rest =>
  clear S3 q0 q1 q2 q3
  obtain ⟨X, p, q, e, rfl, rfl, S4⟩ := hcut
  obtain ⟨q0, q1, q2, q3⟩ := S4.out.2.1.cells
  go_upto_region 6 with fail
  go_cut [12, 13] from 69 to 75 (fun s12 s13 wc => ∃ Y, s12 = .pointer (some ⟨Y, 0, none⟩) ∧ s13 = .int .i64 e ∧ Hid (AS w wc TA TB a1 a2 b1 b2 a len cap l ∧ TagAt wc X p q ∧ TagAt wc Y p q ∧ X < Y ∧ w.heap.size ≤ X))
  case first =>
    go_wp2_with fail
    refine (rNext a1 a2 u k _ F.out.1 F.out.2.2).mono ?_
    rintro x w3 ⟨p2, q2, e2, rfl, hn, B3⟩
    rw [S4.out.1] at hn
    simp at hn
    obtain ⟨rfl, rfl, rfl⟩ := hn
    have S5 : Hid (AS w w3 TA TB a1 a2 b1 b2 a len cap l ∧ TagAt w3 X p q ∧ w.heap.size ≤ X) := ⟨S4.out.2.1.by B3, S4.out.2.2.1.by B3, S4.out.2.2.2⟩
    clear B3 S4
    go_wp2_with fail
    go_meet
    case rel => exact ⟨_, rfl, rfl, S5.out.1.by ((Below.refl _ _).alloc (Nat.le_refl _) _), S5.out.2.1.alloc _, TagAt.new w3 p q, S5.out.2.1.lt, S5.out.2.2⟩
  case rest =>
  clear S4 q0 q1 q2 q3
  obtain ⟨Y, rfl, rfl, S5⟩ := hcut
  obtain ⟨D, hD⟩ : ∃ D, (⟨(textL a1 a2).toArray⟩ : ByteArray) = D := ⟨_, rfl⟩
  have cT : Hid (∀ w, Vars w → Calls Tryd.prog 5 #[.agg #[.int .i64 a1, .int .i64 a2]] w fun x w' => x = .returned (.string D) ∧ Below w.heap.size w w') := fun w V => by
    have := text a1 a2 w F.out.1 F.out.2.1 V
    rw [hD] at this
    exact this
  have cR : Hid (∀ w, Calls Tryd.prog 19 #[.agg #[.int .i64 a1, .int .i64 a2]] w fun x w' => x = .returned (.string D) ∧ Below w.heap.size w w') := fun w => by
    have := rText a1 a2 w
    rw [hD] at this
    exact this
  clear hD
  go_upto_region 7 with fail
  go_cut [90] from 76 to 89 (fun x wc => x = .bool false ∧ Hid (AS w wc TA TB a1 a2 b1 b2 a len cap l ∧ TagAt wc X p q ∧ TagAt wc Y p q ∧ X < Y ∧ w.heap.size ≤ X))
  case first =>
    have ST : Hid (AS w wc.drew TA TB a1 a2 b1 b2 a len cap l ∧ TagAt wc.drew X p q ∧ TagAt wc.drew Y p q ∧ X < Y ∧ w.heap.size ≤ X) := ⟨S5.out.1.by ((Below.refl _ _).drew), S5.out.2.1.drew, S5.out.2.2.1.drew, S5.out.2.2.2⟩
    obtain ⟨q0, q1, q2, q3⟩ := S5.out.1.cells
    obtain ⟨x0, x1, _, _⟩ := S5.out.2.1.facts
    obtain ⟨y0, y1, _, _⟩ := S5.out.2.2.1.facts
    go_region_held3 (fun w' => w'.cell? ⟨TA, 0, none⟩ = some (.int .i64 a1) ∧ w'.cell? ⟨TA, 1, none⟩ = some (.int .i64 a2) ∧ w'.cell? ⟨X, 0, none⟩ = some (.int .i64 p) ∧ w'.cell? ⟨X, 1, none⟩ = some (.int .i64 q) ∧ w'.cell? ⟨Y, 0, none⟩ = some (.int .i64 p) ∧ w'.cell? ⟨Y, 1, none⟩ = some (.int .i64 q)) (go_keep)
      (first | (go_at_call 5; refine (cT.out _ ST.out.1.v).mono ?_; rintro x w2 ⟨rfl, B2⟩; have ST2 := And.intro (ST.out.1.by B2) (And.intro (ST.out.2.1.by B2) (And.intro (ST.out.2.2.1.by B2) ST.out.2.2.2)); clear ST; have ST : Hid (_ ∧ _ ∧ _ ∧ _ ∧ _) := ST2; obtain ⟨q0, q1, q2, q3⟩ := ST2.1.cells; obtain ⟨x0, x1, _, _⟩ := ST2.2.1.facts; obtain ⟨y0, y1, _, _⟩ := ST2.2.2.1.facts; clear ST2 B2) | (go_at_call 19; refine (cR.out _).mono ?_; rintro x w2 ⟨rfl, B2⟩; have ST2 := And.intro (ST.out.1.by B2) (And.intro (ST.out.2.1.by B2) (And.intro (ST.out.2.2.1.by B2) ST.out.2.2.2)); clear ST; have ST : Hid (_ ∧ _ ∧ _ ∧ _ ∧ _) := ST2; obtain ⟨q0, q1, q2, q3⟩ := ST2.1.cells; obtain ⟨x0, x1, _, _⟩ := ST2.2.1.facts; obtain ⟨y0, y1, _, _⟩ := ST2.2.2.1.facts; clear ST2 B2) | fail)
    go_wp2_with fail
    go_meet
    case rel => exact ⟨by simp, ST.out⟩
  case rest =>
  clear S5 cT cR
  obtain ⟨rfl, S6⟩ := hcut
  obtain ⟨x0, x1, fx0, fx1⟩ := S6.out.2.1.facts
  go_wp2_with fail
  refine (parse s _ SH.out.1 S6.out.1.v).mono ?_
  rintro x w7 ⟨p3, q3, e3, rfl, hn3, B7⟩
  have S7 : Hid (AS w w7 TA TB a1 a2 b1 b2 a len cap l ∧ TagAt w7 X p q ∧ TagAt w7 Y p q ∧ X < Y ∧ w.heap.size ≤ X) := ⟨S6.out.1.by B7, S6.out.2.1.by B7, S6.out.2.2.1.by B7, S6.out.2.2.2⟩
  have HN : Hid (parseT s.data.toList = (p3, q3, e3)) := hn3
  clear B7 S6 x0 x1 fx0 fx1 hn3
  obtain ⟨x0, x1, fx0, fx1⟩ := S7.out.2.1.facts
  have lx := S7.out.2.1.lt
  have S8 : Below w.heap.size w ((w7.setCell ⟨X, 0, none⟩ (.int .i64 p3)).setCell ⟨X, 1, none⟩ (.int .i64 q3)) ∧ TagAt ((w7.setCell ⟨X, 0, none⟩ (.int .i64 p3)).setCell ⟨X, 1, none⟩ (.int .i64 q3)) X p3 q3 ∧ TagAt ((w7.setCell ⟨X, 0, none⟩ (.int .i64 p3)).setCell ⟨X, 1, none⟩ (.int .i64 q3)) Y p q :=
    ⟨(S7.out.1.bel.setCell (by have := S7.out.2.2.2.2; simpa using this) _).setCell (by have := S7.out.2.2.2.2; simpa using this) _, (S7.out.2.1.set0 _).set1 _, (S7.out.2.2.1.other _ (by have := S7.out.2.2.2.1; omega)).other _ (by have := S7.out.2.2.2.1; omega)⟩
  have S8' : Hid (_ ∧ _ ∧ _) := S8
  have XY : Hid (X < Y ∧ w.heap.size ≤ X) := S7.out.2.2.2
  clear S8
  go_wp2_with fail
  refine (rParse s _ SH.out.1).mono ?_
  rintro x w9 ⟨p4, q4, e4, rfl, hn4, B9⟩
  rw [HN.out] at hn4
  simp at hn4
  obtain ⟨rfl, rfl, rfl⟩ := hn4
  have S9 : Hid (Below w.heap.size w w9 ∧ TagAt w9 X p3 q3 ∧ TagAt w9 Y p q) := ⟨S8'.out.1.trans (B9.mono S8'.out.1.size), S8'.out.2.1.by B9, S8'.out.2.2.by B9⟩
  clear B9 S8' S7 x0 x1 fx0 fx1 lx
  obtain ⟨x0, x1, _, _⟩ := S9.out.2.1.facts
  obtain ⟨y0, y1, fy0, fy1⟩ := S9.out.2.2.facts
  have ne : ¬ X = Y := by have := XY.out.1; omega
  have S10 : Below w.heap.size w ((w9.setCell ⟨Y, 0, none⟩ (.int .i64 p3)).setCell ⟨Y, 1, none⟩ (.int .i64 q3)) ∧ TagAt ((w9.setCell ⟨Y, 0, none⟩ (.int .i64 p3)).setCell ⟨Y, 1, none⟩ (.int .i64 q3)) X p3 q3 ∧ TagAt ((w9.setCell ⟨Y, 0, none⟩ (.int .i64 p3)).setCell ⟨Y, 1, none⟩ (.int .i64 q3)) Y p3 q3 :=
    ⟨(S9.out.1.setCell (by have := XY.out; simp; omega) _).setCell (by have := XY.out; simp; omega) _, (S9.out.2.1.other _ ne).other _ ne, (S9.out.2.2.set0 _).set1 _⟩
  have S10' : Hid (_ ∧ _ ∧ _) := S10
  clear S10
  go_upto_region 11 with fail
  generalize (w9.setCell ⟨Y, 0, none⟩ (.int .i64 p3)).setCell ⟨Y, 1, none⟩ (.int .i64 q3) = wz at S10' ⊢
  clear x0 x1 y0 y1 fy0 fy1 S9
  obtain ⟨x0, x1, _, _⟩ := S10'.out.2.1.facts
  obtain ⟨y0, y1, _, _⟩ := S10'.out.2.2.facts
  go_wp2_with fail
  go_ret
  exact ⟨by simp, S10'.out.1⟩
end Go.Proofs.YtpgfmoddhjhlkaaDoor
