import Derived.Test.YtonfefhegghapaaDoorTSs
namespace Go.Proofs.YtonfefhegghapaaDoor
open Go.RowKit 

/-- The text of the example. -/
def awT : List UInt8 := [112, 117, 116, 32, 49, 32, 54, 98, 32, 55, 56, 10, 103, 101, 116, 32, 45, 51, 32, 45, 10, 99, 114, 97, 115, 104, 32, 48, 32, 49, 32, 45, 49, 10, 114, 111, 117, 110, 100, 32, 57, 32, 53, 10, 98, 117, 114, 115, 116, 32, 50, 32, 55, 32, 52, 50, 57, 52, 57, 54, 55, 50, 57, 53, 10]
def awS : List St := [⟨1, 1, 0, [107], [120], []⟩, ⟨2, -3, 0, [], [], []⟩, ⟨12, 0, 0, [], [], [1, -1]⟩, ⟨16, 0, 9, [], [], [5]⟩, ⟨9, 2, 7, [], [], [4294967295]⟩]
theorem aw_lines : linesN awT = 5 := by decide
theorem aw_par : parL awT = (awS, 0, 0) := by kernel_rfl
theorem aw_lns : lnsL awS = awT := by kernel_rfl
theorem aw_fst : fstE awS = 0 := by kernel_rfl
theorem aw_gsm : ∀ s ∈ awS, GSm 100 s := by
  intro s hs
  simp [awS] at hs
  rcases hs with rfl | rfl | rfl | rfl | rfl
  all_goals refine ⟨⟨by decide, by decide⟩, ⟨by decide, by decide⟩, ⟨by decide, by decide⟩, by decide, by decide, by decide, ?_⟩
  all_goals intro z hz
  all_goals simp at hz
  all_goals first | (rcases hz with rfl | rfl <;> exact ⟨by decide, by decide⟩) | (subst hz; exact ⟨by decide, by decide⟩)
set_option maxRecDepth 100000 in
set_option maxHeartbeats 4000000 in
theorem hAwake (w : World) (V : Vars w) (F : FM w) : Calls Tryd.prog 11 #[] w fun o w' => o = .returned (.bool true) ∧ Kept (fun _ => False) w w' := by
  have H : Hid (Vars w ∧ FM w) := ⟨V, F⟩
  clear V F
  go_enter Tryd.func11, Tryd.ntmps11
  go_upto_region 2 with fail
  generalize hT : (ByteArray.mk _) = T
  have HT : Hid (T.data.toList = awT) := by rw [← hT]; rfl
  clear hT
  have C1 : Hid (Calls Tryd.prog 14 #[.string T] w (RetP fun p k c L r w' => r = (awS, 0, 0) ∧ PX w w' p k c L r.1)) := by
    have ts : T.size ≤ 33554432 := by
      have e : T.data.toList.length = T.size := Array.length_toList
      rw [← e, HT.out]
      decide
    have q := hParse T w ts H.out.1 H.out.2
    rw [HT.out, aw_par] at q
    exact q
  go_wp2_with fail
  refine C1.out.mono ?_
  rintro o w1 ⟨p, k, c, L, r, rfl, hr, P1⟩
  subst hr
  have P1 : PX w w1 p k c L awS := P1
  have k5 : k = 5 := P1.slen.symm
  subst k5
  have S1 : Hid (SLs w1 p 5 c L awS ∧ Kept (fun _ => False) w w1) := ⟨P1.sls aw_gsm (by omega), P1.kept⟩
  obtain ⟨g, e⟩ : ∃ g, p = some ⟨g, 0, none⟩ := by
    rcases P1.row.2 with ⟨_, hn⟩ | ⟨g, cap, cur, z, _⟩
    · cases hn
    · have z : Value.slice p 5 c = .slice (some ⟨g, 0, none⟩) 5 cap := z
      injection z with z1 _ z3
      exact ⟨g, z1⟩
  subst e
  have AT : Hid (∀ (i : Nat) (s : St), awS[i]? = some s → ∃ x : Sm, SRd w1 x s ∧ ∀ (j : Nat) (v : Value), x.cs[j]? = some v → w1.cell? ⟨g, i * 6 + j, none⟩ = some v) := fun i s hs => by
    have hi : i < 5 := (List.getElem?_eq_some_iff.1 hs).1
    obtain ⟨b, off, x, t, e, ht, X, _, hx⟩ := S1.out.1.at hi
    have e2 : s = t := by rw [hs] at ht; simpa using ht
    subst e2
    injection e with e
    injection e with e3 e4
    subst e3
    subst e4
    exact ⟨x, X, fun j v hv => by have := hx j v hv; rw [Nat.zero_add] at this; exact this⟩
  clear P1 C1
  obtain ⟨x0, X0, h0⟩ := AT.out 0 _ rfl
  obtain ⟨x1, X1, h1⟩ := AT.out 1 _ rfl
  obtain ⟨x2, X2, h2⟩ := AT.out 2 _ rfl
  obtain ⟨x3, X3, h3⟩ := AT.out 3 _ rfl
  have c03 := h0 3 (.string x0.key) rfl
  have c04 := h0 4 (.slice x0.va x0.vn x0.vc) rfl
  have c11 := h1 1 (.int .i64 x1.a) rfl
  have c25 := h2 5 (.slice x2.la x2.ln x2.lc) rfl
  have c32 := h3 2 (.int .i64 x3.b) rfl
  rw [X0.key] at c03
  rw [X1.a] at c11
  rw [X3.b] at c32
  rw [show x2.ln = 2 from X2.l.len.symm] at c25
  have cv := X0.v.string
  replace c03 : w1.cell? ⟨g, 3, none⟩ = some (.string ⟨#[107]⟩) := c03
  replace c04 : w1.cell? ⟨g, 4, none⟩ = some (.slice x0.va x0.vn x0.vc) := c04
  replace c11 : w1.cell? ⟨g, 7, none⟩ = some (.int .i64 (-3)) := c11
  replace c25 : w1.cell? ⟨g, 17, none⟩ = some (.slice x2.la 2 x2.lc) := c25
  replace c32 : w1.cell? ⟨g, 20, none⟩ = some (.int .i64 9) := c32
  replace cv : (convert 35 9 (.slice x0.va x0.vn x0.vc)).run Tryd.prog w1 = .ok (.string ⟨#[120]⟩) w1 := cv
  clear h0 h1 h2 h3 X0 X1 X2 X3 AT
  have C2 : Hid (Calls Tryd.prog 12 #[.slice (some ⟨g, 0, none⟩) 5 c] w1 fun o w' => o = .returned (.tuple #[.string T, .int .i64 0]) ∧ Kept (fun _ => False) w1 w') := by
    have q := hText S1.out.1 (H.out.1.kept S1.out.2) (H.out.2.kept S1.out.2) (by rw [aw_lns]; decide)
    have e : txtL awS = (T, 0) := by
      unfold txtL
      rw [if_neg (by decide), aw_fst, if_pos rfl, aw_lns, ← HT.out, ofL_self]
    rw [e] at q
    exact q
  have S2 : Hid (Kept (fun _ => False) w w1) := S1.out.2
  clear S1 HT
  go_wp2_with fail
  refine C2.out.mono ?_
  rintro o w2 ⟨rfl, K2⟩
  go_wp2_with fail
  go_ret
  exact ⟨by first | rfl | simp, S2.out.trans K2 (fun _ _ z => z)⟩
end Go.Proofs.YtonfefhegghapaaDoor
