import Derived.Test.YtodmakcklacbfaaPOpen
import Derived.Test.YtodmakcklacbfaaPByTags
import Derived.Test.YtodmakcklacbfaaPTagJ
namespace Go.Proofs.Ytodmakcklacbfaa
open Go.RowKit Go.ChangeShapes Go.WideShapes Go.ChangeAt Go.Deep

theorem Try.bw3 : Try.prog.bytesOf 3 = 8 := by kernel_rfl
/-- A list of numbers that came in, and how long it is. -/
theorem open_numsw {H : Type} {enc : TypeId × Value → H} {W : World} {a : Option Addr} {len cap fuel : Nat} {x : DataW H × List MemPlace}
    (h : DataW.trod enc Try.prog W 0 (fun _ => true) true fuel 22 [.slice a len cap] = some x) (hw : ∀ t ∈ x.1.weights Try.prog 22, t ≤ reachBytes) : len * 8 ≤ reachBytes := by
  rcases open_slice Try.underlying22 h with ⟨hcs, _⟩ | ⟨ad, l', c', m, n, D, Pl, hcs, _, hl, hm, hmm, hx, hel⟩
  · simp at hcs
    obtain ⟨rfl, rfl, rfl⟩ := hcs
    exact Nat.zero_le _
  · simp at hcs
    obtain ⟨rfl, rfl, rfl⟩ := hcs
    have hmm : m = cap := by simpa using hmm
    have : (len + (m - len)) * 8 ≤ reachBytes := hw _ (by
      rw [hx]
      simp [DataW.weights, Try.underlying22, Try.bw3])
    omega
set_option maxRecDepth 100000 in
theorem top_lifted (walk : ∀ (a : Option Addr) (len cap : Nat) (ms : List Cm) (q : Option Addr) (k kc : Nat) (R : List Int) (w : World), CRd w a len cap ms → len ≤ 1300000000000 → (∀ m ∈ ms, KI m.client) → (∀ m ∈ ms, KI m.ty) → (∀ m ∈ ms, m.vn + 1 ≤ 140737488355328) → IRd w q k kc R → k ≤ 17592186044416 → Calls Try.prog 7 #[.slice a len cap, .slice q k kc] w fun o w' => o = .returned (.bool true) ∧ Kept (fun _ => False) w w') (os : Os) (started : os.Started) (H : Type) (enc : TypeId × Value → H) :
    ReturnsInHanded {} Try.checked os 7 .any (Rows.topChecksSpec.pre6 enc Try.prog Try.f7 Rows.topChecksRow.domain false) (Rows.topChecksSpec.post enc Try.prog Try.f7 false true false false) := by
  refine returnsInHanded_of_change_sized (C := Try.checked) Try.ownr started (by kernel_rfl) Try.func7
    (ChangeSpec.witness6 (enc := enc) (C := Try.checked) false ⟨#[], #[.slice none 0 0, .slice none 0 0], []⟩ 8 (by kernel_rfl) (by kernel_rfl) (by kernel_rfl) (by kernel_rfl)) ?_
  intro W base args ds gs before hval0 hW _ hsz0 _
  have hval : ∀ (j : Nat) t v, Try.f7.params[j]? = some t → args[j]? = some v → Value.okWide Try.prog W .any base t v := hval0
  have hsz : (DataW.weightsEach Try.prog (Try.f7.params.toList ++ Rows.topChecksSpec.plain.varTypes Try.prog) (ds ++ gs)).all (· ≤ reachBytes) = true := hsz0
  have hW' := hW
  obtain ⟨p, q, hA0, hV, rfl, _, _⟩ := hW
  have hA : DataW.TrodAll enc Try.prog W 0 (fun _ => true) true Try.f7.params.toList args.toList ds p := hA0
  rw [Try.params7] at hA hval hsz
  obtain ⟨v1, v2, d1, d2, p1, p2, rfl, rfl, rfl, h1, h2⟩ := trodAll_two hA
  obtain ⟨rfl, rfl⟩ := trodVars_none hV
  have k1 := h1
  have k2 := h2
  have lt1 : ∀ x ∈ p1, x.block < W.heap.size := by obtain ⟨m, hm⟩ := k1; exact DataW.trod_lt m _ _ _ hm
  have lt2 : ∀ x ∈ p2, x.block < W.heap.size := by obtain ⟨m, hm⟩ := k2; exact DataW.trod_lt m _ _ _ hm
  obtain ⟨a2, len2, cap2, rfl⟩ := okWide_slice Try.underlying27 (hval 0 27 v1 rfl rfl)
  obtain ⟨a3, len3, cap3, rfl⟩ := okWide_slice Try.underlying22 (hval 1 22 v2 rfl rfl)
  obtain ⟨fuel2, hf2⟩ := h1
  obtain ⟨fuel3, hf3⟩ := h2
  obtain ⟨O, hO, z1, z2⟩ := open_callsw hf2 (fun t ht => all_memw hsz (DataW.weights_mem_each (j := 0) (t := 27) (d := d1) rfl rfl t ht))
  obtain ⟨R, hR⟩ := open_nums hf3
  have z3 := open_numsw hf3 (fun t ht => all_memw hsz (DataW.weights_mem_each (j := 1) (t := 22) (d := d2) rfl rfl t ht))
  clear hA0 hval0 hsz0 hsz
  simp only [reachBytes] at z2 z3
  refine (walk a2 len2 cap2 O a3 len3 cap3 R W hO (by omega) (fun m hm => (z1 m hm).2.1) (fun m hm => (z1 m hm).2.2) (fun m hm => (z1 m hm).1) hR (by omega)).mono fun e W' ⟨he, K⟩ => ?_
  have bel := kept_belowr K
  subst he
  exact ⟨_, rfl, _, _, _, [], _, [], hW', trodAll_mk1 (shut_bool Try.underlying4 _), (trodAll_cons_mk (Below.trod Try.laidOutr (by kernel_rfl) (of_decide_eq_true (by kernel_rfl)) k1 bel lt1) (trodAll_cons_mk (Below.trod Try.laidOutr (by kernel_rfl) (of_decide_eq_true (by kernel_rfl)) k2 bel lt2) trodAll_mk0)), rfl, bel.frame _, fun h => by cases h⟩
theorem top_of (walk : ∀ (a : Option Addr) (len cap : Nat) (ms : List Cm) (q : Option Addr) (k kc : Nat) (R : List Int) (w : World), CRd w a len cap ms → len ≤ 1300000000000 → (∀ m ∈ ms, KI m.client) → (∀ m ∈ ms, KI m.ty) → (∀ m ∈ ms, m.vn + 1 ≤ 140737488355328) → IRd w q k kc R → k ≤ 17592186044416 → Calls Try.prog 7 #[.slice a len cap, .slice q k kc] w fun o w' => o = .returned (.bool true) ∧ Kept (fun _ => False) w w') : Rows.TopChecksSaid :=
  OpenClaim.holds_of_wide 7 Try.f7 rfl rfl rfl rfl rfl rfl rfl ⟨rfl, rfl, rfl, rfl, rfl⟩ rfl rfl rfl rfl rfl (by kernel_rfl) Try.func7 (by kernel_rfl)
    (of_decide_eq_true (by kernel_rfl)) (by unfold Func.isWrapper; first | (rw [if_pos (by decide +kernel)]; kernel_rfl) | (rw [if_neg (by decide +kernel)]; exact ⟨rfl, rfl⟩))
    (fun os started H enc _ => top_lifted walk os started H enc)
end Go.Proofs.Ytodmakcklacbfaa

namespace Go.Proofs.Ytodmakcklacbfaa
open Go.RowKit Go.Shelf Go.Lib Go.Sort

/-- The Put's tag is below another one. -/
def tlt (a b : Cm) : Prop := a.tx < b.tx ∨ (a.tx = b.tx ∧ a.ty < b.ty)
/-- What stands behind the last Put fits it. -/
def SCond (ms : List Cm) (i : Nat) (l : Int) : Prop := ∀ m, ms[i]? = some m →
  (m.put = true → 0 ≤ l → ∀ q, ms[l.toNat]? = some q → q.opn = false → m.opn = false → tlt q m) ∧
  (m.put = false → m.st = 76 → l < 0) ∧
  (m.put = false → ¬ m.st = 76 → 0 ≤ l ∧ ∀ q, ms[l.toNat]? = some q → (q.opn = false → q.tx = m.tx ∧ q.ty = m.ty) ∧ (q.opn = true → (q.tx = 0 ∧ q.ty = 0) ∨ (q.tx = m.tx ∧ q.ty = m.ty)))
def nextL (ms : List Cm) (i : Nat) (l : Int) : Int := match ms[i]? with | some m => if m.put = true then (i : Int) else l | none => l
def lastL (ms : List Cm) : List Nat → Int → Int
  | [], l => l
  | i :: o, l => lastL ms o (nextL ms i l)
def SOk (ms : List Cm) : List Nat → Int → Prop
  | [], _ => True
  | i :: o, l => SCond ms i l ∧ SOk ms o (nextL ms i l)
theorem lastL_app (ms : List Cm) : ∀ (A B : List Nat) (l : Int), lastL ms (A ++ B) l = lastL ms B (lastL ms A l)
  | [], _, _ => rfl
  | a :: A, B, l => by
    rw [List.cons_append]
    exact lastL_app ms A B _
theorem sok_app (ms : List Cm) : ∀ (A B : List Nat) (l : Int), SOk ms A l → SOk ms B (lastL ms A l) → SOk ms (A ++ B) l
  | [], _, _, _, h => h
  | a :: A, B, l, h, h2 => by
    rw [List.cons_append]
    exact ⟨h.1, sok_app ms A B _ h.2 h2⟩
theorem sok_at (ms : List Cm) : ∀ {R : List Nat} {l : Int}, SOk ms R l → ∀ m r, R[m]? = some r → SCond ms r (lastL ms (R.take m) l)
  | [], _, _, m, r, hr => by simp at hr
  | a :: R, l, h, 0, r, hr => by
    have e : a = r := by simpa using hr
    subst e
    exact h.1
  | a :: R, l, h, m + 1, r, hr => by
    have := sok_at ms h.2 m r (by simpa using hr)
    rw [List.take_succ_cons]
    exact this
/-- Gets in a row leave the last Put as it is. -/
theorem gets_row (ms : List Cm) {l : Int} : ∀ {G : List Nat}, (∀ x ∈ G, ∃ m, ms[x]? = some m ∧ m.put = false ∧ SCond ms x l) → SOk ms G l ∧ lastL ms G l = l
  | [], _ => ⟨trivial, rfl⟩
  | x :: G, h => by
    obtain ⟨m, hm, hp, hc⟩ := h x (by simp)
    have e : nextL ms x l = l := by
      unfold nextL
      rw [hm]
      show (if m.put = true then (x : Int) else l) = l
      rw [hp]
      rfl
    obtain ⟨h1, h2⟩ := gets_row ms (l := l) (G := G) (fun y hy => h y (List.mem_cons_of_mem _ hy))
    refine ⟨⟨hc, by rw [e]; exact h1⟩, ?_⟩
    show lastL ms G (nextL ms x l) = l
    rw [e]
    exact h2
/-- On the way of the order by tags. -/
structure BI (ms : List Cm) (acc left : List Nat) (M : Int → Option Int) : Prop where
  nd : acc.Nodup
  pt : ∀ i ∈ acc, ∃ m, ms[i]? = some m ∧ m.cl.part = true
  ndl : left.Nodup
  tel : ∀ x ∈ left, ∃ m, ms[x]? = some m ∧ m.tells = true
  srt : left.Pairwise (fun x y => ¬ TagLt ms y x)
  ap : ∀ i ∈ acc, i ∉ left
  sil : ∀ key p, M key = some p → 0 ≤ p ∧ ∃ m, ms[p.toNat]? = some m ∧ m.put = true ∧ m.opn = true ∧ m.tx = 0 ∧ m.ty = 0 ∧ m.client = key
  sap : ∀ key p, M key = some p → p.toNat ∉ acc
  seq : SOk ms acc (-1)
  lst : lastL ms acc (-1) = -1 ∨ (0 ≤ lastL ms acc (-1) ∧ ∀ q, ms[(lastL ms acc (-1)).toNat]? = some q → q.opn = false → ∀ x ∈ left, ∀ m, ms[x]? = some m → tlt q m)
  must : ∀ i m, ms[i]? = some m → m.cl.must = true → i ∈ acc ∨ i ∈ left
theorem not_taglt {ms : List Cm} {x y : Nat} {a b : Cm} (ha : ms[x]? = some a) (hb : ms[y]? = some b) (h : ¬ TagLt ms y x) : a.tx < b.tx ∨ (a.tx = b.tx ∧ a.ty ≤ b.ty) := by
  by_cases z : a.tx < b.tx ∨ (a.tx = b.tx ∧ a.ty ≤ b.ty)
  · exact z
  · refine absurd (fun a' b' ha' hb' => ?_) h
    rw [hb] at ha'
    rw [ha] at hb'
    rw [← Option.some.inj ha', ← Option.some.inj hb']
    omega
end Go.Proofs.Ytodmakcklacbfaa
