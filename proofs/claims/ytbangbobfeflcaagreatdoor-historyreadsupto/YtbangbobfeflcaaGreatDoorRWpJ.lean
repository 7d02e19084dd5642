import Derived.Test.YtbangbobfeflcaaGreatDoorRMe
namespace Go.Proofs.YtbangbobfeflcaaGreatDoor
open Go.RowKit 

theorem decB_19 {m : Nat} (h : m ≤ 4611686018427387903) : (decB m).size ≤ 19 := by
  have e : (decB m).size = (Lib.decDigits m).length := by unfold decB; simp [ByteArray.size]
  have q := nDigits_le 18 m (by have : (10 : Nat) ^ (18 + 1) = 10000000000000000000 := by decide
                                omega)
  rw [e, Lib.decDigits_length]
  omega
theorem dv_take (l : List UInt8) (i : Nat) : dv 0 (l.take i) ≤ dv 0 l := by
  conv => rhs; rw [← List.take_append_drop i l]
  rw [dv_append]
  exact dv_ge _ _
theorem dv_at {l : List UInt8} {i : Nat} {x : UInt8} (h : l[i]? = some x) : dv 0 (l.take (i + 1)) = dv 0 (l.take i) * 10 + (x.toNat - 48) := by
  rw [List.take_add_one, h, dv_append]
  rfl
set_option maxRecDepth 100000 in
set_option maxHeartbeats 2000000 in
theorem hRead (s : ByteArray) (m : Nat) (w : World) (hs : s.size ≤ 1000000000) : Calls Tryz.prog 67 #[.string s] w fun o w' => ∃ v : Int, o = .returned (.int .i64 v) ∧ (s = decB m ∧ m ≤ 4611686018427387903 → v = (m : Int)) ∧ w' = w := by
  obtain ⟨n, hn⟩ : ∃ n, s.size = n := ⟨_, rfl⟩
  obtain ⟨l, hl⟩ : ∃ l, s.data.toList = l := ⟨_, rfl⟩
  obtain ⟨G, hG⟩ : ∃ G : Prop, (s = decB m ∧ m ≤ 4611686018427387903) = G := ⟨_, rfl⟩
  rw [hG]
  have HG : Hid ((G → l = Lib.decDigits m ∧ m ≤ 4611686018427387903 ∧ n ≤ 19) ∧ l.length = n ∧ ∀ (i : Nat) (x : UInt8), l[i]? = some x → (bl s)[i]? = some x.toNat) := by
    refine ⟨fun g => ?_, by rw [← hl, ← hn]; exact Array.length_toList, fun i x hx => ?_⟩
    · rw [← hG] at g
      obtain ⟨g1, g2⟩ := g
      refine ⟨by rw [← hl, g1]; unfold decB; simp, g2, ?_⟩
      rw [← hn, g1]
      exact decB_19 g2
    · unfold bl
      rw [List.getElem?_map, hl, hx]
      rfl
  have nb : n ≤ 1000000000 := by omega
  have sn : (s.size : Int) = (n : Int) := by rw [hn]
  clear hG hl hs hn
  go_enter Tryz.func67, Tryz.ntmps67
  go_wp2_with fail
  go_loopw [3, 4] (fun u3 u4 wr => ∃ (v : Int) (i : Nat), u3 = .int .i64 v ∧ u4 = .int .i64 (i : Int) ∧ i ≤ n ∧ Hid (G → v = ((dv 0 (l.take i) : Nat) : Int)) ∧ wr = w) (fun _ u4 _ => n - (intOf u4).toNat)
  case atStart => exact ⟨0, 0, rfl, rfl, Nat.zero_le _, fun _ => rfl, rfl⟩
  case round =>
    obtain ⟨v, i, rfl, rfl, hi, S, rfl⟩ := hrel
    by_cases h20 : n < 20
    · have l20 : (n : Int) < 20 := by omega
      by_cases hlt : i < n
      · have lti : (i : Int) < (n : Int) := by omega
        obtain ⟨x, hx⟩ : ∃ x, l[i]? = some x := ⟨_, List.getElem?_eq_getElem (by rw [HG.out.2.1]; exact hlt)⟩
        have ix := run_at (HG.out.2.2 i x hx) wr
        have DX : Hid (G → 48 ≤ x.toNat ∧ x.toNat ≤ 57) := fun g => by
          have q := HG.out.1 g
          have mx : x ∈ Lib.decDigits m := by rw [← q.1]; exact List.mem_of_getElem? hx
          exact digs_digit m x mx
        have DV : Hid (G → ((dv 0 (l.take (i + 1)) : Nat) : Int) ≤ 4611686018427387903) := fun g => by
          have q := HG.out.1 g
          have t := dv_take l (i + 1)
          rw [q.1, digs_dv] at t
          rw [q.1]
          omega
        have DA : Hid (dv 0 (l.take (i + 1)) = dv 0 (l.take i) * 10 + (x.toNat - 48)) := dv_at hx
        obtain ⟨y, hy⟩ : ∃ y, x.toNat = y := ⟨_, rfl⟩
        rw [hy] at ix DX DA
        have yl : y < 256 := by rw [← hy]; exact x.toNat_lt
        clear hx hy
        by_cases c1 : y < 48
        · have f1 : (y : Int) < 48 := by omega
          have NO : Hid (¬ G) := fun g => by have := DX.out g; omega
          go_wp2_with fail
          go_ret
          exact ⟨0, by first | rfl | simp, fun g => absurd g NO.out, rfl⟩
        · have f1 : ¬ (y : Int) < 48 := by omega
          by_cases c2 : 57 < y
          · have f2 : (57 : Int) < (y : Int) := by omega
            have f2' : (y : Int) > 57 := by omega
            have NO : Hid (¬ G) := fun g => by have := DX.out g; omega
            go_wp2_with fail
            go_ret
            exact ⟨0, by first | rfl | simp, fun g => absurd g NO.out, rfl⟩
          · have f2 : ¬ (57 : Int) < (y : Int) := by omega
            have f2' : ¬ (y : Int) > 57 := by omega
            by_cases c3 : 4611686018427387903 < v
            · have c3' : v > 4611686018427387903 := c3
              have NO : Hid (¬ G) := fun g => by
                have q1 := S.out g
                have q2 := DV.out g
                have q3 := DA.out
                omega
              go_wp2_with fail
              go_ret
              exact ⟨0, by first | rfl | simp, fun g => absurd g NO.out, rfl⟩
            · have c3' : ¬ v > 4611686018427387903 := c3
              obtain ⟨u, hu⟩ : ∃ u, y - 48 = u := ⟨_, rfl⟩
              have e1 : (y : Int) - 48 = (u : Int) := by omega
              have e2 : IntKind.u8.wrap (u : Int) = (u : Int) := by rw [IntKind.wrap_u8]; omega
              have N9 : Hid (G → wrap64 (wrap64 (10 * v) + (u : Int)) = ((dv 0 (l.take (i + 1)) : Nat) : Int)) := fun g => by
                have q1 := S.out g
                have q2 := DV.out g
                have q3 := DA.out
                unfold wrap64
                omega
              clear hu S DX DV DA
              go_wp2_with fail
              go_roundw
              case rel => exact ⟨_, i + 1, rfl, by go_num, by omega, N9, by trivial⟩
              case measure => simp [intOf] <;> omega
      · have lti : ¬ (i : Int) < (n : Int) := by omega
        have FI : Hid (G → v = (m : Int)) := fun g => by
          have q := HG.out.1 g
          have t := S.out g
          rw [List.take_of_length_le (by rw [HG.out.2.1]; omega), q.1, digs_dv] at t
          exact t
        go_wp2_with fail
        go_ret
        exact ⟨v, by first | rfl | simp, FI.out, rfl⟩
    · have l20 : ¬ (n : Int) < 20 := by omega
      have NO : Hid (¬ G) := fun g => by have := (HG.out.1 g).2.2; omega
      by_cases hlt : i < n
      · have lti : (i : Int) < (n : Int) := by omega
        go_wp2_with fail
        go_ret
        exact ⟨v, by first | rfl | simp, fun g => absurd g NO.out, rfl⟩
      · have lti : ¬ (i : Int) < (n : Int) := by omega
        go_wp2_with fail
        go_ret
        exact ⟨v, by first | rfl | simp, fun g => absurd g NO.out, rfl⟩
end Go.Proofs.YtbangbobfeflcaaGreatDoor

namespace Go.Proofs.YtbangbobfeflcaaGreatDoor
open Go.RowKit 

/-- A line's words, byte by byte: those that are done, the last one, whether it stands in a quotation. -/
def wstep (st : List ByteArray × ByteArray × Bool) (c : UInt8) : List ByteArray × ByteArray × Bool :=
  let inn := if c = 34 then !st.2.2 else st.2.2
  if c = 32 ∧ inn = false then (st.1 ++ [st.2.1], ⟨#[]⟩, inn) else (st.1, st.2.1 ++ ⟨#[c]⟩, inn)
def wst (l : List UInt8) : List ByteArray × ByteArray × Bool := l.foldl wstep ([], ⟨#[]⟩, false)
def wrdL (s : ByteArray) : List ByteArray := (wst s.data.toList).1 ++ [(wst s.data.toList).2.1]
theorem wst_at {l : List UInt8} {i : Nat} {x : UInt8} (h : l[i]? = some x) : wst (l.take (i + 1)) = wstep (wst (l.take i)) x := by
  unfold wst
  rw [List.take_add_one, h, List.foldl_append]
  rfl
theorem app_one (a : ByteArray) (c : UInt8) (r : List UInt8) : (a ++ ⟨#[c]⟩) ++ ⟨r.toArray⟩ = a ++ ⟨(c :: r).toArray⟩ := by
  apply ba_eq
  simp
theorem app_nil (a : ByteArray) : a ++ ⟨([] : List UInt8).toArray⟩ = a := by
  apply ba_eq
  simp
theorem nil_app (a : ByteArray) : (⟨#[]⟩ : ByteArray) ++ a = a := by
  apply ba_eq
  simp
/-- A word without a mark and without a blank. -/
theorem wst_plain : ∀ (l : List UInt8) (pre : List ByteArray) (last : ByteArray), (34 : UInt8) ∉ l → (32 : UInt8) ∉ l → l.foldl wstep (pre, last, false) = (pre, last ++ ⟨l.toArray⟩, false)
  | [], pre, last, _, _ => by rw [app_nil]; rfl
  | c :: r, pre, last, h1, h2 => by
    have n1 : ¬ c = 34 := fun z => h1 (by rw [z]; exact List.mem_cons_self)
    have n2 : ¬ c = 32 := fun z => h2 (by rw [z]; exact List.mem_cons_self)
    have e : wstep (pre, last, false) c = (pre, last ++ ⟨#[c]⟩, false) := by
      unfold wstep
      simp [n1, n2]
    rw [List.foldl_cons, e, wst_plain r pre _ (fun z => h1 (List.mem_cons_of_mem _ z)) (fun z => h2 (List.mem_cons_of_mem _ z)), app_one]
/-- What stands in a quotation. -/
theorem wst_in : ∀ (l : List UInt8) (pre : List ByteArray) (last : ByteArray), (34 : UInt8) ∉ l → l.foldl wstep (pre, last, true) = (pre, last ++ ⟨l.toArray⟩, true)
  | [], pre, last, _ => by rw [app_nil]; rfl
  | c :: r, pre, last, h1 => by
    have n1 : ¬ c = 34 := fun z => h1 (by rw [z]; exact List.mem_cons_self)
    have e : wstep (pre, last, true) c = (pre, last ++ ⟨#[c]⟩, true) := by
      unfold wstep
      simp [n1]
    rw [List.foldl_cons, e, wst_in r pre _ (fun z => h1 (List.mem_cons_of_mem _ z)), app_one]
/-- A word that ends as it began. -/
def Clean (a : ByteArray) : Prop := ∀ pre, a.data.toList.foldl wstep (pre, ⟨#[]⟩, false) = (pre, a, false)
theorem clean_plain {a : ByteArray} (h1 : (34 : UInt8) ∉ a.data.toList) (h2 : (32 : UInt8) ∉ a.data.toList) : Clean a := fun pre => by
  rw [wst_plain _ _ _ h1 h2, nil_app]
theorem clean_quo (k : ByteArray) : Clean (quoB k) := fun pre => by
  have q := quoB_list k
  have e1 : wstep (pre, ⟨#[]⟩, false) 34 = (pre, (⟨#[]⟩ : ByteArray) ++ ⟨#[34]⟩, true) := by unfold wstep; simp
  rw [q, List.foldl_cons, e1, List.foldl_append, wst_in _ _ _ (eU_no (bl_lt k))]
  have e2 : ∀ last : ByteArray, [34].foldl wstep (pre, last, true) = (pre, last ++ ⟨#[34]⟩, false) := fun last => by
    show wstep (pre, last, true) 34 = _
    unfold wstep
    simp
  rw [e2]
  refine congrArg (fun z => (pre, z, false)) ?_
  apply ba_eq
  rw [q]
  simp
theorem wst_join : ∀ (ws : List ByteArray) (a : ByteArray) (pre : List ByteArray), (∀ x ∈ a :: ws, Clean x) → ∃ p l, (joinB (a :: ws)).data.toList.foldl wstep (pre, ⟨#[]⟩, false) = (p, l, false) ∧ p ++ [l] = pre ++ (a :: ws)
  | [], a, pre, h => by
    rw [joinB_one]
    exact ⟨pre, a, h a List.mem_cons_self pre, rfl⟩
  | b :: r, a, pre, h => by
    rw [joinB_list, List.foldl_append, h a List.mem_cons_self pre, List.foldl_cons]
    have e : wstep (pre, a, false) 32 = (pre ++ [a], ⟨#[]⟩, false) := by unfold wstep; simp
    rw [e]
    obtain ⟨p, l, h1, h2⟩ := wst_join r b (pre ++ [a]) (fun x hx => h x (List.mem_cons_of_mem _ hx))
    exact ⟨p, l, h1, by rw [h2, List.append_assoc]; rfl⟩
theorem it_34 (v : Int) : (34 : UInt8) ∉ (itB v).data.toList := by rw [itB_list]; exact itoa_no v 34 (by decide)
theorem tag_34 (a b : Int) : (34 : UInt8) ∉ (tagB a b).data.toList := by
  rw [tagB_list]
  intro z
  rcases List.mem_append.1 z with z | z
  · exact itoa_no a 34 (by decide) z
  · rcases List.mem_cons.1 z with z | z
    · exact absurd z (by decide)
    · exact itoa_no b 34 (by decide) z
theorem kw_34 (k : Nat) : (34 : UInt8) ∉ (kwB k).data.toList := by
  unfold kwB
  split
  · decide
  · split <;> decide
theorem end_34 (st : Int) : (34 : UInt8) ∉ (endB st).data.toList := by
  unfold endB
  split
  · decide
  · split
    · decide
    · split <;> decide
theorem line_clean (e : Ev) : ∀ a ∈ lineW e, Clean a := fun a ha => by
  have Q : a = kwB e.kind.toNat ∨ a = itB e.client ∨ a = itB e.op ∨ a = ⟨#[112, 117, 116]⟩ ∨ a = ⟨#[103, 101, 116]⟩ ∨ a = quoB e.key ∨ a = endB e.st ∨ a = itB e.st ∨ a = tagB e.tx e.ty ∨ a = quoB (str e.val) := by
    unfold lineW at ha
    simp only [List.mem_append, List.mem_cons, List.not_mem_nil, or_false] at ha
    rcases ha with ((h | h | h | h | h) | h) | h
    · exact .inl h
    · exact .inr (.inl h)
    · exact .inr (.inr (.inl h))
    · split at h
      · exact .inr (.inr (.inr (.inl h)))
      · exact .inr (.inr (.inr (.inr (.inl h))))
    · exact .inr (.inr (.inr (.inr (.inr (.inl h)))))
    · split at h
      · exact .inr (.inr (.inr (.inr (.inr (.inr (.inl (by simpa using h)))))))
      · cases h
    · split at h
      · simp at h
        rcases h with h | h
        · exact .inr (.inr (.inr (.inr (.inr (.inr (.inr (.inl h)))))))
        · exact .inr (.inr (.inr (.inr (.inr (.inr (.inr (.inr (.inl h))))))))
      · split at h
        · simp at h
          exact .inr (.inr (.inr (.inr (.inr (.inr (.inr (.inr (.inl h))))))))
        · split at h
          · simp at h
            rcases h with h | h
            · exact .inr (.inr (.inr (.inr (.inr (.inr (.inr (.inr (.inl h))))))))
            · exact .inr (.inr (.inr (.inr (.inr (.inr (.inr (.inr (.inr h))))))))
          · split at h
            · simp at h
              exact .inr (.inr (.inr (.inr (.inr (.inr (.inr (.inr (.inr h))))))))
            · cases h
  rcases Q with rfl | rfl | rfl | rfl | rfl | rfl | rfl | rfl | rfl | rfl
  · exact clean_plain (kw_34 _) (kw_no _)
  · exact clean_plain (it_34 _) (it_no _)
  · exact clean_plain (it_34 _) (it_no _)
  · exact clean_plain (by decide) (by decide)
  · exact clean_plain (by decide) (by decide)
  · exact clean_quo _
  · exact clean_plain (end_34 _) (end_no _)
  · exact clean_plain (it_34 _) (it_no _)
  · exact clean_plain (tag_34 _ _) (tag_no _ _)
  · exact clean_quo _
theorem wrd_line (e : Ev) : wrdL (lineB e) = lineW e := by
  have e2 : lineW e = kwB e.kind.toNat :: (lineW e).drop 1 := rfl
  have hc := line_clean e
  rw [e2] at hc
  obtain ⟨p, l, h1, h2⟩ := wst_join ((lineW e).drop 1) (kwB e.kind.toNat) [] hc
  have e3 : lineB e = joinB (kwB e.kind.toNat :: (lineW e).drop 1) := rfl
  unfold wrdL wst
  rw [e3, h1, e2]
  exact h2
end Go.Proofs.YtbangbobfeflcaaGreatDoor
