import Derived.Test.YtonfefhegghapaaDoorALo
import Derived.Test.YtonfefhegghapaaDoorUTqJ
namespace Go.Proofs.YtonfefhegghapaaDoor
open Go.RowKit 

/-- The lines by parts. -/
theorem prt_lin : ∀ (f : Nat) (l : List UInt8), l.length ≤ f → prtL 10 l = linL l ++ [[]] ∨ (prtL 10 l = linL l ∧ ∃ a b, linL l = a ++ [b] ∧ b ≠ [])
  | 0, l, h => by
    have : l = [] := List.eq_nil_of_length_eq_zero (by omega)
    subst this
    exact .inl rfl
  | f + 1, l, h => by
    by_cases h0 : l = []
    · subst h0
      exact .inl rfl
    · have hl := (cutE_len 10 l).2.2 h0
      obtain ⟨n1, sp⟩ := cut_spec 10 l
      have st := linL_step h0
      have ih := prt_lin f (cutE 10 l).2 (by omega)
      generalize (cutE 10 l).1 = t at n1 sp st
      generalize (cutE 10 l).2 = r at sp st ih
      rcases sp with sp | ⟨sp, sr⟩
      · rw [st]
        have e : prtL 10 l = t :: prtL 10 r := by rw [sp]; exact prt_at r n1
        rw [e]
        rcases ih with ih | ⟨ih, a, b, e2, hb⟩
        · left
          rw [ih]
          rfl
        · right
          rw [ih]
          exact ⟨rfl, t :: a, b, by rw [e2]; rfl, hb⟩
      · right
        subst sr
        rw [st, sp, prt_last n1]
        exact ⟨rfl, [], t, rfl, by rw [← sp]; exact h0⟩
theorem parF_lin_all : ∀ (f : Nat) (l : List UInt8) (acc : List St), l.length ≤ f → (∀ u ∈ linL l, okL u) → parF l.length l acc = (acc ++ (linL l).map gs, 0, 0)
  | 0, l, acc, h, _ => by
    have : l = [] := List.eq_nil_of_length_eq_zero (by omega)
    subst this
    rw [parF_end]
    simp [linL_nil]
  | f + 1, l, acc, h, ok => by
    by_cases h0 : l = []
    · subst h0
      rw [parF_end]
      simp [linL_nil]
    · have hl := (cutE_len 10 l).2.2 h0
      have st := linL_step h0
      rw [parF_step h0 (ok _ (by rw [st]; simp)), parF_lin_all f _ _ (by omega) (fun u hu => ok u (by rw [st]; simp [hu])), st]
      simp
theorem parF_lin_bad : ∀ (f : Nat) (l : List UInt8) (acc : List St) (i : Nat) (t : List UInt8), l.length ≤ f → (linL l)[i]? = some t → ¬ okL t → (∀ u ∈ (linL l).take i, okL u) → parF l.length l acc = ([], acc.length + i, 82)
  | 0, l, acc, i, t, h, ht, _, _ => by
    have : l = [] := List.eq_nil_of_length_eq_zero (by omega)
    subst this
    cases ht
  | f + 1, l, acc, i, t, h, ht, no, ok => by
    by_cases h0 : l = []
    · subst h0
      cases ht
    · have hl := (cutE_len 10 l).2.2 h0
      have st := linL_step h0
      rw [st] at ht ok
      cases i with
      | zero =>
        have e : (cutE 10 l).1 = t := by simpa using ht
        rw [parF_bad h0 (by rw [e]; exact no)]
        rfl
      | succ i =>
        rw [parF_step h0 (ok _ (by simp)), parF_lin_bad f _ _ i t (by omega) (by simpa using ht) no (fun u hu => ok u (by rw [List.take_succ_cons]; simp [hu])), List.length_append, List.length_singleton]
        congr 2
        omega
/-- Parse, by the lines. -/
theorem par_lines (l : List UInt8) : (4096 < (linL l).length → parL l = ([], 0, 2)) ∧ (¬ 4096 < (linL l).length → (∀ u ∈ linL l, okL u) → parL l = ((linL l).map gs, 0, 0)) ∧ (¬ 4096 < (linL l).length → ∀ (i : Nat) (t : List UInt8), (linL l)[i]? = some t → ¬ okL t → (∀ u ∈ (linL l).take i, okL u) → parL l = ([], i, 82)) := by
  have hn := linL_len l.length l (Nat.le_refl _)
  unfold parL
  rw [← hn]
  refine ⟨fun h => if_pos h, fun h ok => ?_, fun h i t ht no ok => ?_⟩
  · rw [if_neg h, parF_lin_all l.length l [] (Nat.le_refl _) ok]
    rfl
  · rw [if_neg h, parF_lin_bad l.length l [] i t (Nat.le_refl _) ht no ok]
    simp
theorem loo_small (t : List UInt8) : KS (looL t) ∧ KI (looL t).kind ∧ (looL t).key.length ≤ t.length ∧ (looL t).val.length ≤ t.length ∧ (looL t).l.length ≤ t.length + 1 := by
  have mem := prt_mem 32 t
  have len := prt_len 32 t
  obtain ⟨a, b, e⟩ := prt_ne 32 t
  have el : looL t = looK (kindL a) b := by unfold looL; rw [e]; rfl
  rw [el]
  rw [e] at mem len
  have kl := kindL_lt a
  generalize kindL a = k at kl
  have mb : ∀ u ∈ b, u.length ≤ t.length := fun u hu => mem u (by simp [hu])
  rw [List.length_cons] at len
  have tk : ∀ (h : Bool) (ws : List (List UInt8)), (∀ u ∈ ws, u.length ≤ t.length) → (∀ u, (tkW h ws).1 = some u → u.length ≤ t.length) ∧ (∀ u ∈ (tkW h ws).2, u.length ≤ t.length) ∧ (tkW h ws).2.length ≤ ws.length := fun h ws hw => by
    cases h with
    | false =>
      rw [tk_no rfl]
      exact ⟨fun u hu => (by cases hu), hw, Nat.le_refl _⟩
    | true =>
      cases ws with
      | nil =>
        rw [tk_nil]
        exact ⟨fun u hu => (by cases hu), hw, Nat.le_refl _⟩
      | cons x r =>
        rw [tk_yes rfl]
        exact ⟨fun u hu => (by cases hu; exact hw x (by simp)), fun u hu => hw u (by simp [hu]), by simp⟩
  unfold looK
  dsimp only
  obtain ⟨m1, n1, l1⟩ := tk (lsA k) b mb
  obtain ⟨m2, n2, l2⟩ := tk (lsB k) _ n1
  obtain ⟨m3, n3, l3⟩ := tk (lsK k) _ n2
  obtain ⟨m4, n4, l4⟩ := tk (lsV k) _ n3
  have nk : ∀ o : Option (List UInt8), KI ((o.map numV).getD 0) := fun o => by
    cases o with
    | none => exact ki0
    | some u => exact numV_ki u
  have hx : ∀ o : Option (List UInt8), (∀ u, o = some u → u.length ≤ t.length) → ((o.map hexR).getD []).length ≤ t.length := fun o h => by
    cases o with
    | none => exact Nat.zero_le _
    | some u => exact Nat.le_trans (hexR_len u) (h u rfl)
  refine ⟨⟨nk _, nk _, fun z hz => ?_⟩, ⟨by show (-9223372036854775808 : Int) ≤ (k : Int); omega, by show (k : Int) ≤ 9223372036854775807; omega⟩, hx _ m3, hx _ m4, ?_⟩
  · split at hz
    · obtain ⟨u, _, rfl⟩ := List.mem_map.1 hz
      exact numV_ki u
    · cases hz
  · split
    · rw [List.length_map]
      omega
    · exact Nat.zero_le _
theorem PX.base {w wc wr : World} {p : Option Addr} {k c : Nat} {L : List Sm} {ss : List St} (h : PX wc wr p k c L ss) (K : Kept (fun _ => False) w wc) : PX w wr p k c L ss := ⟨h.len, h.slen, owns_mono h.row K.size, fun i x s hx hs => (h.so i x s hx hs).mono K.size, K.trans h.kept (fun _ _ z => z)⟩
set_option maxRecDepth 100000 in
set_option maxHeartbeats 8000000 in
/-- The document's Parse. -/
theorem hRefParse {w : World} {t : ByteArray} (ht : t.size ≤ 33554430) (M : WM w) : Calls Tryd.prog 22 #[.string t] w (RetP fun p k c L r w' => r = parL t.data.toList ∧ PX w w' p k c L r.1) := by
  obtain ⟨ls, hls⟩ : ∃ ls, linL t.data.toList = ls := ⟨_, rfl⟩
  obtain ⟨R0, hR0⟩ : ∃ R, parL t.data.toList = R := ⟨_, rfl⟩
  rw [hR0]
  have HM : Hid (WM w ∧ (4096 < ls.length → R0 = ([], 0, 2)) ∧ (¬ 4096 < ls.length → (∀ u ∈ ls, okL u) → R0 = (ls.map gs, 0, 0)) ∧ (¬ 4096 < ls.length → ∀ (i : Nat) (t : List UInt8), ls[i]? = some t → ¬ okL t → (∀ u ∈ ls.take i, okL u) → R0 = ([], i, 82)) ∧ (∀ (i : Nat) (u : List UInt8), ls[i]? = some u → u.length ≤ 33554430)) := by
    have q := par_lines t.data.toList
    rw [hls, hR0] at q
    refine ⟨M, q.1, q.2.1, q.2.2, fun i u hu => ?_⟩
    rw [← hls] at hu
    have h1 := lin_get hu
    have h2 : t.data.toList.length = t.size := Array.length_toList
    omega
  have HP := prt_lin t.data.toList.length t.data.toList (Nat.le_refl _)
  rw [hls] at HP
  have C45 : Hid (Calls Tryd.prog 45 #[.string t, .int .u8 10] w fun o w' => ∃ (p : Option Addr) (k c : Nat), o = .returned (.slice p k c) ∧ LX w w' p k c (prtL 10 t.data.toList)) := hParts (w := w) (t := t) (e := 10) (cy := 10) rfl (by omega)
  obtain ⟨ps, hps⟩ : ∃ ps, prtL 10 t.data.toList = ps := ⟨_, rfl⟩
  rw [hps] at C45 HP
  have LZ : Hid (ls.length ≤ 33554431) := by
    have h1 := tex_lin t.data.toList.length t.data.toList (Nat.le_refl _)
    have h2 : t.data.toList.length = t.size := Array.length_toList
    have h3 : ∀ l : List (List UInt8), l.length ≤ (tex l).length := fun l => by
      induction l with
      | nil => simp
      | cons x r ih =>
        rw [tex_cons, List.length_append, List.length_cons, List.length_cons]
        omega
    have h4 := h3 ls
    rw [hls] at h1
    show ls.length ≤ 33554431
    omega
  have HPP : Hid (ps = ls ++ [[]] ∨ (ps = ls ∧ ∃ a b, ls = a ++ [b] ∧ b ≠ [])) := HP
  clear hls hR0 hps M HP
  go_enter Tryd.func22, Tryd.ntmps22
  go_wp2_with fail
  refine C45.out.mono ?_
  rintro o w1 ⟨p, k, c, rfl, X1⟩
  have HX : Hid (LX w w1 p k c ps) := X1
  clear X1 C45
  obtain ⟨u, hu⟩ : ∃ u, ps[k - 1]? = some u := by
    rcases HPP.out with e | ⟨e, a, b, e2, _⟩
    · exact ⟨_, List.getElem?_eq_getElem (by have := HX.out.len; rw [e, List.length_append] at this; rw [e, List.length_append]; simp at this ⊢; omega)⟩
    · exact ⟨_, List.getElem?_eq_getElem (by have := HX.out.len; rw [e, e2, List.length_append] at this; rw [e, e2, List.length_append]; simp at this ⊢; omega)⟩
  have k1 : 1 ≤ k := by
    have h1 := (List.getElem?_eq_some_iff.1 hu).1
    have h2 := HX.out.len
    omega
  have kz : k ≤ 33554432 := by
    have h1 := LZ.out
    have h2 := HX.out.len
    rcases HPP.out with e | ⟨e, _⟩
    · rw [e, List.length_append, List.length_singleton] at h2
      omega
    · rw [e] at h2
      omega
  obtain ⟨m, rfl⟩ : ∃ m, k = m + 1 := ⟨k - 1, by omega⟩
  rw [Nat.add_sub_cancel] at hu
  obtain ⟨g, eg, gc⟩ := HX.out.at hu
  subst eg
  obtain ⟨U, hU⟩ : ∃ U, ofL u = U := ⟨_, rfl⟩
  rw [hU] at gc
  have rk := own_room HX.out.row
  have kc1 : m + 1 ≤ c := rk.1
  have mc : (m : Int) ≤ (c : Int) := by omega
  have CS : Hid ((u = [] → ls.length = m) ∧ (u ≠ [] → ls.length = m + 1) ∧ ∀ (i : Nat) (v : List UInt8), ls[i]? = some v → w1.cell? ⟨g, i, none⟩ = some (.string (ofL v))) := by
    have h2 := HX.out.len
    refine ⟨fun z => ?_, fun z => ?_, fun i v hv => ?_⟩
    · rcases HPP.out with e | ⟨e, a, b, e2, hb⟩
      · rw [e, List.length_append, List.length_singleton] at h2
        omega
      · exfalso
        have h3 : a.length = m := by
          rw [e, e2, List.length_append, List.length_singleton] at h2
          omega
        rw [e, e2, List.getElem?_append_right (by omega), h3, Nat.sub_self] at hu
        have : b = u := by simpa using hu
        exact hb (this.trans z)
    · rcases HPP.out with e | ⟨e, _⟩
      · exfalso
        have h3 : ls.length = m := by
          rw [e, List.length_append, List.length_singleton] at h2
          omega
        rw [e, List.getElem?_append_right (by omega), h3, Nat.sub_self] at hu
        have : [] = u := by simpa using hu
        exact z this.symm
      · rw [e] at h2
        exact h2
    · obtain ⟨g', e', hc⟩ := HX.out.at (i := i) (u := v) (by
        rcases HPP.out with e | ⟨e, _⟩
        · rw [e, List.getElem?_append_left (List.getElem?_eq_some_iff.1 hv).1]
          exact hv
        · rw [e]
          exact hv)
      obtain rfl : g = g' := by simpa using e'
      exact hc
  have KW : Hid (Kept (fun _ => False) w w1) := HX.out.kept
  go_upto_if 19 with fail
  go_cut [5] from 13 (fun u5 wc => ∃ n : Nat, u5 = .slice (some ⟨g, 0, none⟩) n c ∧ n ≤ c ∧ wc = w1 ∧ Hid (ls.length = n))
  case first =>
    by_cases hE : u = []
    · have eb : U.toList.isEmpty = true := emp_yes (by rw [← hU, hE]; rfl)
      have NN : Hid (ls.length = m) := CS.out.1 hE
      clear hu hE hU
      rw [eb]
      go_wp2_with fail
      go_meet
      exact ⟨m, by first | rfl | simp, by omega, rfl, NN⟩
    · have eb : U.toList.isEmpty = false := emp_no (fun z => hE (by
        have := congrArg (fun b : ByteArray => b.data.toList) (hU.trans z.symm)
        exact this))
      have NN : Hid (ls.length = m + 1) := CS.out.2.1 hE
      clear hu hE hU
      rw [eb]
      go_wp2_with fail
      go_meet
      exact ⟨m + 1, by first | rfl | simp, by omega, rfl, NN⟩
  case rest =>
  obtain ⟨n, rfl, ncc, hwc, NL⟩ := hcut
  subst hwc
  have nz : n ≤ 33554431 := by have h1 := LZ.out; have h2 := NL.out; omega
  clear gc hU hu HX mc
  by_cases h4 : 4096 < n
  · have h4i : (4096 : Int) < (n : Int) := by omega
    have e : R0 = ([], 0, 2) := HM.out.2.1 (by rw [NL.out]; exact h4)
    subst e
    go_wp2_with fail
    go_ret3
    exact ⟨none, 0, 0, [], ([], 0, 2), by first | rfl | simp, rfl, (PX.nil w).k0 KW.out⟩
  have h4i : ¬ (4096 : Int) < (n : Int) := by omega
  have H4 : Hid (¬ 4096 < ls.length) := by show ¬ 4096 < ls.length; rw [NL.out]; exact h4
  go_upto_region 8 with fail
  go_loopw [6, 7, 8, 9, 10] (fun u6 u7 _ _ _ wr => ∃ (i : Nat) (q : Option Addr) (d : Nat) (L' : List Sm), u6 = .slice q i d ∧ u7 = .int .i64 (i : Int) ∧ i ≤ n ∧ Hid (PX wc wr q i d L' ((ls.take i).map gs) ∧ (∀ u ∈ ls.take i, okL u) ∧ Kept (fun _ => False) wc wr)) (fun _ u7 _ _ _ _ => n - (intOf u7).toNat)
  case atStart => exact ⟨0, none, 0, [], rfl, rfl, Nat.zero_le _, PX.nil wc, fun u hu => (by cases hu), Kept.refl _ _⟩
  case round =>
    obtain ⟨i, q, d, L', rfl, rfl, hi, S⟩ := hrel
    obtain ⟨wo, hwo⟩ : ∃ wo, wo = wr := ⟨_, rfl⟩
    rw [← hwo] at S ⊢
    clear hwo
    by_cases hlt : i < n
    · have i1 : (i : Int) < (n : Int) := by omega
      obtain ⟨v, hv⟩ : ∃ v, ls[i]? = some v := ⟨_, List.getElem?_eq_getElem (by rw [NL.out]; exact hlt)⟩
      have gc := S.out.2.2.cell (CS.out.2.2 i v hv) (fun z => z)
      have vz := HM.out.2.2.2.2 i v hv
      obtain ⟨VV, hVV⟩ : ∃ V, ofL v = V := ⟨_, rfl⟩
      rw [hVV] at gc
      have HV : Hid (ls[i]? = some v ∧ ofL v = VV ∧ v.length ≤ 33554430) := ⟨hv, hVV, vz⟩
      have C46 : Hid (Calls Tryd.prog 46 #[.string VV] wo (RetM fun x w' => SO wo.heap.size w' x (looL v) ∧ Kept (fun _ => False) wo w')) := by
        have q := hLoose (w := wo) (t := VV) (by rw [← hVV, ofL_sizeE]; omega) ((HM.out.1.kept KW.out).kept S.out.1.kept)
        have e : VV.data.toList = v := by rw [← hVV]; rfl
        rw [e] at q
        exact q
      clear hv hVV vz
      go_wp2_with fail
      refine C46.out.mono ?_
      rintro o w3 ⟨x, rfl, so, K3⟩
      have S3 : Hid (PX wc w3 q i d L' ((ls.take i).map gs) ∧ SO wc.heap.size w3 x (looL v) ∧ Kept (fun _ => False) wc w3) := ⟨S.out.1.k0 K3, so.mono S.out.1.kept.size, S.out.2.2.trans K3 (fun _ _ z => z)⟩
      have OKS : Hid (∀ u ∈ ls.take i, okL u) := S.out.2.1
      clear so K3 C46 S gc
      obtain ⟨kind, a, b, key, va, vn, vc, la, ln, lc⟩ := x
      have e0 : (Sm.cs ⟨kind, a, b, key, va, vn, vc, la, ln, lc⟩) = #[.int .i64 kind, .int .i64 a, .int .i64 b, .string key, .slice va vn vc, .slice la ln lc] := rfl
      rw [e0]
      clear e0
      obtain ⟨W, hW⟩ : ∃ W, w3.alloc (.cells #[.int .i64 kind, .int .i64 a, .int .i64 b, .string key, .slice va vn vc, .slice la ln lc] 38) = W := ⟨_, rfl⟩
      obtain ⟨B, hB⟩ : ∃ B, w3.heap.size = B := ⟨_, rfl⟩
      have S4 : Hid (PX wc W q i d L' ((ls.take i).map gs) ∧ SO wc.heap.size W ⟨kind, a, b, key, va, vn, vc, la, ln, lc⟩ (looL v) ∧ W.heap[B]? = some (.cells #[.int .i64 kind, .int .i64 a, .int .i64 b, .string key, .slice va vn vc, .slice la ln lc] 38 (0, 0)) ∧ Kept (fun _ => False) wc W) := by
        rw [← hW, ← hB]
        exact ⟨S3.out.1.k0 ((Kept.refl _ _).alloc _), S3.out.2.1.k0 ((Kept.refl _ _).alloc _), alloc_new _ _, S3.out.2.2.alloc _⟩
      have HW : Hid (w3.alloc (.cells #[.int .i64 kind, .int .i64 a, .int .i64 b, .string key, .slice va vn vc, .slice la ln lc] 38) = W ∧ w3.heap.size = B) := ⟨hW, hB⟩
      clear hW hB S3
      go_upto_region 11 with fail
      rw [HW.out.1, HW.out.2]
      clear HW
      obtain ⟨ck, hck⟩ : ∃ ck, chkS (looL v) = ck := ⟨_, rfl⟩
      obtain ⟨LS, hLS⟩ : ∃ LS, lineS (looL v) = LS := ⟨_, rfl⟩
      have C18 : Hid (Calls Tryd.prog 18 #[.agg #[.int .i64 kind, .int .i64 a, .int .i64 b, .string key, .slice va vn vc, .slice la ln lc]] W fun o w' => o = .returned (.tuple #[.string LS, .int .i64 ck]) ∧ Kept (fun _ => False) W w') := by
        rw [← hck, ← hLS]
        obtain ⟨ks, kk, l1, l2, l3⟩ := loo_small v
        have so := S4.out.2.1
        have vz := HV.out.2.2
        have rd : SRd W ⟨kind, a, b, key, va, vn, vc, la, ln, lc⟩ (looL v) := ⟨so.kind, so.a, so.b, so.key, ks.a, ks.b, (owns_bytes so.vr so.vl).1, (owns_ints so.lr so.ll ks.l).1, by omega⟩
        have q := hRefLine rd kk ((HM.out.1.kept KW.out).kept S4.out.1.kept)
        exact q
      have LOK : Hid ((ck = 0 ∧ LS = VV ↔ okL v) ∧ (okL v → looL v = gs v)) := by
        have q := loo_ok v (loo_small v).1
        refine ⟨⟨fun z => q.1.1 ⟨hck.trans z.1, ?_⟩, fun z => ?_⟩, q.2⟩
        · have e := hLS
          unfold lineS at e
          rw [if_pos (hck.trans z.1), z.2, ← HV.out.2.1] at e
          have := congrArg (fun b : ByteArray => b.data.toList) e
          exact this
        · have y := q.1.2 z
          refine ⟨hck.symm.trans y.1, ?_⟩
          rw [← hLS, ← HV.out.2.1]
          unfold lineS
          rw [if_pos y.1, y.2]
      clear hck hLS
      have b0 := cell_blk S4.out.2.2.1 0 (v := .int .i64 kind) rfl
      have b1 := cell_blk S4.out.2.2.1 1 (v := .int .i64 a) rfl
      have b2 := cell_blk S4.out.2.2.1 2 (v := .int .i64 b) rfl
      have b3 := cell_blk S4.out.2.2.1 3 (v := .string key) rfl
      have b4 := cell_blk S4.out.2.2.1 4 (v := .slice va vn vc) rfl
      have b5 := cell_blk S4.out.2.2.1 5 (v := .slice la ln lc) rfl
      go_wp2_with fail
      refine C18.out.mono ?_
      rintro o w5 ⟨rfl, K5⟩
      have S5 : Hid (PX wc w5 q i d L' ((ls.take i).map gs) ∧ SO wc.heap.size w5 ⟨kind, a, b, key, va, vn, vc, la, ln, lc⟩ (looL v) ∧ w5.heap[B]? = some (.cells #[.int .i64 kind, .int .i64 a, .int .i64 b, .string key, .slice va vn vc, .slice la ln lc] 38 (0, 0)) ∧ Kept (fun _ => False) wc w5) := ⟨S4.out.1.k0 K5, S4.out.2.1.k0 K5, K5.get S4.out.2.2.1 (fun z => z), S4.out.2.2.2.trans K5 (fun _ _ z => z)⟩
      clear K5 C18 S4 b0 b1 b2 b3 b4 b5
      have gc : w5.cell? ⟨g, i, none⟩ = some (.string VV) := by
        have := S5.out.2.2.2.cell (CS.out.2.2 i v HV.out.1) (fun z => z)
        rw [HV.out.2.1] at this
        exact this
      by_cases ok : okL v
      · obtain ⟨e1, e2⟩ := LOK.out.1.2 ok
        have GG : Hid (looL v = gs v) := LOK.out.2 ok
        have OK2 : Hid (okL v) := ok
        subst e1
        subst e2
        have b0 := cell_blk S5.out.2.2.1 0 (v := .int .i64 kind) rfl
        have b1 := cell_blk S5.out.2.2.1 1 (v := .int .i64 a) rfl
        have b2 := cell_blk S5.out.2.2.1 2 (v := .int .i64 b) rfl
        have b3 := cell_blk S5.out.2.2.1 3 (v := .string key) rfl
        have b4 := cell_blk S5.out.2.2.1 4 (v := .slice va vn vc) rfl
        have b5 := cell_blk S5.out.2.2.1 5 (v := .slice la ln lc) rfl
        clear LOK ok
        have A6 : Hid (PX wc (w5.alloc (.cells #[.int .i64 kind, .int .i64 a, .int .i64 b, .string key, .slice va vn vc, .slice la ln lc] 38)) q i d L' ((ls.take i).map gs) ∧ SO wc.heap.size (w5.alloc (.cells #[.int .i64 kind, .int .i64 a, .int .i64 b, .string key, .slice va vn vc, .slice la ln lc] 38)) ⟨kind, a, b, key, va, vn, vc, la, ln, lc⟩ (looL v)) := ⟨S5.out.1.k0 ((Kept.refl _ _).alloc _), S5.out.2.1.k0 ((Kept.refl _ _).alloc _)⟩
        have SR : Hid (Src Tryd.prog 6 30 (.slice (some ⟨w5.heap.size, 0, none⟩) 1 1) 1 (scs [⟨kind, a, b, key, va, vn, vc, la, ln, lc⟩]) (w5.alloc (.cells #[.int .i64 kind, .int .i64 a, .int .i64 b, .string key, .slice va vn vc, .slice la ln lc] 38))) := src_st (alloc_new w5 _)
        have LN : Hid (i + 1 ≤ maxLen ∧ ((i + 1) + (i + 1) / 4 + 192) * 88 ≤ 281474976710656) := by unfold maxLen; exact ⟨by omega, by omega⟩
        go_wp2_with
          (first
            | (at_builtin; refine wpList_append_all _ rfl (.tmp 55) (.tmp 57) 30 38 30 _ 6 88 rfl Tryd.underlying30c Tryd.info38c rfl wc.heap.size (.slice q i d) i (scs L') rfl A6.out.1.row _ 1 (scs [⟨kind, a, b, key, va, vn, vc, la, ln, lc⟩]) rfl SR.out LN.out.1 LN.out.2 A6.out.1.kept.size ?_; intro p9 c9 w9 ho hg hn9)
            | fail)
        have N9 : Hid (PX wc w9 p9 (i + 1) c9 (L' ++ [⟨kind, a, b, key, va, vn, vc, la, ln, lc⟩]) ((ls.take (i + 1)).map gs) ∧ (∀ u ∈ ls.take (i + 1), okL u) ∧ Kept (fun _ => False) wc w9) := by
          have e1 : ls.take (i + 1) = ls.take i ++ [v] := by
            rw [List.take_add_one, HV.out.1]
            rfl
          have P9 := A6.out.1.more A6.out.2 ho.out hg.out
          rw [GG.out] at P9
          refine ⟨?_, fun u hu => ?_, ?_⟩
          · rw [e1, List.map_append]
            exact P9
          · rw [e1] at hu
            rcases List.mem_append.1 hu with hu | hu
            · exact OKS.out u hu
            · rw [List.mem_singleton.1 hu]
              exact OK2.out
          · exact (S5.out.2.2.2.alloc _).trans (TX.kg hg.out) (fun j hj z => by
              have h1 := (own_lt A6.out.1.row j z).1
              exact absurd hj (by omega))
        clear ho hg hn9 A6 SR LN S5
        go_roundw
        case rel => exact ⟨i + 1, p9, c9, _, rfl, by go_num, by omega, N9⟩
        case measure => simp [intOf] <;> omega
      · have FN : Hid (R0 = ([], i, 82) ∧ Kept (fun _ => False) w w5) := ⟨HM.out.2.2.2.1 H4.out i v HV.out.1 ok OKS.out, KW.out.trans S5.out.1.kept (fun _ _ z => z)⟩
        by_cases h0 : ck = 0
        · have hq : LS ≠ VV := fun z => ok (LOK.out.1.1 ⟨h0, z⟩)
          have eq1 : (LS.toList == VV.toList) = false := by rw [eq_bytesE]; exact decide_eq_false hq
          have eq2 : decide (LS = VV) = false := decide_eq_false hq
          subst h0
          clear S5 LOK
          go_wp2_with fail
          go_ret3
          exact ⟨none, 0, 0, [], R0, by rw [FN.out.1]; first | rfl | simp, rfl, by rw [FN.out.1]; exact (PX.nil w).k0 FN.out.2⟩
        · clear S5 LOK
          go_wp2_with fail
          go_ret3
          exact ⟨none, 0, 0, [], R0, by rw [FN.out.1]; first | rfl | simp, rfl, by rw [FN.out.1]; exact (PX.nil w).k0 FN.out.2⟩
    · have i1 : ¬ (i : Int) < (n : Int) := by omega
      have FN : Hid (R0 = (ls.map gs, 0, 0) ∧ PX w wo q i d L' (ls.map gs)) := by
        have e : ls.take i = ls := List.take_of_length_le (by rw [NL.out]; omega)
        have h1 := S.out.1
        have h2 := S.out.2.1
        rw [e] at h1 h2
        exact ⟨HM.out.2.2.1 H4.out h2, h1.base KW.out⟩
      clear S
      go_wp2_with fail
      go_ret3
      exact ⟨q, i, d, L', R0, by rw [FN.out.1]; first | rfl | simp, rfl, by rw [FN.out.1]; exact FN.out.2⟩
end Go.Proofs.YtonfefhegghapaaDoor
