import Derived.Test.YtbangbobfeflcaaGreatDoorREv
namespace Go.Proofs.YtbangbobfeflcaaGreatDoor
open Go.RowKit 

theorem nil_row (W : World) (b : Nat) : W.ownsRow b 5 1 (.slice none 0 0) 0 (cellsOf []) := ⟨rfl, .inl ⟨rfl, rfl⟩⟩
theorem no_mem : ∀ z ∈ ([] : List Nat), z < 256 := fun z h => by cases h
theorem tpar_tag {x y p q e : Int} (hv : (kIsZero x y || kIsProper x y) = true) (h : TPar (tagB x y).data.toList p q e) : p = x ∧ q = y := by
  have tl : (tagB x y).data.toList = textL x y := by
    have t := text_tag hv
    rw [← t]
  rw [tl] at h
  rcases h with ⟨hv2, h2, _⟩ | ⟨_, _, _, h4⟩
  · have q1 := pst_text p q hv2
    have q2 := pst_text x y hv
    rw [h2, q2] at q1
    simp at q1
    exact ⟨q1.1.symm, q1.2.symm⟩
  · exact absurd rfl (h4 x y hv)
/-- What ended makes of any words. -/
theorem hEndedA (W : List ByteArray) (hk : 5 < W.length) (hk8 : W.length ≤ 8) (SZ : ∀ a ∈ W, a.size ≤ 1000000000) (pb : Bool) (kb : ByteArray) (U : World) (g m c : Nat) (v1 v2 : Int) (hm : m + 5 = W.length) (hc : ∀ i a, W[i]? = some a → U.cell? ⟨g, i, none⟩ = some (.string a)) : Calls Tryz.prog 69 #[.agg #[.int .i64 2, .int .i64 v1, .int .i64 v2, .bool pb, .string kb, .slice none 0 0, .int .i64 0, .int .i64 0, .int .i64 0], .slice (some ⟨g, 5, none⟩) m c] U fun o w' => ∃ (p : Option Addr) (kk cc : Nat) (st x y : Int) (l : List Nat), o = .returned (.agg #[.int .i64 2, .int .i64 v1, .int .i64 v2, .bool pb, .string kb, .slice p kk cc, .int .i64 st, .int .i64 x, .int .i64 y]) ∧ True ∧ w'.ownsRow U.heap.size 5 1 (.slice p kk cc) kk (cellsOf l) ∧ (∀ z ∈ l, z < 256) ∧ Kept (fun _ => False) U w' := by
  obtain ⟨a0, w0⟩ : ∃ a, W[5]? = some a := ⟨_, List.getElem?_eq_getElem hk⟩
  have c0 := hc 5 a0 w0
  by_cases h1 : a0 = ⟨#[102, 117, 108, 108]⟩
  · subst h1
    refine (hEndFull v1 v2 pb kb g m c U c0 (by omega)).mono ?_
    rintro o w1 ⟨rfl, K⟩
    exact ⟨none, 0, 0, 42, 0, 0, [], rfl, trivial, nil_row _ _, no_mem, K⟩
  by_cases h2 : a0 = ⟨#[97, 98, 115, 101, 110, 116]⟩
  · subst h2
    refine (hEndAbs v1 v2 pb kb g m c U c0 (by omega)).mono ?_
    rintro o w1 ⟨rfl, K⟩
    exact ⟨none, 0, 0, 76, 0, 0, [], rfl, trivial, nil_row _ _, no_mem, K⟩
  by_cases h3 : a0 = ⟨#[111, 107]⟩
  · subst h3
    by_cases m1 : m = 1
    · refine (hEndOk1 v1 v2 pb kb g m c U c0 m1).mono ?_
      rintro o w1 ⟨rfl, K⟩
      exact ⟨none, 0, 0, 0, 0, 0, [], rfl, trivial, nil_row _ _, no_mem, K⟩
    · obtain ⟨a1, w1⟩ : ∃ a, W[6]? = some a := ⟨_, List.getElem?_eq_getElem (by omega)⟩
      by_cases m2 : m = 2
      · refine (hEndOk2 v1 v2 pb kb g m c a1 (SZ a1 (List.mem_of_getElem? w1)) U c0 (hc 6 a1 w1) m2).mono ?_
        rintro o w2 ⟨x, y, er, rfl, _, K⟩
        exact ⟨none, 0, 0, 0, x, y, [], rfl, trivial, nil_row _ _, no_mem, K⟩
      · obtain ⟨a2, w2⟩ : ∃ a, W[7]? = some a := ⟨_, List.getElem?_eq_getElem (by omega)⟩
        refine (hEndOk3 v1 v2 pb kb g m c a1 a2 (SZ a1 (List.mem_of_getElem? w1)) (SZ a2 (List.mem_of_getElem? w2)) U c0 (hc 6 a1 w1) (hc 7 a2 w2) (by omega)).mono ?_
        rintro o w3 ⟨x, y, er, pv, kv, cv, rfl, _, Q, b, K⟩
        exact ⟨pv, kv, cv, 0, x, y, _, rfl, trivial, Q, b, K⟩
  by_cases h4 : a0 = ⟨#[119, 114, 111, 110, 103]⟩
  · subst h4
    by_cases m2 : m ≤ 2
    · refine (hEndWr2 v1 v2 pb kb g m c U c0 (by omega) m2).mono ?_
      rintro o w1 ⟨rfl, K⟩
      exact ⟨none, 0, 0, 0, 0, 0, [], rfl, trivial, nil_row _ _, no_mem, K⟩
    · obtain ⟨a1, w1⟩ : ∃ a, W[6]? = some a := ⟨_, List.getElem?_eq_getElem (by omega)⟩
      obtain ⟨a2, w2⟩ : ∃ a, W[7]? = some a := ⟨_, List.getElem?_eq_getElem (by omega)⟩
      refine (hEndWr3 v1 v2 pb kb g m c a1 a2 0 (SZ a1 (List.mem_of_getElem? w1)) (SZ a2 (List.mem_of_getElem? w2)) U c0 (hc 6 a1 w1) (hc 7 a2 w2) (by omega)).mono ?_
      rintro o w3 ⟨v, x, y, er, rfl, _, _, K⟩
      exact ⟨none, 0, 0, v, x, y, [], rfl, trivial, nil_row _ _, no_mem, K⟩
  · refine (hEndNo v1 v2 pb kb g m c a0 U c0 (by omega) h1 h2 h3 h4).mono ?_
    rintro o w1 ⟨rfl, K⟩
    exact ⟨none, 0, 0, 0, 0, 0, [], rfl, trivial, nil_row _ _, no_mem, K⟩
/-- What event gives of any text: an event whose value lies in a row of its own. -/
theorem hEventA (s : ByteArray) (hs : s.size ≤ 1000000000) (w : World) : Calls Tryz.prog 33 #[.string s] w (GuP w) := by
  obtain ⟨W, hW⟩ : ∃ W, wrdL s = W := ⟨_, rfl⟩
  by_cases hk : W.length < 5 ∨ 8 < W.length
  · refine (hEvBad s hs W hW hk w).mono ?_
    rintro o w1 ⟨rfl, K⟩
    exact ⟨⟨0, 0, 0, false, ⟨#[]⟩, none, 0, 0, 0, 0, 0, []⟩, rfl, nil_row _ _, no_mem, K⟩
  have h5 : 5 ≤ W.length := by omega
  have h8 : W.length ≤ 8 := by omega
  clear hk
  obtain ⟨a0, w0⟩ : ∃ a, W[0]? = some a := ⟨_, List.getElem?_eq_getElem (by omega)⟩
  obtain ⟨a1, w1⟩ : ∃ a, W[1]? = some a := ⟨_, List.getElem?_eq_getElem (by omega)⟩
  obtain ⟨a2, w2⟩ : ∃ a, W[2]? = some a := ⟨_, List.getElem?_eq_getElem (by omega)⟩
  obtain ⟨a3, w3⟩ : ∃ a, W[3]? = some a := ⟨_, List.getElem?_eq_getElem (by omega)⟩
  obtain ⟨a4, w4⟩ : ∃ a, W[4]? = some a := ⟨_, List.getElem?_eq_getElem (by omega)⟩
  obtain ⟨pb, hpb⟩ : ∃ b, (a3.toList == [112, 117, 116]) = b := ⟨_, rfl⟩
  by_cases n1 : a0 = ⟨#[105, 110, 118, 111, 107, 101]⟩
  · subst n1
    cases pb with
    | false =>
      refine (hEv1f s hs W hW a1 a2 a3 a4 0 0 w0 w1 w2 w3 w4 hpb h5 h8 w).mono ?_
      rintro o u ⟨v1, v2, rfl, _, _, K⟩
      exact ⟨⟨1, v1, v2, false, _, none, 0, 0, 0, 0, 0, []⟩, rfl, nil_row _ _, no_mem, K⟩
    | true =>
      by_cases k5 : W.length = 5
      · refine (hEv1t s hs W hW a1 a2 a3 a4 0 0 w0 w1 w2 w3 w4 hpb k5 w).mono ?_
        rintro o u ⟨v1, v2, rfl, _, _, K⟩
        exact ⟨⟨1, v1, v2, true, _, none, 0, 0, 0, 0, 0, []⟩, rfl, nil_row _ _, no_mem, K⟩
      · obtain ⟨a5, w5⟩ : ∃ a, W[5]? = some a := ⟨_, List.getElem?_eq_getElem (by omega)⟩
        refine (hEv1v s hs W hW a1 a2 a3 a4 0 0 w0 w1 w2 w3 w4 hpb (by omega) h8 a5 w5 w).mono ?_
        rintro o u ⟨v1, v2, p, kk, cc, rfl, _, _, Q, b, K⟩
        exact ⟨⟨1, v1, v2, true, _, p, kk, cc, 0, 0, 0, _⟩, rfl, Q, b, K⟩
  by_cases n2 : a0 = ⟨#[114, 101, 116, 117, 114, 110]⟩
  · subst n2
    by_cases k5 : W.length = 5
    · refine (hEv2n s hs W hW a1 a2 a3 a4 0 0 w0 w1 w2 w3 w4 pb hpb k5 w).mono ?_
      rintro o u ⟨v1, v2, rfl, _, _, K⟩
      exact ⟨⟨2, v1, v2, pb, _, none, 0, 0, 0, 0, 0, []⟩, rfl, nil_row _ _, no_mem, K⟩
    · have SZ : ∀ a ∈ W, a.size ≤ 1000000000 := fun a ha => by
        have q := wrd_size s a (by rw [hW]; exact ha)
        omega
      refine (hEv2e s hs W hW a1 a2 a3 a4 0 0 w0 w1 w2 w3 w4 pb hpb (by omega) h8 (fun _ _ _ _ => True) (fun U g m c v1 v2 hm hc => hEndedA W (by omega) h8 SZ pb _ U g m c v1 v2 hm hc) w).mono ?_
      rintro o u ⟨v1, v2, p, kk, cc, st, x, y, l, rfl, _, _, _, Q, b, K⟩
      exact ⟨⟨2, v1, v2, pb, _, p, kk, cc, st, x, y, l⟩, rfl, Q, b, K⟩
  by_cases n3 : a0 = ⟨#[99, 97, 110, 99, 101, 108]⟩
  · subst n3
    cases pb with
    | false =>
      refine (hEv3f s hs W hW a1 a2 a3 a4 0 0 w0 w1 w2 w3 w4 hpb h5 h8 w).mono ?_
      rintro o u ⟨v1, v2, rfl, _, _, K⟩
      exact ⟨⟨3, v1, v2, false, _, none, 0, 0, 0, 0, 0, []⟩, rfl, nil_row _ _, no_mem, K⟩
    | true =>
      by_cases k5 : W.length = 5
      · refine (hEv3t s hs W hW a1 a2 a3 a4 0 0 w0 w1 w2 w3 w4 hpb k5 w).mono ?_
        rintro o u ⟨v1, v2, rfl, _, _, K⟩
        exact ⟨⟨3, v1, v2, true, _, none, 0, 0, 0, 0, 0, []⟩, rfl, nil_row _ _, no_mem, K⟩
      · obtain ⟨a5, w5⟩ : ∃ a, W[5]? = some a := ⟨_, List.getElem?_eq_getElem (by omega)⟩
        refine (hEv3v s hs W hW a1 a2 a3 a4 0 0 w0 w1 w2 w3 w4 hpb (by omega) h8 a5 w5 w).mono ?_
        rintro o u ⟨v1, v2, x, y, er, rfl, _, _, _, K⟩
        exact ⟨⟨3, v1, v2, true, _, none, 0, 0, 0, x, y, []⟩, rfl, nil_row _ _, no_mem, K⟩
  · refine (hEv0 s hs W hW a1 a2 a3 a4 0 0 a0 n1 n2 n3 w0 w1 w2 w3 w4 pb hpb h5 h8 w).mono ?_
    rintro o u ⟨v1, v2, rfl, _, _, K⟩
    exact ⟨⟨0, v1, v2, pb, _, none, 0, 0, 0, 0, 0, []⟩, rfl, nil_row _ _, no_mem, K⟩
theorem put_is : ((⟨#[112, 117, 116]⟩ : ByteArray).toList == [112, 117, 116]) = true := by rw [Go.ByteArray.toList_eq]; rfl
theorem get_not : ((⟨#[103, 101, 116]⟩ : ByteArray).toList == [112, 117, 116]) = false := by rw [Go.ByteArray.toList_eq]; rfl
theorem it_dec {v : Int} (h : 0 ≤ v) : itB v = decB v.toNat := by rw [decB_it, Int.toNat_of_nonneg h]
theorem key_back (k : ByteArray) : str (meaB (quoB k)) = k := by rw [meaB_back, str_bl]
theorem val_back {l : List Nat} (h : ∀ c ∈ l, c < 256) : meaB (quoB (str l)) = l := by rw [meaB_back, bl_str h]
theorem num_back {v u : Int} (h0 : 0 ≤ v) (h1 : v ≤ 4611686018427387903) (h : itB v = decB v.toNat ∧ v.toNat ≤ 4611686018427387903 → u = (v.toNat : Int)) : u = v := by
  rw [h ⟨it_dec h0, by omega⟩, Int.toNat_of_nonneg h0]
/-- Event gives back the event whose line it reads. -/
theorem hEventG {w : World} (e : Ev) (g : GoodE e) (hz : (lineB e).size ≤ 1000000000) : Calls Tryz.prog 33 #[.string (lineB e)] w fun o w' => Same w w' e o := by
  obtain ⟨hf, w0, rv⟩ := g
  have hW := wrd_line e
  have tv := tag_val hf
  obtain ⟨h1, h2, h3, h4, h5, h6, h7⟩ := fault_all hf
  have hb := rv.bytes
  have sz := @st_zero e h7
  have vz := fun hf => val_nil rv (vn_zero h4 hf)
  have tz := @tg_zero e h5
  clear rv h4 h5 hf
  obtain ⟨s, hs⟩ : ∃ s, lineB e = s := ⟨_, rfl⟩
  rw [hs] at hW hz ⊢
  clear hs
  unfold lineW at hW
  unfold Same
  obtain ⟨kind, client, op, put, key, va, vn, vc, st, tx, ty, val⟩ := e
  simp only at h1 h2 h3 h6 hb tv sz vz tz hW ⊢
  have N1 := @num_back client
  have N2 := @num_back op
  rcases h1 with rfl | rfl | rfl
  · have s0 := sz (by decide)
    subst s0
    cases put with
    | true =>
      obtain ⟨t1, t2⟩ := tz (Or.inr rfl)
      subst t1 t2
      have hW : wrdL s = [⟨#[105, 110, 118, 111, 107, 101]⟩, itB client, itB op, ⟨#[112, 117, 116]⟩, quoB key, quoB (str val)] := hW
      refine (hEv1v s hz _ hW (itB client) (itB op) ⟨#[112, 117, 116]⟩ (quoB key) client.toNat op.toNat rfl rfl rfl rfl rfl put_is (by simp) (by simp) (quoB (str val)) rfl w).mono ?_
      rintro o u ⟨v1, v2, p, kk, cc, rfl, r1, r2, Q, b, K⟩
      rw [N1 (by omega) (by omega) r1, N2 (by omega) (by omega) r2, key_back]
      rw [val_back hb] at Q
      exact ⟨p, kk, cc, rfl, Q, K⟩
    | false =>
      obtain ⟨t1, t2⟩ := tz (Or.inl rfl)
      subst t1 t2
      have v0 := vz (by show ¬ ((0 : Int) = 1 ∨ (0 : Int) = 3); decide)
      subst v0
      have hW : wrdL s = [⟨#[105, 110, 118, 111, 107, 101]⟩, itB client, itB op, ⟨#[103, 101, 116]⟩, quoB key] := hW
      refine (hEv1f s hz _ hW (itB client) (itB op) ⟨#[103, 101, 116]⟩ (quoB key) client.toNat op.toNat rfl rfl rfl rfl rfl get_not (by simp) (by simp) w).mono ?_
      rintro o u ⟨v1, v2, rfl, r1, r2, K⟩
      rw [N1 (by omega) (by omega) r1, N2 (by omega) (by omega) r2, key_back]
      exact ⟨none, 0, 0, rfl, nil_row _ _, K⟩
  · cases put with
    | true =>
      by_cases z : st = 0
      · subst z
        have v0 := vz (by show ¬ ((2 : Int) = 1 ∨ (2 : Int) = 3); decide)
        subst v0
        have hW : wrdL s = [⟨#[114, 101, 116, 117, 114, 110]⟩, itB client, itB op, ⟨#[112, 117, 116]⟩, quoB key, ⟨#[111, 107]⟩, tagB tx ty] := hW
        refine (hEv2e s hz _ hW (itB client) (itB op) ⟨#[112, 117, 116]⟩ (quoB key) client.toNat op.toNat rfl rfl rfl rfl rfl true put_is (by simp) (by simp) (fun st x y l => st = 0 ∧ x = tx ∧ y = ty ∧ l = []) (fun U g m c v1 v2 hm hc => by
          refine (hEndOk2 v1 v2 true _ g m c (tagB tx ty) (by have := tagB_size (val_ok tv).1 (val_ok tv).2; omega) U (hc 5 _ rfl) (hc 6 _ rfl) (by simp at hm; omega)).mono ?_
          rintro o w2 ⟨x, y, er, rfl, TP, K⟩
          exact ⟨none, 0, 0, 0, x, y, [], rfl, ⟨rfl, (tpar_tag tv TP).1, (tpar_tag tv TP).2, rfl⟩, nil_row _ _, no_mem, K⟩) w).mono ?_
        rintro o u ⟨v1, v2, p, kk, cc, st, x, y, l, rfl, r1, r2, ⟨rfl, rfl, rfl, rfl⟩, Q, b, K⟩
        rw [N1 (by omega) (by omega) r1, N2 (by omega) (by omega) r2, key_back]
        exact ⟨p, kk, cc, rfl, Q, K⟩
      · have z2 : st = 42 := by
          unfold statusE at h7
          simp only at h7
          rw [if_neg z] at h7
          simpa using h7
        subst z2
        obtain ⟨t1, t2⟩ := tz (Or.inl rfl)
        subst t1 t2
        have v0 := vz (by show ¬ ((0 : Int) = 1 ∨ (0 : Int) = 3); decide)
        subst v0
        have hW : wrdL s = [⟨#[114, 101, 116, 117, 114, 110]⟩, itB client, itB op, ⟨#[112, 117, 116]⟩, quoB key, ⟨#[102, 117, 108, 108]⟩] := hW
        refine (hEv2e s hz _ hW (itB client) (itB op) ⟨#[112, 117, 116]⟩ (quoB key) client.toNat op.toNat rfl rfl rfl rfl rfl true put_is (by simp) (by simp) (fun st x y l => st = 42 ∧ x = 0 ∧ y = 0 ∧ l = []) (fun U g m c v1 v2 hm hc => by
          refine (hEndFull v1 v2 true _ g m c U (hc 5 _ rfl) (by simp at hm; omega)).mono ?_
          rintro o w2 ⟨rfl, K⟩
          exact ⟨none, 0, 0, 42, 0, 0, [], rfl, ⟨rfl, rfl, rfl, rfl⟩, nil_row _ _, no_mem, K⟩) w).mono ?_
        rintro o u ⟨v1, v2, p, kk, cc, st, x, y, l, rfl, r1, r2, ⟨rfl, rfl, rfl, rfl⟩, Q, b, K⟩
        rw [N1 (by omega) (by omega) r1, N2 (by omega) (by omega) r2, key_back]
        exact ⟨p, kk, cc, rfl, Q, K⟩
    | false =>
      by_cases z : st = 0
      · subst z
        have hW : wrdL s = [⟨#[114, 101, 116, 117, 114, 110]⟩, itB client, itB op, ⟨#[103, 101, 116]⟩, quoB key, ⟨#[111, 107]⟩, tagB tx ty, quoB (str val)] := hW
        have qz : (quoB (str val)).size ≤ 1000000000 := by
          have q := wrd_size s (quoB (str val)) (by rw [hW]; simp)
          omega
        refine (hEv2e s hz _ hW (itB client) (itB op) ⟨#[103, 101, 116]⟩ (quoB key) client.toNat op.toNat rfl rfl rfl rfl rfl false get_not (by simp) (by simp) (fun st x y l => st = 0 ∧ x = tx ∧ y = ty ∧ l = val) (fun U g m c v1 v2 hm hc => by
          refine (hEndOk3 v1 v2 false _ g m c (tagB tx ty) (quoB (str val)) (by have := tagB_size (val_ok tv).1 (val_ok tv).2; omega) qz U (hc 5 _ rfl) (hc 6 _ rfl) (hc 7 _ rfl) (by simp at hm; omega)).mono ?_
          rintro o w2 ⟨x, y, er, pv, kv, cv, rfl, TP, Q, b, K⟩
          rw [val_back hb] at Q b
          exact ⟨pv, kv, cv, 0, x, y, val, rfl, ⟨rfl, (tpar_tag tv TP).1, (tpar_tag tv TP).2, rfl⟩, Q, b, K⟩) w).mono ?_
        rintro o u ⟨v1, v2, p, kk, cc, st, x, y, l, rfl, r1, r2, ⟨rfl, rfl, rfl, rfl⟩, Q, b, K⟩
        rw [N1 (by omega) (by omega) r1, N2 (by omega) (by omega) r2, key_back]
        exact ⟨p, kk, cc, rfl, Q, K⟩
      · have z2 : st = 76 ∨ (20 ≤ st ∧ st ≤ 26) := by
          unfold statusE at h7
          simp only at h7
          rw [if_neg z] at h7
          simpa using h7
        rcases z2 with rfl | ⟨g1, g2⟩
        · obtain ⟨t1, t2⟩ := tz (Or.inl rfl)
          subst t1 t2
          have v0 := vz (by show ¬ ((0 : Int) = 1 ∨ (0 : Int) = 3); decide)
          subst v0
          have hW : wrdL s = [⟨#[114, 101, 116, 117, 114, 110]⟩, itB client, itB op, ⟨#[103, 101, 116]⟩, quoB key, ⟨#[97, 98, 115, 101, 110, 116]⟩] := hW
          refine (hEv2e s hz _ hW (itB client) (itB op) ⟨#[103, 101, 116]⟩ (quoB key) client.toNat op.toNat rfl rfl rfl rfl rfl false get_not (by simp) (by simp) (fun st x y l => st = 76 ∧ x = 0 ∧ y = 0 ∧ l = []) (fun U g m c v1 v2 hm hc => by
            refine (hEndAbs v1 v2 false _ g m c U (hc 5 _ rfl) (by simp at hm; omega)).mono ?_
            rintro o w2 ⟨rfl, K⟩
            exact ⟨none, 0, 0, 76, 0, 0, [], rfl, ⟨rfl, rfl, rfl, rfl⟩, nil_row _ _, no_mem, K⟩) w).mono ?_
          rintro o u ⟨v1, v2, p, kk, cc, st, x, y, l, rfl, r1, r2, ⟨rfl, rfl, rfl, rfl⟩, Q, b, K⟩
          rw [N1 (by omega) (by omega) r1, N2 (by omega) (by omega) r2, key_back]
          exact ⟨p, kk, cc, rfl, Q, K⟩
        · have ff : formE ⟨2, client, op, false, key, va, vn, vc, st, tx, ty, val⟩ = 4 := by
            show formR st false = 4
            unfold formR
            rw [if_neg z, if_neg (by omega)]
          have v0 := vz (by rw [ff]; decide)
          subst v0
          have eb : endB st = ⟨#[119, 114, 111, 110, 103]⟩ := by
            unfold endB
            rw [if_neg z, if_neg (by omega), if_neg (by omega)]
          rw [ff, eb] at hW
          have hW : wrdL s = [⟨#[114, 101, 116, 117, 114, 110]⟩, itB client, itB op, ⟨#[103, 101, 116]⟩, quoB key, ⟨#[119, 114, 111, 110, 103]⟩, itB st, tagB tx ty] := hW
          refine (hEv2e s hz _ hW (itB client) (itB op) ⟨#[103, 101, 116]⟩ (quoB key) client.toNat op.toNat rfl rfl rfl rfl rfl false get_not (by simp) (by simp) (fun st' x y l => st' = st ∧ x = tx ∧ y = ty ∧ l = []) (fun U g m c v1 v2 hm hc => by
            refine (hEndWr3 v1 v2 false _ g m c (itB st) (tagB tx ty) st.toNat (by have := itB_size st ⟨by omega, by omega⟩; omega) (by have := tagB_size (val_ok tv).1 (val_ok tv).2; omega) U (hc 5 _ rfl) (hc 6 _ rfl) (hc 7 _ rfl) (by simp at hm; omega)).mono ?_
            rintro o w2 ⟨v, x, y, er, rfl, rr, TP, K⟩
            exact ⟨none, 0, 0, v, x, y, [], rfl, ⟨num_back (by omega) (by omega) rr, (tpar_tag tv TP).1, (tpar_tag tv TP).2, rfl⟩, nil_row _ _, no_mem, K⟩) w).mono ?_
          rintro o u ⟨v1, v2, p, kk, cc, st', x, y, l, rfl, r1, r2, ⟨rfl, rfl, rfl, rfl⟩, Q, b, K⟩
          rw [N1 (by omega) (by omega) r1, N2 (by omega) (by omega) r2, key_back]
          exact ⟨p, kk, cc, rfl, Q, K⟩
  · have s0 := sz (by decide)
    subst s0
    have v0 : val = [] := by
      cases put with
      | true => exact vz (by show ¬ ((2 : Int) = 1 ∨ (2 : Int) = 3); decide)
      | false => exact vz (by show ¬ ((0 : Int) = 1 ∨ (0 : Int) = 3); decide)
    subst v0
    cases put with
    | true =>
      have hW : wrdL s = [⟨#[99, 97, 110, 99, 101, 108]⟩, itB client, itB op, ⟨#[112, 117, 116]⟩, quoB key, tagB tx ty] := hW
      refine (hEv3v s hz _ hW (itB client) (itB op) ⟨#[112, 117, 116]⟩ (quoB key) client.toNat op.toNat rfl rfl rfl rfl rfl put_is (by simp) (by simp) (tagB tx ty) rfl w).mono ?_
      rintro o u ⟨v1, v2, x, y, er, rfl, r1, r2, TP, K⟩
      rw [N1 (by omega) (by omega) r1, N2 (by omega) (by omega) r2, key_back, (tpar_tag tv TP).1, (tpar_tag tv TP).2]
      exact ⟨none, 0, 0, rfl, nil_row _ _, K⟩
    | false =>
      obtain ⟨t1, t2⟩ := tz (Or.inl rfl)
      subst t1 t2
      have hW : wrdL s = [⟨#[99, 97, 110, 99, 101, 108]⟩, itB client, itB op, ⟨#[103, 101, 116]⟩, quoB key] := hW
      refine (hEv3f s hz _ hW (itB client) (itB op) ⟨#[103, 101, 116]⟩ (quoB key) client.toNat op.toNat rfl rfl rfl rfl rfl get_not (by simp) (by simp) w).mono ?_
      rintro o u ⟨v1, v2, rfl, r1, r2, K⟩
      rw [N1 (by omega) (by omega) r1, N2 (by omega) (by omega) r2, key_back]
      exact ⟨none, 0, 0, rfl, nil_row _ _, K⟩
end Go.Proofs.YtbangbobfeflcaaGreatDoor
