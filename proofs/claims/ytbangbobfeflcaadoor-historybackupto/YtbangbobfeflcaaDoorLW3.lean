import Derived.Test.YtbangbobfeflcaaDoorLPg
import Derived.Test.YtbangbobfeflcaaDoorLEvJ
import Derived.Test.YtbangbobfeflcaaDoorLTxJ
import Derived.Test.YtbangbobfeflcaaDoorHTk
namespace Go.Proofs.YtbangbobfeflcaaDoor
open Go.RowKit 

/-- How many line ends are ahead. -/
def cnt (l : List UInt8) (i : Nat) : Nat := ((l.take i).filter (· == 10)).length
theorem cnt_at {l : List UInt8} {i : Nat} {x : UInt8} (h : l[i]? = some x) : cnt l (i + 1) = if x = 10 then cnt l i + 1 else cnt l i := by
  unfold cnt
  rw [List.take_add_one, h]
  by_cases e : x = 10
  · rw [if_pos e, e]
    simp
  · rw [if_neg e]
    have : (x == 10) = false := by simpa using e
    simp [this]
theorem cnt_le (l : List UInt8) (i : Nat) : cnt l i ≤ i := by
  unfold cnt
  refine Nat.le_trans (List.length_filter_le _ _) ?_
  rw [List.length_take]
  omega
theorem cnt_line {l : List UInt8} (h : (10 : UInt8) ∉ l) : (l.filter (· == 10)).length = 0 := by
  rw [List.length_eq_zero_iff, List.filter_eq_nil_iff]
  intro x hx z
  have : x = 10 := by simpa using z
  exact h (this ▸ hx)
theorem cnt_txt : ∀ es : List Ev, ((txtF es).filter (· == 10)).length = es.length
  | [] => rfl
  | e :: es => by
    rw [txtF_cons, List.filter_append, List.length_append, cnt_line (line_no e), List.filter_cons]
    simp [cnt_txt es]
theorem cnt_all (es : List Ev) : cnt (txtF es) (txtF es).length = es.length := by
  unfold cnt
  rw [List.take_length]
  exact cnt_txt es
theorem txt_byte : ∀ (es : List Ev) (x : UInt8), x ∈ txtF es → x = 10 ∨ plU x
  | [], x, h => by cases h
  | e :: es, x, h => by
    rw [txtF_cons] at h
    rcases List.mem_append.1 h with h | h
    · exact .inr (line_pl e x h)
    · rcases List.mem_cons.1 h with h | h
      · exact .inl h
      · exact txt_byte es x h
theorem PS.erd {w wr : World} {p : Option Addr} {k c : Nat} {L es : List Ev} (h : PS w wr p k c L) (hc : L.map Ev.core = es.map Ev.core) (hb : ∀ e ∈ es, ∀ x ∈ e.val, x < 256) : ERd wr p k c L :=
  h.row.erd fun x hx => by
    refine reads_own (h.val x hx) ?_
    obtain ⟨i, hi, rfl⟩ := List.mem_iff_getElem.1 hx
    have hl : L.length = es.length := by
      have := congrArg List.length hc
      simpa using this
    have q := core_at hc (List.getElem?_eq_getElem hi) (List.getElem?_eq_getElem (by rw [← hl]; exact hi))
    have ev : L[i].core.val = (es[i]'(by rw [← hl]; exact hi)).core.val := congrArg Ev.val q
    have ev : L[i].val = (es[i]'(by rw [← hl]; exact hi)).val := ev
    rw [ev]
    exact hb _ (List.getElem_mem _)
theorem good_of {w : World} {p : Option Addr} {n c : Nat} {es : List Ev} (er : ERd w p n c es) (h : fstF es = 0) : ∀ e ∈ es, GoodE e := fun e he => ⟨fstF_inv h e he, w, er.rd e he⟩
theorem good_val {es : List Ev} (h : ∀ e ∈ es, GoodE e) : ∀ e ∈ es, ∀ x ∈ e.val, x < 256 := fun e he => by
  obtain ⟨w0, r⟩ := (h e he).2
  exact r.bytes
theorem PaQ.nil {w w' : World} {es : List Ev} {o : Ending} (h : PaQ w es [] o w') : ∃ p c L, o = .returned (.tuple #[.slice p es.length c, .int .i64 0, .int .i64 0]) ∧ PS w w' p es.length c L ∧ L.map Ev.core = es.map Ev.core := by
  rcases h with ⟨_, h⟩ | ⟨z, _⟩
  · exact h
  · exact absurd rfl z
theorem PaQ.bad {w w' : World} {es : List Ev} {r : List UInt8} {o : Ending} (h : PaQ w es r o w') (hr : r ≠ []) : o = .returned (.tuple #[.slice none 0 0, .int .i64 ((es.length + 1 : Nat) : Int), .int .i64 80]) ∧ Kept (fun _ => False) w w' := by
  rcases h with ⟨z, _⟩ | ⟨_, h⟩
  · exact absurd z hr
  · exact h
theorem T_app (l : List UInt8) : (⟨l.toArray⟩ : ByteArray) ++ ⟨#[10]⟩ = ⟨(l ++ [10]).toArray⟩ := by
  apply ByteArray.ext
  rw [ByteArray.data_append]
  simp
set_option maxRecDepth 100000 in
set_option maxHeartbeats 4000000 in
theorem hLaw3 {w : World} {p : Option Addr} {n c : Nat} {es : List Ev} (er : ERd w p n c es) (hz : (txtF es).length ≤ 900000000) (s : ByteArray) (hs : s.size ≤ 900000000) (G : Glob w) (E : EVs w) : Calls Tryd.prog 3 #[.slice p n c, .string s] w fun o w' => o = .returned (.bool true) ∧ Kept (fun _ => False) w w' := by
  have hl := er.len
  have rm := er.room
  have sm := er.small
  unfold maxLen at sm
  obtain ⟨es2, r2, hg2, hs2, hr2⟩ := decomp s.size s.data.toList (Nat.le_refl _)
  have HS : Hid (s = ⟨(txtF es2 ++ r2).toArray⟩ ∧ (∀ e ∈ es2, GoodE e) ∧ (r2 = [] ∨ (r2 ≠ [] ∧ BadR r2)) ∧ (txtF es2 ++ r2).length ≤ 1000000000) := by
    refine ⟨by rw [← hs2], hg2, hr2, ?_⟩
    rw [← hs2]
    show s.data.toList.length ≤ _
    have : s.data.toList.length = s.size := Array.length_toList
    omega
  have HE : Hid (ERd w p n c es ∧ Glob w ∧ EVs w ∧ (txtF es).length ≤ 900000000 ∧ es.length = n) := ⟨er, G, E, hz, hl⟩
  have QP : Hid (∀ U, Glob U → EVs U → Calls Tryd.prog 7 #[.string s] U (PaQ U es2 r2)) := fun U h1 h2 => by rw [HS.out.1]; exact hParseG es2 r2 U h1 h2 HS.out.2.1 HS.out.2.2.1 HS.out.2.2.2
  clear er hz hs hg2 hs2 hr2 G E hl
  have CT : Hid (Calls Tryd.prog 5 #[] w fun o w' => o = .returned (.bool true) ∧ Kept (fun _ => False) w w') := hTaken w HE.out.2.1
  go_enter Tryd.func3, Tryd.ntmps3
  go_wp2_with fail
  refine CT.out.mono ?_
  rintro o w1 ⟨rfl, K1'⟩
  have K1 : Hid (Kept (fun _ => False) w w1) := K1'
  clear K1' CT
  have CX : Hid (Calls Tryd.prog 6 #[.slice p n c] w1 fun o w' => o = .returned (.tuple #[.string (txtE es).1, .int .i64 (txtE es).2]) ∧ Kept (fun _ => False) w1 w') := hTextG (HE.out.1.k0 K1.out) (by have := HE.out.2.2.2.1; omega) (HE.out.2.1.kept K1.out).tab (HE.out.2.1.kept K1.out).kw
  by_cases f0 : fstF es = 0
  · have e1 : txtE es = (⟨(txtF es).toArray⟩, 0) := by unfold txtE; rw [if_pos f0]
    rw [e1] at CX
    obtain ⟨T, hT⟩ : ∃ T : ByteArray, (⟨(txtF es).toArray⟩ : ByteArray) = T := ⟨_, rfl⟩
    simp only [hT] at CX
    have GO : Hid (∀ e ∈ es, GoodE e) := good_of HE.out.1 f0
    have TS : Hid (T.size = (txtF es).length) := by
      show T.size = _
      rw [← hT]
      simp [ByteArray.size]
    have TD : Hid (∀ (i : Nat) (x : UInt8), (txtF es)[i]? = some x → (bl T)[i]? = some x.toNat) := fun i x hx => by
      rw [← hT]
      unfold bl
      rw [List.getElem?_map]
      simp [hx]
    have QA : Hid (∀ U, Glob U → EVs U → Calls Tryd.prog 7 #[.string T] U (PaQ U es [])) := fun U h1 h2 => by
      have q := hParseG es [] U h1 h2 GO.out (.inl rfl) (by rw [List.append_nil]; have := HE.out.2.2.2.1; omega)
      rw [List.append_nil, hT] at q
      exact q
    have QB : Hid (∀ U, Glob U → EVs U → Calls Tryd.prog 7 #[.string (T ++ ⟨#[10]⟩)] U (PaQ U es [10])) := fun U h1 h2 => by
      have q := hParseG es [10] U h1 h2 GO.out (.inr ⟨by simp, bad_ten⟩) (by rw [List.length_append]; have := HE.out.2.2.2.1; show (txtF es).length + 1 ≤ _; omega)
      rw [← T_app, hT] at q
      exact q
    have tz : T.size ≤ 900000000 := by rw [TS.out]; exact HE.out.2.2.2.1
    have add1 : ∀ U, (Op.stringOp .add T ⟨#[10]⟩).run Tryd.prog U = .ok (.string (T ++ ⟨#[10]⟩)) U := fun U => run_string_add_sum U T ⟨#[10]⟩ (by show T.size + 1 ≤ _; omega)
    obtain ⟨T2, hT2⟩ : ∃ T2, T ++ ⟨#[10]⟩ = T2 := ⟨_, rfl⟩
    rw [hT2] at add1 QB
    clear e1 hT hT2 f0
    go_wp2_with fail
    refine CX.out.mono ?_
    rintro o w2 ⟨rfl, K2'⟩
    have K2 : Hid (Kept (fun _ => False) w w2) := K1.out.trans K2' (fun _ _ z => z)
    clear K2' CX K1
    have G2 : Hid (Glob w2 ∧ EVs w2) := ⟨HE.out.2.1.kept K2.out, HE.out.2.2.1.by (below_of K2.out)⟩
    go_wp2_with fail
    refine (QA.out w2 G2.out.1 G2.out.2).mono ?_
    rintro o w3 P3
    obtain ⟨p3, c3, L3, rfl, S3', q3⟩ := P3.nil
    have nl := HE.out.2.2.2.2
    rw [nl] at S3' ⊢
    have S3 : Hid (PS w2 w3 p3 n c3 L3 ∧ L3.map Ev.core = es.map Ev.core) := ⟨S3', q3⟩
    have K3 : Hid (Kept (fun _ => False) w w3) := K2.out.trans S3'.kept (fun _ _ z => z)
    clear S3' q3 QA nl
    have CE : Hid (Calls Tryd.prog 8 #[.slice p3 n c3, .slice p n c] w3 fun o w' => o = .returned (.bool true) ∧ Kept (fun _ => False) w3 w') := hEvents (S3.out.1.erd S3.out.2 (good_val GO.out)) (HE.out.1.k0 K3.out) S3.out.2
    go_wp2_with fail
    refine CE.out.mono ?_
    rintro o w4 ⟨rfl, K4'⟩
    have K4 : Hid (Kept (fun _ => False) w w4) := K3.out.trans K4' (fun _ _ z => z)
    clear K4' CE S3 K3 K2 G2
    obtain ⟨N, hN⟩ : ∃ N, T.size = N := ⟨_, rfl⟩
    have HN : Hid (T.size = N) := hN
    have nz : N ≤ 900000000 := by rw [← hN]; exact tz
    clear hN tz
    go_wp2_with fail
    go_loopw [10, 11] (fun u10 u11 wr => ∃ i : Nat, u10 = .int .i64 ((cnt (txtF es) i : Nat) : Int) ∧ u11 = .int .i64 (i : Int) ∧ i ≤ N ∧ wr = w4) (fun _ u11 _ => N - (intOf u11).toNat)
    case atStart => exact ⟨0, rfl, rfl, Nat.zero_le _, rfl⟩
    case round =>
      obtain ⟨i, rfl, rfl, hi, rfl⟩ := hrel
      by_cases hlt : i < N
      · have i1 : (i : Int) < (N : Int) := by omega
        have hlt2 : i < (txtF es).length := by rw [← TS.out, HN.out]; exact hlt
        obtain ⟨x, hx⟩ : ∃ x, (txtF es)[i]? = some x := ⟨_, List.getElem?_eq_getElem hlt2⟩
        have ixx := run_at (TD.out i x hx) wr
        have cx := cnt_at hx
        have xb := txt_byte es x (List.mem_of_getElem? hx)
        obtain ⟨m, hm⟩ : ∃ m, cnt (txtF es) i = m := ⟨_, rfl⟩
        obtain ⟨m2, hm2⟩ : ∃ m2, cnt (txtF es) (i + 1) = m2 := ⟨_, rfl⟩
        have ml : m ≤ 900000000 := by rw [← hm]; have := cnt_le (txtF es) i; omega
        have HM : Hid (cnt (txtF es) (i + 1) = m2) := hm2
        rw [hm]
        rw [hm, hm2] at cx
        obtain ⟨y, hy⟩ : ∃ y, x.toNat = y := ⟨_, rfl⟩
        rw [hy] at ixx
        have ln : (T.size : Int) = (N : Int) := by rw [HN.out]
        rcases xb with rfl | ⟨x1, x2⟩
        · have y0 : y = 10 := by rw [← hy]; rfl
          subst y0
          rw [if_pos rfl] at cx
          clear hx hm hm2 hy hlt2
          go_wp2_with fail
          go_roundw
          case rel => exact ⟨i + 1, by rw [HM.out, cx]; go_num, by go_num, by omega, by trivial⟩
          case measure => simp [intOf] <;> omega
        · have ne : ¬ x = 10 := fun z => by rw [z] at x1; exact absurd x1 (by decide)
          rw [if_neg ne] at cx
          have y1 : 32 ≤ y := by rw [← hy]; exact x1
          have y2 : y ≤ 126 := by rw [← hy]; exact x2
          have g1 : ¬ (y : Int) = 10 := by omega
          have g2 : ¬ (y : Int) < 32 := by omega
          have g3 : ¬ (126 : Int) < (y : Int) := by omega
          have g4 : ¬ (y : Int) > 126 := by omega
          clear hx hm hm2 hy hlt2 x1 x2 ne
          go_wp2_with fail
          go_roundw
          case rel => exact ⟨i + 1, by rw [HM.out, cx], by go_num, by omega, by trivial⟩
          case measure => simp [intOf] <;> omega
      · have iN : i = N := by omega
        subst iN
        have i1 : ¬ (i : Int) < (i : Int) := by omega
        have ln : (T.size : Int) = (i : Int) := by rw [HN.out]
        have cn : cnt (txtF es) i = n := by rw [← HN.out, TS.out, cnt_all]; exact HE.out.2.2.2.2
        rw [cn]
        clear cn
        have G4 : Hid (Glob wr ∧ EVs wr) := ⟨HE.out.2.1.kept K4.out, HE.out.2.2.1.by (below_of K4.out)⟩
        have nb : (n : Int) ≤ 900000000 := by
          have q := es_len es
          have q1 := HE.out.2.2.2.2
          have q2 := HE.out.2.2.2.1
          omega
        go_wp2_with fail
        refine (QB.out wr G4.out.1 G4.out.2).mono ?_
        rintro o w5 P5
        obtain ⟨rfl, K5'⟩ := P5.bad (by simp)
        have K5 : Hid (Kept (fun _ => False) w w5) := K4.out.trans K5' (fun _ _ z => z)
        rw [HE.out.2.2.2.2]
        have nn : ((n + 1 : Nat) : Int) = (n : Int) + 1 := by omega
        rw [nn]
        clear K5' QB K4 G4 nn
        have G5 : Hid (Glob w5 ∧ EVs w5) := ⟨HE.out.2.1.kept K5.out, HE.out.2.2.1.by (below_of K5.out)⟩
        go_wp2_with fail
        refine (QP.out w5 G5.out.1 G5.out.2).mono ?_
        rintro o w6 P6
        rcases P6 with ⟨z, p6, c6, L6, rfl, S6', q6⟩ | ⟨-, rfl, K6'⟩
        · have S6 : Hid (PS w5 w6 p6 es2.length c6 L6 ∧ L6.map Ev.core = es2.map Ev.core) := ⟨S6', q6⟩
          have K6 : Hid (Kept (fun _ => False) w w6) := K5.out.trans S6'.kept (fun _ _ z => z)
          have G6 : Hid (Glob w6) := HE.out.2.1.kept K6.out
          have sE : Hid (txtE L6 = (s, 0)) := by
            show txtE L6 = _
            have ff : fstF L6 = 0 := by rw [fst_same q6]; exact fstF_all (fun e he => (HS.out.2.1 e he).1)
            unfold txtE
            rw [if_pos ff, txt_same q6]
            have q := HS.out.1
            rw [z, List.append_nil] at q
            rw [← q]
          have CZ : Hid (Calls Tryd.prog 6 #[.slice p6 es2.length c6] w6 fun o w' => o = .returned (.tuple #[.string s, .int .i64 0]) ∧ Kept (fun _ => False) w6 w') := by
            have q := hTextG (S6.out.1.erd S6.out.2 (good_val HS.out.2.1)) (by rw [txt_same S6.out.2]; have := HS.out.2.2.2; rw [List.length_append] at this; omega) G6.out.tab G6.out.kw
            rw [sE.out] at q
            exact q
          obtain ⟨n6, hn6⟩ : ∃ n6, es2.length = n6 := ⟨_, rfl⟩
          rw [hn6] at CZ ⊢
          clear z S6' q6 QP hn6
          go_wp2_with fail
          refine CZ.out.mono ?_
          rintro o w7 ⟨rfl, K7'⟩
          have K7 : Hid (Kept (fun _ => False) w w7) := K6.out.trans K7' (fun _ _ z => z)
          clear K7' CZ
          go_wp2_with fail
          go_ret
          exact ⟨by first | rfl | simp, K7.out⟩
        · have K6 : Hid (Kept (fun _ => False) w w6) := K5.out.trans K6' (fun _ _ z => z)
          have nb6 : es2.length ≤ 1000000000 := by
            have q := es_len es2
            have q2 := HS.out.2.2.2
            rw [List.length_append] at q2
            omega
          obtain ⟨n6, hn6⟩ : ∃ n6, es2.length = n6 := ⟨_, rfl⟩
          rw [hn6] at nb6 ⊢
          have g6 : (0 : Int) < ((n6 + 1 : Nat) : Int) := by omega
          have g7 : ((n6 + 1 : Nat) : Int) > 0 := by omega
          clear K6' QP hn6
          go_wp2_with fail
          go_ret
          exact ⟨by first | rfl | simp, K6.out⟩
  · have e1 : txtE es = (⟨#[]⟩, fstF es) := by unfold txtE; rw [if_neg f0]
    rw [e1] at CX
    obtain ⟨ff, hff⟩ : ∃ ff, fstF es = ff := ⟨_, rfl⟩
    rw [hff] at f0
    simp only [hff] at CX
    clear e1 hff
    go_wp2_with fail
    refine CX.out.mono ?_
    rintro o w5 ⟨rfl, K2'⟩
    have K5 : Hid (Kept (fun _ => False) w w5) := K1.out.trans K2' (fun _ _ z => z)
    clear K2' CX K1
    have G5 : Hid (Glob w5 ∧ EVs w5) := ⟨HE.out.2.1.kept K5.out, HE.out.2.2.1.by (below_of K5.out)⟩
    go_wp2_with fail
    refine (QP.out w5 G5.out.1 G5.out.2).mono ?_
    rintro o w6 P6
    rcases P6 with ⟨z, p6, c6, L6, rfl, S6', q6⟩ | ⟨-, rfl, K6'⟩
    · have S6 : Hid (PS w5 w6 p6 es2.length c6 L6 ∧ L6.map Ev.core = es2.map Ev.core) := ⟨S6', q6⟩
      have K6 : Hid (Kept (fun _ => False) w w6) := K5.out.trans S6'.kept (fun _ _ z => z)
      have G6 : Hid (Glob w6) := HE.out.2.1.kept K6.out
      have sE : Hid (txtE L6 = (s, 0)) := by
        show txtE L6 = _
        have ff : fstF L6 = 0 := by rw [fst_same q6]; exact fstF_all (fun e he => (HS.out.2.1 e he).1)
        unfold txtE
        rw [if_pos ff, txt_same q6]
        have q := HS.out.1
        rw [z, List.append_nil] at q
        rw [← q]
      have CZ : Hid (Calls Tryd.prog 6 #[.slice p6 es2.length c6] w6 fun o w' => o = .returned (.tuple #[.string s, .int .i64 0]) ∧ Kept (fun _ => False) w6 w') := by
        have q := hTextG (S6.out.1.erd S6.out.2 (good_val HS.out.2.1)) (by rw [txt_same S6.out.2]; have := HS.out.2.2.2; rw [List.length_append] at this; omega) G6.out.tab G6.out.kw
        rw [sE.out] at q
        exact q
      obtain ⟨n6, hn6⟩ : ∃ n6, es2.length = n6 := ⟨_, rfl⟩
      rw [hn6] at CZ ⊢
      clear z S6' q6 QP hn6
      go_wp2_with fail
      refine CZ.out.mono ?_
      rintro o w7 ⟨rfl, K7'⟩
      have K7 : Hid (Kept (fun _ => False) w w7) := K6.out.trans K7' (fun _ _ z => z)
      clear K7' CZ
      go_wp2_with fail
      go_ret
      exact ⟨by first | rfl | simp, K7.out⟩
    · have K6 : Hid (Kept (fun _ => False) w w6) := K5.out.trans K6' (fun _ _ z => z)
      have nb6 : es2.length ≤ 1000000000 := by
        have q := es_len es2
        have q2 := HS.out.2.2.2
        rw [List.length_append] at q2
        omega
      obtain ⟨n6, hn6⟩ : ∃ n6, es2.length = n6 := ⟨_, rfl⟩
      rw [hn6] at nb6 ⊢
      have g6 : (0 : Int) < ((n6 + 1 : Nat) : Int) := by omega
      have g7 : ((n6 + 1 : Nat) : Int) > 0 := by omega
      clear K6' QP hn6
      go_wp2_with fail
      go_ret
      exact ⟨by first | rfl | simp, K6.out⟩
end Go.Proofs.YtbangbobfeflcaaDoor
