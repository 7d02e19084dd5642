import Derived.Test.YtonfefhegghapaaDoorSConJ
import Derived.Deep.Cut
namespace Go.Proofs.YtonfefhegghapaaDoor
open Go.RowKit 

/-- Texts that can be read. -/
structure TRs (w : World) (p : Option Addr) (k c : Nat) (ts : List ByteArray) : Prop where
  len : ts.length = k
  room : k ≤ c
  small : c ≤ maxLen
  cells : 0 < k → ∃ b off, p = some ⟨b, off, none⟩ ∧ ∀ (i : Nat) (t : ByteArray), ts[i]? = some t → w.cell? ⟨b, off + i, none⟩ = some (.string t)
theorem app_list (a b : ByteArray) : (a ++ b).data.toList = a.data.toList ++ b.data.toList := by simp
def bsL (ts : List ByteArray) : List (List UInt8) := ts.map (·.data.toList)
theorem bsL_get {ts : List ByteArray} {i : Nat} {t : ByteArray} (h : ts[i]? = some t) : (bsL ts)[i]? = some t.data.toList := by
  unfold bsL
  rw [List.getElem?_map, h]
  rfl
/-- What first and steps tell. -/
def FST (bs : List (List UInt8)) (i : Nat) (f : Int) (ss : List St) : Prop := (f = -1 ∧ (∀ (j : Nat) (u : List UInt8), j < i → bs[j]? = some u → okL u) ∧ ss = (bs.take i).map gs) ∨ (∃ (m : Nat) (t : List UInt8), f = (m : Int) ∧ m < i ∧ bs[m]? = some t ∧ ¬ okL t ∧ ∀ (j : Nat) (u : List UInt8), j < m → bs[j]? = some u → okL u)
/-- Where the law is. -/
structure LS5 (w wr : World) (bs : List (List UInt8)) (i : Nat) (T : ByteArray) (f : Int) (q : Option Addr) (n d : Nat) (L : List Sm) (ss : List St) : Prop where
  tx : T.data.toList = tex (bs.take i)
  no : ∀ t ∈ bs.take i, 10 ∉ t
  px : PX w wr q n d L ss
  gm : ∀ s ∈ ss, GSm 33554432 s
  ni : n ≤ i
  fs : FST bs i f ss
theorem LS5.k0 {w wr W : World} {bs : List (List UInt8)} {i : Nat} {T : ByteArray} {f : Int} {q : Option Addr} {n d : Nat} {L : List Sm} {ss : List St} (h : LS5 w wr bs i T f q n d L ss) (K : Kept (fun _ => False) wr W) : LS5 w W bs i T f q n d L ss := ⟨h.tx, h.no, h.px.k0 K, h.gm, h.ni, h.fs⟩
theorem take_one {bs : List (List UInt8)} {i : Nat} {t : List UInt8} (h : bs[i]? = some t) : bs.take (i + 1) = bs.take i ++ [t] := by
  rw [List.take_add_one, h]
  rfl
theorem LS5.text {w wr W : World} {bs : List (List UInt8)} {i : Nat} {T T' : ByteArray} {f f' : Int} {q q' : Option Addr} {n d n' d' : Nat} {L L' : List Sm} {ss ss' : List St} {t : List UInt8} (h : LS5 w wr bs i T f q n d L ss) (ht : bs[i]? = some t) (hn : 10 ∉ t) (hT : T'.data.toList = T.data.toList ++ t ++ [10]) (px : PX w W q' n' d' L' ss') (gm : ∀ s ∈ ss', GSm 33554432 s) (ni : n' ≤ i + 1) (fs : FST bs (i + 1) f' ss') : LS5 w W bs (i + 1) T' f' q' n' d' L' ss' :=
  ⟨by rw [take_one ht, tex_snoc, hT, h.tx], fun u hu => by
    rw [take_one ht] at hu
    rcases List.mem_append.1 hu with z | z
    · exact h.no u z
    · rw [List.mem_singleton] at z
      rw [z]
      exact hn, px, gm, ni, fs⟩
theorem FST.bad {bs : List (List UInt8)} {i : Nat} {f : Int} {ss : List St} {t : List UInt8} (h : FST bs i f ss) (ht : bs[i]? = some t) (no : ¬ okL t) (hf : f < 0) (ss' : List St) : FST bs (i + 1) (i : Int) ss' := by
  rcases h with ⟨_, ok, _⟩ | ⟨m, u, e, _⟩
  · exact .inr ⟨i, t, rfl, by omega, ht, no, ok⟩
  · omega
theorem FST.old {bs : List (List UInt8)} {i : Nat} {f : Int} {ss : List St} (h : FST bs i f ss) (hf : ¬ f < 0) (ss' : List St) : FST bs (i + 1) f ss' := by
  rcases h with ⟨e, _⟩ | ⟨m, u, e, lt, r⟩
  · omega
  · exact .inr ⟨m, u, e, by omega, r⟩
theorem FST.good {bs : List (List UInt8)} {i : Nat} {f : Int} {ss : List St} {t : List UInt8} (h : FST bs i f ss) (ht : bs[i]? = some t) (ok : okL t) : FST bs (i + 1) f (ss ++ [gs t]) := by
  rcases h with ⟨e, o, r⟩ | ⟨m, u, e, lt, r⟩
  · refine .inl ⟨e, fun j u hj hu => ?_, by rw [take_one ht, List.map_append, r]; rfl⟩
    by_cases z : j < i
    · exact o j u z hu
    · have : j = i := by omega
      subst this
      rw [ht] at hu
      have e2 : t = u := by simpa using hu
      rw [← e2]
      exact ok
  · exact .inr ⟨m, u, e, by omega, r⟩
theorem FST.fk {bs : List (List UInt8)} {i : Nat} {f : Int} {ss : List St} (h : FST bs i f ss) : -1 ≤ f ∧ f ≤ i := by
  rcases h with ⟨e, _⟩ | ⟨m, u, e, lt, _⟩ <;> omega
theorem one_len {bs : List (List UInt8)} {i : Nat} {t : List UInt8} (h : bs[i]? = some t) : (tex (bs.take i)).length + t.length + 1 ≤ (tex bs).length := by
  have e : bs = bs.take i ++ (t :: bs.drop (i + 1)) := by
    have hi := (List.getElem?_eq_some_iff.1 h).1
    have h2 := (List.getElem?_eq_some_iff.1 h).2
    conv => lhs; rw [← List.take_append_drop i bs, List.drop_eq_getElem_cons hi]
    rw [h2]
  conv => rhs; rw [e]
  unfold tex
  rw [List.flatMap_append, List.flatMap_cons]
  simp
  omega
end Go.Proofs.YtonfefhegghapaaDoor

namespace Go.Proofs.YtonfefhegghapaaDoor
open Go.RowKit 

theorem run_at {t : ByteArray} {j : Nat} {x : UInt8} (h : t.data.toList[j]? = some x) (w : World) : (Instr.index 9 (.string t) (.int .i64 (j : Int))).run Tryd.prog w = .ok (.int .u8 (x.toNat : Int)) w := by
  have hj : j < t.size := by
    have := (List.getElem?_eq_some_iff.1 h).1
    rw [Array.length_toList] at this
    exact this
  have hx : t.data[j]? = some x := by rw [← Array.getElem?_toList]; exact h
  have e : t[j]'hj = x := by
    have h2 : t.data[j]'hj = x := by
      have := Array.getElem?_eq_getElem (xs := t.data) (i := j) hj
      rw [this] at hx
      simpa using hx
    exact h2
  rw [run_index_string w 9 t .i64 (j : Int) Tryd.underlying9]
  simp [hj, e]
set_option maxRecDepth 100000 in
set_option maxHeartbeats 8000000 in
theorem hLaw5 {w : World} {p : Option Addr} {k c : Nat} {ts : List ByteArray} (R : TRs w p k c ts) (hz : (tex (bsL ts)).length ≤ 8388608) (V : Vars w) (F : FM w) : Calls Tryd.prog 5 #[.slice p k c] w fun o w' => o = .returned (.bool true) ∧ Kept (fun _ => False) w w' := by
  have hk : k ≤ 9223372036854775807 := by have h1 := R.room; have h2 := R.small; unfold maxLen at h2; omega
  have H : Hid (TRs w p k c ts ∧ (tex (bsL ts)).length ≤ 8388608 ∧ Vars w ∧ FM w) := ⟨R, hz, V, F⟩
  have C0 : Hid (Calls Tryd.prog 11 #[] w fun o w' => o = .returned (.bool true) ∧ Kept (fun _ => False) w w') := hAwake w V F
  clear R hz V F
  go_enter Tryd.func5, Tryd.ntmps5
  go_wp2_with fail
  refine C0.out.mono ?_
  rintro o w1 ⟨rfl, K1⟩
  have S1 : Hid (LS5 w w1 (bsL ts) 0 ⟨#[]⟩ (-1) none 0 0 [] []) := ⟨rfl, fun t ht => (by cases ht), (PX.nil w).k0 K1, fun s hs => (by cases hs), Nat.le_refl _, .inl ⟨rfl, fun j u hj => absurd hj (by omega), rfl⟩⟩
  clear K1 C0
  go_upto_region 7 with fail
  go_loopw [3, 4, 5, 6, 7, 8, 9, 10] (fun u3 u4 u5 u6 _ _ _ _ wr => ∃ (i : Nat) (T : ByteArray) (f : Int) (q : Option Addr) (n d : Nat) (L : List Sm) (ss : List St), u3 = .string T ∧ u4 = .int .i64 f ∧ u5 = .slice q n d ∧ u6 = .int .i64 (i : Int) ∧ i ≤ k ∧ i ≤ 4096 ∧ Hid (LS5 w wr (bsL ts) i T f q n d L ss)) (fun _ _ _ u6 _ _ _ _ _ => k - (intOf u6).toNat)
  case atStart => exact ⟨0, ⟨#[]⟩, -1, none, 0, 0, [], [], rfl, rfl, rfl, rfl, Nat.zero_le _, by omega, S1⟩
  case round =>
    clear S1
    obtain ⟨i, T, f, q, n, d, L, ss, rfl, rfl, rfl, rfl, hi, hi2, S⟩ := hrel
    obtain ⟨wo, hwo⟩ : ∃ wo, wo = wr := ⟨_, rfl⟩
    rw [← hwo] at S ⊢
    clear hwo
    have f1 := S.out.fs.fk.1
    have f2 := S.out.fs.fk.2
    by_cases hlt : i < k ∧ i < 4096
    · obtain ⟨hlt, hl4⟩ := hlt
      have i1 : (i : Int) < (k : Int) := by omega
      have i2 : (i : Int) < 4096 := by omega
      obtain ⟨t, ht⟩ : ∃ t, ts[i]? = some t := ⟨_, List.getElem?_eq_getElem (by rw [H.out.1.len]; exact hlt)⟩
      obtain ⟨pb, po, rfl, hc⟩ := H.out.1.cells (by omega)
      have HC : Hid (w.cell? ⟨pb, po + i, none⟩ = some (.string t)) := hc i t ht
      have HB : Hid ((bsL ts)[i]? = some t.data.toList) := bsL_get ht
      have HZ : Hid (T.size + t.size + 1 ≤ 8388608) := by
        have h1 := one_len HB.out
        rw [← S.out.tx] at h1
        have e1 : T.data.toList.length = T.size := Array.length_toList
        have e2 : t.data.toList.length = t.size := Array.length_toList
        have := H.out.2.1
        show T.size + t.size + 1 ≤ 8388608
        omega
      have tz : t.size ≤ 8388608 := by have := HZ.out; omega
      have Tz : T.size ≤ 8388608 := by have := HZ.out; omega
      clear hc ht
      go_upto_region 10 with fail
      go_loopw [7] (fun u7 wq => ∃ j : Nat, u7 = .int .i64 (j : Int) ∧ j ≤ t.size ∧ Hid (Kept (fun _ => False) wo wq ∧ ∀ (x : Nat) (b : UInt8), x < j → t.data.toList[x]? = some b → b ≠ 10)) (fun u7 _ => t.size - (intOf u7).toNat)
      case atStart => exact ⟨0, rfl, Nat.zero_le _, Kept.refl _ _, fun x b hx => absurd hx (by omega)⟩
      case round =>
        obtain ⟨j, rfl, hj, S2⟩ := hrel
        obtain ⟨wp, hwp⟩ : ∃ wp, wp = wr := ⟨_, rfl⟩
        rw [← hwp] at S2 ⊢
        clear hwp
        have tc := (S.out.px.kept.trans S2.out.1 (fun _ _ z => z)).cell HC.out (fun z => z)
        by_cases hjl : j < t.size
        · have j1 : (j : Int) < (t.size : Int) := by omega
          obtain ⟨x, hx⟩ : ∃ x, t.data.toList[j]? = some x := ⟨_, List.getElem?_eq_getElem (by rw [Array.length_toList]; exact hjl)⟩
          have ri := run_at hx wp
          obtain ⟨y, hy⟩ : ∃ y, x.toNat = y := ⟨_, rfl⟩
          have yl : y < 256 := by rw [← hy]; exact x.toNat_lt
          rw [hy] at ri
          have HX : Hid (t.data.toList[j]? = some x ∧ x.toNat = y) := ⟨hx, hy⟩
          clear hx hy
          by_cases h10 : y = 10
          · subst h10
            go_wp2_with fail
            go_ret
            exact ⟨by first | rfl | simp, S.out.px.kept.trans S2.out.1 (fun _ _ z => z)⟩
          · have y1 : ¬ (y : Int) = 10 := by omega
            go_wp2_with fail
            go_roundw
            case rel => exact ⟨j + 1, by go_num, by omega, S2.out.1, fun z b hz hb => by
              by_cases q : z < j
              · exact S2.out.2 z b q hb
              · have : z = j := by omega
                subst this
                rw [HX.out.1] at hb
                have e : x = b := by simpa using hb
                rw [← e]
                intro e2
                have := HX.out.2
                rw [e2] at this
                exact h10 this.symm⟩
            case measure => simp [intOf] <;> omega
        · have j1 : ¬ (j : Int) < (t.size : Int) := by omega
          have HN : Hid (10 ∉ t.data.toList) := fun z => by
            obtain ⟨x, hx⟩ := List.mem_iff_getElem?.1 z
            have hl := (List.getElem?_eq_some_iff.1 hx).1
            rw [Array.length_toList] at hl
            have hl2 : x < t.size := hl
            exact S2.out.2 x 10 (by omega) hx rfl
          have S3 : Hid (LS5 w wp (bsL ts) i T f q n d L ss) := S.out.k0 S2.out.1
          clear S S2
          go_upto_region 15 with fail
          obtain ⟨T2, hT2⟩ : ∃ T2, T ++ t ++ { data := #[10] } = T2 := ⟨_, rfl⟩
          have HT2 : Hid (T2.data.toList = T.data.toList ++ t.data.toList ++ [10]) := by
            rw [← hT2, app_list, app_list]
            rfl
          rw [hT2]
          clear hT2
          have C1 : Hid (∀ V, Kept (fun _ => False) w V → Calls Tryd.prog 14 #[.string (t ++ { data := #[10] })] V (RetP fun p k c L r w' => r = parL (t.data.toList ++ [10]) ∧ PX V w' p k c L r.1)) := fun V K => by
            have e : (t ++ { data := #[10] } : ByteArray).data.toList = t.data.toList ++ [10] := app_list _ _
            have z : (t ++ { data := #[10] } : ByteArray).size ≤ 33554432 := by
              have z1 : (t ++ { data := #[10] } : ByteArray).data.toList.length = (t ++ { data := #[10] } : ByteArray).size := Array.length_toList
              have z2 : t.data.toList.length = t.size := Array.length_toList
              rw [e, List.length_append, z2, List.length_singleton] at z1
              omega
            have q := hParse (t ++ { data := #[10] }) V z (H.out.2.2.1.kept K) (H.out.2.2.2.kept K)
            rw [e] at q
            exact q
          go_wp2_with fail
          refine (C1.out _ S3.out.px.kept).mono ?_
          rintro o w5 ⟨p5, k5, c5, L5, r, rfl, hr, P5⟩
          clear C1 tc
          have S5 : Hid (LS5 w w5 (bsL ts) i T f q n d L ss) := S3.out.k0 P5.kept
          by_cases ok : okL t.data.toList
          · have r1 := hr.trans ((par_one _ HN.out).1 ok)
            subst r1
            clear hr
            have P6 : PX wp w5 p5 k5 c5 L5 [gs t.data.toList] := P5
            have e5 : k5 = 1 := P6.slen.symm
            subst e5
            obtain ⟨x, hx⟩ := List.length_eq_one_iff.1 P6.len
            subst hx
            obtain ⟨g, e⟩ : ∃ g, p5 = some ⟨g, 0, none⟩ := by
              rcases P6.row.2 with ⟨_, hn⟩ | ⟨g, cap, cur, z, _⟩
              · cases hn
              · have z : Value.slice p5 1 c5 = .slice (some ⟨g, 0, none⟩) 1 cap := z
                injection z with z1 _ z3
                exact ⟨g, z1⟩
            subst e
            have hcx : ∀ (j : Nat) (v : Value), x.cs[j]? = some v → w5.cell? ⟨g, j, none⟩ = some v := fun j v hv => by
              have hc := P6.row.cells (g := g) rfl j v (by rw [scs_one, Array.getElem?_toList]; exact hv)
              rw [Addr.add_none, Nat.zero_add] at hc
              exact hc
            have SX : Hid (SO w.heap.size w5 x (gs t.data.toList) ∧ GSm 33554432 (gs t.data.toList)) := by
              refine ⟨(P6.so 0 x _ rfl rfl).mono S3.out.px.kept.size, ?_⟩
              have g1 := gs_small t.data.toList
              have z2 : t.data.toList.length = t.size := Array.length_toList
              have hn : t.data.toList.length ≤ 33554432 := by omega
              exact ⟨g1.kind, g1.a, g1.b, Nat.le_trans g1.key hn, Nat.le_trans g1.val hn, Nat.le_trans g1.l hn, g1.ki⟩
            clear P5 P6 S3
            obtain ⟨kind, a, b, key, va, vn, vc, la, ln, lc⟩ := x
            have x0 := hcx 0 (.int .i64 kind) rfl
            have x1 := hcx 1 (.int .i64 a) rfl
            have x2 := hcx 2 (.int .i64 b) rfl
            have x3 := hcx 3 (.string key) rfl
            have x4 := hcx 4 (.slice va vn vc) rfl
            have x5 := hcx 5 (.slice la ln lc) rfl
            clear hcx
            have nz : n ≤ 4096 := by have := S5.out.ni; omega
            have A6 : Hid (PX w (w5.alloc (.cells #[.int .i64 kind, .int .i64 a, .int .i64 b, .string key, .slice va vn vc, .slice la ln lc] 38)) q n d L ss ∧ SO w.heap.size (w5.alloc (.cells #[.int .i64 kind, .int .i64 a, .int .i64 b, .string key, .slice va vn vc, .slice la ln lc] 38)) ⟨kind, a, b, key, va, vn, vc, la, ln, lc⟩ (gs t.data.toList)) := ⟨S5.out.px.k0 ((Kept.refl _ _).alloc _), SX.out.1.k0 ((Kept.refl _ _).alloc _)⟩
            have SR : Hid (Src Tryd.prog 6 30 (.slice (some ⟨w5.heap.size, 0, none⟩) 1 1) 1 (scs [⟨kind, a, b, key, va, vn, vc, la, ln, lc⟩]) (w5.alloc (.cells #[.int .i64 kind, .int .i64 a, .int .i64 b, .string key, .slice va vn vc, .slice la ln lc] 38))) := src_st (alloc_new w5 _)
            have LN : Hid (n + 1 ≤ maxLen ∧ ((n + 1) + (n + 1) / 4 + 192) * 88 ≤ 281474976710656) := by unfold maxLen; exact ⟨by omega, by omega⟩
            go_wp2_with
              (first
                | (at_builtin; refine wpList_append_all _ rfl (.tmp 69) (.tmp 73) 30 38 30 _ 6 88 rfl Tryd.underlying30c Tryd.info38c rfl w.heap.size (.slice q n d) n (scs L) rfl A6.out.1.row _ 1 (scs [⟨kind, a, b, key, va, vn, vc, la, ln, lc⟩]) rfl SR.out LN.out.1 LN.out.2 A6.out.1.kept.size ?_; intro p9 c9 w9 ho hg hn9)
                | fail)
            have N9 : Hid (LS5 w w9 (bsL ts) (i + 1) T2 f p9 (n + 1) c9 (L ++ [⟨kind, a, b, key, va, vn, vc, la, ln, lc⟩]) (ss ++ [gs t.data.toList])) := S5.out.text HB.out HN.out HT2.out (A6.out.1.more A6.out.2 ho.out hg.out) (fun s hs => by
              rcases List.mem_append.1 hs with z | z
              · exact S5.out.gm s z
              · rw [List.mem_singleton] at z
                rw [z]
                exact SX.out.2) (by have := S5.out.ni; omega) (S5.out.fs.good HB.out ok)
            clear ho hg hn9 A6 SR LN x0 x1 x2 x3 x4 x5 S5
            go_roundw
            case rel => exact ⟨i + 1, T2, f, p9, n + 1, c9, _, _, rfl, rfl, rfl, by go_num, by omega, by omega, N9⟩
            case measure => simp [intOf] <;> omega
          · have r1 := hr.trans ((par_one _ HN.out).2 ok)
            subst r1
            clear hr P5 S3
            by_cases hf : f < 0
            · have N9 : Hid (LS5 w w5 (bsL ts) (i + 1) T2 (i : Int) q n d L ss) := S5.out.text HB.out HN.out HT2.out S5.out.px S5.out.gm (by have := S5.out.ni; omega) (S5.out.fs.bad HB.out ok hf ss)
              clear S5
              go_wp2_with fail
              go_roundw
              case rel => exact ⟨i + 1, T2, (i : Int), q, n, d, L, ss, rfl, rfl, rfl, by go_num, by omega, by omega, N9⟩
              case measure => simp [intOf] <;> omega
            · have N9 : Hid (LS5 w w5 (bsL ts) (i + 1) T2 f q n d L ss) := S5.out.text HB.out HN.out HT2.out S5.out.px S5.out.gm (by have := S5.out.ni; omega) (S5.out.fs.old hf ss)
              clear S5
              go_wp2_with fail
              go_roundw
              case rel => exact ⟨i + 1, T2, f, q, n, d, L, ss, rfl, rfl, rfl, by go_num, by omega, by omega, N9⟩
              case measure => simp [intOf] <;> omega
    · have tk : Hid (((bsL ts).take i).length ≤ 4096) := by
        show ((bsL ts).take i).length ≤ 4096
        rw [List.length_take]
        omega
      have C2 : Hid (Calls Tryd.prog 14 #[.string T] wo (RetP fun p k c L r w' => r = parL (tex ((bsL ts).take i)) ∧ PX wo w' p k c L r.1)) := by
        have z : T.size ≤ 33554432 := by
          have z1 : T.data.toList.length = T.size := Array.length_toList
          have z2 : (tex ((bsL ts).take i)).length ≤ (tex (bsL ts)).length := by
            conv => rhs; rw [← List.take_append_drop i (bsL ts)]
            unfold tex
            rw [List.flatMap_append, List.length_append]
            omega
          rw [S.out.tx] at z1
          have := H.out.2.1
          omega
        have q := hParse T wo z (H.out.2.2.1.kept S.out.px.kept) (H.out.2.2.2.kept S.out.px.kept)
        rw [S.out.tx] at q
        exact q
      have FIN : Hid (∀ (r : List St × Nat × Int) (p5 : Option Addr) (k5 c5 : Nat) (L5 : List Sm) (w5 : World), r = parL (tex ((bsL ts).take i)) → PX wo w5 p5 k5 c5 L5 r.1 → (0 ≤ f → r.2.2 = 82 ∧ (r.2.1 : Int) = f ∧ k5 = 0) ∧ (f < 0 → r.2.2 = 0 ∧ r.2.1 = 0 ∧ k5 = n ∧ Calls Tryd.prog 15 #[.slice p5 k5 c5, .slice q n d] w5 fun o w' => o = .returned (.bool true) ∧ Kept (fun _ => False) w5 w')) := fun r p5 k5 c5 L5 w5 hr P5 => by
        refine ⟨fun hf => ?_, fun hf => ?_⟩
        · rcases S.out.fs with ⟨e, _⟩ | ⟨m, t, e, lt, ht, no, ok⟩
          · omega
          · have q := par_first ((bsL ts).take i) S.out.no tk.out (i := m) (t := t) (by rw [List.getElem?_take_of_lt lt]; exact ht) no (fun j u hj hu => ok j u hj (by rw [List.getElem?_take_of_lt (by omega)] at hu; exact hu))
            rw [q] at hr
            subst hr
            exact ⟨rfl, e.symm, P5.slen.symm⟩
        · rcases S.out.fs with ⟨e, ok, es⟩ | ⟨m, t, e, _⟩
          · have q := par_all ((bsL ts).take i) S.out.no tk.out (fun t ht => by
              obtain ⟨j, hj⟩ := List.mem_iff_getElem?.1 ht
              have jl := (List.getElem?_eq_some_iff.1 hj).1
              rw [List.length_take] at jl
              exact ok j t (by omega) (by rw [List.getElem?_take_of_lt (by omega)] at hj; exact hj))
            rw [q, ← es] at hr
            subst hr
            have k5n : k5 = n := P5.slen.symm.trans S.out.px.slen
            subst k5n
            refine ⟨rfl, rfl, rfl, ?_⟩
            exact hSames (P5.sls S.out.gm (Nat.le_refl _)) ((S.out.px.k0 P5.kept).sls S.out.gm (Nat.le_refl _))
          · omega
      have KW : Hid (Kept (fun _ => False) w wo) := S.out.px.kept
      have WALK : i < k ∨ ¬ i < k := by omega
      clear S tk
      rcases WALK with hik | hik
      · have i1 : (i : Int) < (k : Int) := by omega
        have i2 : ¬ (i : Int) < 4096 := by omega
        go_wp2_with fail
        refine C2.out.mono ?_
        rintro o w5 ⟨p5, k5, c5, L5, r, rfl, hr, P5⟩
        obtain ⟨F1, F2⟩ := FIN.out r p5 k5 c5 L5 w5 hr P5
        have K5 : Hid (Kept (fun _ => False) w w5) := KW.out.trans P5.kept (fun _ _ z => z)
        clear hr P5 FIN C2
        obtain ⟨r1, r2, r3⟩ := r
        dsimp only at F1 F2 ⊢
        by_cases hf : 0 ≤ f
        · obtain ⟨e1, e2, e3⟩ := F1 hf
          subst e1
          subst e3
          subst e2
          clear F1 F2
          go_wp2_with fail
          go_ret
          exact ⟨by first | rfl | simp, K5.out⟩
        · obtain ⟨e1, e2, e3, CC⟩ := F2 (by omega)
          subst e1
          subst e2
          subst e3
          have CC2 : Hid (Calls Tryd.prog 15 #[.slice p5 k5 c5, .slice q k5 d] w5 fun o w' => o = .returned (.bool true) ∧ Kept (fun _ => False) w5 w') := CC
          have hf2 : f < 0 := by omega
          clear F1 F2 CC
          go_wp2_with fail
          refine CC2.out.mono ?_
          rintro o w6 ⟨rfl, K6⟩
          go_wp2_with fail
          go_ret
          exact ⟨by first | rfl | simp, K5.out.trans K6 (fun _ _ z => z)⟩
      · have i1 : ¬ (i : Int) < (k : Int) := by omega
        go_wp2_with fail
        refine C2.out.mono ?_
        rintro o w5 ⟨p5, k5, c5, L5, r, rfl, hr, P5⟩
        obtain ⟨F1, F2⟩ := FIN.out r p5 k5 c5 L5 w5 hr P5
        have K5 : Hid (Kept (fun _ => False) w w5) := KW.out.trans P5.kept (fun _ _ z => z)
        clear hr P5 FIN C2
        obtain ⟨r1, r2, r3⟩ := r
        dsimp only at F1 F2 ⊢
        by_cases hf : 0 ≤ f
        · obtain ⟨e1, e2, e3⟩ := F1 hf
          subst e1
          subst e3
          subst e2
          clear F1 F2
          go_wp2_with fail
          go_ret
          exact ⟨by first | rfl | simp, K5.out⟩
        · obtain ⟨e1, e2, e3, CC⟩ := F2 (by omega)
          subst e1
          subst e2
          subst e3
          have CC2 : Hid (Calls Tryd.prog 15 #[.slice p5 k5 c5, .slice q k5 d] w5 fun o w' => o = .returned (.bool true) ∧ Kept (fun _ => False) w5 w') := CC
          have hf2 : f < 0 := by omega
          clear F1 F2 CC
          go_wp2_with fail
          refine CC2.out.mono ?_
          rintro o w6 ⟨rfl, K6⟩
          go_wp2_with fail
          go_ret
          exact ⟨by first | rfl | simp, K5.out.trans K6 (fun _ _ z => z)⟩
end Go.Proofs.YtonfefhegghapaaDoor
