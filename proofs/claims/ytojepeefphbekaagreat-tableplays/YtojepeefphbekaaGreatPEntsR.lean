import Derived.Test.YtojepeefphbekaaGreatPFragRJ
import Derived.Test.YtojepeefphbekaaGreatUpdsOJ
import Derived.Test.YtojepeefphbekaaGreatPCopiedJ
import Derived.Deep.CutRange
namespace Go.Proofs.YtojepeefphbekaaGreat
open Go.RowKit 

theorem ecells_set : ∀ (L : List Et) (j : Nat) (_ : j < L.length) (e : Et), ecells (L.set j e) = (((((ecells L).set (j * 5) (.int .i64 e.1.1)).set (j * 5 + 1) (.int .i64 e.1.2)).set (j * 5 + 2) (.bool e.2.1)).set (j * 5 + 3) (.bool e.2.2.1)).set (j * 5 + 4) (.slice e.2.2.2.1 e.2.2.2.2.1 e.2.2.2.2.2)
  | [], j, h, e => by simp at h
  | a :: L, 0, _, e => by
    rw [List.set_cons_zero, ecells_cons, ecells_cons]
    rfl
  | a :: L, j + 1, h, e => by
    rw [List.set_cons_succ, ecells_cons, ecells_set L j (by simpa using h) e, ecells_cons]
    have e' : ∀ i, (j + 1) * 5 + i = j * 5 + i + 5 := fun i => by omega
    have e0 : (j + 1) * 5 = j * 5 + 5 := by omega
    rw [e' 1, e' 2, e' 3, e' 4, e0]
    rfl
abbrev Ep : Type := Et × Ev
/-- One more entry on its way to its place. -/
structure EW (A B : List Ep) (x : Ep) : Prop where
  up : (A ++ B).Pairwise fun a b => ¬ tc b.1.1 a.1.1 < 0
  hi : ∀ b ∈ B, tc x.1.1 b.1.1 < 0
theorem EW.done {A B : List Ep} {x : Ep} (h : EW A B x) (e : ∀ a ∈ A, ¬ tc x.1.1 a.1.1 < 0) : (A ++ x :: B).Pairwise fun a b => ¬ tc b.1.1 a.1.1 < 0 := by
  have f := h.up
  rw [List.pairwise_append] at f
  rw [List.pairwise_append, List.pairwise_cons]
  refine ⟨f.1, ⟨fun b hb => tc_asym _ _ (h.hi b hb), f.2.1⟩, fun a ha b hb => ?_⟩
  rcases List.mem_cons.1 hb with rfl | hb
  · exact e a ha
  · exact f.2.2 a ha b hb
theorem EW.stop {A B : List Ep} {x a : Ep} (h : EW (A ++ [a]) B x) (e : ¬ tc x.1.1 a.1.1 < 0) : (A ++ [a] ++ x :: B).Pairwise fun a b => ¬ tc b.1.1 a.1.1 < 0 := by
  refine h.done (fun b hb => ?_)
  rcases List.mem_append.1 hb with z | z
  · have f := h.up
    rw [List.pairwise_append] at f
    have f2 := f.1
    rw [List.pairwise_append] at f2
    exact tc_le_trans _ _ _ (f2.2.2 b z a (by simp)) e
  · rw [List.mem_singleton.1 z]
    exact e
theorem EW.next {A B : List Ep} {x a : Ep} (h : EW (A ++ [a]) B x) (e : tc x.1.1 a.1.1 < 0) : EW A (a :: B) x := by
  refine ⟨by have := h.up; rw [List.append_assoc] at this; exact this, fun b hb => ?_⟩
  rcases List.mem_cons.1 hb with rfl | hb
  · exact e
  · exact h.hi b hb
/-- A key's entries in the rows' order. -/
def entsK (key : ByteArray) (vs : List Uv) : List Ev := (vs.filter fun v => decide (v.1 = key)).map fun v => v.2
theorem entsK_snoc (key : ByteArray) (vs : List Uv) (v : Uv) : entsK key (vs ++ [v]) = entsK key vs ++ (if v.1 = key then [v.2] else []) := by
  unfold entsK
  rw [List.filter_append, List.map_append]
  congr 1
  by_cases h : v.1 = key <;> simp [h]
theorem entsK_len (key : ByteArray) (vs : List Uv) : (entsK key vs).length ≤ vs.length := by
  unfold entsK
  rw [List.length_map]
  exact List.length_filter_le _ _
/-- The round's state. -/
structure ES (w wr : World) (p : Option Addr) (n c : Nat) (Z : List Ep) (key : ByteArray) (vs : List Uv) : Prop where
  len : Z.length = n
  row : wr.ownsRow w.heap.size 40 5 (.slice p n c) n (ecells (Z.map Prod.fst))
  up : Z.Pairwise fun a b => ¬ tc b.1.1 a.1.1 < 0
  rd : ∀ z ∈ Z, EvRd wr z.1 z.2
  mem : (Z.map Prod.snd).Perm (entsK key vs)
  kept : Kept (fun _ => False) w wr
theorem ES.k0 {w wr w' : World} {p : Option Addr} {n c : Nat} {Z : List Ep} {key : ByteArray} {vs : List Uv} (h : ES w wr p n c Z key vs) (K : Kept (fun _ => False) wr w') : ES w w' p n c Z key vs := ⟨h.len, K.owns h.row (fun _ _ z => z), h.up, fun z hz => (h.rd z hz).off K (fun _ _ _ _ z => z), h.mem, h.kept.and0 K⟩
theorem ES.few {w wr : World} {p : Option Addr} {n c : Nat} {Z : List Ep} {key : ByteArray} {vs : List Uv} (h : ES w wr p n c Z key vs) : n ≤ vs.length := by
  have := h.mem.length_eq
  rw [List.length_map, h.len] at this
  rw [this]
  exact entsK_len _ _
theorem ES.ents {w wr : World} {p : Option Addr} {n c : Nat} {Z : List Ep} {key : ByteArray} {vs : List Uv} (h : ES w wr p n c Z key vs) (one : OneV vs) : EntRd wr p n c (Z.map Prod.snd) ∧ REnts vs key (Z.map Prod.snd) := by
  have nd : ((entsK key vs).map fun v => v.1).Nodup := by
    unfold entsK List.Nodup
    rw [List.pairwise_map, List.pairwise_map]
    have p1 : (vs.filter fun v => decide (v.1 = key)).Pairwise fun v v' => ¬ (v.1 = v'.1 ∧ v.2.1 = v'.2.1) := List.Pairwise.filter _ one
    refine List.Pairwise.imp_of_mem (fun {a b} ha hb hab z => ?_) p1
    have ha := (List.mem_filter.1 ha).2
    have hb := (List.mem_filter.1 hb).2
    simp at ha hb
    exact hab ⟨by rw [ha, hb], z⟩
  have nd2 : ((Z.map Prod.snd).map fun v => v.1).Nodup := (h.mem.map _).nodup_iff.2 nd
  refine ⟨⟨by rw [List.length_map]; exact h.len, Z.map Prod.fst, owns_mono h.row (Nat.zero_le _), by rw [List.length_map, List.length_map], fun i h1 h2 => ?_⟩, ⟨?_, fun v => ?_⟩⟩
  · rw [List.getElem_map, List.getElem_map]
    exact h.rd _ (List.getElem_mem _)
  · rw [List.pairwise_map]
    unfold List.Nodup at nd2
    rw [List.map_map, List.pairwise_map] at nd2
    refine List.Pairwise.imp_of_mem (fun {a b} ha hb hab => ?_) (h.up.and nd2)
    have e1 := (h.rd a ha).tag
    have e2 := (h.rd b hb).tag
    have q := hab.1
    rw [e1, e2] at q
    exact tc_total _ _ q (fun z => hab.2 z.symm)
  · rw [h.mem.mem_iff]
    unfold entsK
    rw [List.mem_map]
    constructor
    · rintro ⟨u, hu, rfl⟩
      obtain ⟨h1, h2⟩ := List.mem_filter.1 hu
      simp at h2
      rw [← h2]
      exact h1
    · intro z
      exact ⟨(key, v), List.mem_filter.2 ⟨z, by simp⟩, rfl⟩
set_option maxRecDepth 100000 in
set_option maxHeartbeats 16000000 in
/-- Entries of the document's table. -/
theorem rEnts (b0 tb : Nat) (delta : Int) (p : Option Addr) (n c : Nat) (L : List Ut) (vs : List Uv) (key : ByteArray) (w : World) (h : RTab b0 w tb delta p n c L vs) (hn : n ≤ 1099511627776) (hd : ∀ v ∈ vs, v.2.2.2.2.length ≤ 140737488355328) : Calls Tryz.prog 52 #[.pointer (some ⟨tb, 0, none⟩), .string key] w fun o w' => ∃ q m e, o = .returned (.slice q m e) ∧ ∃ Z, Hid (ES w w' q m e Z key vs) := by
  have H : Hid (RTab b0 w tb delta p n c L vs ∧ ∀ v ∈ vs, v.2.2.2.2.length ≤ 140737488355328) := ⟨h, hd⟩
  have rm := own_room h.row
  unfold maxLen at rm
  obtain ⟨rm1, rm2⟩ := rm
  have c1 := cell_blk h.blk 1 (v := .slice p n c) rfl
  have S0 : Hid (∃ Z, ES w w none 0 0 Z key (vs.take 0)) := ⟨[], rfl, ⟨rfl, .inl ⟨rfl, rfl⟩⟩, List.Pairwise.nil, fun z hz => (by cases hz), List.Perm.refl _, Kept.refl _ _⟩
  clear h hd
  go_enter Tryz.func52, Tryz.ntmps52
  go_wp2_with fail
  go_loopw [5, 7, 8, 9, 18] (fun l _ _ _ z wr => ∃ (i m e : Nat) (q : Option Addr), l = .slice q m e ∧ z = .int .i64 (i : Int) ∧ i ≤ n ∧ Hid (∃ Z, ES w wr q m e Z key (vs.take i))) (fun _ _ _ _ z _ => n - (intOf z).toNat)
  case atStart => exact ⟨0, 0, 0, none, rfl, rfl, Nat.zero_le _, S0⟩
  case round =>
    obtain ⟨i, m, e, q, rfl, rfl, hi, S⟩ := hrel
    obtain ⟨wq, hwq⟩ : ∃ wq, wq = wr := ⟨_, rfl⟩
    rw [← hwq] at S ⊢
    clear hwq S0 c1
    by_cases hlt : i < n
    · have i1 : (i : Int) < (n : Int) := by omega
      obtain ⟨Z, fs⟩ := S.out
      have R := H.out.1.k0 fs.kept
      obtain ⟨b, k, u, v, f, g, a, ml, ql, rfl, hv, e0, e1, e2, e3, e4, e5⟩ := own_rw R.row R.len hlt
      obtain ⟨hi2, uv⟩ := along_at R.rd hv
      have mf : m ≤ i := by have := fs.few; rw [List.length_take] at this; omega
      obtain ⟨lv, hlv⟩ : ∃ lv, lv = vs[i].2.2.2.2 := ⟨_, rfl⟩
      have ev : vs[i] = (k, (u, v), f, g, lv) := by
        have q1 : vs[i].1 = k := uv.key.symm
        have q2 : vs[i].2.1 = (u, v) := uv.ent.tag.symm
        have q3 : vs[i].2.2.1 = f := uv.ent.fin.symm
        have q4 : vs[i].2.2.2.1 = g := uv.ent.has.symm
        rw [← q1, ← q2, ← q3, ← q4, hlv]
      rw [ev] at uv
      have NX : Hid (entsK key (vs.take (i + 1)) = entsK key (vs.take i) ++ (if k = key then [((u, v), f, g, lv)] else [])) := by
        rw [List.take_add_one, List.getElem?_eq_getElem hi2, ev]
        exact entsK_snoc _ _ _
      have ml47 : Hid (ml ≤ 140737488355328) := by
        have := H.out.2 _ (List.getElem_mem hi2)
        rw [ev] at this
        have e9 := uv.ent.data.length
        have this : lv.length ≤ 140737488355328 := this
        have e9 : lv.length = ml := e9
        show ml ≤ _
        omega
      obtain ⟨W1, hW1⟩ : ∃ W1, W1 = wq.alloc (.cells #[.string k, .int .i64 u, .int .i64 v, .bool f, .bool g, .slice a ml ql] 109) := ⟨_, rfl⟩
      obtain ⟨X1, hX1⟩ : ∃ X1, X1 = wq.heap.size := ⟨_, rfl⟩
      have J : Hid (W1.heap[X1]? = some (.cells #[.string k, .int .i64 u, .int .i64 v, .bool f, .bool g, .slice a ml ql] 109 (0, 0)) ∧ ES w W1 q m e Z key (vs.take i) ∧ Reads W1 a ml ql lv) := by
        have K1 : Kept (fun _ => False) wq W1 := by rw [hW1]; exact k0_alloc _ _
        exact ⟨by rw [hW1, hX1]; exact heap_alloc_new _ _, fs.k0 K1, uv.ent.data.kept K1 (fun _ _ z => z)⟩
      have EW1 : Hid (W1 = wq.alloc (.cells #[.string k, .int .i64 u, .int .i64 v, .bool f, .bool g, .slice a ml ql] 109) ∧ X1 = wq.heap.size) := ⟨hW1, hX1⟩
      clear hW1 hX1 R hv hi2 uv fs S ev hlv
      go_upto_region 7 with fail
      rw [← EW1.out.1, ← EW1.out.2]
      clear e0 e1 e2 e3 e4 e5
      have g0 := cell_blk J.out.1 0 (v := .string k) rfl
      have g1 := cell_blk J.out.1 1 (v := .int .i64 u) rfl
      have g2 := cell_blk J.out.1 2 (v := .int .i64 v) rfl
      have g3 := cell_blk J.out.1 3 (v := .bool f) rfl
      have g4 := cell_blk J.out.1 4 (v := .bool g) rfl
      have g5 := cell_blk J.out.1 5 (v := .slice a ml ql) rfl
      by_cases hk : k = key
      · subst hk
        have NY : Hid (entsK k (vs.take (i + 1)) = entsK k (vs.take i) ++ [((u, v), f, g, lv)]) := by
          have q := NX.out
          rw [if_pos rfl] at q
          exact q
        go_wp2_with fail
        refine (rCopied u v f g a ml ql lv W1 J.out.2.2 ml47.out).mono ?_
        rintro o w4 ⟨pd, cd, rfl, Q4⟩
        have J4 : Hid (ES w w4 q m e Z k (vs.take i) ∧ EvRd w4 ((u, v), f, g, pd, ml, cd) ((u, v), f, g, lv)) := by
          obtain ⟨q1, q2, q3⟩ := Q4.out
          exact ⟨J.out.2.1.k0 q3, rfl, rfl, rfl, q1, fun k hk => by obtain ⟨_, cs, hc⟩ := q2 k hk; exact ⟨cs, _, hc⟩⟩
        have BL : Hid (m + 1 ≤ maxLen ∧ ((m + 1) + (m + 1) / 4 + 192) * 48 ≤ 281474976710656) := by
          unfold maxLen
          exact ⟨by omega, by omega⟩
        clear Q4 g0 g1 g2 g3 g4 g5
        go_upto_region 9 with
          (first
            | (at_builtin; refine wpList_append_all _ rfl (.tmp 26) (.tmp 30) 33 40 33 _ 5 48 rfl Tryz.underlying33 Tryz.info40c rfl w.heap.size (.slice q m e) m (ecells (Z.map Prod.fst)) rfl ((k0_alloc w4 _).owns J4.out.1.row (fun _ _ z => z)) _ 1 (encE ((u, v), f, g, pd, ml, cd)) rfl (src_ent (heap_alloc_new w4 _)) BL.out.1 BL.out.2 (Nat.le_trans J4.out.1.kept.size (k0_alloc w4 _).size) ?_; intro p9 c9 w9 ho hg hn')
            | fail)
        obtain ⟨N, hN⟩ : ∃ N, N = m + 1 := ⟨_, rfl⟩
        obtain ⟨x, hx⟩ : ∃ x : Ep, x = (((u, v), f, g, pd, ml, cd), ((u, v), f, g, lv)) := ⟨_, rfl⟩
        have G' : Hid (∃ A B, EW A B x ∧ A ++ B = Z ∧ A.length = m ∧ w9.ownsRow w.heap.size 40 5 (.slice p9 N c9) N (ecells ((A ++ x :: B).map Prod.fst)) ∧ (∀ z ∈ Z, EvRd w9 z.1 z.2) ∧ EvRd w9 x.1 x.2 ∧ Kept (fun _ => False) w w9) := by
          have KG : Kept (fun k => blockOf q = some k) w4 w9 := ((Kept.refl (fun k => blockOf q = some k) w4).alloc _).grown hg.out (fun k _ z => by rw [blockOf_own] at z; exact z)
          have n5 : ∀ k cs fr, w4.heap[k]? = some (.cells cs 5 fr) → ¬ blockOf q = some k := fun k cs fr hc z => by
            obtain ⟨c2, h2⟩ := own_type J4.out.1.row k z
            rw [h2] at hc
            simp at hc
          rw [hN]
          refine ⟨Z, [], ⟨by rw [List.append_nil]; exact J4.out.1.up, fun b hb => (by cases hb)⟩, List.append_nil Z, J4.out.1.len, ?_, fun z hz => (J4.out.1.rd z hz).off KG n5, by rw [hx]; exact J4.out.2.off KG n5, J4.out.1.kept.trans KG (fun j hj z => ?_)⟩
          · rw [List.map_append, ecells_append, hx]
            exact ho.out
          · have := (own_lt J4.out.1.row j z).1
            omega
        rw [← hN]
        have HN : Hid (N = m + 1) := hN
        have HX : Hid (x = (((u, v), f, g, pd, ml, cd), ((u, v), f, g, lv))) := hx
        have wN : IntKind.i64.wrap ((N : Int) - 1) = (m : Int) := by rw [IntKind.wrap_i64]; omega
        clear ho hg hn' hN hx
        go_wp2_with fail
        go_loopw [8, 9] (fun z _ wr => ∃ (j : Nat), z = .int .i64 (j : Int) ∧ j ≤ m ∧ Hid (∃ A B, EW A B x ∧ A ++ B = Z ∧ A.length = j ∧ wr.ownsRow w.heap.size 40 5 (.slice p9 N c9) N (ecells ((A ++ x :: B).map Prod.fst)) ∧ (∀ z ∈ Z, EvRd wr z.1 z.2) ∧ EvRd wr x.1 x.2 ∧ Kept (fun _ => False) w wr)) (fun z _ _ => (intOf z).toNat)
        case atStart => exact ⟨m, rfl, Nat.le_refl _, G'⟩
        case round =>
          obtain ⟨j, rfl, hj, S⟩ := hrel
          obtain ⟨wy, hwy⟩ : ∃ wy, wy = wr := ⟨_, rfl⟩
          rw [← hwy] at S ⊢
          clear G' hwy
          have FIN : Hid (∀ A B w3, A ++ B = Z → ((A ++ x :: B).Pairwise fun a b => ¬ tc b.1.1 a.1.1 < 0) → w3.ownsRow w.heap.size 40 5 (.slice p9 N c9) N (ecells ((A ++ x :: B).map Prod.fst)) → (∀ z ∈ Z, EvRd w3 z.1 z.2) → EvRd w3 x.1 x.2 → Kept (fun _ => False) w w3 → ∃ Z, ES w w3 p9 N c9 Z k (vs.take (i + 1))) := by
            intro A B w3 ab srt ow rd rx kp
            have pm : (A ++ x :: B).Perm (x :: Z) := by rw [← ab]; exact List.perm_middle
            refine ⟨A ++ x :: B, ?_, ow, srt, fun z hz => ?_, ?_, kp⟩
            · have := congrArg List.length ab
              rw [List.length_append, J4.out.1.len] at this
              rw [List.length_append, List.length_cons, HN.out]
              omega
            · rcases List.mem_cons.1 (pm.mem_iff.1 hz) with q | q
              · rw [q]; exact rx
              · exact rd z q
            · rw [NY.out]
              refine (pm.map Prod.snd).trans ?_
              have e9 : x.2 = ((u, v), f, g, lv) := by rw [HX.out]
              rw [List.map_cons, e9]
              exact (List.perm_append_comm (l₁ := [((u, v), f, g, lv)])).trans (J4.out.1.mem.append_right _)
          by_cases hj0 : j = 0
          · subst hj0
            go_upto_region 10 with fail
            go_quiet (fail)
            have S3 : Hid (∃ Z, ES w (wy.drewN nq) p9 N c9 Z k (vs.take (i + 1))) := by
              obtain ⟨A, B, fw, ab, al, ow, rd, rx, kp⟩ := S.out
              have al : A = [] := List.eq_nil_of_length_eq_zero al
              subst al
              have K : Kept (fun _ => False) wy (wy.drewN nq) := k0_of (below_dN (Below.refl _ _) nq)
              exact FIN.out [] B _ ab (fw.done (fun a ha => (by cases ha))) (K.owns ow (fun _ _ z => z)) (fun z hz => (rd z hz).off K (fun _ _ _ _ z => z)) (rx.off K (fun _ _ _ _ z => z)) (kp.and0 K)
            go_wp2_with fail
            go_roundw
            case rel => exact ⟨i + 1, N, c9, p9, rfl, by go_num, by omega, S3⟩
            case measure => simp [intOf] <;> omega
          · obtain ⟨j', hj'⟩ : ∃ j', j = j' + 1 := ⟨j - 1, by omega⟩
            have HJ : Hid (j = j' + 1) := hj'
            have k1 : (0 : Int) < (j : Int) := by omega
            have jn : 0 < j := by omega
            have jd : decide (0 < j) = true := decide_eq_true jn
            have k2 : (j : Int) < (N : Int) := by have := HN.out; omega
            have k3 : (0 : Int) ≤ (j : Int) := by omega
            have k4 : (0 : Int) ≤ (j' : Int) := by omega
            have k5 : (j' : Int) < (N : Int) := by have := HN.out; omega
            have wj : IntKind.i64.wrap ((j : Int) - 1) = (j' : Int) := by rw [IntKind.wrap_i64]; omega
            obtain ⟨A, B, fw, ab, al, ow, rd, rx, kp⟩ := S.out
            obtain ⟨A', ax, rfl⟩ : ∃ A' z, A = A' ++ [z] := by
              rcases List.eq_nil_or_concat A with rfl | ⟨A', z, e⟩
              · exact absurd al.symm hj0
              · exact ⟨A', z, by rw [e, List.concat_eq_append]⟩
            have al2 : A'.length = j' := by rw [List.length_append, HJ.out] at al; simpa using al
            have F1 : ((A' ++ [ax] ++ x :: B).map Prod.fst).length = N := by
              have := congrArg List.length ab
              rw [List.length_append, J4.out.1.len] at this
              rw [List.length_map, List.length_append, List.length_cons, HN.out]
              omega
            obtain ⟨gb, yu, yv, yf, yg, ya, yn, yc, eg0, z0, d0, d1, d2, d3, d4⟩ := own_ent ow F1 (i := j') (by omega)
            obtain ⟨gb', xu, xv, xf, xg, xa, xn, xc, eg, z1, x0, x1, x2, x3, x4⟩ := own_ent ow F1 (i := j) (by omega)
            have eg2 : gb = gb' := by rw [eg0] at eg; exact congrArg Addr.block (Option.some.inj eg)
            subst eg2
            have v0 : ax.1 = ((yu, yv), yf, yg, ya, yn, yc) := by
              rw [List.getElem?_map, List.append_assoc, List.getElem?_append_right (by omega), al2, Nat.sub_self] at z0
              simpa using z0
            have v1 : x.1 = ((xu, xv), xf, xg, xa, xn, xc) := by
              rw [List.getElem?_map, List.getElem?_append_right (by omega), al, Nat.sub_self] at z1
              simpa using z1
            have Y : Hid (EW (A' ++ [ax]) B x ∧ A' ++ [ax] ++ B = Z ∧ A'.length = j' ∧ wy.ownsRow w.heap.size 40 5 (.slice p9 N c9) N (ecells ((A' ++ [ax] ++ x :: B).map Prod.fst)) ∧ Kept (fun _ => False) w wy ∧ (A' ++ [ax] ++ x :: B).length = N ∧ j = j' + 1 ∧ ax.1 = ((yu, yv), yf, yg, ya, yn, yc) ∧ x.1 = ((xu, xv), xf, xg, xa, xn, xc) ∧ (∀ z ∈ Z, EvRd wy z.1 z.2) ∧ EvRd wy x.1 x.2) := ⟨fw, ab, al2, ow, kp, by rw [List.length_map] at F1; exact F1, hj', v0, v1, rd, rx⟩
            clear fw ab al al2 ow kp F1 eg v0 v1 S hj' z0 z1 rd rx
            subst eg0
            have rr := own_room Y.out.2.2.2.1
            unfold maxLen at rr
            obtain ⟨rr1, rr2⟩ := rr
            obtain ⟨bb, hbb⟩ : ∃ bb, bb = decide (tc (xu, xv) (yu, yv) < 0) := ⟨_, rfl⟩
            have RB : Hid (∀ V : World, Calls Tryz.prog 77 #[.agg #[.int .i64 xu, .int .i64 xv], .agg #[.int .i64 yu, .int .i64 yv]] V fun o w' => o = .returned (.bool bb) ∧ Kept (fun _ => False) V w') := by rw [hbb]; exact fun V => rBelow xu xv yu yv V
            have HB : Hid (bb = decide (tc x.1.1 ax.1.1 < 0)) := by rw [Y.out.2.2.2.2.2.2.2.1, Y.out.2.2.2.2.2.2.2.2.1]; exact hbb
            clear hbb
            go_upto_region 10 with fail
            have D0 : Hid (∀ V, Kept (fun _ => False) wy V → V.cell? ⟨gb, j' * 5, none⟩ = some (.int .i64 yu) ∧ V.cell? ⟨gb, j' * 5 + 1, none⟩ = some (.int .i64 yv) ∧ V.cell? ⟨gb, j' * 5 + 2, none⟩ = some (.bool yf) ∧ V.cell? ⟨gb, j' * 5 + 3, none⟩ = some (.bool yg) ∧ V.cell? ⟨gb, j' * 5 + 4, none⟩ = some (.slice ya yn yc) ∧ V.cell? ⟨gb, j * 5, none⟩ = some (.int .i64 xu) ∧ V.cell? ⟨gb, j * 5 + 1, none⟩ = some (.int .i64 xv) ∧ V.cell? ⟨gb, j * 5 + 2, none⟩ = some (.bool xf) ∧ V.cell? ⟨gb, j * 5 + 3, none⟩ = some (.bool xg) ∧ V.cell? ⟨gb, j * 5 + 4, none⟩ = some (.slice xa xn xc)) := fun V K => ⟨K.cell d0 (fun z => z), K.cell d1 (fun z => z), K.cell d2 (fun z => z), K.cell d3 (fun z => z), K.cell d4 (fun z => z), K.cell x0 (fun z => z), K.cell x1 (fun z => z), K.cell x2 (fun z => z), K.cell x3 (fun z => z), K.cell x4 (fun z => z)⟩
            clear d2 d3 d4 x2 x3 x4
            go_cut [50] (fun zz wc => zz = .bool bb ∧ Hid (Kept (fun _ => False) wy wc))
            case first =>
              go_region_held3 (fun V => V.cell? ⟨gb, j' * 5, none⟩ = some (.int .i64 yu) ∧ V.cell? ⟨gb, j' * 5 + 1, none⟩ = some (.int .i64 yv) ∧ V.cell? ⟨gb, j * 5, none⟩ = some (.int .i64 xu) ∧ V.cell? ⟨gb, j * 5 + 1, none⟩ = some (.int .i64 xv)) (first | go_keep)
                (first
                  | (go_at_call 77; refine (RB.out wy.drew).mono ?_; rintro o w2 ⟨rfl, K2⟩
                     have K3 : Hid (Kept (fun _ => False) wy w2) := ((Kept.refl _ _).drew).and0 K2
                     have d0 := K3.out.cell d0 (fun z => z)
                     have d1 := K3.out.cell d1 (fun z => z)
                     have x0 := K3.out.cell x0 (fun z => z)
                     have x1 := K3.out.cell x1 (fun z => z)
                     clear K2)
                  | fail)
              all_goals go_wp2_with fail
              all_goals go_meet
              all_goals refine ⟨rfl, ?_⟩
              all_goals first | exact K3.out | exact K3.out.drew | exact K3.out.drew.drew | exact K3.out.drewN _
            case rest =>
              obtain ⟨rfl, K3⟩ := hcut
              obtain ⟨w2, rfl⟩ : ∃ w2 : World, w2 = wc := ⟨_, rfl⟩
              clear d0 d1 x0 x1
              cases bb
              · have S3 : Hid (∃ Z, ES w w2 (some ⟨gb, 0, none⟩) N c9 Z k (vs.take (i + 1))) := by
                  have K := K3.out
                  exact FIN.out _ B _ Y.out.2.1 (Y.out.1.stop (of_decide_eq_false HB.out.symm)) (K.owns Y.out.2.2.2.1 (fun _ _ z => z)) (fun z hz => (Y.out.2.2.2.2.2.2.2.2.2.1 z hz).off K (fun _ _ _ _ z => z)) (Y.out.2.2.2.2.2.2.2.2.2.2.off K (fun _ _ _ _ z => z)) (Y.out.2.2.2.2.1.and0 K)
                go_wp2_with fail
                go_roundw
                case rel => exact ⟨i + 1, N, c9, _, rfl, by go_num, by omega, S3⟩
                case measure => simp [intOf] <;> omega
              · obtain ⟨d0, d1, d2, d3, d4, x0, x1, x2, x3, x4⟩ := D0.out w2 K3.out
                obtain ⟨W3, hW3⟩ : ∃ W3, W3 = w2.alloc (.cells #[.int .i64 xu, .int .i64 xv, .bool xf, .bool xg, .slice xa xn xc] 40) := ⟨_, rfl⟩
                obtain ⟨X3, hX3⟩ : ∃ X3, X3 = w2.heap.size := ⟨_, rfl⟩
                have Q3 : Hid (W3.heap[X3]? = some (.cells #[.int .i64 xu, .int .i64 xv, .bool xf, .bool xg, .slice xa xn xc] 40 (0, 0)) ∧ W3.ownsRow w.heap.size 40 5 (.slice (some ⟨gb, 0, none⟩) N c9) N (ecells ((A' ++ [ax] ++ x :: B).map Prod.fst)) ∧ Kept (fun _ => False) w W3 ∧ gb ≠ X3 ∧ w.heap.size ≤ gb ∧ Kept (fun _ => False) wy W3) := by
                  have K4 : Kept (fun _ => False) w2 W3 := by rw [hW3]; exact k0_alloc _ _
                  have ow2 := K3.out.owns Y.out.2.2.2.1 (fun _ _ z => z)
                  have gl := own_lt ow2 gb rfl
                  exact ⟨by rw [hW3, hX3]; exact heap_alloc_new _ _, K4.owns ow2 (fun _ _ z => z), (Y.out.2.2.2.2.1.and0 K3.out).and0 K4, by omega, gl.1, K3.out.and0 K4⟩
                have EW3 : Hid (W3 = w2.alloc (.cells #[.int .i64 xu, .int .i64 xv, .bool xf, .bool xg, .slice xa xn xc] 40) ∧ X3 = w2.heap.size) := ⟨hW3, hX3⟩
                clear hW3 hX3
                go_upto_region 13 with fail
                rw [← EW3.out.1, ← EW3.out.2]
                clear d0 d1 d2 d3 d4 x0 x1 x2 x3 x4
                obtain ⟨d0, d1, d2, d3, d4, x0, x1, x2, x3, x4⟩ := D0.out W3 Q3.out.2.2.2.2.2
                have f0 := Q3.out.2.1.frozenAt (j * 5)
                have f1 := Q3.out.2.1.frozenAt (j * 5 + 1)
                have f2 := Q3.out.2.1.frozenAt (j * 5 + 2)
                have f3 := Q3.out.2.1.frozenAt (j * 5 + 3)
                have f4 := Q3.out.2.1.frozenAt (j * 5 + 4)
                go_upto_region 14 with fail
                obtain ⟨W4, hW4⟩ : ∃ W4, W4 = (((((W3.setCell ⟨gb, j * 5, none⟩ (.int .i64 yu)).setCell ⟨gb, j * 5 + 1, none⟩ (.int .i64 yv)).setCell ⟨gb, j * 5 + 2, none⟩ (.bool yf)).setCell ⟨gb, j * 5 + 3, none⟩ (.bool yg)).setCell ⟨gb, j * 5 + 4, none⟩ (.slice ya yn yc)) := ⟨_, rfl⟩
                have jl : j < ((A' ++ [ax] ++ x :: B).map Prod.fst).length := by rw [List.length_map]; have := Y.out.2.2.2.2.2.1; have := HN.out; omega
                have Q4 : Hid (W4.heap[X3]? = some (.cells #[.int .i64 xu, .int .i64 xv, .bool xf, .bool xg, .slice xa xn xc] 40 (0, 0)) ∧ W4.ownsRow w.heap.size 40 5 (.slice (some ⟨gb, 0, none⟩) N c9) N (ecells (((A' ++ [ax] ++ x :: B).map Prod.fst).set j ((yu, yv), yf, yg, ya, yn, yc))) ∧ Kept (fun _ => False) w W4 ∧ Kept (fun k => k = gb) W3 W4) := by
                  have K4 : Kept (fun k => k = gb) W3 W4 := by rw [hW4]; exact ((((((Kept.refl (fun k => k = gb) W3).setCell (p := ⟨gb, j * 5, none⟩) (fun _ => rfl) _).setCell (p := ⟨gb, j * 5 + 1, none⟩) (fun _ => rfl) _).setCell (p := ⟨gb, j * 5 + 2, none⟩) (fun _ => rfl) _).setCell (p := ⟨gb, j * 5 + 3, none⟩) (fun _ => rfl) _).setCell (p := ⟨gb, j * 5 + 4, none⟩) (fun _ => rfl) _)
                  refine ⟨K4.get Q3.out.1 (fun z => Q3.out.2.2.2.1 z.symm), ?_, Q3.out.2.2.1.trans K4 (fun x hx z => by have z : x = gb := z; have := Q3.out.2.2.2.2.1; omega), K4⟩
                  rw [ecells_set _ j jl, hW4]
                  exact (((((Q3.out.2.1.stored _ _).1.stored _ _).1.stored _ _).1.stored _ _).1.stored _ _).1
                rw [← hW4]
                clear hW4 d0 d1 d2 d3 d4 x0 x1 x2 x3 x4 f0 f1 f2 f3 f4
                have l4 : (((A' ++ [ax] ++ x :: B).map Prod.fst).set j ((yu, yv), yf, yg, ya, yn, yc)).length = N := by rw [List.length_set, List.length_map]; exact Y.out.2.2.2.2.2.1
                obtain ⟨gb', ru, rv, rf, rg, ra, rn, rc, eg, _, d0, d1, d2, d3, d4⟩ := own_ent Q4.out.2.1 l4 (i := j') (by have := HN.out; omega)
                have eg2 : gb = gb' := congrArg Addr.block (Option.some.inj eg)
                subst eg2
                clear eg
                have f0 := Q4.out.2.1.frozenAt (j' * 5)
                have f1 := Q4.out.2.1.frozenAt (j' * 5 + 1)
                have f2 := Q4.out.2.1.frozenAt (j' * 5 + 2)
                have f3 := Q4.out.2.1.frozenAt (j' * 5 + 3)
                have f4 := Q4.out.2.1.frozenAt (j' * 5 + 4)
                have x0 := cell_blk Q4.out.1 0 (v := .int .i64 xu) rfl
                have x1 := cell_blk Q4.out.1 1 (v := .int .i64 xv) rfl
                have x2 := cell_blk Q4.out.1 2 (v := .bool xf) rfl
                have x3 := cell_blk Q4.out.1 3 (v := .bool xg) rfl
                have x4 := cell_blk Q4.out.1 4 (v := .slice xa xn xc) rfl
                have Q5 : Hid (∃ A2 B2, EW A2 B2 x ∧ A2 ++ B2 = Z ∧ A2.length = j' ∧ (((((W4.setCell ⟨gb, j' * 5, none⟩ (.int .i64 xu)).setCell ⟨gb, j' * 5 + 1, none⟩ (.int .i64 xv)).setCell ⟨gb, j' * 5 + 2, none⟩ (.bool xf)).setCell ⟨gb, j' * 5 + 3, none⟩ (.bool xg)).setCell ⟨gb, j' * 5 + 4, none⟩ (.slice xa xn xc)).ownsRow w.heap.size 40 5 (.slice (some ⟨gb, 0, none⟩) N c9) N (ecells ((A2 ++ x :: B2).map Prod.fst)) ∧ (∀ z ∈ Z, EvRd (((((W4.setCell ⟨gb, j' * 5, none⟩ (.int .i64 xu)).setCell ⟨gb, j' * 5 + 1, none⟩ (.int .i64 xv)).setCell ⟨gb, j' * 5 + 2, none⟩ (.bool xf)).setCell ⟨gb, j' * 5 + 3, none⟩ (.bool xg)).setCell ⟨gb, j' * 5 + 4, none⟩ (.slice xa xn xc)) z.1 z.2) ∧ EvRd (((((W4.setCell ⟨gb, j' * 5, none⟩ (.int .i64 xu)).setCell ⟨gb, j' * 5 + 1, none⟩ (.int .i64 xv)).setCell ⟨gb, j' * 5 + 2, none⟩ (.bool xf)).setCell ⟨gb, j' * 5 + 3, none⟩ (.bool xg)).setCell ⟨gb, j' * 5 + 4, none⟩ (.slice xa xn xc)) x.1 x.2 ∧ Kept (fun _ => False) w (((((W4.setCell ⟨gb, j' * 5, none⟩ (.int .i64 xu)).setCell ⟨gb, j' * 5 + 1, none⟩ (.int .i64 xv)).setCell ⟨gb, j' * 5 + 2, none⟩ (.bool xf)).setCell ⟨gb, j' * 5 + 3, none⟩ (.bool xg)).setCell ⟨gb, j' * 5 + 4, none⟩ (.slice xa xn xc))) := by
                  have K5 : Kept (fun k => k = gb) W4 (((((W4.setCell ⟨gb, j' * 5, none⟩ (.int .i64 xu)).setCell ⟨gb, j' * 5 + 1, none⟩ (.int .i64 xv)).setCell ⟨gb, j' * 5 + 2, none⟩ (.bool xf)).setCell ⟨gb, j' * 5 + 3, none⟩ (.bool xg)).setCell ⟨gb, j' * 5 + 4, none⟩ (.slice xa xn xc)) := ((((((Kept.refl (fun k => k = gb) W4).setCell (p := ⟨gb, j' * 5, none⟩) (fun _ => rfl) _).setCell (p := ⟨gb, j' * 5 + 1, none⟩) (fun _ => rfl) _).setCell (p := ⟨gb, j' * 5 + 2, none⟩) (fun _ => rfl) _).setCell (p := ⟨gb, j' * 5 + 3, none⟩) (fun _ => rfl) _).setCell (p := ⟨gb, j' * 5 + 4, none⟩) (fun _ => rfl) _)
                  have el : (A' ++ x :: ax :: B).map Prod.fst = (((A' ++ [ax] ++ x :: B).map Prod.fst).set j ((yu, yv), yf, yg, ya, yn, yc)).set j' ((xu, xv), xf, xg, xa, xn, xc) := by
                    have a1 := Y.out.2.2.1
                    have a2 := HJ.out
                    rw [← Y.out.2.2.2.2.2.2.2.1, ← Y.out.2.2.2.2.2.2.2.2.1, List.append_assoc, List.map_append, List.map_append, List.set_append_right _ _ (by rw [List.length_map]; omega), List.set_append_right _ _ (by rw [List.length_map]; omega)]
                    have b1 : j - (A'.map Prod.fst).length = 1 := by rw [List.length_map]; omega
                    have b2 : j' - (A'.map Prod.fst).length = 0 := by rw [List.length_map]; omega
                    rw [b1, b2]
                    rfl
                  have KA : Kept (fun k => k = gb) wy (((((W4.setCell ⟨gb, j' * 5, none⟩ (.int .i64 xu)).setCell ⟨gb, j' * 5 + 1, none⟩ (.int .i64 xv)).setCell ⟨gb, j' * 5 + 2, none⟩ (.bool xf)).setCell ⟨gb, j' * 5 + 3, none⟩ (.bool xg)).setCell ⟨gb, j' * 5 + 4, none⟩ (.slice xa xn xc)) := (Q3.out.2.2.2.2.2.mono (fun _ _ z => z.elim)).trans (Q4.out.2.2.2.trans K5 (fun _ _ z => z)) (fun _ _ z => z)
                  have n5 : ∀ k cs fr, wy.heap[k]? = some (.cells cs 5 fr) → ¬ k = gb := fun k cs fr hc z => by
                    obtain ⟨c2, h2⟩ := own_type Y.out.2.2.2.1 gb rfl
                    rw [z, h2] at hc
                    simp at hc
                  refine ⟨A', ax :: B, Y.out.1.next (of_decide_eq_true HB.out.symm), ?_, Y.out.2.2.1, ?_, fun z hz => (Y.out.2.2.2.2.2.2.2.2.2.1 z hz).off KA n5, Y.out.2.2.2.2.2.2.2.2.2.2.off KA n5, Q4.out.2.2.1.trans K5 (fun x hx z => by have z : x = gb := z; have := Q3.out.2.2.2.2.1; omega)⟩
                  · have := Y.out.2.1
                    rw [List.append_assoc] at this
                    exact this
                  · rw [el, ecells_set _ j' (by rw [l4]; have := HN.out; omega)]
                    exact (((((Q4.out.2.1.stored _ _).1.stored _ _).1.stored _ _).1.stored _ _).1.stored _ _).1
                clear jl l4
                go_wp2_with fail
                go_roundw
                case rel => exact ⟨j', rfl, by have := HJ.out; omega, Q5⟩
                case measure => have := HJ.out; simp [intOf] <;> omega
      · have hk' := ba_ne hk
        have hkb : (k.toList == key.toList) = false := beq_false_of_ne hk'
        have S2 : Hid (∃ Z, ES w W1 q m e Z key (vs.take (i + 1))) := by
          refine ⟨Z, J.out.2.1.len, J.out.2.1.row, J.out.2.1.up, J.out.2.1.rd, ?_, J.out.2.1.kept⟩
          rw [NX.out, if_neg hk, List.append_nil]
          exact J.out.2.1.mem
        go_wp2_with fail
        go_roundw
        case rel => exact ⟨i + 1, m, e, q, rfl, by go_num, by omega, S2⟩
        case measure => simp [intOf] <;> omega
    · have i1 : ¬ (i : Int) < (n : Int) := by omega
      have G : Hid (∃ Z, ES w wq q m e Z key vs) := by
        have := S.out
        rw [List.take_of_length_le (by rw [H.out.1.vlen]; omega)] at this
        exact this
      clear S
      go_wp2_with fail
      go_ret
      obtain ⟨Z, G⟩ := G.out
      exact ⟨q, m, e, rfl, Z, G⟩
end Go.Proofs.YtojepeefphbekaaGreat
