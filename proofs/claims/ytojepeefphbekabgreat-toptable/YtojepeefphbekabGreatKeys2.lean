import Derived.Test.YtojepeefphbekabGreatKeyzJ
namespace Go.Proofs.YtojepeefphbekabGreat
open Go.RowKit 

theorem Tryz.info9c : (Tryz.prog.info? 9).map (fun i => (i.zero, i.size, i.bytes)) = some (some (.string (ByteArray.mk #[])), 1, 16) := by kernel_rfl
/-- The keys that have been gathered. -/
structure KE (V : ByteArray → Option RV) (Lf : ByteArray → Prop) (L : List ByteArray) : Prop where
  all : ∀ k, V k ≠ none → Lf k ∨ k ∈ L
  each : ∀ k ∈ L, ¬ Lf k ∧ V k ≠ none
  one : L.Nodup
theorem KE.more {V : ByteArray → Option RV} {Lf : ByteArray → Prop} {L : List ByteArray} (g : KE V Lf L) {k : ByteArray} (hl : Lf k) (hm : V k ≠ none) : KE V (fun j => Lf j ∧ j ≠ k) (L ++ [k]) := by
  refine ⟨fun s hs => ?_, fun e he => ?_, ?_⟩
  · by_cases e : s = k
    · exact .inr (List.mem_append.2 (.inr (List.mem_singleton.2 e)))
    · rcases g.all s hs with z | z
      · exact .inl ⟨z, e⟩
      · exact .inr (List.mem_append.2 (.inl z))
  · rcases List.mem_append.1 he with z | z
    · exact ⟨fun q => (g.each e z).1 q.1, (g.each e z).2⟩
    · rw [List.mem_singleton.1 z]
      exact ⟨fun q => q.2 rfl, hm⟩
  · refine List.nodup_append.2 ⟨g.one, by simp, fun a ha b hb => ?_⟩
    rw [List.mem_singleton] at hb
    subst hb
    intro e
    subst e
    exact (g.each a ha).1 hl
theorem KE.done {V : ByteArray → Option RV} {Lf : ByteArray → Prop} {L L' : List ByteArray} (g : KE V Lf L) (P : L'.Perm L) (no : ∀ k, V k ≠ none → ¬ Lf k) : KE V (fun _ => False) L' := by
  refine ⟨fun k hk => ?_, fun k hk => ⟨fun z => z, (g.each k (P.mem_iff.1 hk)).2⟩, P.nodup_iff.2 g.one⟩
  rcases g.all k hk with z | z
  · exact absurd z (no k hk)
  · exact .inr (P.mem_iff.2 z)
theorem src_str {w : World} {b : Nat} {k : ByteArray} (h : w.heap[b]? = some (.cells #[.string k] 9 (0, 0))) : Src Tryz.prog 1 76 (.slice (some ⟨b, 0, none⟩) 1 1) 1 (strs [k]) w :=
  Src.ofSlice w Tryz.underlying76 ⟨b, 0, none⟩ 1 1 (strs [k]) rfl (fun j u hj => by
    rw [Addr.add_none, Nat.zero_add, cell_of_row w b j _ 9 (0, 0) h]
    simpa [strs] using hj) (fun v hv => by simp [strs] at hv; rw [hv]; rfl)
/-- The round's state. -/
def KI (w : World) (rb rr n cnt0 : Nat) (V : ByteArray → Option RV) (v : Value) (wr : World) (cnt : Nat) : Prop :=
  ∃ (p : Option Addr) (cp : Nat) (L : List ByteArray) (Lf : ByteArray → Prop), v = .slice p L.length cp ∧ RG 9 (fun s : ByteArray => Lit.string s.data.toList) (fun s : ByteArray => s.size ≤ maxLen) RV.val RR wr rb rr n V Lf cnt ∧ KE V Lf L ∧ wr.ownsRow w.heap.size 9 1 (.slice p L.length cp) L.length (strs L) ∧ Kept (fun _ => False) w wr ∧ L.length + cnt ≤ cnt0 ∧ blockOf p ≠ some rr ∧ p ≠ none
set_option maxRecDepth 100000 in
set_option maxHeartbeats 2000000 in
/-- Keys. -/
theorem tKeys (nn : Nat) (t : TK) (w : World) (h : IsT w nn t) (hn : nn ≤ 4398046511104) : Calls Tryz.prog 30 #[.pointer (some ⟨t.tb, 0, none⟩)] w fun o w' => ∃ (g cp : Nat) (L : List ByteArray), o = .returned (.slice (some ⟨g, 0, none⟩) L.length cp) ∧ KE t.rv (fun _ => False) L ∧ SortedS L ∧ w'.ownsRow w.heap.size 9 1 (.slice (some ⟨g, 0, none⟩) L.length cp) L.length (strs L) ∧ L.length ≤ nn ∧ Kept (fun _ => False) w w' := by
  obtain ⟨tb, rb, delta, R⟩ := t
  obtain ⟨n, hnn⟩ : ∃ n, n = nn := ⟨_, rfl⟩
  rw [← hnn] at h hn ⊢
  clear hnn
  obtain ⟨V, hV⟩ : ∃ V, V = TK.rv ⟨tb, rb, delta, R⟩ := ⟨_, rfl⟩
  rw [← hV]
  have rows : TM 9 (fun s : ByteArray => Lit.string s.data.toList) (fun s : ByteArray => s.size ≤ maxLen) RV.val RR w rb n V := by rw [hV]; exact h.rows
  have rows0 := rows
  obtain ⟨D, hM, sM⟩ := rows0
  have hM : w.ownsMap Tryz.prog 9 RR rb n D := hM
  have hz : Maps.size D ≤ n := by
    obtain ⟨es, clock, _, _, h3, e⟩ := hM
    rw [e, Maps.size_eq, length_sorted]
    simpa using h3
  have ln : ∀ ty, (Builtin.len_ #[52] ty #[.map (some rb)]).run Tryz.prog w = .ok (.int .i64 (Maps.size D : Int)) w := fun ty => hM.len Tryz.underlying52 ty
  obtain ⟨i0, hi, hz0, hz1, hz2⟩ := info_parts Tryz.info9c
  obtain ⟨w3, mk, ow, gr⟩ := run_make_own (P := Tryz.prog) w w.heap.size 76 9 i0 _ 1 Tryz.underlying76 hi hz0 hz1 .i64 .i64 (Maps.size D) (by rw [hz2]; omega) (by unfold maxLen; omega) (Nat.le_refl _)
  have K3 : Kept (fun _ => False) w w3 := (Kept.refl _ w).grown gr (fun k _ z => by cases z)
  obtain ⟨cp, hcp⟩ : ∃ cp, cp = Maps.size D := ⟨_, rfl⟩
  obtain ⟨g0, hg0⟩ : ∃ g0, g0 = w.heap.size := ⟨_, rfl⟩
  rw [← hcp, ← hg0] at mk ow
  have ln2 : ∀ ty, (Builtin.len_ #[52] ty #[.map (some rb)]).run Tryz.prog w = .ok (.int .i64 (cp : Int)) w := fun ty => by rw [hcp]; exact ln ty
  have c1 := cell_blk h.blk 1 (v := .map (some rb)) rfl
  have d1 := cell_blk (K3.get h.blk (fun z => z)) 1 (v := .map (some rb)) rfl
  have H : Hid (TM 9 (fun s : ByteArray => Lit.string s.data.toList) (fun s : ByteArray => s.size ≤ maxLen) RV.val RR w3 rb n V ∧ w3.ownsRow w.heap.size 9 1 (.slice (some ⟨g0, 0, none⟩) 0 cp) 0 [] ∧ Kept (fun _ => False) w w3 ∧ g0 < w3.heap.size ∧ rb < w.heap.size ∧ n ≤ 4398046511104) := by
    refine ⟨rows.kept K3 (fun z => z), by rw [← hg0]; exact ow, K3, (own_lt ow g0 rfl).2, rows.lt, hn⟩
  clear h hn rows hM sM hz ln hi hz0 hz1 hz2 ow gr K3 hcp hg0 hV
  go_enter Tryz.func30, Tryz.ntmps30
  go_wp2_with
    (first
      | (at_range; refine wpList_rng rowsK _ rfl _ rfl rb n V rfl H.out.1 ?_; intro w4 hrg0 hk0 hs0)
      | fail)
  obtain ⟨rr, hrr⟩ : ∃ rr, rr = w3.heap.size := ⟨_, rfl⟩
  rw [← hrr]
  have I0 : Hid (∃ cnt0, cnt0 ≤ n ∧ KI w rb rr n cnt0 V (.slice (some ⟨g0, 0, none⟩) 0 cp) w4 cnt0 ∧ w.heap.size ≤ rr) := by
    obtain ⟨cnt, g⟩ := hrg0.out
    rw [← hrr] at g
    have hl := H.out.2.2.2.1
    refine ⟨cnt, g.cnt_le, ⟨some ⟨g0, 0, none⟩, cp, [], _, rfl, g, ⟨fun k hm => .inl hm, fun e he => (by cases he), by simp⟩, hk0.out.owns H.out.2.1 (fun _ _ z => z), H.out.2.2.1.and0 hk0.out, by simp, fun z => ?_, by simp⟩, ?_⟩
    · have z : g0 = rr := Option.some.inj z
      omega
    · have := H.out.2.2.1.size
      omega
  obtain ⟨cnt0, hc0, hI0, hrl⟩ := I0.out
  have C0 : Hid (cnt0 ≤ n ∧ KI w rb rr n cnt0 V (.slice (some ⟨g0, 0, none⟩) 0 cp) w4 cnt0 ∧ w.heap.size ≤ rr) := ⟨hc0, hI0, hrl⟩
  clear hrg0 hk0 hs0 hrr I0 hc0 hI0 hrl c1 d1 mk ln2
  (try go_frame)
  go_loopw [3] (fun v wr => ∃ cnt, Hid (KI w rb rr n cnt0 V v wr cnt)) (fun _ wr => wr.rangeLeft rb rr)
  case atStart => exact ⟨cnt0, C0.out.2.1⟩
  case round =>
    obtain ⟨cnt, I⟩ := hrel
    obtain ⟨wq, rfl⟩ : ∃ wq : World, wq = wr := ⟨_, rfl⟩
    obtain ⟨p, c1, L, Lf, ev, rg, ge, ow, Kq, hb, nb, np⟩ := I.out
    subst ev
    obtain ⟨g, rfl⟩ : ∃ g, p = some ⟨g, 0, none⟩ := by
      rcases ow.2 with ⟨e0, _⟩ | ⟨g, _, _, e0, _⟩
      · simp at e0; exact absurd e0.1 np
      · simp at e0; exact ⟨g, e0.1⟩
    obtain ⟨kk, hkk⟩ : ∃ kk, kk = L.length := ⟨_, rfl⟩
    have HK : Hid (kk = L.length) := hkk
    rw [← hkk] at ow hb
    rw [← hkk]
    have J : Hid (RG 9 (fun s : ByteArray => Lit.string s.data.toList) (fun s : ByteArray => s.size ≤ maxLen) RV.val RR wq rb rr n V Lf cnt ∧ KE V Lf L ∧ wq.ownsRow w.heap.size 9 1 (.slice (some ⟨g, 0, none⟩) kk c1) kk (strs L) ∧ Kept (fun _ => False) w wq ∧ kk + cnt ≤ cnt0 ∧ g ≠ rr) := ⟨rg, ge, ow, Kq, hb, fun z => nb (by rw [z]; rfl)⟩
    clear rg ge ow Kq hb nb np hkk
    go_wp2_with
      (first
        | (at_next; refine wpList_nxt rowsK _ rfl _ rfl rb rr n V Lf cnt rfl J.out.1 ?_ ?_)
        | fail)
    · intro hdn
      go_wp2_with fail
      have BL : kk < 4611686018427387904 := by
        have h1 := J.out.2.2.2.2.1
        have h2 := C0.out.1
        have h3 := H.out.2.2.2.2.2
        omega
      refine (sortS g kk c1 w.heap.size L wq J.out.2.2.1 BL).mono ?_
      rintro o w8 ⟨rfl, L', P, srt, ow', K8⟩
      have F8 : Hid (KE V (fun _ => False) L' ∧ SortedS L' ∧ w8.ownsRow w.heap.size 9 1 (.slice (some ⟨g, 0, none⟩) kk c1) kk (strs L') ∧ Kept (fun _ => False) w w8 ∧ L'.length = kk ∧ kk ≤ n) := by
        obtain ⟨D', _, sD⟩ := J.out.1.tm
        refine ⟨J.out.2.1.done P (fun k hk => ?_), srt, ow', J.out.2.2.2.1.trans K8 (fun j hj z => ?_), P.length_eq.trans HK.out.symm, ?_⟩
        · cases hv : V k with
          | none => exact absurd hv hk
          | some e => exact hdn.out k (sD.2 k e hv)
        · have z : j = g := z
          have := (own_lt J.out.2.2.1 g rfl).1
          omega
        · have h1 := J.out.2.2.2.2.1
          have h2 := C0.out.1
          omega
      clear P srt ow' K8 BL
      go_wp2_with fail
      go_ret
      exact ⟨g, c1, L', by rw [F8.out.2.2.2.2.1]; rfl, F8.out.1, F8.out.2.1, by rw [F8.out.2.2.2.2.1]; exact F8.out.2.2.1, by rw [F8.out.2.2.2.2.1]; exact F8.out.2.2.2.2.2, F8.out.2.2.2.1⟩
    · intro ta hd w5 cnt5 hk hrg hlt hK hen
      obtain ⟨x1, x2⟩ := hd
      obtain ⟨rvv, hrv⟩ : ∃ rvv, rvv = RV.val ⟨x1, x2⟩ := ⟨_, rfl⟩
      rw [← hrv] at hen ⊢
      clear hrv
      have GR : Hid (w.heap.size ≤ g ∧ g ≠ rr ∧ rr < wq.heap.size ∧ g < wq.heap.size) := ⟨(own_lt J.out.2.2.1 g rfl).1, J.out.2.2.2.2.2, J.out.1.lt.1, (own_lt J.out.2.2.1 g rfl).2⟩
      have J7 : Hid (RG 9 (fun s : ByteArray => Lit.string s.data.toList) (fun s : ByteArray => s.size ≤ maxLen) RV.val RR w5 rb rr n V (fun j => Lf j ∧ j ≠ ta) cnt5 ∧ w5.ownsRow w.heap.size 9 1 (.slice (some ⟨g, 0, none⟩) kk c1) kk (strs L) ∧ Kept (fun _ => False) w w5 ∧ rr < w5.heap.size) := by
        refine ⟨hrg.out, hK.out.owns J.out.2.2.1 (fun k hk z => ?_), J.out.2.2.2.1.trans hK.out (fun j hj z => by have z : j = rr := z; have := C0.out.2.2; omega), hrg.out.lt.1⟩
        have z : k = rr := z
        have hk : some g = some k := hk
        exact GR.out.2.1 ((Option.some.inj hk).trans z)
      have BL : Hid (kk + 1 ≤ maxLen ∧ ((kk + 1) + (kk + 1) / 4 + 192) * 16 ≤ 281474976710656 ∧ kk + 1 + cnt5 ≤ cnt0) := by
        have h1 := J.out.2.2.2.2.1
        have h2 := C0.out.1
        have h3 := H.out.2.2.2.2.2
        have h4 := hlt.out
        unfold maxLen
        exact ⟨by omega, by omega, by omega⟩
      go_wp2_with
        (first
          | (at_builtin; refine wpList_append_all _ rfl (.tmp 22) (.tmp 24) 76 9 76 _ 1 16 rfl Tryz.underlying76 Tryz.info9c rfl w.heap.size (.slice (some ⟨g, 0, none⟩) kk c1) kk (strs L) rfl ((k0_alloc w5 _).owns J7.out.2.1 (fun _ _ z => z)) _ 1 (strs [ta]) rfl (src_str (heap_alloc_new w5 _)) BL.out.1 BL.out.2.1 (Nat.le_trans J7.out.2.2.1.size (k0_alloc w5 _).size) ?_; intro p9 c9 w9 ho hg hn)
          | fail)
      have O9 : w9.ownsRow w.heap.size 9 1 (.slice p9 (kk + 1) c9) (kk + 1) (strs (L ++ [ta])) := by
        rw [strs_app]
        exact ho.out
      have KG : Kept (fun k => k = g) w5 w9 := ((Kept.refl (fun k => k = g) w5).alloc _).grown hg.out (fun k _ z => by simp [Value.ownBlock] at z; exact z.symm)
      have eL : (L ++ [ta]).length = kk + 1 := by rw [List.length_append, HK.out]; rfl
      have R9 : RG 9 (fun s : ByteArray => Lit.string s.data.toList) (fun s : ByteArray => s.size ≤ maxLen) RV.val RR w9 rb rr n V (fun j => Lf j ∧ j ≠ ta) cnt5 := J7.out.1.kept KG (fun z => by have z : rb = g := z; have := H.out.2.2.2.2.1; have := GR.out.1; omega) (fun z => GR.out.2.1 z.symm)
      go_roundw
      case rel =>
        refine ⟨cnt5, p9, c9, L ++ [ta], _, by rw [eL], R9, J.out.2.1.more hk.out.2.1 (by rw [hk.out.2.2]; simp), by rw [eL]; exact O9, J7.out.2.2.1.trans KG (fun j hj z => ?_), by rw [eL]; exact BL.out.2.2, fun z => ?_, fun z => ?_⟩
        · have z : j = g := z
          have := GR.out.1
          omega
        · rcases hn.out with e | ⟨e, _⟩
          · rw [blockOf_own, blockOf_own, z] at e
            exact GR.out.2.1 (Option.some.inj e).symm
          · rw [blockOf_own, z] at e
            have e := Option.some.inj e
            have h1 := J7.out.2.2.2
            simp at e
            omega
        · rw [z] at O9
          rcases O9.2 with ⟨e0, _⟩ | ⟨_, _, _, e0, _⟩
          · simp at e0
          · simp at e0
      case measure =>
        rw [R9.left_eq, J.out.1.left_eq]
        exact hlt.out
end Go.Proofs.YtojepeefphbekabGreat
