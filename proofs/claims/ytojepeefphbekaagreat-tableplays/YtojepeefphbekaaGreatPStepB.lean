import Derived.Test.YtojepeefphbekaaGreatPStepAJ
import Derived.Test.YtojepeefphbekaaGreatSameJ
namespace Go.Proofs.YtojepeefphbekaaGreat
open Go.RowKit 

set_option maxRecDepth 100000 in
set_option maxHeartbeats 2000000 in
theorem fragN (pp : Option Addr) (w : World) : Calls Tryz.prog 67 #[.agg #[.map none, .pointer pp]] w fun o w' => o = .returned (.int .i64 0) ∧ Kept (fun _ => False) w w' := by
  obtain ⟨W, hW⟩ : ∃ W, W = w.alloc (.cells #[.map none, .pointer pp] 89) := ⟨_, rfl⟩
  have KZ : Kept (fun _ => False) w W := by rw [hW]; exact k0_alloc _ _
  have bW : W.heap[w.heap.size]? = some (.cells #[.map none, .pointer pp] 89 (0, 0)) := by rw [hW]; exact heap_alloc_new _ _
  have rn := run_range_nilMap (P := Tryz.prog) W 86 37 94 Tryz.underlying86
  have nx : ∀ ty, (Instr.next (.pointer (some ⟨W.heap.size, 0, none⟩)) false ty).run Tryz.prog (W.alloc (.mapIter none 0 #[] 0)) = .ok (.tuple #[.bool false]) (W.alloc (.mapIter none 0 #[] 0)) := fun ty => run_next_nilMap W ty 0 0 #[]
  have H : Hid (Kept (fun _ => False) w (W.alloc (.mapIter none 0 #[] 0))) := KZ.alloc _
  have EW : Hid (W = w.alloc (.cells #[.map none, .pointer pp] 89)) := hW
  have c0 := cell_blk bW 0 (v := .map none) rfl
  clear KZ bW hW
  go_enter Tryz.func67, Tryz.ntmps67
  go_upto_region 1 with fail
  rw [← EW.out]
  go_wp2_with fail
  refine wp_loop_rounds 1 ?_
  rw [rounds_succ]
  go_wp2_with fail
  go_ret
  exact ⟨rfl, H.out⟩
set_option maxRecDepth 100000 in
set_option maxHeartbeats 2000000 in
theorem tFragN (nn : Nat) (t : TK) (key : ByteArray) (w : World) (h : IsT w nn t) (hk : key.size ≤ maxLen) (hr : t.R key = none) : Calls Tryz.prog 38 #[.pointer (some ⟨t.tb, 0, none⟩), .string key] w fun o w' => o = .returned (.int .i64 0) ∧ Kept (fun _ => False) w w' := by
  obtain ⟨tb, rb, delta, R⟩ := t
  have hr : R key = none := hr
  have lk := h.rows.look rowsK hk
  have hv : TK.rv ⟨tb, rb, delta, R⟩ key = none := by unfold TK.rv; dsimp only; rw [hr]; rfl
  rw [hv] at lk
  have lk : (Instr.lookup 83 (.map (some rb)) (.string key) false).run Tryz.prog w = .ok (.agg #[.map none, .pointer none]) w := lk
  have e1 : w.cell? ⟨tb, 1, none⟩ = some (.map (some rb)) := cell_blk h.blk 1 rfl
  clear hv h hr hk
  dsimp only
  go_enter Tryz.func38, Tryz.ntmps38
  go_wp2_with fail
  refine (fragN none w).mono ?_
  rintro o w2 ⟨rfl, K2⟩
  have H2 : Hid (Kept (fun _ => False) w w2) := K2
  clear K2 lk e1
  go_wp2_with fail
  go_ret
  exact ⟨rfl, H2.out⟩
theorem frag_same {M : Int × Int → Option Hd} {dat : Int × Int → List Nat} {L : List Et} {es : List Ev} (g : GE M (fun _ => False) L) (e : EntsOf M dat es) : hasN L = hasE es := by
  have n1 : ((L.filter fun x => x.2.2.1).map fun x => x.1).Nodup := by
    have := g.one
    unfold List.Nodup at this ⊢
    rw [List.pairwise_map] at this ⊢
    exact List.Pairwise.filter _ this
  have n2 : ((es.filter fun x => x.2.2.1).map fun x => x.1).Nodup := by
    unfold List.Nodup
    rw [List.pairwise_map]
    exact (List.Pairwise.filter _ e.up).imp (fun {a b} hab z => by rw [z, tc_self] at hab; exact absurd hab (by decide))
  have mem : ∀ t, t ∈ ((L.filter fun x => x.2.2.1).map fun x => x.1) ↔ t ∈ ((es.filter fun x => x.2.2.1).map fun x => x.1) := by
    intro t
    rw [List.mem_map, List.mem_map]
    constructor
    · rintro ⟨a, ha, rfl⟩
      obtain ⟨h1, h2⟩ := List.mem_filter.1 ha
      obtain ⟨_, hd, q1, q2, q3, _⟩ := g.each a h1
      refine ⟨(a.1, hd.fin, hd.has, dat a.1), List.mem_filter.2 ⟨(e.mem _).2 ⟨hd, q1, rfl, rfl, rfl⟩, ?_⟩, rfl⟩
      show hd.has = true
      rw [← q3]
      exact h2
    · rintro ⟨a, ha, rfl⟩
      obtain ⟨h1, h2⟩ := List.mem_filter.1 ha
      obtain ⟨hd, q1, q2, q3, _⟩ := (e.mem a).1 h1
      obtain ⟨b, hb, eb⟩ := (g.all _ hd q1).resolve_left (fun z => z)
      obtain ⟨_, hd', r1, _, r3, _⟩ := g.each b hb
      rw [eb, q1] at r1
      have r1 := Option.some.inj r1
      refine ⟨b, List.mem_filter.2 ⟨hb, ?_⟩, eb⟩
      show b.2.2.1 = true
      rw [r3, ← r1, ← q3]
      exact h2
  have l1 := nodup_le _ _ n1 (fun t ht => (mem t).1 ht)
  have l2 := nodup_le _ _ n2 (fun t ht => (mem t).2 ht)
  rw [List.length_map, List.length_map] at l1 l2
  show (L.filter fun x => x.2.2.1).length = (es.filter fun x => x.2.2.1).length
  exact Nat.le_antisymm l1 l2
/-- A key's entries, by rising tags. -/
def entsS (key : ByteArray) (vs : List Uv) : List Ev := (entsK key vs).mergeSort fun a b => !decide (tc b.1 a.1 < 0)
theorem entsS_ok {vs : List Uv} (one : OneV vs) (key : ByteArray) : REnts vs key (entsS key vs) := by
  have pm : (entsS key vs).Perm (entsK key vs) := List.mergeSort_perm _ _
  have nd : ((entsK key vs).map fun v => v.1).Nodup := by
    unfold entsK List.Nodup
    rw [List.pairwise_map, List.pairwise_map]
    have p1 : (vs.filter fun v => decide (v.1 = key)).Pairwise fun v v' => ¬ (v.1 = v'.1 ∧ v.2.1 = v'.2.1) := List.Pairwise.filter _ one
    refine List.Pairwise.imp_of_mem (fun {a b} ha hb hab z => ?_) p1
    have ha := (List.mem_filter.1 ha).2
    have hb := (List.mem_filter.1 hb).2
    simp at ha hb
    exact hab ⟨by rw [ha, hb], z⟩
  have nd2 : ((entsS key vs).map fun v => v.1).Nodup := (pm.map _).nodup_iff.2 nd
  have srt := List.pairwise_mergeSort (le := fun a b : Ev => !decide (tc b.1 a.1 < 0)) (fun a b c h1 h2 => by
    have h1 : ¬ tc b.1 a.1 < 0 := by simpa using h1
    have h2 : ¬ tc c.1 b.1 < 0 := by simpa using h2
    have := tc_le_trans a.1 b.1 c.1 h1 h2
    simpa using this) (fun a b => by
    by_cases h : tc b.1 a.1 < 0
    · have := tc_asym _ _ h
      simp [this]
    · simp [h]) (entsK key vs)
  refine ⟨?_, fun v => ?_⟩
  · unfold List.Nodup at nd2
    rw [List.pairwise_map] at nd2
    have srt : (entsS key vs).Pairwise fun a b => (!decide (tc b.1 a.1 < 0)) = true := srt
    refine (srt.and nd2).imp (fun {a b} hab => ?_)
    have q : ¬ tc b.1 a.1 < 0 := by simpa using hab.1
    exact tc_total _ _ q (fun z => hab.2 z.symm)
  · rw [pm.mem_iff]
    unfold entsK
    rw [List.mem_map]
    constructor
    · rintro ⟨u, hu, rfl⟩
      obtain ⟨h1, h2⟩ := List.mem_filter.1 hu
      simp at h2
      rw [← h2]
      exact h1
    · intro z
      exact ⟨(key, v), List.mem_filter.2 ⟨z, by simp⟩, rfl⟩
theorem REnts.one {vs : List Uv} {key : ByteArray} {es es' : List Ev} (h : REnts vs key es) (h' : REnts vs key es') : es = es' := pairwise_one (fun a b => tc_asym _ _) _ _ h.up h'.up (fun a => by rw [h.mem, h'.mem])
theorem keys_ex : ∀ (vs : List Uv), ∃ ks, RKeys vs ks := by
  have base : ∀ vs : List Uv, ∃ ks : List ByteArray, ks.Nodup ∧ ∀ k, k ∈ ks ↔ ∃ v ∈ vs, v.1 = k := by
    intro vs
    induction vs with
    | nil => exact ⟨[], List.Pairwise.nil, fun k => ⟨fun z => (by cases z), fun ⟨_, z, _⟩ => (by cases z)⟩⟩
    | cons v vs ih =>
      obtain ⟨ks, h1, h2⟩ := ih
      by_cases hv : v.1 ∈ ks
      · refine ⟨ks, h1, fun k => ?_⟩
        rw [h2]
        constructor
        · rintro ⟨u, hu, e⟩
          exact ⟨u, List.mem_cons_of_mem _ hu, e⟩
        · rintro ⟨u, hu, e⟩
          rcases List.mem_cons.1 hu with z | z
          · rw [z] at e
            rw [e] at hv
            exact (h2 k).1 hv
          · exact ⟨u, z, e⟩
      · refine ⟨v.1 :: ks, List.nodup_cons.2 ⟨hv, h1⟩, fun k => ?_⟩
        rw [List.mem_cons, h2]
        constructor
        · rintro (z | ⟨u, hu, e⟩)
          · exact ⟨v, List.mem_cons_self, z.symm⟩
          · exact ⟨u, List.mem_cons_of_mem _ hu, e⟩
        · rintro ⟨u, hu, e⟩
          rcases List.mem_cons.1 hu with z | z
          · rw [z] at e
            exact .inl e.symm
          · exact .inr ⟨u, z, e⟩
  intro vs
  obtain ⟨ks, h1, h2⟩ := base vs
  have pm := List.mergeSort_perm ks (fun a b => decide (a.data.toList ≤ b.data.toList))
  have srt := List.pairwise_mergeSort (le := fun a b : ByteArray => decide (a.data.toList ≤ b.data.toList)) (fun a b c q1 q2 => by
    have q1 : a.data.toList ≤ b.data.toList := by simpa using q1
    have q2 : b.data.toList ≤ c.data.toList := by simpa using q2
    have := List.le_trans q1 q2
    simpa using this) (fun a b => by
    rcases List.le_total a.data.toList b.data.toList with q | q
    · simp [q]
    · simp [q]) ks
  refine ⟨_, pm.nodup_iff.2 h1, srt.imp (fun q => by simpa using q), fun k => ?_⟩
  rw [pm.mem_iff, h2]
/-- All that the document's table tells. -/
theorem alls_ex {vs : List Uv} (one : OneV vs) : ∃ avs, RAlls vs avs := by
  obtain ⟨ks, hk⟩ := keys_ex vs
  refine ⟨ks.map fun k => (k, entsS k vs), ?_, fun v hv => ?_⟩
  · rw [List.map_map]
    have : ((fun v : Av => v.1) ∘ fun k => (k, entsS k vs)) = fun k => k := rfl
    rw [this, List.map_id']
    exact hk
  · obtain ⟨k, _, rfl⟩ := List.mem_map.1 hv
    exact entsS_ok one k
/-- Entries in both. -/
theorem pEnts1 {base : Nat} {w : World} {n : Nat} {x : PD} (h : IsP base w n x) (key : ByteArray) (hk : key.size ≤ maxLen) (hl : n ≤ 1099511627776) (V : World) (K : Kept (fun _ => False) w V) : Calls Tryz.prog 14 #[.pointer (some ⟨x.t.tb, 0, none⟩), .string key] V fun o w' => ∃ p n c, o = .returned (.slice p n c) ∧ Hid (EntRd w' p n c (entsS key x.vs) ∧ Kept (fun _ => False) V w') := by
  have g := h.g.k0 K
  refine (tEntries n x.t key (datS x.t x.D key) V g.tab hk (fun r hr => g.datAll key r hr) (by omega)).mono ?_
  rintro o w' ⟨p, cp, L, rfl, ge, srt, ow, K2, eo⟩
  have e1 := entsOf (dat := datS x.t x.D key) ge srt
  have e2 := (entsS_ok h.g.sim.one key).of h.g.sim
  have e3 := ents_one e1 e2 (fun _ => rfl)
  have e4 := entRd_of ow eo
  rw [e3] at e4
  exact ⟨p, _, cp, rfl, e4, K2⟩
theorem pEnts2 {base : Nat} {w : World} {n : Nat} {x : PD} (h : IsP base w n x) (key : ByteArray) (hl : n ≤ 1099511627776) (V : World) (K : Kept (fun _ => False) w V) : Calls Tryz.prog 52 #[.pointer (some ⟨x.rb, 0, none⟩), .string key] V fun o w' => ∃ p n c, o = .returned (.slice p n c) ∧ Hid (EntRd w' p n c (entsS key x.vs) ∧ Kept (fun _ => False) V w') := by
  refine (rEnts base x.rb x.t.delta x.p x.rn x.rc x.L x.vs key V (h.r.k0 K) (by have := h.few; omega) h.dl).mono ?_
  rintro o w' ⟨q, m, e, rfl, Z, G⟩
  obtain ⟨e1, e2⟩ := G.out.ents h.g.sim.one
  rw [e2.one (entsS_ok h.g.sim.one key)] at e1
  exact ⟨q, m, e, rfl, e1, G.out.kept⟩
theorem pFrag1 {base : Nat} {w : World} {n : Nat} {x : PD} (h : IsP base w n x) (key : ByteArray) (hk : key.size ≤ maxLen) (hl : n ≤ 1099511627776) (V : World) (K : Kept (fun _ => False) w V) : Calls Tryz.prog 38 #[.pointer (some ⟨x.t.tb, 0, none⟩), .string key] V fun o w' => o = .returned (.int .i64 (hasE (entsS key x.vs) : Int)) ∧ Kept (fun _ => False) V w' := by
  have g := h.g.k0 K
  have e2 := (entsS_ok h.g.sim.one key).of h.g.sim
  cases hr : x.t.R key with
  | none =>
    refine (tFragN n x.t key V g.tab hk hr).mono ?_
    rintro o w' ⟨rfl, K2⟩
    rw [TMp_no hr] at e2
    have e3 : hasE (entsS key x.vs) = 0 := by
      cases q : entsS key x.vs with
      | nil => rfl
      | cons a rest =>
        rw [q] at e2
        obtain ⟨_, z, _⟩ := (e2.mem a).1 List.mem_cons_self
        cases z
    rw [e3]
    exact ⟨rfl, K2⟩
  | some r =>
    refine (tFrag n x.t key r V g.tab hk hr (by omega)).mono ?_
    rintro o w' ⟨L, rfl, ge, K2⟩
    rw [TMp_at hr] at e2
    rw [frag_same ge e2]
    exact ⟨rfl, K2⟩
set_option maxHeartbeats 2000000 in
/-- What is asked of a key, of both. -/
theorem pAsk {base : Nat} {w : World} {n : Nat} {x : PD} (h : IsP base w n x) (ot uk : Int) (ukey : ByteArray) (ux uy : Int) (uf uh : Bool) (ua : Option Addr) (un uc : Nat) (key : ByteArray) (gx gy oN : Int) (hk : key.size ≤ maxLen) (ft : TFit (gx, gy)) (hl : n ≤ 1099511627776) :
    Calls Tryz.prog 31 #[.pointer (some ⟨x.t.tb, 0, none⟩), .pointer (some ⟨x.rb, 0, none⟩), .agg #[.int .i64 2, .int .i64 ot, .int .i64 uk, .string ukey, .int .i64 ux, .int .i64 uy, .bool uf, .bool uh, .slice ua un uc, .string key, .int .i64 gx, .int .i64 gy, .int .i64 oN]] w fun o w' => o = .returned (.bool true) ∧ Kept (fun _ => False) w w' := by
  have few := h.few
  obtain ⟨⟨rx, ry, rf, rh, rl, rb⟩, hR⟩ : ∃ R, R = getR gx gy (stV x.vs key (gx, gy)) := ⟨_, rfl⟩
  obtain ⟨⟨tx, ty⟩, hT⟩ : ∃ T, T = floorT (TS x.t key) 0 := ⟨_, rfl⟩
  obtain ⟨⟨fx, fy⟩, hF⟩ : ∃ T, T = floorT (TS x.t key) x.t.delta := ⟨_, rfl⟩
  refine lPlaysAsk (.pointer (some ⟨x.t.tb, 0, none⟩)) (.pointer (some ⟨x.rb, 0, none⟩)) ot uk ukey ux uy uf uh ua un uc key gx gy oN w rx ry rf rh rl rb tx ty fx fy (hasE (entsS key x.vs) : Int) (entsS key x.vs) ?_ ?_ ?_ ?_ ?_ ?_ ?_ ?_ ?_ ?_
  · intro V K
    have g := h.g.k0 K
    have := gGet n x.t key (datS x.t x.D key (gx, gy)) gx gy V g.tab hk ft (fun hd hm => by
      obtain ⟨r, hr, h1⟩ := TMp_row hm
      exact g.datAll key r hr (gx, gy) hd h1)
    have e : getR gx gy ((TMp x.t key (gx, gy)).map fun hd => (hd.fin, hd.has, datS x.t x.D key (gx, gy))) = (rx, ry, rf, rh, rl, rb) := by
      rw [hR, h.g.sim.ab]
      rfl
    rw [e] at this
    exact this
  · intro V K
    have := rGet base x.rb x.t.delta x.p x.rn x.rc x.L x.vs key gx gy V (h.r.k0 K) h.g.sim.one h.dl
    rw [← hR] at this
    exact this
  · intro V K
    refine (tTop n x.t key V (h.g.tab.k0 K) hk).mono ?_
    rintro o w' ⟨x1, y1, rfl, e, K2⟩
    rw [← hT] at e
    injection e with e1 e2
    rw [e1, e2]
    exact ⟨rfl, K2⟩
  · intro V K
    refine (rTopV base x.rb x.t.delta x.p x.rn x.rc x.L x.vs key V (h.r.k0 K) (by omega)).mono ?_
    rintro o w' ⟨rfl, K2⟩
    rw [h.g.sim.floor key (Int.le_refl 0), ← hT]
    exact ⟨rfl, K2⟩
  · intro V K
    refine (tFloor n x.t key V (h.g.tab.k0 K) hk).mono ?_
    rintro o w' ⟨x1, y1, rfl, e, K2⟩
    rw [← hF] at e
    injection e with e1 e2
    rw [e1, e2]
    exact ⟨rfl, K2⟩
  · intro V K
    refine (rFloorV base x.rb x.t.delta x.p x.rn x.rc x.L x.vs key V (h.r.k0 K) (by omega) h.g.sim.d0).mono ?_
    rintro o w' ⟨rfl, K2⟩
    rw [h.g.sim.floor key h.g.sim.d0, ← hF]
    exact ⟨rfl, K2⟩
  · intro V K
    exact pFrag1 h key hk hl V K
  · intro V K
    exact rFragG _ key (entsS key x.vs) V (pEnts2 h key hl V K)
  · intro V K
    exact pEnts1 h key hk hl V K
  · intro V K
    exact pEnts2 h key hl V K
set_option maxHeartbeats 2000000 in
/-- All that both tell. -/
theorem pTells {base : Nat} {w : World} {n : Nat} {x : PD} (h : IsP base w n x) (hl : n ≤ 1099511627776) :
    Calls Tryz.prog 32 #[.pointer (some ⟨x.t.tb, 0, none⟩), .pointer (some ⟨x.rb, 0, none⟩)] w fun o w' => o = .returned (.bool true) ∧ Kept (fun _ => False) w w' := by
  have few := h.few
  obtain ⟨avs, ha⟩ := alls_ex h.g.sim.one
  have aof := ha.of h.g.sim
  have vl := h.r.vlen
  have rk : ∀ V, Kept (fun _ => False) w V → Calls Tryz.prog 53 #[.pointer (some ⟨x.rb, 0, none⟩)] V fun o w' => ∃ p n c, o = .returned (.slice p n c) ∧ ∃ ks, Hid (ks.length = n ∧ w'.ownsRow V.heap.size 9 1 (.slice p n c) n (strs ks) ∧ RKeys x.vs ks ∧ Kept (fun _ => False) V w') := by
    intro V K
    refine (rKeys base x.rb x.t.delta x.p x.rn x.rc x.L x.vs V (h.r.k0 K) (by omega)).mono ?_
    rintro o w' ⟨q, m, e, rfl, ks, G⟩
    exact ⟨q, m, e, rfl, ks, G.out.len, G.out.row, G.out.keys, G.out.kept⟩
  have ra : ∀ V, Kept (fun _ => False) w V → Calls Tryz.prog 54 #[.pointer (some ⟨x.rb, 0, none⟩)] V fun o w' => ∃ p n c vs, o = .returned (.slice p n c) ∧ Hid (AllRd w' p n c vs ∧ RAlls x.vs vs ∧ Kept (fun _ => False) V w') := by
    intro V K
    refine rAllG _ x.vs V (by omega) (rk V K) (fun V2 key K2 => ?_)
    refine (pEnts2 h key hl V2 (K.and0 K2)).mono ?_
    rintro o w' ⟨p, m, c, rfl, G⟩
    exact ⟨p, m, c, rfl, _, G.out.1, entsS_ok h.g.sim.one key, G.out.2⟩
  have one : ∀ vs, AllOf x.t (datS x.t x.D) vs → vs = avs := fun vs q => all_one q aof (fun _ => Iff.rfl) (fun _ _ => rfl)
  refine lTells _ _ (avs.map fun v => v.1) avs (flat avs) w ?_ ?_ ?_ ?_ ?_ ?_
  · intro V K
    refine (tKeys n x.t V (h.g.tab.k0 K) (by omega)).mono ?_
    rintro o w' ⟨g, cp, L, rfl, ke, srt, ow, _, K2⟩
    have e := ke_one ke srt aof.keys aof.srt
    rw [← e]
    exact ⟨_, _, cp, rfl, rfl, owns_mono ow (Nat.zero_le _), K2⟩
  · intro V K
    refine (rk V K).mono ?_
    rintro o w' ⟨q, m, e, rfl, ks, G⟩
    have e2 := ke_one (RKeys.of h.g.sim G.out.2.2.1) G.out.2.2.1.srt aof.keys aof.srt
    rw [← e2]
    exact ⟨q, m, e, rfl, G.out.1, owns_mono G.out.2.1 (Nat.zero_le _), G.out.2.2.2⟩
  · intro V K
    have g := h.g.k0 K
    refine (tAll n x.t (datS x.t x.D) V g.tab g.datAll (by omega)).mono ?_
    rintro o w' ⟨p, m, c, vs, rfl, G⟩
    have e := one vs G.out.2.1
    rw [← e]
    exact ⟨p, m, c, rfl, G.out.1, G.out.2.2⟩
  · intro V K
    refine (ra V K).mono ?_
    rintro o w' ⟨p, m, c, vs, rfl, G⟩
    have e := one vs (G.out.2.1.of h.g.sim)
    rw [← e]
    exact ⟨p, m, c, rfl, G.out.1, G.out.2.2⟩
  · intro V K
    have g := h.g.k0 K
    refine (gUpdates g.tab g.datAll (fun vs q => ?_) rfl (by omega)).mono ?_
    · rw [one vs q]
      have := flat_len x.vs ha
      omega
    · rintro o w' ⟨p, m, c, rfl, vs, G⟩
      have e := one vs G.out.2.1
      rw [← e]
      exact ⟨p, m, c, rfl, G.out.1, G.out.2.2⟩
  · intro V K
    refine (rUpdG (ra V K) (fun vs q => ?_)).mono ?_
    · have := flat_len x.vs q
      omega
    · rintro o w' ⟨p, m, c, rfl, vs, G⟩
      have e := one vs (G.out.2.1.of h.g.sim)
      rw [← e]
      exact ⟨p, m, c, rfl, G.out.1, G.out.2.2⟩
/-- The same of nil. -/
theorem EntRd.nil0 (w : World) : EntRd w none 0 0 [] := ⟨rfl, [], ⟨rfl, .inl ⟨rfl, rfl⟩⟩, Along.nil _⟩
theorem AllRd.nil0 (w : World) : AllRd w none 0 0 [] := ⟨rfl, [], ⟨rfl, .inl ⟨rfl, rfl⟩⟩, Along.nil _⟩
theorem UpRd.nil0 (w : World) : UpRd 0 w none 0 0 [] := ⟨rfl, [], ⟨rfl, .inl ⟨rfl, rfl⟩⟩, Along.nil _⟩
theorem RAlls.nil_of {avs : List Av} (h : RAlls [] avs) : avs = [] := by
  cases avs with
  | nil => rfl
  | cons a rest =>
    obtain ⟨v, hv, _⟩ := (h.keys.mem a.1).1 (by simp)
    cases hv
theorem RKeys.nil_of {ks : List ByteArray} (h : RKeys [] ks) : ks = [] := by
  cases ks with
  | nil => rfl
  | cons a rest =>
    obtain ⟨v, hv, _⟩ := (h.mem a).1 (by simp)
    cases hv
theorem REnts.nil0 (key : ByteArray) : REnts [] key [] := ⟨List.Pairwise.nil, fun v => ⟨fun z => (by cases z), fun z => (by cases z)⟩⟩
theorem rAllN (V : World) : Calls Tryz.prog 54 #[.pointer none] V fun o w' => ∃ p n c vs, o = .returned (.slice p n c) ∧ Hid (AllRd w' p n c vs ∧ RAlls [] vs ∧ Kept (fun _ => False) V w') := by
  refine rAllG _ [] V (by simp) ?_ (fun V2 key K2 => ?_)
  · refine (rKeysN V).mono ?_
    rintro o w' ⟨rfl, rfl⟩
    exact ⟨none, 0, 0, rfl, [], rfl, ⟨rfl, .inl ⟨rfl, rfl⟩⟩, RKeys.nil, Kept.refl _ _⟩
  · refine (rEntsN key V2).mono ?_
    rintro o w' ⟨rfl, rfl⟩
    exact ⟨none, 0, 0, rfl, [], EntRd.nil0 _, REnts.nil0 key, Kept.refl _ _⟩
theorem nTells (w : World) : Calls Tryz.prog 32 #[.pointer none, .pointer none] w fun o w' => o = .returned (.bool true) ∧ Kept (fun _ => False) w w' := by
  refine lTells _ _ [] [] [] w ?_ ?_ ?_ ?_ ?_ ?_
  · intro V K
    refine (nKeys V).mono ?_
    rintro o w' ⟨rfl, rfl⟩
    exact ⟨none, 0, 0, rfl, rfl, ⟨rfl, .inl ⟨rfl, rfl⟩⟩, Kept.refl _ _⟩
  · intro V K
    refine (rKeysN V).mono ?_
    rintro o w' ⟨rfl, rfl⟩
    exact ⟨none, 0, 0, rfl, rfl, ⟨rfl, .inl ⟨rfl, rfl⟩⟩, Kept.refl _ _⟩
  · intro V K
    refine (nAll V).mono ?_
    rintro o w' ⟨rfl, rfl⟩
    exact ⟨none, 0, 0, rfl, AllRd.nil0 _, Kept.refl _ _⟩
  · intro V K
    refine (rAllN V).mono ?_
    rintro o w' ⟨p, m, c, vs, rfl, G⟩
    have e := G.out.2.1.nil_of
    rw [e] at G
    exact ⟨p, m, c, rfl, G.out.1, G.out.2.2⟩
  · intro V K
    refine (nUpds V).mono ?_
    rintro o w' ⟨rfl, rfl⟩
    exact ⟨none, 0, 0, rfl, UpRd.nil0 _, Kept.refl _ _⟩
  · intro V K
    refine (rUpdG (rAllN V) (fun vs q => ?_)).mono ?_
    · exact Nat.le_trans (flat_len [] q) (Nat.zero_le _)
    · rintro o w' ⟨p, m, c, rfl, vs, G⟩
      have e := G.out.2.1.nil_of
      rw [e] at G
      exact ⟨p, m, c, rfl, G.out.1, G.out.2.2⟩
theorem nAsk (ot uk : Int) (ukey : ByteArray) (ux uy : Int) (uf uh : Bool) (ua : Option Addr) (un uc : Nat) (key : ByteArray) (gx gy oN : Int) (w : World) :
    Calls Tryz.prog 31 #[.pointer none, .pointer none, .agg #[.int .i64 2, .int .i64 ot, .int .i64 uk, .string ukey, .int .i64 ux, .int .i64 uy, .bool uf, .bool uh, .slice ua un uc, .string key, .int .i64 gx, .int .i64 gy, .int .i64 oN]] w fun o w' => o = .returned (.bool true) ∧ Kept (fun _ => False) w w' := by
  refine lPlaysAsk (.pointer none) (.pointer none) ot uk ukey ux uy uf uh ua un uc key gx gy oN w 0 0 false false [] false 0 0 0 0 0 [] ?_ ?_ ?_ ?_ ?_ ?_ ?_ ?_ ?_ ?_
  · intro V K
    refine (nGet key gx gy V).mono ?_
    rintro o w' ⟨rfl, K2⟩
    exact GetAns.mk none 0 0 rfl (Reads.nil _) K2
  · intro V K
    refine (rGetN key gx gy V).mono ?_
    rintro o w' ⟨rfl, K2⟩
    exact GetAns.mk none 0 0 rfl (Reads.nil _) K2
  · intro V K
    exact nTop key V
  · intro V K
    exact rTop_nil key V
  · intro V K
    exact nFloor key V
  · intro V K
    exact rFloor_nil key V
  · intro V K
    refine (nFrag key V).mono ?_
    rintro o w' ⟨rfl, rfl⟩
    exact ⟨rfl, Kept.refl _ _⟩
  · intro V K
    refine (rFragG _ key [] V ?_)
    refine (rEntsN key V).mono ?_
    rintro o w' ⟨rfl, rfl⟩
    exact ⟨none, 0, 0, rfl, EntRd.nil0 _, Kept.refl _ _⟩
  · intro V K
    refine (nEnts key V).mono ?_
    rintro o w' ⟨rfl, rfl⟩
    exact ⟨none, 0, 0, rfl, EntRd.nil0 _, Kept.refl _ _⟩
  · intro V K
    refine (rEntsN key V).mono ?_
    rintro o w' ⟨rfl, rfl⟩
    exact ⟨none, 0, 0, rfl, EntRd.nil0 _, Kept.refl _ _⟩
end Go.Proofs.YtojepeefphbekaaGreat
