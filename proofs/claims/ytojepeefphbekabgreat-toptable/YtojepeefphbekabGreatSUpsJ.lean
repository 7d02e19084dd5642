import Derived.Test.YtojepeefphbekabGreatSAgainJ
namespace Go.Proofs.YtojepeefphbekabGreat
open Go.RowKit 

theorem IsRow.nbU {w : World} {n : Nat} {r : RK} (h : IsRow w n r) {k : Nat} {cs : Array Value} {ty : TypeId} {fr : Nat × Nat} (hk : w.heap[k]? = some (.cells cs ty fr)) (ht : ty ≠ 105 ∧ ty ≠ 31) : ¬ r.Uses k := by
  rintro (z | z | z)
  · obtain ⟨D, ⟨es, clock, hb, _⟩, _⟩ := h.tm
    rw [← z, hk] at hb
    cases hb
  · have hb := h.st.blk
    rw [← z, hk] at hb
    have := Option.some.inj hb
    injection this with _ e
    exact ht.1 e
  · rcases h.st.row.pos with ⟨e1, _⟩ | ⟨g, off, cur, e1, h1, _⟩
    · rw [e1] at z
      cases z
    · rw [e1] at z
      have z : g = k := Option.some.inj z
      rw [z, hk] at h1
      have := Option.some.inj h1
      injection this with _ e
      exact ht.2 e
theorem IsU.nbU {w : World} {m n : Nat} {t : TK} (h : IsU w m n t) {k : Nat} {cs : Array Value} {ty : TypeId} {fr : Nat × Nat} (hk : w.heap[k]? = some (.cells cs ty fr)) (ht : ty ≠ 105 ∧ ty ≠ 31) : ¬ t.Uses k := by
  rintro (e | ⟨j, r, hr, hu⟩)
  · obtain ⟨D, ⟨es, clock, hb, _⟩, _⟩ := h.rows
    rw [← e, hk] at hb
    cases hb
  · exact (h.row j r hr).nbU hk ht hu
theorem EvRd.offB {S : Nat → Prop} {w w' : World} {e : Et} {v : Ev} (h : EvRd w e v) (K : Kept S w w') (hn : ∀ k, blockOf e.2.2.2.1 = some k → ¬ S k) : EvRd w' e v := by
  refine ⟨h.tag, h.fin, h.has, h.data.kept K (fun p hp => hn _ (by rw [hp]; rfl)), fun k hk => ?_⟩
  obtain ⟨cs, fr, hc⟩ := h.blk k hk
  exact ⟨cs, fr, K.get hc (hn k hk)⟩
theorem Along.impm {α β : Type} {P Q : α → β → Prop} {A : List α} {B : List β} (h : Along P A B) (f : ∀ a b, a ∈ A → P a b → Q a b) : Along Q A B := ⟨h.1, fun i h1 h2 => f _ _ (List.getElem_mem _) (h.2 i h1 h2)⟩
theorem RTab.off {S : Nat → Prop} {b0 : Nat} {w w' : World} {tb : Nat} {delta : Int} {p : Option Addr} {n c : Nat} {L : List Ut} {vs : List Uv} (h : RTab b0 w tb delta p n c L vs) (K : Kept S w w') (h0 : ¬ S tb) (h1 : ∀ k, blockOf p = some k → ¬ S k) (h2 : ∀ u ∈ L, ∀ k, blockOf u.2.2.2.2.1 = some k → ¬ S k) : RTab b0 w' tb delta p n c L vs :=
  ⟨K.get h.blk h0, h.len, K.owns h.row (fun k hk => h1 k (by rw [← hk]; exact (blockOf_own ..).symm)), h.rd.impm (fun u v hu q => ⟨q.key, q.ent.offB K (h2 u hu)⟩)⟩
theorem RTab.mono {b0 b1 : Nat} {w : World} {tb : Nat} {delta : Int} {p : Option Addr} {n c : Nat} {L : List Ut} {vs : List Uv} (h : RTab b1 w tb delta p n c L vs) (hb : b0 ≤ b1) : RTab b0 w tb delta p n c L vs := ⟨h.blk, h.len, owns_mono h.row hb, h.rd⟩
theorem RTab.dat {b0 : Nat} {w : World} {tb : Nat} {delta : Int} {p : Option Addr} {n c : Nat} {L : List Ut} {vs : List Uv} (h : RTab b0 w tb delta p n c L vs) {u : Ut} (hu : u ∈ L) {k : Nat} (hk : blockOf u.2.2.2.2.1 = some k) : ∃ cs fr, w.heap[k]? = some (.cells cs 5 fr) := by
  obtain ⟨i, hi, rfl⟩ := List.getElem_of_mem hu
  exact (h.rd.2 i hi (by rw [← h.rd.1]; exact hi)).ent.blk k hk
theorem addF_same_len {vs : List Uv} {k : ByteArray} {g : Int × Int} (h : ¬ plc vs k g 0 < 0) : (addF vs k g).length = vs.length := by
  unfold addF
  rw [if_neg h]
  split
  · rw [List.length_set]
  · rfl
theorem docA_len (d : Int) (vs : List Uv) (u : Upd) (l : List Nat) (one : OneV vs) : (docA d vs u l).2.2.length ≤ vs.length + 1 := by
  unfold docA
  split
  · have p1 : (preW d vs u.key (u.x, u.y) l u.brings).2 = vs ∨ ((preW d vs u.key (u.x, u.y) l u.brings).2.length ≤ vs.length + 1 ∧ ¬ plc (preW d vs u.key (u.x, u.y) l u.brings).2 u.key (u.x, u.y) 0 < 0) := by
      unfold preW
      split
      · obtain ⟨_, a2, a3⟩ := preV_st one (nth (finF u.key vs) d) u.key (u.x, u.y) l
        cases q : (preV (nth (finF u.key vs) d) vs u.key (u.x, u.y) l).1
        · exact .inl (a2 q)
        · refine .inr ⟨preV_len2 _ _ _ _ _, fun z => ?_⟩
          have m := ((a3 q).mem _).2 (.inl rfl)
          have n := plc_none _ _ _ _ z _ m
          have q2 := (isAt_iff u.key (u.x, u.y) (u.key, (u.x, u.y), ((stV vs u.key (u.x, u.y)).map fun s => s.1).getD false, true, l)).2 ⟨rfl, rfl⟩
          rw [q2] at n
          cases n
      · exact .inl rfl
    unfold applyV
    generalize (preW d vs u.key (u.x, u.y) l u.brings).2 = vs1 at p1
    show (finW d vs1 u.key (u.x, u.y) u.final).2.length ≤ _
    have l1 : vs1.length ≤ vs.length + 1 := by
      rcases p1 with z | z
      · rw [z]; exact Nat.le_succ _
      · exact z.1
    have l2 : (addF vs1 u.key (u.x, u.y)).length ≤ vs.length + 1 := by
      rcases p1 with z | z
      · rw [z]; exact addF_len vs u.key (u.x, u.y)
      · rw [addF_same_len z.2]; exact z.1
    unfold finW finV
    split
    · split
      · exact l1
      · show (leftV _ _ _).length ≤ _
        have := List.length_filter_le (fun v : Uv => !decide (v.1 = u.key) || !decide (tc v.2.1 (nth (finF u.key (addF vs1 u.key (u.x, u.y))) d) < 0)) (addF vs1 u.key (u.x, u.y))
        unfold leftV
        omega
    · exact l1
  · exact Nat.le_succ _
/-- A table and a shelf. -/
structure PD where
  t : TK
  D : ByteArray → Int × Int → List Nat
  vs : List Uv
  rb : Nat
  p : Option Addr
  rn : Nat
  rc : Nat
  L : List Ut
  sv : List Uv
def PD.Own (x : PD) (b : Nat) : Prop := b = x.t.tb ∨ x.t.Uses b ∨ b = x.rb ∨ blockOf x.p = some b
structure IsQ (base : Nat) (w : World) (n : Nat) (x : PD) : Prop where
  g : Gst w n x.t x.D x.vs
  r : RTab base w x.rb x.t.delta x.p x.rn x.rc x.L x.sv
  few : x.rn ≤ n
  ok : RowsOk x.vs
  fo : ∀ b, x.Own b → base ≤ b
theorem IsQ.off {U : Nat → Prop} {base : Nat} {w w' : World} {n : Nat} {x : PD} (h : IsQ base w n x) (K : Kept U w w') (h1 : ∀ b, x.Own b → ¬ U b) (h2 : ∀ k cs fr, w.heap[k]? = some (.cells cs 5 fr) → ¬ U k) : IsQ base w' n x := by
  refine ⟨h.g.off K (h1 _ (.inl rfl)) (fun b hb => h1 b (.inr (.inl hb))) (fun k g hd hm b hb => ?_), h.r.off K (h1 _ (.inr (.inr (.inl rfl)))) (fun b hb => h1 b (.inr (.inr (.inr hb)))) (fun u hu b hb => ?_), h.few, h.ok, h.fo⟩
  · obtain ⟨r, hr, q⟩ := TMp_row hm
    obtain ⟨cs, hc⟩ := (h.g.dat k r hr g hd q).2.2 b hb
    exact h2 b cs _ hc
  · obtain ⟨cs, fr, hc⟩ := h.r.dat hu hb
    exact h2 b cs fr hc
theorem IsQ.k0 {base : Nat} {w w' : World} {n : Nat} {x : PD} (h : IsQ base w n x) (K : Kept (fun _ => False) w w') : IsQ base w' n x := h.off K (fun _ _ z => z) (fun _ _ _ _ z => z)
theorem IsQ.lt {base : Nat} {w : World} {n : Nat} {x : PD} (h : IsQ base w n x) {b : Nat} (hb : x.Own b) : b < w.heap.size := by
  rcases hb with z | z | z | z
  · rw [z]; exact block_lt h.g.tab.blk
  · exact h.g.tab.u.lt z
  · rw [z]; exact block_lt h.r.blk
  · exact (own_lt h.r.row b z).2
/-- Apply. -/
theorem IsQ.did {base : Nat} {w w' : World} {n : Nat} {x : PD} (h : IsQ base w n x) {t' : TK} {D' : ByteArray → Int × Int → List Nat} {u : Upd} {l : List Nat} (hb : base ≤ w.heap.size) (m : GMv w w' (n + 1) x.t t' D' (docA x.t.delta x.vs u l).2.2) (hl : l.length = u.n) : IsQ base w' (n + 1) ⟨t', D', (docA x.t.delta x.vs u l).2.2, x.rb, x.p, x.rn, x.rc, x.L, x.sv⟩ ∧ Kept (fun b => base ≤ b) w w' := by
  have nu : ∀ k cs ty fr, (ty ≠ 105 ∧ ty ≠ 31) → w.heap[k]? = some (.cells cs ty fr) → ¬ x.t.Uses k := fun k cs ty fr ht hk => h.g.tab.u.nbU hk ht
  refine ⟨⟨m.st, ?_, by have := h.few; show x.rn ≤ n + 1; omega, ?_, ?_⟩, m.kept.mono (fun b _ z => h.fo b (.inr (.inl z)))⟩
  · show RTab base w' x.rb t'.delta x.p x.rn x.rc x.L x.sv
    rw [m.delta]
    refine h.r.off m.kept (nu _ _ _ _ ⟨by decide, by decide⟩ h.r.blk) (fun k hk => ?_) (fun v hv k hk => ?_)
    · obtain ⟨c, hc⟩ := own_ty h.r.row hk
      exact nu _ _ _ _ ⟨by decide, by decide⟩ hc
    · obtain ⟨cs, fr, hc⟩ := h.r.dat hv hk
      exact nu _ _ _ _ ⟨by decide, by decide⟩ hc
  · show RowsOk (docA x.t.delta x.vs u l).2.2
    unfold docA
    split
    · rename_i may
      have hk : keyB u.key = true ∧ u.n ≤ 65540 := by
        unfold Upd.may at may
        simp only [Bool.and_eq_true, decide_eq_true_eq] at may
        exact ⟨may.1.1.1.1, may.1.2⟩
      exact h.ok.apply h.g.sim.one _ _ _ _ hk.1 (by rw [hl]; exact hk.2)
    · exact h.ok
  · rintro b (z | z | z | z)
    · have z : b = t'.tb := z
      rw [m.tb] at z
      exact h.fo b (.inl z)
    · rcases m.near b z with q | q
      · exact h.fo b (.inr (.inl q))
      · exact Nat.le_trans hb q
    · exact h.fo b (.inr (.inr (.inl z)))
    · exact h.fo b (.inr (.inr (.inr z)))
/-- The shelf goes along. -/
theorem IsQ.went {base : Nat} {w w' : World} {n : Nat} {x : PD} (h : IsQ base w n x) (hb : base ≤ w.heap.size) {vs' : List Uv} (m : RMv base w w' x.rb x.t.delta x.p x.L vs') (hv : vs' = x.vs) (hl : vs'.length ≤ n) : ∃ y : PD, IsQ base w' n y ∧ y.t = x.t ∧ y.D = x.D ∧ y.vs = x.vs ∧ y.sv = x.vs ∧ y.rb = x.rb ∧ Kept (fun b => base ≤ b) w w' := by
  obtain ⟨p', n', c', L', r, h1, h2⟩ := m.tab
  have n5 : ∀ k cs fr, w.heap[k]? = some (.cells cs 5 fr) → ¬ (k = x.rb ∨ blockOf x.p = some k) := by
    rintro k cs fr hc (z | z)
    · have := h.r.blk
      rw [← z, hc] at this
      simp at this
    · obtain ⟨c, q⟩ := own_ty h.r.row z
      rw [hc] at q
      simp at q
  have e1 := r.vlen
  refine ⟨⟨x.t, x.D, x.vs, x.rb, p', n', c', L', x.vs⟩, ⟨h.g.off m.kept ?_ (fun b hb => ?_) (fun k g hd hm b hb => ?_), by rw [← hv]; exact r, by show n' ≤ n; omega, h.ok, ?_⟩, rfl, rfl, rfl, rfl, rfl, m.kept.mono (fun b _ z => ?_)⟩
  · rintro (z | z)
    · have := h.g.tab.blk
      rw [z, h.r.blk] at this
      simp at this
    · obtain ⟨c, q⟩ := own_ty h.r.row z
      have := h.g.tab.blk
      rw [q] at this
      simp at this
  · rintro (z | z)
    · rw [z] at hb
      exact h.g.tab.u.nbU h.r.blk ⟨by decide, by decide⟩ hb
    · obtain ⟨c, q⟩ := own_ty h.r.row z
      exact h.g.tab.u.nbU q ⟨by decide, by decide⟩ hb
  · obtain ⟨r, hr, q⟩ := TMp_row hm
    obtain ⟨cs, hc⟩ := (h.g.dat k r hr g hd q).2.2 b hb
    exact n5 b cs _ hc
  · rintro b (z | z | z | z)
    · exact h.fo b (.inl z)
    · exact h.fo b (.inr (.inl z))
    · exact h.fo b (.inr (.inr (.inl z)))
    · rcases h1 b z with q | q
      · exact h.fo b (.inr (.inr (.inr q)))
      · exact Nat.le_trans hb q
  · rcases z with z | z
    · exact h.fo b (.inr (.inr (.inl z)))
    · exact h.fo b (.inr (.inr (.inr z)))
theorem RL.off {S : Nat → Prop} {b0 : Nat} {w w' : World} {p : Option Addr} {n c : Nat} {L : List Ut} {vs : List Uv} (h : RL b0 w p n c L vs) (K : Kept S w w') (h1 : ∀ k, blockOf p = some k → ¬ S k) (h2 : ∀ k cs fr, w.heap[k]? = some (.cells cs 5 fr) → ¬ S k) : RL b0 w' p n c L vs := ⟨h.len, K.owns h.row (fun k hk => h1 k (by rw [← hk]; exact (blockOf_own ..).symm)), h.rd.imp (fun _ _ q => q.off K h2)⟩
end Go.Proofs.YtojepeefphbekabGreat

namespace Go.Proofs.YtojepeefphbekabGreat
open Go.RowKit 

theorem cAll {base : Nat} {w : World} {n : Nat} {x : PD} (h : IsQ base w n x) (hn : n ≤ 4398046511104) : Calls Tryz.prog 12 #[.pointer (some ⟨x.t.tb, 0, none⟩)] w fun o w' => ∃ p m c avs, o = .returned (.slice p m c) ∧ Hid (AllRd w' p m c avs ∧ HoldsOk x.vs avs ∧ RAlls x.vs avs ∧ Kept (fun _ => False) w w') := by
  refine (tAll n x.t (datS x.t x.D) w h.g.tab h.g.datAll hn).mono ?_
  rintro o w' ⟨p, m, c, avs, rfl, Q⟩
  have ra := all_back h.g.sim Q.out.2.1
  exact ⟨p, m, c, avs, rfl, Q.out.1, ra.holds h.g.sim.one, ra, Q.out.2.2⟩
theorem cHolds {base : Nat} {w : World} {n : Nat} {x : PD} (h : IsQ base w n x) (hn : n ≤ 2199023255552) {p : Option Addr} {m c : Nat} {avs : List Av} (r : AllRd w p m c avs) (ok : HoldsOk x.sv avs) : Calls Tryz.prog 11 #[.pointer (some ⟨x.rb, 0, none⟩), .slice p m c] w fun o w' => o = .returned (.bool true) ∧ Kept (fun _ => False) w w' :=
  sHolds base x.rb x.t.delta x.p x.rn x.rc x.L x.sv p m c avs w h.r (Nat.le_trans h.few hn) r ok
theorem cTop {base : Nat} {w : World} {n : Nat} {x : PD} (h : IsQ base w n x) {key : ByteArray} (hk : key.size ≤ maxLen) : Calls Tryz.prog 13 #[.pointer (some ⟨x.t.tb, 0, none⟩), .string key] w fun o w' => o = .returned (.agg #[.int .i64 (floorT (TS x.t key) 0).1, .int .i64 (floorT (TS x.t key) 0).2]) ∧ Kept (fun _ => False) w w' := by
  refine (tTop n x.t key w h.g.tab hk).mono ?_
  rintro o w' ⟨a, b, rfl, e, K⟩
  rw [e]
  exact ⟨rfl, K⟩
theorem cFloor {base : Nat} {w : World} {n : Nat} {x : PD} (h : IsQ base w n x) {key : ByteArray} (hk : key.size ≤ maxLen) : Calls Tryz.prog 15 #[.pointer (some ⟨x.t.tb, 0, none⟩), .string key] w fun o w' => o = .returned (.agg #[.int .i64 (floorT (TS x.t key) x.t.delta).1, .int .i64 (floorT (TS x.t key) x.t.delta).2]) ∧ Kept (fun _ => False) w w' := by
  refine (tFloor n x.t key w h.g.tab hk).mono ?_
  rintro o w' ⟨a, b, rfl, e, K⟩
  rw [e]
  exact ⟨rfl, K⟩
theorem cTop2 {base : Nat} {w : World} {n : Nat} {x : PD} (h : IsQ base w n x) (e : x.sv = x.vs) (hn : n ≤ 2199023255552) (key : ByteArray) : Calls Tryz.prog 14 #[.pointer (some ⟨x.rb, 0, none⟩), .string key] w fun o w' => o = .returned (.agg #[.int .i64 (floorT (TS x.t key) 0).1, .int .i64 (floorT (TS x.t key) 0).2]) ∧ Kept (fun _ => False) w w' := by
  have := rTopV base x.rb x.t.delta x.p x.rn x.rc x.L x.sv key w h.r (Nat.le_trans h.few hn)
  rw [e, h.g.sim.floor key (d := 0) (by omega)] at this
  exact this
theorem cFloor2 {base : Nat} {w : World} {n : Nat} {x : PD} (h : IsQ base w n x) (e : x.sv = x.vs) (hn : n ≤ 2199023255552) (key : ByteArray) : Calls Tryz.prog 16 #[.pointer (some ⟨x.rb, 0, none⟩), .string key] w fun o w' => o = .returned (.agg #[.int .i64 (floorT (TS x.t key) x.t.delta).1, .int .i64 (floorT (TS x.t key) x.t.delta).2]) ∧ Kept (fun _ => False) w w' := by
  have := rFloorV base x.rb x.t.delta x.p x.rn x.rc x.L x.sv key w h.r (Nat.le_trans h.few hn) h.g.sim.d0
  rw [e, h.g.sim.floor key h.g.sim.d0] at this
  exact this
/-- What 'small' asks. -/
structure SmallOk (x : PD) (key : ByteArray) (es : List Ev) : Prop where
  lo : ∀ v ∈ es, ¬ tc v.1 (nth (finF key x.vs) x.t.delta) < 0
  ct : (cntV es : Int) ≤ x.t.delta + 1
theorem cEnts {base : Nat} {w : World} {n : Nat} {x : PD} (h : IsQ base w n x) (hn : n ≤ 4398046511104) {key : ByteArray} (hk : key.size ≤ maxLen) : Calls Tryz.prog 18 #[.pointer (some ⟨x.t.tb, 0, none⟩), .string key] w fun o w' => ∃ p m c es, o = .returned (.slice p m c) ∧ Hid (EntRd w' p m c es ∧ SmallOk x key es ∧ Kept (fun _ => False) w w') := by
  refine (tEntries n x.t key (datS x.t x.D key) w h.g.tab hk (fun r hr => h.g.datAll key r hr) hn).mono ?_
  rintro o w' ⟨p, cp, L, rfl, ge, srt, ow, K, eo⟩
  obtain ⟨f1, f2⟩ := h.g.sim.few (entsOf (dat := datS x.t x.D key) ge srt)
  exact ⟨p, _, cp, _, rfl, entRd_of ow eo, ⟨f1, f2⟩, K⟩
theorem cSmall {base : Nat} {w : World} {n : Nat} {x : PD} (h : IsQ base w n x) (e : x.sv = x.vs) (hn : n ≤ 2199023255552) (h1 : x.t.delta ≤ 4611686018427387903) {key : ByteArray} {p : Option Addr} {m c : Nat} {es : List Ev} (r : EntRd w p m c es) (so : SmallOk x key es) : Calls Tryz.prog 17 #[.pointer (some ⟨x.rb, 0, none⟩), .string key, .slice p m c] w fun o w' => o = .returned (.bool true) ∧ Kept (fun _ => False) w w' :=
  sSmall base x.rb x.t.delta x.p x.rn x.rc x.L x.sv key p m c es w h.r (Nat.le_trans h.few hn) h.g.sim.d0 h1 r (by rw [e]; exact so.lo) so.ct
/-- Rows as the source of an append. -/
theorem rcells_length (L : List Ut) : (rcells L).length = L.length * 6 := by
  induction L with
  | nil => rfl
  | cons a M ih => rw [rcells_cons, List.length_append, ih, List.length_cons]; show 6 + _ = _; omega
theorem rcells_one (L : List Ut) : ∀ v ∈ rcells L, v.oneCell' = true := by
  intro v hv
  unfold rcells at hv
  obtain ⟨u, _, h⟩ := List.mem_flatMap.1 hv
  simp [encR] at h
  rcases h with rfl | rfl | rfl | rfl | rfl | rfl <;> rfl
theorem RL.src {b0 : Nat} {w : World} {p : Option Addr} {n c : Nat} {L : List Ut} {vs : List Uv} (h : RL b0 w p n c L vs) : Src Tryz.prog 6 27 (.slice p n c) n (rcells L) w := by
  rcases h.row.2 with ⟨z, hn⟩ | ⟨b, cap, cur, z, _⟩
  · have z : Value.slice p n c = .slice none 0 0 := z
    injection z with z1 z2 z3
    subst z1 z2 z3
    have : L = [] := List.length_eq_zero_iff.1 h.len
    rw [this]
    exact Src.ofNil w Tryz.underlying27 0
  · have z : Value.slice p n c = .slice (some ⟨b, 0, none⟩) n cap := z
    injection z with z1 _ z3
    subst z1
    subst z3
    have hc := h.row.cells (g := b) rfl
    exact Src.ofSlice w Tryz.underlying27 ⟨b, 0, none⟩ n c (rcells L) (by rw [rcells_length, h.len]) hc (fun v hv => by have := rcells_one L v hv; exact this)
/-- A copy of the rows. -/
theorem RL.copy {b0 : Nat} {w w9 : World} {p p9 : Option Addr} {n c c9 : Nat} {L : List Ut} {vs : List Uv} (h : RL b0 w p n c L vs) (ho : w9.ownsRow w.heap.size 70 6 (.slice p9 n c9) n (rcells L)) (K : Kept (fun _ => False) w w9) : RL w.heap.size w9 p9 n c9 L vs := ⟨h.len, ho, h.rd.imp (fun _ _ q => q.off K (fun _ _ _ _ z => z))⟩
theorem RL.copyG {b0 : Nat} {w w9 : World} {p p9 : Option Addr} {n c c9 : Nat} {L : List Ut} {vs : List Uv} (h : RL b0 w p n c L vs) (ho : w9.ownsRow w.heap.size 70 6 (.slice p9 (0 + n) c9) (0 + n) ([] ++ rcells L)) (hg : w.grownBy w9 (Value.slice none 0 0).ownBlock) : RL w.heap.size w9 p9 n c9 L vs ∧ Kept (fun _ => False) w w9 := by
  have K := (Kept.refl (fun _ => False) w).grown hg (fun k _ z => by cases z)
  rw [Nat.zero_add, List.nil_append] at ho
  exact ⟨h.copy ho K, K⟩
end Go.Proofs.YtojepeefphbekabGreat

namespace Go.Proofs.YtojepeefphbekabGreat
open Go.RowKit 

def Upd.cs (u : Upd) : Array Value := #[.int .i64 u.kind, .string u.key, .int .i64 u.x, .int .i64 u.y, .bool u.fin, .bool u.has, .slice u.a u.n u.c]
/-- An update that came in. -/
structure UpdOk (w : World) (u : Upd) (l : List Nat) : Prop where
  rd : Reads w u.a u.n u.c l
  few : u.n + 1 ≤ 140737488355328
  key : u.key.size ≤ maxLen
  tag : TFit (u.x, u.y)
/-- A list of updates that came in. -/
structure Ups (w : World) (a : Option Addr) (len cap : Nat) (us : List (Upd × List Nat)) : Prop where
  length : us.length = len
  room : len ≤ cap
  small : cap ≤ maxLen
  cells : 0 < len → ∃ b off, a = some ⟨b, off, none⟩ ∧ ∀ i (h : i < us.length) c v, (us[i].1.cs)[c]? = some v → w.cell? ⟨b, off + i * 7 + c, none⟩ = some v
  ok : ∀ s ∈ us, UpdOk w s.1 s.2
/-- The table and the shelf behind some updates. -/
structure TT (w0 w : World) (n : Nat) (d : Int) (tb sb : Nat) (x : PD) : Prop where
  q : IsQ w0.heap.size w n x
  e : x.sv = x.vs
  tb : x.t.tb = tb
  sb : x.rb = sb
  d : x.t.delta = d
  k : Kept (fun _ => False) w0 w
theorem TT.k0 {w0 w w' : World} {n : Nat} {d : Int} {tb sb : Nat} {x : PD} (h : TT w0 w n d tb sb x) (K : Kept (fun _ => False) w w') : TT w0 w' n d tb sb x := ⟨h.q.k0 K, h.e, h.tb, h.sb, h.d, h.k.and0 K⟩
theorem kept_base {w0 w w' : World} (h : Kept (fun _ => False) w0 w) (K : Kept (fun b => w0.heap.size ≤ b) w w') : Kept (fun _ => False) w0 w' := h.trans K (fun k hk z => by have z : w0.heap.size ≤ k := z; omega)
theorem TT.start {w0 w1 w2 : World} {d : Int} {tb rb : Nat} (h0 : 0 ≤ d) (i : IsT w1 0 ⟨tb, rb, d, fun _ => none⟩) (K : Kept (fun _ => False) w0 w1) (l1 : w0.heap.size ≤ tb) (l2 : w0.heap.size ≤ rb) (e2 : w2 = w1.alloc (.cells #[.int .i64 d, .slice none 0 0] 29)) : TT w0 w2 0 d tb w1.heap.size ⟨⟨tb, rb, d, fun _ => none⟩, fun _ _ => [], [], w1.heap.size, none, 0, 0, [], []⟩ := by
  have K2 : Kept (fun _ => False) w1 w2 := by rw [e2]; exact k0_alloc _ _
  refine ⟨⟨(Gst.new h0 i).k0 K2, ⟨by rw [e2]; exact heap_alloc_new _ _, rfl, ⟨rfl, .inl ⟨rfl, rfl⟩⟩, Along.nil _⟩, Nat.le_refl _, fun v hv => (by cases hv), ?_⟩, rfl, rfl, rfl, rfl, K.and0 K2⟩
  rintro b (z | z | z | z)
  · rw [z]; exact l1
  · rcases z with z | ⟨_, _, z, _⟩
    · rw [z]; exact l2
    · cases z
  · rw [z]; exact K.size
  · cases z
/-- Behind Apply. -/
theorem TT.did {w0 w w' : World} {n : Nat} {d : Int} {tb sb : Nat} {x : PD} (h : TT w0 w n d tb sb x) {t' : TK} {D' : ByteArray → Int × Int → List Nat} {u : Upd} {l : List Nat} (m : GMv w w' (n + 1) x.t t' D' (docA x.t.delta x.vs u l).2.2) (hl : l.length = u.n) : IsQ w0.heap.size w' (n + 1) ⟨t', D', (docA d x.vs u l).2.2, sb, x.p, x.rn, x.rc, x.L, x.vs⟩ ∧ t'.tb = tb ∧ t'.delta = d ∧ Kept (fun _ => False) w0 w' ∧ Kept (fun b => x.t.Uses b) w w' := by
  obtain ⟨q, K⟩ := h.q.did h.k.size m hl
  rw [h.sb, h.e, h.d] at q
  exact ⟨q, m.tb.trans h.tb, m.delta.trans h.d, kept_base h.k K, m.kept⟩
end Go.Proofs.YtojepeefphbekabGreat
