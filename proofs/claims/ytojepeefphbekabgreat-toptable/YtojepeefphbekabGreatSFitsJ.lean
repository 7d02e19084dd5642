import Derived.Test.YtojepeefphbekabGreatPSim2
import Derived.Test.YtojepeefphbekabGreatPCopyTJ
import Derived.Test.YtojepeefphbekabGreatPUpdsT
import Derived.Test.YtojepeefphbekabGreatAppl
import Derived.Test.YtojepeefphbekabGreatSFin
namespace Go.Proofs.YtojepeefphbekabGreat
open Go.RowKit 

theorem DatB.offB {U : Nat → Prop} {w w' : World} {M : Int × Int → Option Hd} (h : DatB w M) (K : Kept U w w') (hu : ∀ t hd, M t = some hd → ∀ b, blockOf hd.a = some b → ¬ U b) : DatB w' M := fun t k hk => by
  obtain ⟨⟨l, r⟩, h2, h3⟩ := h t k hk
  refine ⟨⟨l, r.kept K (fun q hq => hu t k hk q.block (by rw [hq]; rfl))⟩, h2, fun b hb => ?_⟩
  obtain ⟨cs, hc⟩ := h3 b hb
  exact ⟨cs, K.get hc (hu t k hk b hb)⟩
theorem DatH.offB {U : Nat → Prop} {w w' : World} {M : Int × Int → Option Hd} {D : Int × Int → List Nat} (h : DatH w M D) (K : Kept U w w') (hu : ∀ t hd, M t = some hd → ∀ b, blockOf hd.a = some b → ¬ U b) : DatH w' M D := fun t k hk => (h t k hk).kept K (fun q hq => hu t k hk q.block (by rw [hq]; rfl))
/-- A table of the program that holds the same avs these rows. -/
structure Gst (w : World) (n : Nat) (t : TK) (D : ByteArray → Int × Int → List Nat) (vs : List Uv) : Prop where
  tab : IsT w n t
  dat : DatT w t
  dd : DatD w t D
  len : ∀ k r, t.R k = some r → r.len ≤ n
  sim : Sim t D vs
theorem Gst.off {U : Nat → Prop} {w w' : World} {n : Nat} {t : TK} {D : ByteArray → Int × Int → List Nat} {vs : List Uv} (h : Gst w n t D vs) (K : Kept U w w') (h0 : ¬ U t.tb) (h1 : ∀ b, t.Uses b → ¬ U b) (hu : ∀ k g hd, TMp t k g = some hd → ∀ b, blockOf hd.a = some b → ¬ U b) : Gst w' n t D vs :=
  ⟨(h.tab.u.off K h0 h1).t h.tab.len, fun k r hr => (h.dat k r hr).offB K (fun g hd hg => hu k g hd (by rw [TMp_at hr]; exact hg)), fun k r hr => (h.dd k r hr).offB K (fun g hd hg => hu k g hd (by rw [TMp_at hr]; exact hg)), h.len, h.sim⟩
theorem Gst.k0 {w w' : World} {n : Nat} {t : TK} {D : ByteArray → Int × Int → List Nat} {vs : List Uv} (h : Gst w n t D vs) (K : Kept (fun _ => False) w w') : Gst w' n t D vs := h.off K (fun z => z) (fun _ _ z => z) (fun _ _ _ _ _ _ z => z)
theorem IsT.mono {w : World} {n n' : Nat} {t : TK} (h : IsT w n t) (hn : n ≤ n') : IsT w n' t := (h.u.mono hn hn).t h.len
theorem Gst.mono {w : World} {n n' : Nat} {t : TK} {D : ByteArray → Int × Int → List Nat} {vs : List Uv} (h : Gst w n t D vs) (hn : n ≤ n') : Gst w n' t D vs := ⟨h.tab.mono hn, h.dat, h.dd, fun k r hr => Nat.le_trans (h.len k r hr) hn, h.sim⟩
theorem Gst.new {w' : World} {d : Int} {tb rb : Nat} (h0 : 0 ≤ d) (i : IsT w' 0 ⟨tb, rb, d, fun _ => none⟩) : Gst w' 0 ⟨tb, rb, d, fun _ => none⟩ (fun _ _ => []) [] := ⟨i, fun _ _ h => (by cases h), fun _ _ h => (by cases h), fun _ _ h => (by cases h), Sim.nil h0 _⟩
theorem TMp_row {t : TK} {k : ByteArray} {g : Int × Int} {hd : Hd} (h : TMp t k g = some hd) : ∃ r, t.R k = some r ∧ r.M g = some hd := by
  cases hr : t.R k with
  | none => rw [TMp_no hr] at h; cases h
  | some r => rw [TMp_at hr] at h; exact ⟨r, rfl, h⟩
/-- A fragment's block is one of the memory there is. -/
theorem Gst.datlt {w : World} {n : Nat} {t : TK} {D : ByteArray → Int × Int → List Nat} {vs : List Uv} (h : Gst w n t D vs) {k : ByteArray} {g : Int × Int} {hd : Hd} (hm : TMp t k g = some hd) {b : Nat} (hb : blockOf hd.a = some b) : b < w.heap.size := by
  obtain ⟨r, hr, h1⟩ := TMp_row hm
  obtain ⟨cs, hc⟩ := (h.dat k r hr g hd h1).2.2 b hb
  exact block_lt hc
/-- What the document says of Apply. -/
def docA (d : Int) (vs : List Uv) (u : Upd) (l : List Nat) : Bool × Int × List Uv := if u.may = true then ((applyV d vs u.key (u.x, u.y) l u.brings u.final).1, 0, (applyV d vs u.key (u.x, u.y) l u.brings u.final).2) else (false, 1, vs)
theorem Sim.docs {t : TK} {D : ByteArray → Int × Int → List Nat} {vs : List Uv} (h : Sim t D vs) (u : Upd) (l : List Nat) : (wouldV t u).1 = (docA t.delta vs u l).1 ∧ (wouldV t u).2 = (docA t.delta vs u l).2.1 := by
  by_cases hm : u.may = true
  · have := (h.step hm l).1
    unfold docA
    rw [if_pos hm]
    refine ⟨this.symm, ?_⟩
    unfold wouldV
    rw [if_pos hm]
  · unfold docA wouldV
    rw [if_neg hm, if_neg hm]
    exact ⟨rfl, rfl⟩
/-- What became of a table. -/
structure GMv (w w' : World) (n : Nat) (t t' : TK) (D' : ByteArray → Int × Int → List Nat) (vs' : List Uv) : Prop where
  st : Gst w' n t' D' vs'
  tb : t'.tb = t.tb
  delta : t'.delta = t.delta
  kept : Kept t.Uses w w'
  near : ∀ k, t'.Uses k → t.Uses k ∨ w.heap.size ≤ k
  fresh : ∀ k g h, TMp t' k g = some h → ∀ b, blockOf h.a = some b → (∃ k0 g0 h0, TMp t k0 g0 = some h0 ∧ blockOf h0.a = some b) ∨ w.heap.size ≤ b
theorem gApply {w : World} {n : Nat} {t : TK} {D : ByteArray → Int × Int → List Nat} {vs : List Uv} (h : Gst w n t D vs) (u : Upd) (l : List Nat) (rd : Reads w u.a u.n u.c l) (hk : u.key.size ≤ maxLen) (ft : TFit (u.x, u.y)) (hn : u.n ≤ 140737488355328) (hl : n < 2199023255552) :
    Calls Tryz.prog 7 #[.pointer (some ⟨t.tb, 0, none⟩), u.val] w fun o w' => o = .returned (.tuple #[.bool (docA t.delta vs u l).1, .int .i64 (docA t.delta vs u l).2.1]) ∧ ∃ t' D', GMv w w' (n + 1) t t' D' (docA t.delta vs u l).2.2 := by
  refine (apply n n t u l w h.tab h.dat h.len (by omega) hk ft rd hn (by unfold maxLen; omega)).mono ?_
  rintro o w' ⟨rfl, t', ap, i'⟩
  obtain ⟨e1, e2⟩ := h.sim.docs u l
  have nh : ∀ k g hd, TMp t k g = some hd → (k = u.key ∧ g = (u.x, u.y)) ∧ (lackF (TS t u.key) (TMp t u.key) u t.delta).1 = true → hd.has = false := by
    rintro k g hd q ⟨⟨rfl, rfl⟩, e5⟩
    unfold lackF at e5
    rw [q] at e5
    split at e5
    · cases e5
    · have e5 : (u.brings && !hd.has) = true := e5
      cases q2 : hd.has
      · rfl
      · rw [q2] at e5
        simp at e5
  obtain ⟨D', hD'⟩ : ∃ D', D' = newD D u.key (u.x, u.y) (lackF (TS t u.key) (TMp t u.key) u t.delta).1 l := ⟨_, rfl⟩
  have eq : ∀ k g hd, TMp t k g = some hd → (if hd.has = true then D' k g else []) = (if hd.has = true then D k g else []) := by
    intro k g hd q
    by_cases e : (k = u.key ∧ g = (u.x, u.y)) ∧ (lackF (TS t u.key) (TMp t u.key) u t.delta).1 = true
    · rw [nh k g hd q e]
      rfl
    · have e6 : D' k g = D k g := by rw [hD']; exact if_neg e
      rw [e6]
  have dd' : DatD w' t' D' := by
    refine ap.dd D' (fun k r hr g hd hg => ?_) (fun z => ?_)
    · rw [eq k g hd (by rw [TMp_at hr]; exact hg)]
      exact h.dd k r hr g hd hg
    · have e6 : D' u.key (u.x, u.y) = l := by rw [hD']; exact if_pos ⟨⟨rfl, rfl⟩, z⟩
      rw [e6]
      exact rd
  refine ⟨by rw [e1, e2], t', D', ⟨i', ap.dat, dd', ap.len, ?_⟩, ap.tb, ap.delta, ap.kept, ap.near, ap.fresh⟩
  by_cases hm : u.may = true
  · have := (h.sim.step hm l).2 w w' n t' ap
    unfold docA
    rw [if_pos hm, hD']
    exact this
  · have wn : (wouldV t u).1 = false := by unfold wouldV; rw [if_neg hm]
    rw [ap.no wn]
    have e3 : (docA t.delta vs u l).2.2 = vs := by unfold docA; rw [if_neg hm]
    rw [e3]
    refine ⟨h.sim.d0, h.sim.inv, h.sim.one, h.sim.rows, fun k g => ?_, h.sim.prop⟩
    rw [h.sim.st k g]
    cases q : TMp t k g with
    | none => rfl
    | some hd =>
      show some (hd.fin, hd.has, if hd.has = true then D k g else []) = some (hd.fin, hd.has, if hd.has = true then D' k g else [])
      rw [eq k g hd q]
theorem gWould {w : World} {n : Nat} {t : TK} {D : ByteArray → Int × Int → List Nat} {vs : List Uv} (h : Gst w n t D vs) (u : Upd) (l : List Nat) (hk : u.key.size ≤ maxLen) (ft : TFit (u.x, u.y)) :
    Calls Tryz.prog 6 #[.pointer (some ⟨t.tb, 0, none⟩), u.val] w fun o w' => o = .returned (.tuple #[.bool (docA t.delta vs u l).1, .int .i64 (docA t.delta vs u l).2.1]) ∧ Kept (fun _ => False) w w' := by
  refine (would n t u w h.tab hk ft).mono ?_
  rintro o w' ⟨rfl, K⟩
  obtain ⟨e1, e2⟩ := h.sim.docs u l
  exact ⟨by rw [e1, e2], K⟩
/-- What a table tells of a tag. -/
def datS (t : TK) (D : ByteArray → Int × Int → List Nat) (k : ByteArray) (g : Int × Int) : List Nat := if ((TMp t k g).getD Hd.zero).has = true then D k g else []
theorem Gst.datAll {w : World} {n : Nat} {t : TK} {D : ByteArray → Int × Int → List Nat} {vs : List Uv} (h : Gst w n t D vs) : DatAll w t (datS t D) := fun k r hr g hd hm => by
  have q : TMp t k g = some hd := by rw [TMp_at hr]; exact hm
  have e : datS t D k g = if hd.has = true then D k g else [] := by unfold datS; rw [q]; rfl
  rw [e]
  exact ⟨h.dd k r hr g hd hm, (h.dat k r hr g hd hm).2.1⟩
theorem Sim.ab {t : TK} {D : ByteArray → Int × Int → List Nat} {vs : List Uv} (h : Sim t D vs) (k : ByteArray) (g : Int × Int) : stV vs k g = Ab t (datS t D) k g := by
  rw [h.st k g]
  unfold Ab datS
  cases TMp t k g with
  | none => rfl
  | some hd => rfl
/-- What the document's table tells of a key. -/
structure REnts (vs : List Uv) (key : ByteArray) (es : List Ev) : Prop where
  up : es.Pairwise fun x y => tc x.1 y.1 < 0
  mem : ∀ v : Ev, v ∈ es ↔ (key, v) ∈ vs
structure RKeys (vs : List Uv) (ks : List ByteArray) : Prop where
  one : ks.Nodup
  srt : SortedS ks
  mem : ∀ k, k ∈ ks ↔ ∃ v ∈ vs, v.1 = k
structure RAlls (vs : List Uv) (avs : List Av) : Prop where
  keys : RKeys vs (avs.map fun v => v.1)
  ents : ∀ v ∈ avs, REnts vs v.1 v.2
theorem REnts.of {t : TK} {D : ByteArray → Int × Int → List Nat} {vs : List Uv} (h : Sim t D vs) {key : ByteArray} {es : List Ev} (e : REnts vs key es) : EntsOf (TMp t key) (datS t D key) es := by
  refine ⟨e.up, fun v => ?_⟩
  obtain ⟨g, f, b, l⟩ := v
  rw [e.mem, ← stV_some h.one, h.ab]
  unfold Ab
  cases TMp t key g with
  | none =>
    constructor
    · intro z; cases z
    · rintro ⟨_, z, _⟩; cases z
  | some hd =>
    constructor
    · intro z
      have z := Option.some.inj z
      exact ⟨hd, rfl, (congrArg Prod.fst z).symm, (congrArg (fun x => x.2.1) z).symm, (congrArg (fun x => x.2.2) z).symm⟩
    · rintro ⟨x, z, q1, q2, q3⟩
      cases z
      have q1 : f = hd.fin := q1
      have q2 : b = hd.has := q2
      have q3 : l = datS t D key g := q3
      rw [q1, q2, q3]
      rfl
theorem RKeys.of {t : TK} {D : ByteArray → Int × Int → List Nat} {vs : List Uv} (h : Sim t D vs) {ks : List ByteArray} (e : RKeys vs ks) : KE t.rv (fun _ => False) ks := by
  have key : ∀ k, t.rv k ≠ none ↔ k ∈ ks := by
    intro k
    rw [e.mem]
    constructor
    · intro z
      cases hr : t.R k with
      | none => exact absurd (rv_none.2 hr) z
      | some r =>
        obtain ⟨g, hd, hm⟩ := h.rows k r hr
        have q := h.st k g
        rw [TMp_at hr, hm] at q
        have q := (stV_some h.one _ _ _).1 q
        exact ⟨_, q, rfl⟩
    · rintro ⟨v, hv, rfl⟩ z
      have hv' : (v.1, v.2.1, v.2.2) ∈ vs := hv
      rw [← stV_some h.one, h.st, TMp_no (rv_none.1 z)] at hv'
      cases hv'
  exact ⟨fun k hk => .inr ((key k).1 hk), fun k hk => ⟨fun z => z, (key k).2 hk⟩, e.one⟩
theorem RAlls.of {t : TK} {D : ByteArray → Int × Int → List Nat} {vs : List Uv} (h : Sim t D vs) {avs : List Av} (e : RAlls vs avs) : AllOf t (datS t D) avs := ⟨RKeys.of h e.keys, e.keys.srt, fun v hv => (e.ents v hv).of h⟩
theorem ke_one {V : ByteArray → Option RV} {L M : List ByteArray} (h : KE V (fun _ => False) L) (s : SortedS L) (h' : KE V (fun _ => False) M) (s' : SortedS M) : L = M := by
  refine pairwise_one strict_asym _ _ (sorted_strict s h.one) (sorted_strict s' h'.one) (fun k => ?_)
  constructor
  · intro z
    exact (h'.all k (h.each k z).2).resolve_left (fun z => z)
  · intro z
    exact (h.all k (h'.each k z).2).resolve_left (fun z => z)
theorem flat_len (vs : List Uv) {avs : List Av} (e : RAlls vs avs) : (flat avs).length ≤ vs.length := by
  have mem : ∀ u ∈ flat avs, u ∈ vs := by
    intro u hu
    unfold flat at hu
    obtain ⟨v, hv, h2⟩ := List.mem_flatMap.1 hu
    obtain ⟨x, hx, rfl⟩ := List.mem_map.1 h2
    exact ((e.ents v hv).mem x).1 hx
  have nd : (flat avs).Nodup := by
    unfold flat List.Nodup
    rw [List.pairwise_flatMap]
    refine ⟨fun v hv => ?_, ?_⟩
    · rw [List.pairwise_map]
      exact (e.ents v hv).up.imp (fun {a b} hab z => by
        have z : a = b := congrArg (fun u : Uv => u.2) z
        rw [z, tc_self] at hab
        exact absurd hab (by decide))
    · have := e.keys.one
      unfold List.Nodup at this
      rw [List.pairwise_map] at this
      refine this.imp (fun {a b} hab x hx y hy z => ?_)
      obtain ⟨_, _, rfl⟩ := List.mem_map.1 hx
      obtain ⟨_, _, rfl⟩ := List.mem_map.1 hy
      exact hab (congrArg (fun u : Uv => u.1) z)
  exact nodup_leG _ _ nd mem
end Go.Proofs.YtojepeefphbekabGreat

namespace Go.Proofs.YtojepeefphbekabGreat
open Go.RowKit 

set_option maxRecDepth 100000 in
set_option maxHeartbeats 4000000 in
/-- tagFits. -/
theorem sTagFits (x y : Int) (w : World) : Calls Tryz.prog 24 #[.agg #[.int .i64 x, .int .i64 y], .bool false] w fun o w' => o = .returned (.bool (isProper x y)) ∧ Kept (fun _ => False) w w' := by
  obtain ⟨W, hW⟩ : ∃ W, W = w.alloc (.cells #[.int .i64 x, .int .i64 y] 31) := ⟨_, rfl⟩
  have H : Hid (W.heap[w.heap.size]? = some (.cells #[.int .i64 x, .int .i64 y] 31 (0, 0)) ∧ Kept (fun _ => False) w W) := by
    rw [hW]
    exact ⟨heap_alloc_new _ _, k0_alloc _ _⟩
  have EW : Hid (W = w.alloc (.cells #[.int .i64 x, .int .i64 y] 31)) := hW
  clear hW
  go_enter Tryz.func24, Tryz.ntmps24
  go_upto_region 1 with fail
  rw [← EW.out]
  have t0 := cell_blk H.out.1 0 (v := .int .i64 x) rfl
  have t1 := cell_blk H.out.1 1 (v := .int .i64 y) rfl
  by_cases hz : x = 0 ∧ y = 0
  · obtain ⟨rfl, rfl⟩ := hz
    go_wp2_with fail
    go_ret
    exact ⟨rfl, H.out.2⟩
  · by_cases hx : x = 0
    · subst hx
      have hy : ¬ y = 0 := fun q => hz ⟨rfl, q⟩
      have E : isProper 0 y = false := by unfold isProper; simp
      go_wp2_with fail
      go_ret
      exact ⟨by first | rfl | (rw [E]; rfl) | (rw [E]), H.out.2⟩
    · by_cases h2 : 1 ≤ x
      · by_cases h3 : x ≤ 4611686018427387903
        · by_cases h4 : 1 ≤ y
          · by_cases h5 : y ≤ 65535
            · have E : isProper x y = true := by unfold isProper; simp; omega
              go_wp2_with fail
              go_ret
              exact ⟨by first | rfl | (rw [E]; rfl) | (rw [E]), H.out.2⟩
            · have E : isProper x y = false := by unfold isProper; simp; omega
              go_wp2_with fail
              go_ret
              exact ⟨by first | rfl | (rw [E]; rfl) | (rw [E]), H.out.2⟩
          · have E : isProper x y = false := by unfold isProper; simp; omega
            go_wp2_with fail
            go_ret
            exact ⟨by first | rfl | (rw [E]; rfl) | (rw [E]), H.out.2⟩
        · have E : isProper x y = false := by unfold isProper; simp; omega
          go_wp2_with fail
          go_ret
          exact ⟨by first | rfl | (rw [E]; rfl) | (rw [E]), H.out.2⟩
      · have E : isProper x y = false := by unfold isProper; simp; omega
        go_wp2_with fail
        go_ret
        exact ⟨by first | rfl | (rw [E]; rfl) | (rw [E]), H.out.2⟩
set_option maxRecDepth 100000 in
set_option maxHeartbeats 4000000 in
/-- updateFits. -/
theorem sUpdFits (kd : Int) (key : ByteArray) (x y : Int) (fin has : Bool) (a : Option Addr) (n c : Nat) (w : World) : Calls Tryz.prog 8 #[.agg #[.int .i64 kd, .string key, .int .i64 x, .int .i64 y, .bool fin, .bool has, .slice a n c]] w fun o w' => o = .returned (.bool (Upd.may ⟨kd, key, x, y, fin, has, a, n, c⟩)) ∧ Kept (fun _ => False) w w' := by
  obtain ⟨W, hW⟩ : ∃ W, W = w.alloc (.cells #[.int .i64 kd, .string key, .int .i64 x, .int .i64 y, .bool fin, .bool has, .slice a n c] 36) := ⟨_, rfl⟩
  have H : Hid (W.heap[w.heap.size]? = some (.cells #[.int .i64 kd, .string key, .int .i64 x, .int .i64 y, .bool fin, .bool has, .slice a n c] 36 (0, 0)) ∧ Kept (fun _ => False) w W) := by
    rw [hW]
    exact ⟨heap_alloc_new _ _, k0_alloc _ _⟩
  have EW : Hid (W = w.alloc (.cells #[.int .i64 kd, .string key, .int .i64 x, .int .i64 y, .bool fin, .bool has, .slice a n c] 36)) := hW
  obtain ⟨pr, hpr⟩ : ∃ pr, pr = isProper x y := ⟨_, rfl⟩
  have RT : Hid (∀ V, Calls Tryz.prog 24 #[.agg #[.int .i64 x, .int .i64 y], .bool false] V fun o w' => o = .returned (.bool pr) ∧ Kept (fun _ => False) V w') := by rw [hpr]; exact fun V => sTagFits x y V
  have HP : Hid (pr = isProper x y) := hpr
  clear hW hpr
  go_enter Tryz.func8, Tryz.ntmps8
  go_upto_region 1 with fail
  rw [← EW.out]
  have g0 := cell_blk H.out.1 0 (v := .int .i64 kd) rfl
  have g1 := cell_blk H.out.1 1 (v := .string key) rfl
  have g2 := cell_blk H.out.1 2 (v := .int .i64 x) rfl
  have g3 := cell_blk H.out.1 3 (v := .int .i64 y) rfl
  have g4 := cell_blk H.out.1 4 (v := .bool fin) rfl
  have g5 := cell_blk H.out.1 5 (v := .bool has) rfl
  have g6 := cell_blk H.out.1 6 (v := .slice a n c) rfl
  by_cases h0 : (key.size : Int) < 1
  · have E : Upd.may ⟨kd, key, x, y, fin, has, a, n, c⟩ = false := by
      unfold Upd.may keyB; simp; omega
    go_wp2_with fail
    go_ret
    exact ⟨by first | rfl | (rw [E]; rfl) | (rw [E]), H.out.2⟩
  · have n0 : ¬ ((key.size : Int) < 1) := h0
    by_cases h1 : (64 : Int) < (key.size : Int)
    · have E : Upd.may ⟨kd, key, x, y, fin, has, a, n, c⟩ = false := by
        unfold Upd.may keyB; simp; omega
      go_wp2_with fail
      go_ret
      exact ⟨by first | rfl | (rw [E]; rfl) | (rw [E]), H.out.2⟩
    · have n1 : ¬ ((64 : Int) < (key.size : Int)) := h1
      go_wp2_with fail
      refine (RT.out W).mono ?_
      rintro o w2 ⟨rfl, K2⟩
      have G : Hid (Kept (fun _ => False) w w2) := H.out.2.and0 K2
      replace g0 := K2.cell g0 (fun z => z)
      replace g4 := K2.cell g4 (fun z => z)
      replace g5 := K2.cell g5 (fun z => z)
      replace g6 := K2.cell g6 (fun z => z)
      clear K2 g1 g2 g3
      cases pr
      · have E : Upd.may ⟨kd, key, x, y, fin, has, a, n, c⟩ = false := by
          have q := HP.out
          unfold Upd.may
          cases hz : isZero x y
          · rw [← q]; simp
          · simp
        go_wp2_with fail
        go_ret
        exact ⟨by first | rfl | (rw [E]; rfl) | (rw [E]), G.out⟩
      · by_cases h6 : (65540 : Int) < (n : Int)
        · have E : Upd.may ⟨kd, key, x, y, fin, has, a, n, c⟩ = false := by
            unfold Upd.may; simp; omega
          go_wp2_with fail
          go_ret
          exact ⟨by first | rfl | (rw [E]; rfl) | (rw [E]), G.out⟩
        · have n6 : ¬ ((65540 : Int) < (n : Int)) := h6
          have E0 : Upd.may ⟨kd, key, x, y, fin, has, a, n, c⟩ = Upd.fits ⟨kd, key, x, y, fin, has, a, n, c⟩ := by
            have e1 : keyB key = true := by unfold keyB; rw [decide_eq_true_iff]; omega
            have e3 : isProper x y = true := HP.out.symm
            have e2 : isZero x y = false := by unfold isProper at e3; unfold isZero; simp at e3 ⊢; omega
            have e4 : decide (n ≤ 65540) = true := by rw [decide_eq_true_iff]; omega
            unfold Upd.may
            simp only [e1, e2, e3, e4]
            simp
          by_cases k1 : kd = 1
          · subst k1
            cases fin <;> cases has <;> (go_wp2_with fail; go_ret; exact ⟨by first | rfl | (rw [E0]; rfl), G.out⟩)
          · by_cases k2 : kd = 2
            · subst k2
              by_cases kz : (n : Int) = 0
              · have kz' : ((n : Int) == 0) = true := by simpa using kz
                cases fin <;> cases has <;> (go_wp2_with fail; go_ret; exact ⟨by (try rw [E0]); show Ending.returned (Value.bool _) = Ending.returned (Value.bool _); unfold Upd.fits; simp [kz'], G.out⟩)
              · have kz' : ((n : Int) == 0) = false := by simpa using kz
                cases fin <;> cases has <;> (go_wp2_with fail; go_ret; exact ⟨by (try rw [E0]); show Ending.returned (Value.bool _) = Ending.returned (Value.bool _); unfold Upd.fits; simp [kz'], G.out⟩)
            · by_cases k3 : kd = 3
              · subst k3
                by_cases kz : (n : Int) = 0
                · have kz' : ((n : Int) == 0) = true := by simpa using kz
                  cases fin <;> cases has <;> (go_wp2_with fail; go_ret; exact ⟨by (try rw [E0]); show Ending.returned (Value.bool _) = Ending.returned (Value.bool _); unfold Upd.fits; simp [kz'], G.out⟩)
                · have kz' : ((n : Int) == 0) = false := by simpa using kz
                  cases fin <;> cases has <;> (go_wp2_with fail; go_ret; exact ⟨by (try rw [E0]); show Ending.returned (Value.bool _) = Ending.returned (Value.bool _); unfold Upd.fits; simp [kz'], G.out⟩)
              · go_wp2_with fail
                go_ret
                exact ⟨by (try rw [E0]); show Ending.returned (Value.bool _) = Ending.returned (Value.bool _); unfold Upd.fits; simp [k1, k2, k3], G.out⟩
end Go.Proofs.YtojepeefphbekabGreat
