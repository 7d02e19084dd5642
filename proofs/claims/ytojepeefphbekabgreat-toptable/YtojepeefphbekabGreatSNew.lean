import Derived.Test.YtojepeefphbekabGreatSUpsJ
namespace Go.Proofs.YtojepeefphbekabGreat
open Go.RowKit 

theorem UpRd.at {b0 : Nat} {w : World} {p : Option Addr} {n c : Nat} {us : List Uv} (h : UpRd b0 w p n c us) {i : Nat} (hi : i < n) : ∃ b k x y f g l a m cc, p = some ⟨b, 0, none⟩ ∧ us[i]? = some (k, entV x y f g l) ∧ w.cell? ⟨b, i * 7, none⟩ = some (.int .i64 3) ∧ w.cell? ⟨b, i * 7 + 1, none⟩ = some (.string k) ∧ w.cell? ⟨b, i * 7 + 2, none⟩ = some (.int .i64 x) ∧ w.cell? ⟨b, i * 7 + 3, none⟩ = some (.int .i64 y) ∧ w.cell? ⟨b, i * 7 + 4, none⟩ = some (.bool f) ∧ w.cell? ⟨b, i * 7 + 5, none⟩ = some (.bool g) ∧ w.cell? ⟨b, i * 7 + 6, none⟩ = some (.slice a m cc) ∧ Reads w a m cc l := by
  obtain ⟨L, ow, al⟩ := h.row
  have hl : L.length = n := by rw [al.1]; exact h.len
  rcases ow.2 with ⟨_, hn⟩ | ⟨b, cap, cur, z, _⟩
  · omega
  · have z : Value.slice p n c = .slice (some ⟨b, 0, none⟩) n cap := z
    injection z with z1 _ z3
    subst z1
    subst z3
    have hc := ow.cells (g := b) rfl
    have h1 : i < L.length := by omega
    have h2 : i < us.length := by rw [h.len]; exact hi
    obtain ⟨⟨k, ⟨x, y⟩, f, g, a, m, cc⟩, hL⟩ : ∃ e, L[i] = e := ⟨_, rfl⟩
    have q := al.2 i h1 h2
    rw [hL] at q
    have cell : ∀ j v, j < 7 → (encU (k, (x, y), f, g, a, m, cc))[j]? = some v → w.cell? ⟨b, i * 7 + j, none⟩ = some v := fun j v hj hv => by
      have := hc (i * 7 + j) v (by rw [ucells_get L i h1 j hj, hL]; exact hv)
      rw [Addr.add_none, Nat.zero_add] at this
      exact this
    refine ⟨b, k, x, y, f, g, us[i].2.2.2.2, a, m, cc, rfl, ?_, cell 0 _ (by omega) rfl, cell 1 _ (by omega) rfl, cell 2 _ (by omega) rfl, cell 3 _ (by omega) rfl, cell 4 _ (by omega) rfl, cell 5 _ (by omega) rfl, cell 6 _ (by omega) rfl, q.ent.data⟩
    rw [List.getElem?_eq_getElem h2]
    congr 1
    exact Prod.ext q.key.symm (Prod.ext q.ent.tag.symm (Prod.ext q.ent.fin.symm (Prod.ext q.ent.has.symm rfl)))
theorem UpRd.small {b0 : Nat} {w : World} {p : Option Addr} {n c : Nat} {us : List Uv} (h : UpRd b0 w p n c us) : n ≤ c ∧ c ≤ maxLen := by
  obtain ⟨L, ow, al⟩ := h.row
  exact own_room ow
theorem UpRd.off {S : Nat → Prop} {b0 : Nat} {w w' : World} {p : Option Addr} {n c : Nat} {us : List Uv} (h : UpRd b0 w p n c us) (K : Kept S w w') (hn : ∀ k cs ty fr, (ty = 5 ∨ ty = 36) → w.heap[k]? = some (.cells cs ty fr) → ¬ S k) : UpRd b0 w' p n c us := by
  obtain ⟨L, ow, al⟩ := h.row
  refine ⟨h.len, L, K.owns ow (fun k hk => ?_), al.imp (fun a b q => ⟨q.key, q.ent.off K (fun k cs fr hc => hn k cs 5 fr (.inl rfl) hc)⟩)⟩
  obtain ⟨cs, hc⟩ := own_type ow k (by rw [← blockOf_own p n c]; exact hk)
  exact hn k cs 36 _ (.inr rfl) hc
theorem flat_mem {vs : List Uv} {avs : List Av} (e : RAlls vs avs) (v : Uv) : v ∈ flat avs ↔ v ∈ vs := by
  unfold flat
  rw [List.mem_flatMap]
  constructor
  · rintro ⟨a, ha, h2⟩
    obtain ⟨x, hx, rfl⟩ := List.mem_map.1 h2
    exact ((e.ents a ha).mem x).1 hx
  · intro hv
    obtain ⟨a, ha, ea⟩ := List.mem_map.1 ((e.keys.mem v.1).2 ⟨v, hv, rfl⟩)
    exact ⟨a, ha, List.mem_map.2 ⟨v.2, ((e.ents a ha).mem v.2).2 (by rw [ea]; exact hv), by rw [ea]⟩⟩
theorem flat_one {vs : List Uv} {avs : List Av} (one : OneV vs) (e : RAlls vs avs) : OneV (flat avs) := by
  have nd : (flat avs).Nodup := by
    unfold flat List.Nodup
    rw [List.pairwise_flatMap]
    refine ⟨fun v hv => ?_, ?_⟩
    · rw [List.pairwise_map]
      exact (e.ents v hv).up.imp (fun {a b} hab z => by
        have z : a = b := congrArg (fun u : Uv => u.2) z
        rw [z, tc_self] at hab
        exact absurd hab (by decide))
    · have := e.keys.one
      unfold List.Nodup at this
      rw [List.pairwise_map] at this
      refine this.imp (fun {a b} hab x hx y hy z => ?_)
      obtain ⟨_, _, rfl⟩ := List.mem_map.1 hx
      obtain ⟨_, _, rfl⟩ := List.mem_map.1 hy
      exact hab (congrArg (fun u : Uv => u.1) z)
  refine List.Pairwise.imp_of_mem (fun {a b} ha hb hab z => hab ?_) nd
  have ha := (flat_mem e a).1 ha
  have hb := (flat_mem e b).1 hb
  have ha' : (a.1, a.2.1, a.2.2) ∈ vs := ha
  have hb' : (a.1, a.2.1, b.2.2) ∈ vs := by rw [z.1, z.2]; exact hb
  have q1 := (stV_some one _ _ _).2 ha'
  have q2 := (stV_some one _ _ _).2 hb'
  rw [q1] at q2
  exact Prod.ext z.1 (Prod.ext z.2 (Option.some.inj q2))
theorem RAlls.same {vs vs' : List Uv} {avs : List Av} (e : RAlls vs avs) (h : ∀ v, v ∈ vs ↔ v ∈ vs') : RAlls vs' avs := by
  refine ⟨⟨e.keys.one, e.keys.srt, fun k => ?_⟩, fun v hv => ⟨(e.ents v hv).up, fun x => by rw [(e.ents v hv).mem, h]⟩⟩
  rw [e.keys.mem]
  constructor
  · rintro ⟨v, hv, q⟩
    exact ⟨v, (h v).1 hv, q⟩
  · rintro ⟨v, hv, q⟩
    exact ⟨v, (h v).2 hv, q⟩
/-- The new table behind some of the old one's entries. -/
structure NN (w0 w : World) (j : Nat) (d : Int) (tb2 sb : Nat) (X : PD) (F : List Uv) (pu : Option Addr) (mu cu : Nat) : Prop where
  g : ∃ tn Dn, Gst w j tn Dn (F.take j) ∧ tn.tb = tb2 ∧ tn.delta = d ∧ ∀ b, tn.Uses b → w0.heap.size ≤ b
  r : RTab w0.heap.size w sb d X.p X.rn X.rc X.L X.vs
  u : UpRd 0 w pu mu cu F
  k : Kept (fun _ => False) w0 w
theorem NN.k0 {w0 w w' : World} {j : Nat} {d : Int} {tb2 sb : Nat} {X : PD} {F : List Uv} {pu : Option Addr} {mu cu : Nat} (h : NN w0 w j d tb2 sb X F pu mu cu) (K : Kept (fun _ => False) w w') : NN w0 w' j d tb2 sb X F pu mu cu := by
  obtain ⟨tn, Dn, g, r⟩ := h.g
  exact ⟨⟨tn, Dn, g.k0 K, r⟩, h.r.k0 K, h.u.k0 K, h.k.and0 K⟩
/-- What is known of the old table's entries. -/
structure FF (d : Int) (X : PD) (F : List Uv) : Prop where
  sim : Sim X.t X.D X.vs
  ok : RowsOk X.vs
  d : X.t.delta = d
  one : OneV F
  mem : ∀ v, v ∈ F ↔ v ∈ X.vs
theorem FF.row {d : Int} {X : PD} {F : List Uv} (h : FF d X F) {j : Nat} {k : ByteArray} {x y : Int} {f b : Bool} {l : List Nat} (hj : F[j]? = some (k, entV x y f b l)) (a : Option Addr) (c : Nat) : docA d (F.take j) ⟨3, k, x, y, f, b, a, l.length, c⟩ l = (true, 0, F.take (j + 1)) ∧ k.size ≤ maxLen ∧ TFit (x, y) ∧ l.length ≤ 140737488355328 := by
  have hm : (k, (x, y), f, b, l) ∈ F := List.mem_of_getElem? hj
  have hv : (k, (x, y), f, b, l) ∈ X.vs := (h.mem _).1 hm
  have hj2 : F[j]? = some (k, (x, y), f, b, l) := hj
  obtain ⟨o1, o2⟩ := h.ok _ hv
  have o1 : keyB k = true := o1
  have o2 : l.length ≤ 65540 := o2
  have pr : isProper x y = true := h.sim.prop _ hv
  obtain ⟨r1, r2⟩ := h.sim.row hv
  have ks : k.size ≤ 64 := by unfold keyB at o1; rw [decide_eq_true_iff] at o1; omega
  have ft : TFit (x, y) := by
    unfold isProper at pr
    rw [decide_eq_true_iff] at pr
    exact ⟨⟨by show _ ≤ x; omega, by show x < _; omega⟩, ⟨by show _ ≤ y; omega, by show y < _; omega⟩⟩
  refine ⟨?_, by unfold maxLen; omega, ft, by omega⟩
  have may : Upd.may ⟨3, k, x, y, f, b, a, l.length, c⟩ = true := by
    have e2 : isZero x y = false := by unfold isProper at pr; unfold isZero; simp at pr ⊢; omega
    have e4 : decide (l.length ≤ 65540) = true := by rw [decide_eq_true_iff]; omega
    have e5 : Upd.fits ⟨3, k, x, y, f, b, a, l.length, c⟩ = true := by
      show (b || (f && ((l.length : Int) == 0))) = true
      cases b
      · rw [r1.resolve_right (by decide), r2 rfl]
        rfl
      · rfl
    unfold Upd.may
    simp only [o1, e2, pr, e4, e5]
    rfl
  obtain ⟨hjl, hje⟩ := List.getElem?_eq_some_iff.1 hj2
  have on : OneV (F.take j) := h.one.sublist (List.take_sublist _ _)
  have sub : ∀ v ∈ F.take j, v ∈ X.vs := fun v z => (h.mem v).1 (List.mem_of_mem_take z)
  have no : ∀ v ∈ F.take j, isAt k (x, y) v = false := by
    intro v z
    obtain ⟨i, hi, e⟩ := List.getElem_of_mem z
    have hi2 : i < j := by rw [List.length_take] at hi; omega
    have hil : i < F.length := by omega
    rw [List.getElem_take] at e
    have p := List.pairwise_iff_getElem.1 h.one i j hil hjl hi2
    rw [hje, e] at p
    rw [Bool.eq_false_iff]
    intro q
    exact p ((isAt_iff k (x, y) v).1 q)
  obtain ⟨e1, _, _⟩ := apply_new h.sim on sub hv no
  rw [h.d] at e1
  have e3 : docA d (F.take j) ⟨3, k, x, y, f, b, a, l.length, c⟩ l = ((applyV d (F.take j) k (x, y) l b f).1, 0, (applyV d (F.take j) k (x, y) l b f).2) := by
    unfold docA
    rw [if_pos may]
    have eb : Upd.brings ⟨3, k, x, y, f, b, a, l.length, c⟩ = b := by show (decide ((3 : Int) = 1) || b) = b; simp
    have ef : Upd.final ⟨3, k, x, y, f, b, a, l.length, c⟩ = f := by show (decide ((3 : Int) = 2) || f) = f; simp
    rw [eb, ef]
  rw [e3, e1]
  refine Prod.ext rfl (Prod.ext rfl ?_)
  show F.take j ++ [(k, (x, y), f, b, l)] = F.take (j + 1)
  rw [List.take_add_one, hj2]
  rfl
/-- One entry more. -/
theorem NN.step {w0 w w' : World} {j : Nat} {d : Int} {tb2 sb : Nat} {X : PD} {F : List Uv} {pu : Option Addr} {mu cu : Nat} (h : NN w0 w j d tb2 sb X F pu mu cu) {tn tn' : TK} {Dn Dn' : ByteArray → Int × Int → List Nat} (g : Gst w j tn Dn (F.take j)) (e1 : tn.tb = tb2) (e2 : tn.delta = d) (lo : ∀ b, tn.Uses b → w0.heap.size ≤ b) (m : GMv w w' (j + 1) tn tn' Dn' (F.take (j + 1))) : NN w0 w' (j + 1) d tb2 sb X F pu mu cu := by
  have nu : ∀ k cs ty fr, (ty ≠ 105 ∧ ty ≠ 31) → w.heap[k]? = some (.cells cs ty fr) → ¬ tn.Uses k := fun k cs ty fr ht hk => g.tab.u.nbU hk ht
  refine ⟨⟨tn', Dn', m.st, m.tb.trans e1, m.delta.trans e2, fun b hb => ?_⟩, ?_, ?_, ?_⟩
  · rcases m.near b hb with z | z
    · exact lo b z
    · exact Nat.le_trans h.k.size z
  · refine h.r.off m.kept (nu _ _ _ _ ⟨by decide, by decide⟩ h.r.blk) (fun k hk => ?_) (fun v hv k hk => ?_)
    · obtain ⟨c, hc⟩ := own_ty h.r.row hk
      exact nu _ _ _ _ ⟨by decide, by decide⟩ hc
    · obtain ⟨cs, fr, hc⟩ := h.r.dat hv hk
      exact nu _ _ _ _ ⟨by decide, by decide⟩ hc
  · refine h.u.off m.kept (fun k cs ty fr ht hk => nu k cs ty fr ?_ hk)
    rcases ht with rfl | rfl
    · exact ⟨by decide, by decide⟩
    · exact ⟨by decide, by decide⟩
  · exact h.k.trans m.kept (fun k hk z => by have := lo k z; omega)
end Go.Proofs.YtojepeefphbekabGreat
