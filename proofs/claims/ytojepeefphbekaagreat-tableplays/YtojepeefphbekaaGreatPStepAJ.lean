import Derived.Test.YtojepeefphbekaaGreatPDoesJ
import Derived.Test.YtojepeefphbekaaGreatPPlaysJ
import Derived.Test.YtojepeefphbekaaGreatPWouldRJ
import Derived.Test.YtojepeefphbekaaGreatPEntsR
import Derived.Test.YtojepeefphbekaaGreatPKeysR
import Derived.Test.YtojepeefphbekaaGreatPFragRJ
import Derived.Test.YtojepeefphbekaaGreatFragJ
import Derived.Test.YtojepeefphbekaaGreatDoneJ
namespace Go.Proofs.YtojepeefphbekaaGreat
open Go.RowKit 

theorem IsRow.nbU {w : World} {n : Nat} {r : RK} (h : IsRow w n r) {k : Nat} {cs : Array Value} {ty : TypeId} {fr : Nat × Nat} (hk : w.heap[k]? = some (.cells cs ty fr)) (ht : ty ≠ 142 ∧ ty ≠ 37) : ¬ r.Uses k := by
  rintro (z | z | z)
  · obtain ⟨D, ⟨es, clock, hb, _⟩, _⟩ := h.tm
    rw [← z, hk] at hb
    cases hb
  · have hb := h.st.blk
    rw [← z, hk] at hb
    have := Option.some.inj hb
    injection this with _ e
    exact ht.1 e
  · rcases h.st.row.pos with ⟨e1, _⟩ | ⟨g, off, cur, e1, h1, _⟩
    · rw [e1] at z
      cases z
    · rw [e1] at z
      have z : g = k := Option.some.inj z
      rw [z, hk] at h1
      have := Option.some.inj h1
      injection this with _ e
      exact ht.2 e
theorem IsU.nbU {w : World} {m n : Nat} {t : TK} (h : IsU w m n t) {k : Nat} {cs : Array Value} {ty : TypeId} {fr : Nat × Nat} (hk : w.heap[k]? = some (.cells cs ty fr)) (ht : ty ≠ 142 ∧ ty ≠ 37) : ¬ t.Uses k := by
  rintro (e | ⟨j, r, hr, hu⟩)
  · obtain ⟨D, ⟨es, clock, hb, _⟩, _⟩ := h.rows
    rw [← e, hk] at hb
    cases hb
  · exact (h.row j r hr).nbU hk ht hu
theorem EvRd.offB {S : Nat → Prop} {w w' : World} {e : Et} {v : Ev} (h : EvRd w e v) (K : Kept S w w') (hn : ∀ k, blockOf e.2.2.2.1 = some k → ¬ S k) : EvRd w' e v := by
  refine ⟨h.tag, h.fin, h.has, h.data.kept K (fun p hp => hn _ (by rw [hp]; rfl)), fun k hk => ?_⟩
  obtain ⟨cs, fr, hc⟩ := h.blk k hk
  exact ⟨cs, fr, K.get hc (hn k hk)⟩
theorem Along.impm {α β : Type} {P Q : α → β → Prop} {A : List α} {B : List β} (h : Along P A B) (f : ∀ a b, a ∈ A → P a b → Q a b) : Along Q A B := ⟨h.1, fun i h1 h2 => f _ _ (List.getElem_mem _) (h.2 i h1 h2)⟩
theorem RTab.off {S : Nat → Prop} {b0 : Nat} {w w' : World} {tb : Nat} {delta : Int} {p : Option Addr} {n c : Nat} {L : List Ut} {vs : List Uv} (h : RTab b0 w tb delta p n c L vs) (K : Kept S w w') (h0 : ¬ S tb) (h1 : ∀ k, blockOf p = some k → ¬ S k) (h2 : ∀ u ∈ L, ∀ k, blockOf u.2.2.2.2.1 = some k → ¬ S k) : RTab b0 w' tb delta p n c L vs :=
  ⟨K.get h.blk h0, h.len, K.owns h.row (fun k hk => h1 k (by rw [← hk]; exact (blockOf_own ..).symm)), h.rd.impm (fun u v hu q => ⟨q.key, q.ent.offB K (h2 u hu)⟩)⟩
theorem RTab.mono {b0 b1 : Nat} {w : World} {tb : Nat} {delta : Int} {p : Option Addr} {n c : Nat} {L : List Ut} {vs : List Uv} (h : RTab b1 w tb delta p n c L vs) (hb : b0 ≤ b1) : RTab b0 w tb delta p n c L vs := ⟨h.blk, h.len, owns_mono h.row hb, h.rd⟩
theorem RTab.dat {b0 : Nat} {w : World} {tb : Nat} {delta : Int} {p : Option Addr} {n c : Nat} {L : List Ut} {vs : List Uv} (h : RTab b0 w tb delta p n c L vs) {u : Ut} (hu : u ∈ L) {k : Nat} (hk : blockOf u.2.2.2.2.1 = some k) : ∃ cs fr, w.heap[k]? = some (.cells cs 5 fr) := by
  obtain ⟨i, hi, rfl⟩ := List.getElem_of_mem hu
  exact (h.rd.2 i hi (by rw [← h.rd.1]; exact hi)).ent.blk k hk
/-- A table of the program and one of the document's. -/
structure PD where
  t : TK
  D : ByteArray → Int × Int → List Nat
  vs : List Uv
  rb : Nat
  p : Option Addr
  rn : Nat
  rc : Nat
  L : List Ut
def PD.Own (x : PD) (b : Nat) : Prop := b = x.t.tb ∨ x.t.Uses b ∨ b = x.rb ∨ blockOf x.p = some b
def PD.Dat (x : PD) (b : Nat) : Prop := (∃ k g h, TMp x.t k g = some h ∧ blockOf h.a = some b) ∨ ∃ u ∈ x.L, blockOf u.2.2.2.2.1 = some b
structure IsP (base : Nat) (w : World) (n : Nat) (x : PD) : Prop where
  g : Gst w n x.t x.D x.vs
  r : RTab base w x.rb x.t.delta x.p x.rn x.rc x.L x.vs
  few : x.rn ≤ n
  dl : ∀ v ∈ x.vs, v.2.2.2.2.length ≤ 140737488355328
  fo : ∀ b, x.Own b → base ≤ b
theorem IsP.lt {base : Nat} {w : World} {n : Nat} {x : PD} (h : IsP base w n x) {b : Nat} (hb : x.Own b) : b < w.heap.size := by
  rcases hb with z | z | z | z
  · rw [z]; exact block_lt h.g.tab.blk
  · exact h.g.tab.u.lt z
  · rw [z]; exact block_lt h.r.blk
  · exact (own_lt h.r.row b z).2
theorem IsP.dat5 {base : Nat} {w : World} {n : Nat} {x : PD} (h : IsP base w n x) {b : Nat} (hb : x.Dat b) : ∃ cs fr, w.heap[b]? = some (.cells cs 5 fr) := by
  rcases hb with ⟨k, g, hd, hm, e⟩ | ⟨u, hu, e⟩
  · obtain ⟨r, hr, h1⟩ := TMp_row hm
    obtain ⟨cs, hc⟩ := (h.g.dat k r hr g hd h1).2.2 b e
    exact ⟨cs, _, hc⟩
  · exact h.r.dat hu e
theorem IsP.n5 {base : Nat} {w : World} {n : Nat} {x : PD} (h : IsP base w n x) {b : Nat} {cs : Array Value} {fr : Nat × Nat} (hb : w.heap[b]? = some (.cells cs 5 fr)) : ¬ x.Own b := by
  rintro (z | z | z | z)
  · have q := h.g.tab.blk
    rw [← z, hb] at q
    simp at q
  · exact h.g.tab.u.nbU hb ⟨by decide, by decide⟩ z
  · have q := h.r.blk
    rw [← z, hb] at q
    simp at q
  · obtain ⟨c2, q⟩ := own_ty h.r.row z
    rw [hb] at q
    simp at q
theorem IsP.off {U : Nat → Prop} {base : Nat} {w w' : World} {n : Nat} {x : PD} (h : IsP base w n x) (K : Kept U w w') (h1 : ∀ b, x.Own b → ¬ U b) (h2 : ∀ b, x.Dat b → ¬ U b) : IsP base w' n x :=
  ⟨h.g.off K (h1 _ (.inl rfl)) (fun b hb => h1 b (.inr (.inl hb))) (fun k g hd hm b hb => h2 b (.inl ⟨k, g, hd, hm, hb⟩)), h.r.off K (h1 _ (.inr (.inr (.inl rfl)))) (fun b hb => h1 b (.inr (.inr (.inr hb)))) (fun u hu b hb => h2 b (.inr ⟨u, hu, hb⟩)), h.few, h.dl, h.fo⟩
theorem IsP.k0 {base : Nat} {w w' : World} {n : Nat} {x : PD} (h : IsP base w n x) (K : Kept (fun _ => False) w w') : IsP base w' n x := h.off K (fun _ _ z => z) (fun _ _ z => z)
theorem IsP.mono {base : Nat} {w : World} {n n' : Nat} {x : PD} (h : IsP base w n x) (hn : n ≤ n') : IsP base w n' x := ⟨h.g.mono hn, h.r, by have := h.few; omega, h.dl, h.fo⟩
/-- What became of the two. -/
structure PMv (base : Nat) (w w' : World) (n : Nat) (x x' : PD) : Prop where
  st : IsP base w' n x'
  tb : x'.t.tb = x.t.tb
  rb : x'.rb = x.rb
  kept : Kept x.Own w w'
  near : ∀ b, x'.Own b → x.Own b ∨ w.heap.size ≤ b
theorem PMv.quiet {base : Nat} {w w' : World} {n : Nat} {x : PD} (h : IsP base w n x) (K : Kept (fun _ => False) w w') : PMv base w w' (n + 1) x x := ⟨(h.k0 K).mono (Nat.le_succ n), rfl, rfl, K.mono (fun _ _ z => z.elim), fun _ hb => .inl hb⟩
theorem addF_same_len {vs : List Uv} {k : ByteArray} {g : Int × Int} (h : ¬ plc vs k g 0 < 0) : (addF vs k g).length = vs.length := by
  unfold addF
  rw [if_neg h]
  split
  · rw [List.length_set]
  · rfl
theorem docA_len (d : Int) (vs : List Uv) (u : Upd) (l : List Nat) (one : OneV vs) : (docA d vs u l).2.2.length ≤ vs.length + 1 := by
  unfold docA
  split
  · have p1 : (preW d vs u.key (u.x, u.y) l u.brings).2 = vs ∨ ((preW d vs u.key (u.x, u.y) l u.brings).2.length ≤ vs.length + 1 ∧ ¬ plc (preW d vs u.key (u.x, u.y) l u.brings).2 u.key (u.x, u.y) 0 < 0) := by
      unfold preW
      split
      · obtain ⟨_, a2, a3⟩ := preV_st one (nth (finF u.key vs) d) u.key (u.x, u.y) l
        cases q : (preV (nth (finF u.key vs) d) vs u.key (u.x, u.y) l).1
        · exact .inl (a2 q)
        · refine .inr ⟨preV_len _ _ _ _ _, fun z => ?_⟩
          have m := ((a3 q).mem _).2 (.inl rfl)
          have n := plc_none _ _ _ _ z _ m
          have q2 := (isAt_iff u.key (u.x, u.y) (u.key, (u.x, u.y), ((stV vs u.key (u.x, u.y)).map fun s => s.1).getD false, true, l)).2 ⟨rfl, rfl⟩
          rw [q2] at n
          cases n
      · exact .inl rfl
    unfold applyV
    generalize (preW d vs u.key (u.x, u.y) l u.brings).2 = vs1 at p1
    show (finW d vs1 u.key (u.x, u.y) u.final).2.length ≤ _
    have l1 : vs1.length ≤ vs.length + 1 := by
      rcases p1 with z | z
      · rw [z]; exact Nat.le_succ _
      · exact z.1
    have l2 : (addF vs1 u.key (u.x, u.y)).length ≤ vs.length + 1 := by
      rcases p1 with z | z
      · rw [z]; exact addF_len vs u.key (u.x, u.y)
      · rw [addF_same_len z.2]; exact z.1
    unfold finW finV
    split
    · split
      · exact l1
      · show (leftV _ _ _).length ≤ _
        have := List.length_filter_le (fun v : Uv => !decide (v.1 = u.key) || !decide (tc v.2.1 (nth (finF u.key (addF vs1 u.key (u.x, u.y))) d) < 0)) (addF vs1 u.key (u.x, u.y))
        unfold leftV
        omega
    · exact l1
  · exact Nat.le_succ _
theorem docA_dat {d : Int} {vs : List Uv} {u : Upd} {l : List Nat} {N : Nat} (one : OneV vs) (h : ∀ v ∈ vs, v.2.2.2.2.length ≤ N) (hl : l.length ≤ N) : ∀ v ∈ (docA d vs u l).2.2, v.2.2.2.2.length ≤ N := by
  unfold docA
  split
  · have p1 : OneV (preW d vs u.key (u.x, u.y) l u.brings).2 ∧ ∀ v ∈ (preW d vs u.key (u.x, u.y) l u.brings).2, v.2.2.2.2.length ≤ N := by
      unfold preW
      split
      · obtain ⟨_, a2, a3⟩ := preV_st one (nth (finF u.key vs) d) u.key (u.x, u.y) l
        cases q : (preV (nth (finF u.key vs) d) vs u.key (u.x, u.y) l).1
        · rw [a2 q]
          exact ⟨one, h⟩
        · refine ⟨(a3 q).one, fun v hv => ?_⟩
          rcases ((a3 q).mem v).1 hv with z | z
          · rw [z]; exact hl
          · exact h v z.1
      · exact ⟨one, h⟩
    unfold applyV
    generalize (preW d vs u.key (u.x, u.y) l u.brings).2 = vs1 at p1
    show ∀ v ∈ (finW d vs1 u.key (u.x, u.y) u.final).2, v.2.2.2.2.length ≤ N
    unfold finW finV
    split
    · split
      · exact p1.2
      · intro v hv
        have hv := ((leftV_mem _ _ _ v).1 hv).1
        rcases ((addF_st p1.1 u.key (u.x, u.y)).mem v).1 hv with z | z
        · rw [z]
          show (((stV vs1 u.key (u.x, u.y)).map fun s => s.2).getD (false, [])).2.length ≤ N
          cases q : stV vs1 u.key (u.x, u.y) with
          | none => exact Nat.zero_le _
          | some s => exact p1.2 _ ((stV_some p1.1 _ _ _).1 q)
        · exact p1.2 v z.1
    · exact p1.2
  · exact h
end Go.Proofs.YtojepeefphbekaaGreat

namespace Go.Proofs.YtojepeefphbekaaGreat
open Go.RowKit 

theorem rowReads {w : World} {b0 : Nat} {q : Option Addr} {n k : Nat} {l : List Nat} (ow : w.ownsRow b0 5 1 (.slice q (n + 1) k) (n + 1) (cellsOf (l ++ [90]))) (hl : l.length = n) (hb : ∀ c ∈ l, c < 256) : Reads w q n k l := by
  have rm := own_room ow
  rcases ow.2 with ⟨_, e1⟩ | ⟨g, cap', cur, e0, _⟩
  · omega
  · have e0 : Value.slice q (n + 1) k = .slice (some ⟨g, 0, none⟩) (n + 1) cap' := e0
    injection e0 with z1 _ z3
    refine ⟨hl, by omega, rm.2, hb, fun h0 => ⟨g, 0, z1, fun i hi => ?_⟩⟩
    have := ow.cells (g := g) (by rw [z1]; rfl) i (.int .u8 ((l.getD i 0 : Nat) : Int)) (by
      rw [cellsOf_snoc, List.getElem?_append_left (by rw [cellsOf_length, hl]; exact hi)]
      unfold cellsOf
      rw [List.getElem?_map, List.getD_eq_getElem?_getD, List.getElem?_eq_getElem (by rw [hl]; exact hi)]
      rfl)
    rw [Addr.add_none] at this
    exact this
theorem IsP.sides {base : Nat} {w : World} {n : Nat} {x : PD} (h : IsP base w n x) {b : Nat} (hb : b = x.rb ∨ blockOf x.p = some b) : ¬ (b = x.t.tb ∨ x.t.Uses b) := by
  have ty : ∃ cs ty fr, w.heap[b]? = some (.cells cs ty fr) ∧ (ty = 107 ∨ ty = 109) := by
    rcases hb with z | z
    · rw [z]; exact ⟨_, _, _, h.r.blk, .inl rfl⟩
    · obtain ⟨cs, q⟩ := own_ty h.r.row z
      exact ⟨cs, _, _, q, .inr rfl⟩
  obtain ⟨cs, ty, fr, hc, ht⟩ := ty
  rintro (z | z)
  · have q := h.g.tab.blk
    rw [← z, hc] at q
    rcases ht with rfl | rfl <;> simp at q
  · exact h.g.tab.u.nbU hc (by rcases ht with rfl | rfl <;> exact ⟨by decide, by decide⟩) z
theorem IsP.base {base : Nat} {w : World} {n : Nat} {x : PD} (h : IsP base w n x) : base ≤ w.heap.size := Nat.le_trans (h.fo _ (.inl rfl)) (Nat.le_of_lt (h.lt (.inl rfl)))
set_option maxHeartbeats 2000000 in
/-- Apply on both. -/
theorem pApply {base : Nat} {w0 w : World} {n : Nat} {x : PD} (h : IsP base w n x) (K0 : Kept (fun _ => False) w0 w) (hb : w0.heap.size ≤ base) (ot uk : Int) (ukey : ByteArray) (ux uy : Int) (uf uh : Bool) (ua : Option Addr) (un uc : Nat) (key : ByteArray) (gx gy oN : Int) (l : List Nat) (rd : Reads w0 ua un uc l) (hn : un + 1 ≤ 140737488355328) (hk : ukey.size ≤ maxLen) (ft : TFit (ux, uy)) (hl : n + 3 < 1099511627775) :
    Calls Tryz.prog 47 #[.pointer (some ⟨x.t.tb, 0, none⟩), .pointer (some ⟨x.rb, 0, none⟩), .agg #[.int .i64 0, .int .i64 ot, .int .i64 uk, .string ukey, .int .i64 ux, .int .i64 uy, .bool uf, .bool uh, .slice ua un uc, .string key, .int .i64 gx, .int .i64 gy, .int .i64 oN]] w fun o w' => o = .returned (.bool true) ∧ ∃ x', PMv base w w' (n + 1) x x' := by
  have few := h.few
  have bs := h.base
  obtain ⟨R, hR⟩ : ∃ R, R = docA x.t.delta x.vs ⟨uk, ukey, ux, uy, uf, uh, ua, un, uc⟩ l := ⟨_, rfl⟩
  have low : ∀ b, x.Own b → ¬ b < w0.heap.size := fun b hb2 z => by have := h.fo b hb2; omega
  refine (lDoesApply (.pointer (some ⟨x.t.tb, 0, none⟩)) (.pointer (some ⟨x.rb, 0, none⟩)) ot uk ukey ux uy uf uh ua un uc key gx gy oN l w (rd.kept K0 (fun _ _ z => z)) hn R.1 R.2.1 (fun V V1 => RMv base V V1 x.rb x.t.delta x.p x.L R.2.2) (fun V1 V2 => ∃ t' D', GMv V1 V2 (n + 1) x.t t' D' R.2.2) ?_ ?_).mono ?_
  · intro V K
    refine (rApply base x.rb x.t.delta x.p x.rn x.rc x.L x.vs uk ukey ux uy uf uh ua un uc l V (h.r.k0 K) (by omega) h.g.sim.d0 (Nat.le_trans bs K.size) (rd.kept (K0.and0 K) (fun _ _ z => z)) (by omega)).mono ?_
    rintro o w' ⟨rfl, q⟩
    rw [← hR] at q ⊢
    refine ⟨rfl, q, q.kept.mono (fun b _ z => h.lt (.inr (.inr z))), rd.kept ((K0.and0 K).trans q.kept (fun j hj z => low j (.inr (.inr z)) hj)) (fun _ _ z => z)⟩
  · intro V V1 q k K s2 kb rd1 ow
    have hV := h.k0 K
    have GV1 : Gst V1 n x.t x.D x.vs := hV.g.off s2.kept (fun z => hV.sides z (.inl rfl)) (fun b hb2 z => hV.sides z (.inr hb2)) (fun k2 g2 hd2 hm2 b hb2 z => by
      obtain ⟨cs, fr, hc⟩ := hV.dat5 (.inl ⟨k2, g2, hd2, hm2, hb2⟩)
      exact hV.n5 hc (.inr (.inr z)))
    have owV : V1.ownsRow w.heap.size 5 1 (.slice q (un + 1) k) (un + 1) (cellsOf (l ++ [90])) := kb.owns ow (fun b hb2 z => by
      have := (own_lt ow b (by rw [← hb2]; exact (blockOf_own ..).symm)).1
      have z : b < w.heap.size := z
      omega)
    have K01 : Kept (fun _ => False) w0 V1 := (K0.and0 K).trans s2.kept (fun j hj z => low j (.inr (.inr z)) hj)
    refine (gApply GV1 ⟨uk, ukey, ux, uy, uf, uh, q, un, k⟩ l (rowReads owV rd.length rd.bytes) hk ft (by show un ≤ _; omega) (by omega)).mono ?_
    rintro o w' ⟨rfl, t', D', m⟩
    have e : docA x.t.delta x.vs ⟨uk, ukey, ux, uy, uf, uh, q, un, k⟩ l = R := by rw [hR]; rfl
    rw [e] at m ⊢
    exact ⟨rfl, ⟨t', D', m⟩, m.kept.mono (fun b _ z => h.lt (.inr (.inl z))), rd.kept (K01.trans m.kept (fun j hj z => low j (.inr (.inl z)) hj)) (fun _ _ z => z)⟩
  · rintro o w' ⟨rfl, V, V1, V2, q, k, KV, ow, s2, ⟨t', D', s1⟩, kb, kq⟩
    refine ⟨rfl, ?_⟩
    have hV := h.k0 KV
    obtain ⟨⟨p', n', c', L', r1, f1, g1⟩, k1⟩ := s2
    have GV1 : Gst V1 n x.t x.D x.vs := hV.g.off k1 (fun z => hV.sides z (.inl rfl)) (fun b hb2 z => hV.sides z (.inr hb2)) (fun k2 g2 hd2 hm2 b hb2 z => by
      obtain ⟨cs, fr, hc⟩ := hV.dat5 (.inl ⟨k2, g2, hd2, hm2, hb2⟩)
      exact hV.n5 hc (.inr (.inr z)))
    have bq : ∀ b, blockOf q = some b → w.heap.size ≤ b ∧ b < V.heap.size := fun b hb2 => own_lt ow b hb2
    have sVV := k1.size
    have sw := KV.size
    have rV2 : RTab base V2 x.rb x.t.delta p' n' c' L' R.2.2 := r1.off s1.kept (GV1.tab.u.nbU r1.blk ⟨by decide, by decide⟩) (fun b hb2 => by
      obtain ⟨cs, hc⟩ := own_ty r1.row hb2
      exact GV1.tab.u.nbU hc ⟨by decide, by decide⟩) (fun u hu b hb2 => by
      obtain ⟨cs, fr, hc⟩ := r1.dat hu hb2
      exact GV1.tab.u.nbU hc ⟨by decide, by decide⟩)
    have rw' : RTab base w' x.rb x.t.delta p' n' c' L' R.2.2 := rV2.off kq (fun z => by
      have := (bq _ z).1
      have := h.lt (.inr (.inr (.inl rfl)))
      omega) (fun b hb2 z => by
      obtain ⟨z1, z2⟩ := bq _ z
      rcases f1 b hb2 with y | y
      · have := h.lt (.inr (.inr (.inr y)))
        omega
      · omega) (fun u hu b hb2 z => by
      obtain ⟨z1, z2⟩ := bq _ z
      rcases g1 u hu b hb2 with ⟨v, hv, e⟩ | y
      · obtain ⟨cs, fr, hc⟩ := h.dat5 (.inr ⟨v, hv, e⟩)
        have := block_lt hc
        omega
      · omega)
    have gw' : Gst w' (n + 1) t' D' R.2.2 := s1.st.off kq (fun z => by
      have := (bq _ z).1
      rw [s1.tb] at this
      have := h.lt (.inl rfl)
      omega) (fun b hb2 z => by
      obtain ⟨z1, z2⟩ := bq _ z
      rcases s1.near b hb2 with y | y
      · have := h.lt (.inr (.inl y))
        omega
      · omega) (fun k2 g2 hd2 hm2 b hb2 z => by
      obtain ⟨z1, z2⟩ := bq _ z
      rcases s1.fresh k2 g2 hd2 hm2 b hb2 with ⟨k3, g3, h3, m3, e3⟩ | y
      · have := h.g.datlt m3 e3
        omega
      · omega)
    have near : ∀ b, (⟨t', D', R.2.2, x.rb, p', n', c', L'⟩ : PD).Own b → x.Own b ∨ w.heap.size ≤ b := by
      rintro b (z | z | z | z)
      · have z : b = t'.tb := z
        rw [s1.tb] at z
        exact .inl (.inl z)
      · rcases s1.near b z with y | y
        · exact .inl (.inr (.inl y))
        · exact .inr (by omega)
      · exact .inl (.inr (.inr (.inl z)))
      · rcases f1 b z with y | y
        · exact .inl (.inr (.inr (.inr y)))
        · exact .inr (by omega)
    refine ⟨⟨t', D', R.2.2, x.rb, p', n', c', L'⟩, ⟨gw', by rw [s1.delta]; exact rw', ?_, ?_, fun b hb2 => ?_⟩, s1.tb, rfl, ?_, near⟩
    · have v1 := rw'.vlen
      have v2 := docA_len x.t.delta x.vs ⟨uk, ukey, ux, uy, uf, uh, ua, un, uc⟩ l h.g.sim.one
      rw [← hR] at v2
      have v3 := h.r.vlen
      show n' ≤ n + 1
      omega
    · have := docA_dat (d := x.t.delta) (u := ⟨uk, ukey, ux, uy, uf, uh, ua, un, uc⟩) (l := l) h.g.sim.one h.dl (by rw [rd.length]; omega)
      rw [← hR] at this
      exact this
    · rcases near b hb2 with y | y
      · exact h.fo b y
      · omega
    · refine (((KV.mono (fun _ _ z => z.elim)).trans k1 (fun j hj z => .inr (.inr z))).trans s1.kept (fun j hj z => .inr (.inl z))).trans kq (fun j hj z => ?_)
      have := (bq j z).1
      omega
/-- Would on both. -/
theorem pWould {base : Nat} {w0 w : World} {n : Nat} {x : PD} (h : IsP base w n x) (K0 : Kept (fun _ => False) w0 w) (ot uk : Int) (ukey : ByteArray) (ux uy : Int) (uf uh : Bool) (ua : Option Addr) (un uc : Nat) (key : ByteArray) (gx gy oN : Int) (l : List Nat) (rd : Reads w0 ua un uc l) (hn : un + 1 ≤ 140737488355328) (hk : ukey.size ≤ maxLen) (ft : TFit (ux, uy)) (hl : n + 3 < 1099511627775) :
    Calls Tryz.prog 47 #[.pointer (some ⟨x.t.tb, 0, none⟩), .pointer (some ⟨x.rb, 0, none⟩), .agg #[.int .i64 1, .int .i64 ot, .int .i64 uk, .string ukey, .int .i64 ux, .int .i64 uy, .bool uf, .bool uh, .slice ua un uc, .string key, .int .i64 gx, .int .i64 gy, .int .i64 oN]] w fun o w' => o = .returned (.bool true) ∧ Kept (fun _ => False) w w' := by
  have few := h.few
  obtain ⟨R, hR⟩ : ∃ R, R = docA x.t.delta x.vs ⟨uk, ukey, ux, uy, uf, uh, ua, un, uc⟩ l := ⟨_, rfl⟩
  refine lDoesWould (.pointer (some ⟨x.t.tb, 0, none⟩)) (.pointer (some ⟨x.rb, 0, none⟩)) ot uk ukey ux uy uf uh ua un uc key gx gy oN l w (rd.kept K0 (fun _ _ z => z)) hn R.1 R.2.1 ?_ ?_
  · intro V q k K
    refine (gWould (h.g.k0 K) ⟨uk, ukey, ux, uy, uf, uh, q, un, k⟩ l hk ft).mono ?_
    rintro o w' ⟨rfl, m⟩
    have e : docA x.t.delta x.vs ⟨uk, ukey, ux, uy, uf, uh, q, un, k⟩ l = R := by rw [hR]; rfl
    rw [e]
    exact ⟨rfl, m⟩
  · intro V K
    refine (rWould base x.rb x.t.delta x.p x.rn x.rc x.L x.vs uk ukey ux uy uf uh ua un uc l V (h.r.k0 K) (by omega) h.g.sim.d0 (rd.kept (K0.and0 K) (fun _ _ z => z)) (by omega) h.dl).mono ?_
    rintro o w' ⟨rfl, q⟩
    rw [← hR]
    exact ⟨rfl, q⟩
/-- Apply and Would on nil. -/
theorem nDoesApply (ot uk : Int) (ukey : ByteArray) (ux uy : Int) (uf uh : Bool) (ua : Option Addr) (un uc : Nat) (key : ByteArray) (gx gy oN : Int) (l : List Nat) (w : World) (rd : Reads w ua un uc l) (hn : un + 1 ≤ 140737488355328) :
    Calls Tryz.prog 47 #[.pointer none, .pointer none, .agg #[.int .i64 0, .int .i64 ot, .int .i64 uk, .string ukey, .int .i64 ux, .int .i64 uy, .bool uf, .bool uh, .slice ua un uc, .string key, .int .i64 gx, .int .i64 gy, .int .i64 oN]] w fun o w' => o = .returned (.bool true) ∧ Kept (fun _ => False) w w' := by
  refine (lDoesApply (.pointer none) (.pointer none) ot uk ukey ux uy uf uh ua un uc key gx gy oN l w rd hn false 0 (fun V V1 => Kept (fun _ => False) V V1) (fun V1 V2 => Kept (fun _ => False) V1 V2) ?_ ?_).mono ?_
  · intro V K
    refine (rApplyN uk ukey ux uy uf uh ua un uc V).mono ?_
    rintro o w' ⟨rfl, q⟩
    exact ⟨rfl, q, q.mono (fun _ _ z => z.elim), rd.kept (K.and0 q) (fun _ _ z => z)⟩
  · intro V V1 q k K s2 kb rd1 ow
    refine (nApply uk ukey ux uy uf uh q un k V1).mono ?_
    rintro o w' ⟨rfl, m⟩
    exact ⟨rfl, m, m.mono (fun _ _ z => z.elim), rd1.kept m (fun _ _ z => z)⟩
  · rintro o w' ⟨rfl, V, V1, V2, q, k, KV, ow, s2, s1, kb, kq⟩
    refine ⟨rfl, ((KV.and0 s2).and0 s1).trans kq (fun j hj z => ?_)⟩
    have := (own_lt ow j z).1
    omega
theorem nDoesWould (ot uk : Int) (ukey : ByteArray) (ux uy : Int) (uf uh : Bool) (ua : Option Addr) (un uc : Nat) (key : ByteArray) (gx gy oN : Int) (l : List Nat) (w : World) (rd : Reads w ua un uc l) (hn : un + 1 ≤ 140737488355328) :
    Calls Tryz.prog 47 #[.pointer none, .pointer none, .agg #[.int .i64 1, .int .i64 ot, .int .i64 uk, .string ukey, .int .i64 ux, .int .i64 uy, .bool uf, .bool uh, .slice ua un uc, .string key, .int .i64 gx, .int .i64 gy, .int .i64 oN]] w fun o w' => o = .returned (.bool true) ∧ Kept (fun _ => False) w w' := by
  refine lDoesWould (.pointer none) (.pointer none) ot uk ukey ux uy uf uh ua un uc key gx gy oN l w rd hn false 0 ?_ ?_
  · intro V q k K
    exact would_nil ⟨uk, ukey, ux, uy, uf, uh, q, un, k⟩ V
  · intro V K
    exact rWouldN uk ukey ux uy uf uh ua un uc V
end Go.Proofs.YtojepeefphbekaaGreat
