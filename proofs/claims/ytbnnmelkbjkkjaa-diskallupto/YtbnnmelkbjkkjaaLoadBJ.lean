import Derived.Test.YtbnnmelkbjkkjaaNoneJ
import Derived.Test.YtbnnmelkbjkkjaaDAll
namespace Go.Proofs.Ytbnnmelkbjkkjaa
open Go.RowKit

/-- What 'one' does with a load. -/
def OneLoadOK : Prop := ∀ (w wr : World) (pa : Option Addr) (pn pc : Nat) (L1 : List Pr) (x : Pr) (L2 : List Pr) (o : Opv) (s t : Nat) (_ : OD w wr pa pn pc (L1 ++ x :: L2) s t) (_ : s ≤ Few) (_ : t ≤ Few) (_ : o.D % (pn : Int) = (L1.length : Int)) (_ : pn < 1000000000) (a0 : Option Addr) (n0 c0 : Nat) (l0 : List Nat) (a1 : Option Addr) (n1 c1 : Nat) (l1 : List Nat) (a2 : Option Addr) (n2 c2 : Nat) (ch : List Int) (_ : o.v0 = .slice a0 n0 c0) (_ : o.v1 = .slice a1 n1 c1) (_ : o.v2 = .slice a2 n2 c2) (_ : Reads w a0 n0 c0 l0) (_ : Reads w a1 n1 c1 l1) (_ : IRd w a2 n2 c2 ch) (_ : n0 ≤ Lim) (_ : n1 ≤ Lim) (_ : n2 ≤ Lim) (_ : Reads w o.a o.n o.c o.l) (_ : o.n ≤ Lim) (_ : o.kind = 10),
    Calls Try.prog 32 #[.slice pa pn pc, .agg o.cs] wr fun y w' => ∃ pa' pn' pc' L', y = .returned (.tuple #[.slice pa' pn' pc', .bool true]) ∧ OD w w' pa' pn' pc' L' (s + o.wh) (t + 1) ∧ L'.length ≤ (L1 ++ x :: L2).length + 1 ∧ (L1 ++ x :: L2).length ≤ L'.length
theorem OD.len {w w' : World} {pa : Option Addr} {pn pc : Nat} {L : List Pr} {s t : Nat} (h : OD w w' pa pn pc L s t) : L.length = pn := by
  have := h.row.1
  rw [pcells_length] at this
  omega
theorem OD.mono {w w' : World} {pa : Option Addr} {pn pc : Nat} {L : List Pr} {s t s' t' : Nat} (h : OD w w' pa pn pc L s t) (hs : s ≤ s') (ht : t ≤ t') : OD w w' pa pn pc L s' t' := ⟨h.al, h.row, h.same, fun x hx => (h.fits x hx).mono hs ht⟩
theorem oneOK_of (load : OneLoadOK) : OneOK := by
  intro w wr pa pn pc L o s t h hs ht h0 hp hrd rd hN1 hN2
  obtain ⟨a0, n0, c0, l0, a1, n1, c1, l1, a2, n2, c2, ch, hv0, hv1, hv2, r0, r1, r2⟩ := hrd
  have hl := h.len
  have hwh : o.wh = o.n + n0 + n1 + n2 := by unfold Opv.wh; rw [hv0, hv1, hv2]; rfl
  have hF : Few = 1000000000 := rfl
  have hL : Lim = 1099511627776 := rfl
  have hi0 : 0 ≤ o.D % (pn : Int) := Int.emod_nonneg _ (by omega)
  have hi1 : o.D % (pn : Int) < (pn : Int) := Int.emod_lt_of_pos _ (by omega)
  obtain ⟨i, hi⟩ : ∃ i : Nat, o.D % (pn : Int) = (i : Int) := ⟨(o.D % (pn : Int)).toNat, by omega⟩
  have hiL : i < L.length := by omega
  have eL : L = L.take i ++ L[i] :: L.drop (i + 1) := by rw [List.getElem_cons_drop, List.take_append_drop]
  have lT : (L.take i).length = i := by rw [List.length_take]; omega
  generalize L.take i = L1 at eL lT
  generalize L.drop (i + 1) = L2 at eL
  generalize L[i] = x at eL
  subst eL
  have hD : o.D % (pn : Int) = (L1.length : Int) := by rw [lT]; exact hi
  have sl : o.Sl := ⟨a0, n0, c0, a1, n1, c1, a2, n2, c2, hv0, hv1, hv2⟩
  have hn := rd.length
  have fin : ∀ y w', (∃ L', y = Ending.returned (.tuple #[.slice pa pn pc, .bool true]) ∧ OD w w' pa pn pc L' (s + o.l.length) (t + 1) ∧ L'.length = (L1 ++ x :: L2).length) → ∃ pa' pn' pc' L', y = Ending.returned (.tuple #[.slice pa' pn' pc', .bool true]) ∧ OD w w' pa' pn' pc' L' (s + o.wh) (t + 1) ∧ 0 < pn' ∧ pn' ≤ pn + 1 := by
    rintro y w' ⟨L', e, d, _⟩
    exact ⟨pa, pn, pc, L', e, d.mono (by omega) (Nat.le_refl _), h0, by omega⟩
  have fin2 : ∀ y w', (∃ pa' pn' pc' L', y = Ending.returned (.tuple #[.slice pa' pn' pc', .bool true]) ∧ OD w w' pa' pn' pc' L' (s + o.wh) (t + 1) ∧ L'.length ≤ (L1 ++ x :: L2).length + 1 ∧ (L1 ++ x :: L2).length ≤ L'.length) → ∃ pa' pn' pc' L', y = Ending.returned (.tuple #[.slice pa' pn' pc', .bool true]) ∧ OD w w' pa' pn' pc' L' (s + o.wh) (t + 1) ∧ 0 < pn' ∧ pn' ≤ pn + 1 := by
    rintro y w' ⟨pa', pn', pc', L', e, d, q1, q2⟩
    have := d.len
    exact ⟨pa', pn', pc', L', e, d, by omega, by omega⟩
  by_cases k1 : 1 ≤ o.kind ∧ o.kind ≤ 4
  · exact (oneAct w wr pa pn pc L1 x L2 o s t h (by omega) (by omega) hD hp sl rd hN2 (by omega) k1).mono fin
  by_cases k2 : 5 ≤ o.kind ∧ o.kind ≤ 7
  · exact (oneTold w wr pa pn pc L1 x L2 o s t h (by omega) (by omega) hD hp sl rd hN2 (by omega) k2).mono fin
  by_cases k3 : o.kind = 8
  · exact (one8 w wr pa pn pc L1 x L2 o s t h (by omega) (by omega) hD hp sl rd hN2 (by omega) k3).mono fin
  by_cases k4 : o.kind = 9
  · exact (oneCrash w wr pa pn pc L1 x L2 o s t h (by omega) (by omega) hD hp a0 n0 c0 l0 a1 n1 c1 l1 a2 n2 c2 ch hv0 hv1 hv2 r0 r1 r2 (by omega) (by omega) (by omega) rd (by omega) k4).mono fin2
  by_cases k5 : o.kind = 10
  · exact (load w wr pa pn pc L1 x L2 o s t h (by omega) (by omega) hD hp a0 n0 c0 l0 a1 n1 c1 l1 a2 n2 c2 ch hv0 hv1 hv2 r0 r1 r2 (by omega) (by omega) (by omega) rd (by omega) k5).mono fin2
  exact (oneNone w wr pa pn pc L1 x L2 o s t h (by omega) (by omega) hD hp sl rd hN2 (by omega) (by omega)).mono fin
end Go.Proofs.Ytbnnmelkbjkkjaa

namespace Go.Proofs.Ytbnnmelkbjkkjaa
open Go.ChangeShapes Go.WideShapes Go.ChangeAt Go.RowKit Go.Deep

set_option maxRecDepth 100000 in
theorem diskAll_lifted (load : OneLoadOK) (os : Os) (started : os.Started) (H : Type) (enc : TypeId × Value → H) (F : Stop.Interp) :
    ReturnsInHanded {} Try.checked os 8 .any ((Rows.OpenSpec.upto Rows.diskAllSpec).pre6 enc Try.prog Try.f8 Rows.diskAllUptoRow.domain false) (((Rows.OpenSpec.upto Rows.diskAllSpec).at F).post enc Try.prog Try.f8 false true false false) := by
  refine returnsInHanded_of_cond (C := Try.checked) (s := Rows.OpenSpec.upto Rows.diskAllSpec) (k := Rows.uptoSmall) rfl Try.own started (by kernel_rfl) Try.func8
    (OpenSpec.witness (enc := enc) (C := Try.checked) (s := Rows.OpenSpec.upto Rows.diskAllSpec) (k := Rows.uptoSmall) rfl false ⟨#[], #[.slice none 0 0], []⟩ 8 (by kernel_rfl) (by kernel_rfl) (by kernel_rfl)
      (x := ([.nil], [], [])) (by kernel_rfl) rfl (by kernel_rfl)) ?_
  intro W base args ds gs before hval0 hW _ hk _
  have hval : ∀ (j : Nat) t v, Try.f8.params[j]? = some t → args[j]? = some v → Value.okWide Try.prog W .any base t v := hval0
  have hW' := hW
  obtain ⟨p, q, hA0, hV, rfl, _, _⟩ := hW
  have hA : DataW.TrodAll enc Try.prog W 0 (fun _ => true) true Try.f8.params.toList args.toList ds p := hA0
  rw [Try.params8] at hA hval
  obtain ⟨v1, d1, rfl, rfl, h1⟩ := trodAll_one hA
  obtain ⟨rfl, rfl⟩ := trodVars_none hV
  have k1 := h1
  have lt1 : ∀ x ∈ p, x.block < W.heap.size := by obtain ⟨m, hm⟩ := k1; exact DataW.trod_lt m _ _ _ hm
  obtain ⟨a1, len1, cap1, rfl⟩ := okWide_slice Try.underlying41 (hval 0 41 v1 rfl rfl)
  obtain ⟨fuel1, hf1⟩ := h1
  obtain ⟨O, hO, hw, hw2, hR⟩ := open_script_more hf1
  have hb : Rows.uptoBulkAll [d1] ≤ 1048576 := of_decide_eq_true hk
  simp only [Rows.uptoBulkAll] at hb
  have hd1 : Rows.uptoBulk d1 ≤ 1048576 := by omega
  have g1 : len1 ≤ 1048576 := Nat.le_trans hw hd1
  have g2 : sumH O ≤ 1048576 := Nat.le_trans hw2 hd1
  clear hA0 hval0
  refine (diskAll_of (oneOK_of load) a1 len1 cap1 O W hO (by omega) (by unfold Few; omega) hR).mono fun e W' ⟨he, K⟩ => ?_
  have bel := below_kept K
  subst he
  exact ⟨_, rfl, _, _, _, [], _, [], hW', trodAll_mk1 (shut_bool Try.underlying4 _), (trodAll_mk1 (Below.trod Try.laidOut (by kernel_rfl) (of_decide_eq_true (by kernel_rfl)) k1 bel lt1)), rfl, bel.frame _, fun h => by cases h⟩

theorem diskAll_from (load : OneLoadOK) : Rows.DiskAllUptoSaid :=
  OpenClaim.holds_of_cond 8 Try.f8 rfl rfl rfl rfl rfl rfl rfl ⟨rfl, rfl, rfl, rfl, rfl⟩ rfl rfl rfl rfl rfl (by kernel_rfl) Try.func8 (by kernel_rfl)
    (of_decide_eq_true (by kernel_rfl)) (by unfold Func.isWrapper; first | (rw [if_pos (by decide +kernel)]; kernel_rfl) | (rw [if_neg (by decide +kernel)]; exact ⟨rfl, rfl⟩))
    (fun os started H enc _ F => diskAll_lifted load os started H enc F)
end Go.Proofs.Ytbnnmelkbjkkjaa

namespace Go.Proofs.Ytbnnmelkbjkkjaa
open Go.RowKit

theorem L4.quiet {w wc wd : World} {B : Nat} {pa : Option Addr} {pn pc : Nat} {L1 : List Pr} {x : Pr} {L2 : List Pr} {o : Opv} {V U X : Nat} {pA : Option Addr} {n0 qA : Nat} {l0 : List Nat} {pB : Option Addr} {n1 qB : Nat} {l1 : List Nat} (h : L4 w wc B pa pn pc L1 x L2 o V U X pA n0 qA l0 pB n1 qB l1) (K : Kept (fun _ => False) wc wd) : L4 w wd B pa pn pc L1 x L2 o V U X pA n0 qA l0 pB n1 qB l1 :=
  ⟨h.on.quiet K, K.owns h.rA (fun _ _ z => z), K.owns h.rB (fun _ _ z => z), K.get h.xb (fun z => z), h.ne, h.low, h.far⟩
theorem ON.wrote {w W W' : World} {pa : Option Addr} {pn pc : Nat} {L1 : List Pr} {x : Pr} {L2 : List Pr} {o : Opv} {V U : Nat} {S T : Nat → Prop} (h : ON w W pa pn pc L1 x L2 o V U S) (K : Kept T W W') (hT : ∀ k, T k → S k) (hn : ∀ k, T k → ¬ (blockOf pa = some k ∨ k = V ∨ k = U)) : ON w W' pa pn pc L1 x L2 o V U S :=
  ⟨h.al.wrote K (fun k hk => ⟨(h.al.far k (.inl (hT k hk))).2.1, (h.al.far k (.inl (hT k hk))).2.2⟩), K.owns h.row (fun k hk z => hn k z (.inl (by rw [← hk]; exact (blockOf_own ..).symm))), K.get h.o3 (fun z => hn _ z (.inr (.inl rfl))), K.get h.x7 (fun z => hn _ z (.inr (.inr rfl))), h.rd⟩
theorem ON.below {w W : World} {pa : Option Addr} {pn pc : Nat} {L1 : List Pr} {x : Pr} {L2 : List Pr} {o : Opv} {V U : Nat} {S : Nat → Prop} (h : ON w W pa pn pc L1 x L2 o V U S) (k : Nat) (hk : W.heap.size ≤ k) : ¬ (blockOf pa = some k ∨ k = V ∨ k = U) := fun z => by
  have := (h.al.far k (.inr z)).1
  omega
theorem L4.over1 {w W7 wc w5 : World} {pa : Option Addr} {pn pc : Nat} {L1 : List Pr} {x : Pr} {L2 : List Pr} {o : Opv} {V U X : Nat} {pA : Option Addr} {n0 qA : Nat} {l0 : List Nat} {pB : Option Addr} {n1 qB : Nat} {l1 : List Nat} (z : ON w W7 pa pn pc L1 x L2 o V U (fun _ => False)) (h : L4 w wc W7.heap.size pa pn pc L1 x L2 o V U X pA n0 qA l0 pB n1 qB l1) (K : Kept (fun k => blockOf pA = some k) wc w5) : ON w w5 pa pn pc L1 x L2 o V U (fun k => k = X ∨ blockOf pA = some k ∨ blockOf pB = some k) ∧ w5.ownsRow W7.heap.size 5 1 (.slice pB (n1 + 2) qB) (n1 + 2) (cellsOf (l1 ++ [193, 194])) ∧ w5.heap[X]? = some (.cells #[.slice pA n0 qA, .slice pB n1 qB] 32 (0, 0)) :=
  ⟨h.on.wrote K (fun _ hk => .inr (.inl hk)) (fun k hk => z.below k (own_lt h.rA k hk).1), K.owns h.rB (fun k hk q => h.ne k q (by rw [← hk]; exact (blockOf_own ..).symm)), K.get h.xb (fun q => h.far X (.inl q) rfl)⟩
theorem L4.over2 {w W7 wc w5 w6 : World} {pa : Option Addr} {pn pc : Nat} {L1 : List Pr} {x : Pr} {L2 : List Pr} {o : Opv} {V U X : Nat} {pA : Option Addr} {n0 qA : Nat} {l0 : List Nat} {pB : Option Addr} {n1 qB : Nat} {l1 : List Nat} (z : ON w W7 pa pn pc L1 x L2 o V U (fun _ => False)) (h : L4 w wc W7.heap.size pa pn pc L1 x L2 o V U X pA n0 qA l0 pB n1 qB l1) (h5 : ON w w5 pa pn pc L1 x L2 o V U (fun k => k = X ∨ blockOf pA = some k ∨ blockOf pB = some k)) (K : Kept (fun k => blockOf pB = some k) w5 w6) : ON w w6 pa pn pc L1 x L2 o V U (fun k => k = X ∨ blockOf pA = some k ∨ blockOf pB = some k) :=
  h5.wrote K (fun _ hk => .inr (.inr hk)) (fun k hk => z.below k (own_lt h.rB k hk).1)
theorem dLoadX (base : Nat) (a0 : Option Addr) (n0 c0 : Nat) (l0 : List Nat) (a1 : Option Addr) (n1 c1 : Nat) (l1 : List Nat) (cur : Nat) (w : World) (hb : base ≤ w.heap.size) (r0 : Reads w a0 n0 c0 l0) (r1 : Reads w a1 n1 c1 l1) (h0 : n0 ≤ Lim) (h1 : n1 ≤ Lim) (hc : cur < 2) :
    Calls Try.prog 9 #[.agg #[.slice a0 n0 c0, .slice a1 n1 c1], .int .i64 (cur : Int)] w fun x w' => ∃ F df, x = .returned (.tuple #[.pointer (some ⟨F, 0, none⟩), .int .i64 0]) ∧ IsD base w' F df ∧ df.ab = ⟨l0, [], l1, [], cur, 0, false, 0, false⟩ ∧ Kept (fun _ => False) w w' ∧ (∀ k, df.Uses F k → w.heap.size ≤ k) := by
  refine (dLoad a0 n0 c0 l0 a1 n1 c1 l1 cur w r0 r1 h0 h1 hc).mono ?_
  rintro x w' ⟨df, rfl, i1, i2, K2, u⟩
  exact ⟨_, df, rfl, i1.mono hb, i2, K2, u⟩
theorem rLoadX (base : Nat) (a0 : Option Addr) (n0 c0 : Nat) (l0 : List Nat) (a1 : Option Addr) (n1 c1 : Nat) (l1 : List Nat) (cur : Nat) (w : World) (hb : base ≤ w.heap.size) (r0 : Reads w a0 n0 c0 l0) (r1 : Reads w a1 n1 c1 l1) (h0 : n0 ≤ Lim) (h1 : n1 ≤ Lim) (hc : cur = 0 ∨ cur = 1) :
    Calls Try.prog 50 #[.agg #[.slice a0 n0 c0, .slice a1 n1 c1], .int .i64 (cur : Int)] w fun x w' => ∃ F r, x = .returned (.tuple #[.pointer (some ⟨F, 0, none⟩), .int .i64 0]) ∧ IsR base w' F r ∧ r.ab = ⟨l0, [], l1, [], cur, 0, false, 0, false⟩ ∧ Kept (fun _ => False) w w' ∧ (∀ k, r.Uses F k → w.heap.size ≤ k) := by
  refine (rLoad a0 n0 c0 l0 a1 n1 c1 l1 cur w r0 r1 h0 h1 hc).mono ?_
  rintro x w' ⟨r, rfl, i1, i2, K2, u⟩
  exact ⟨_, r, rfl, i1.mono hb, i2, K2, u⟩
theorem join_new {w wc w6 : World} {pa : Option Addr} {pn pc : Nat} {L1 : List Pr} {x : Pr} {L2 : List Pr} {o : Opv} {V U : Nat} {S S6 : Nat → Prop} (a : ON w wc pa pn pc L1 x L2 o V U S) (o6 : ON w w6 pa pn pc L1 x L2 o V U S6) {F G m : Nat} {df : DK} {rf : RK} (i1 : IsD w.heap.size w6 F df) (i2 : IsR w.heap.size w6 G rf) (u1 : ∀ k, df.Uses F k → wc.heap.size ≤ k ∧ k < m) (u2 : ∀ k, rf.Uses G k → m ≤ k) (hm : wc.heap.size ≤ m) : AL w w6 (⟨F, df, G, rf⟩ :: (L1 ++ x :: L2)) (fun k => blockOf pa = some k) := by
  have lo : ∀ k, Pr.Uses ⟨F, df, G, rf⟩ k → wc.heap.size ≤ k := fun k u => by
    rcases u with z | z
    · exact (u1 k z).1
    · exact Nat.le_trans hm (u2 k z)
  refine o6.back.join (x := ⟨F, df, G, rf⟩) i1 i2 (fun k p q => ?_) (fun k u y hy v => ?_) (fun k hk => ⟨hk, fun u => ?_⟩)
  · have h1 := (u1 k p).2
    have h2 := u2 k q
    omega
  · have h1 := lo k u
    have h2 := a.back.lt hy v
    omega
  · have h1 := lo k u
    have h2 := (a.back.far k hk).1
    omega
theorem fits_load {o : Opv} {a0 : Option Addr} {n0 c0 : Nat} {l0 : List Nat} {a1 : Option Addr} {n1 c1 : Nat} {l1 : List Nat} {a2 : Option Addr} {n2 c2 : Nat} (hv : o.v0 = .slice a0 n0 c0 ∧ o.v1 = .slice a1 n1 c1 ∧ o.v2 = .slice a2 n2 c2) (h0 : l0.length = n0) (h1 : l1.length = n1) (s t cur : Nat) : Fits ⟨l0, [], l1, [], cur, 0, false, 0, false⟩ (s + o.wh) (t + 1) := by
  have hwh : o.wh = o.n + n0 + n1 + n2 := by unfold Opv.wh; rw [hv.1, hv.2.1, hv.2.2]; rfl
  have wn : weigh [] = 0 := rfl
  refine ⟨?_, Nat.zero_le _, Nat.zero_le _, Nat.zero_le _, by show (0 : Int) ≤ 0 ∧ (0 : Int) < 9223372036854775808; decide⟩
  show l0.length + weigh [] + l1.length + weigh [] ≤ _
  omega
end Go.Proofs.Ytbnnmelkbjkkjaa
