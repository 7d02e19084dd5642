import Derived.Test.YtodmakcklacbfaaNRowsJ
import Derived.Deep.OwnRows
import Derived.Deep.DeepCutAuto
namespace Go.Proofs.Ytodmakcklacbfaa
open Go.RowKit 

def Cm.ahd (a b : Cm) : Bool := !(a.put && a.opn) && decide (0 ≤ a.to) && decide (a.to < b.frm)
/-- Behind 'compare'. -/
def CmpQ (w w' : World) (fb n : Nat) (cp : Option Addr) (cc vb ab bb lb mb : Nat) (V : Nat → Int) (mw : Nat) (A B L : Nat → Nat) (mi mj : Cm) (i j : Nat) : Prop := NF w' fb n cp cc vb ab bb lb mb V mw (if mi.ahd mj = true then put1 A j (add (A j) i) else A) (if mi.ahd mj = true then put1 B i (add (B i) j) else B) (if (mi.put != mj.put) = true ∧ V i = V j then put1 L i (add (L i) j) else L) ∧ Kept (fun b => b = ab ∨ b = bb ∨ b = lb) w w'
set_option maxRecDepth 100000 in
set_option maxHeartbeats 8000000 in
theorem compare {w : World} {fb n : Nat} {cp : Option Addr} {cc vb ab bb lb mb : Nat} {V : Nat → Int} {mw : Nat} {A B L : Nat → Nat} {ms : List Cm} (h : NF w fb n cp cc vb ab bb lb mb V mw A B L) (cr : CRd w cp n cc ms) {i j : Nat} (hi : i < n) (hj : j < n) {mi mj : Cm} (ei : ms[i]? = some mi) (ej : ms[j]? = some mj) :
    Calls Try.prog 75 #[.pointer (some ⟨fb, 0, none⟩), .int .i64 (i : Int), .int .i64 (j : Int)] w fun o w' => o = .returned (.tuple #[]) ∧ CmpQ w w' fb n cp cc vb ab bb lb mb V mw A B L mi mj i j := by
  have n24 := h.n24
  have rm := cr.room
  have sm := cr.small
  unfold maxLen at sm
  obtain ⟨b, off, m1, rfl, e1, a0, a1, a2, a3, a4, a5, a6, a7, a8, a9, a10, _⟩ := cr.at hi
  obtain ⟨b', off', m2, eb, e2, b0, b1, b2, b3, b4, b5, b6, b7, b8, b9, b10, _⟩ := cr.at hj
  simp at eb
  obtain ⟨rfl, rfl⟩ := eb
  rw [ei] at e1
  rw [ej] at e2
  have e1 := Option.some.inj e1
  have e2 := Option.some.inj e2
  subst e1 e2
  have f0 := cell_blk h.blk 0 (v := .slice (some ⟨b, off, none⟩) n cc) rfl
  have i1 : (i : Int) < (n : Int) := by omega
  have j1 : (j : Int) < (n : Int) := by omega
  have i0 : (0 : Int) ≤ (i : Int) := by omega
  have j0 : (0 : Int) ≤ (j : Int) := by omega
  have H : Hid (NF w fb n (some ⟨b, off, none⟩) cc vb ab bb lb mb V mw A B L ∧ i < n ∧ j < n) := ⟨h, hi, hj⟩
  have lf : fb < w.heap.size := block_lt h.blk
  have lb' : b < w.heap.size := World.block_lt_of_cell? w _ a0
  have nf0 : ¬ fb = w.heap.size := by omega
  have nf1 : ¬ fb = w.heap.size + 1 := by omega
  have nb0 : ¬ b = w.heap.size := by omega
  have nb1 : ¬ b = w.heap.size + 1 := by omega
  clear h cr ei ej
  go_enter Try.func75, Try.ntmps75
  go_upto_region 0 with fail
  go_cut [6, 7] from 8 to 21 (fun x y wc => ∃ CI CJ, x = .pointer (some ⟨CI, 0, none⟩) ∧ y = .pointer (some ⟨CJ, 0, none⟩) ∧ Hid (wc.heap[CI]? = some (.cells mi.cs 38 (0, 0)) ∧ wc.heap[CJ]? = some (.cells mj.cs 38 (0, 0)) ∧ Kept (fun _ => False) w wc))
  case first =>
    go_region
    · go_wp2_with fail
      go_meet
      case rel => exact ⟨w.heap.size, w.heap.size + 1, rfl, rfl, get_alloc (alloc_new _ _), alloc_new2 _ _ _ _, (((Kept.refl (fun _ => False) w).alloc _).alloc _).drew⟩
    · go_wp2_with fail
      go_meet
      case rel => exact ⟨w.heap.size + 1, w.heap.size, rfl, rfl, alloc_new2 _ _ _ _, get_alloc (alloc_new _ _), (((Kept.refl (fun _ => False) w).alloc _).alloc _).drew⟩
  case rest =>
    clear a0 a1 a2 a3 a4 a5 a6 a7 a8 a9 a10 b0 b1 b2 b3 b4 b5 b6 b7 b8 b9 b10 f0 lf lb' nf0 nf1 nb0 nb1
    obtain ⟨CI, CJ, rfl, rfl, J⟩ := hcut
    obtain ⟨wf, hwf⟩ : ∃ wf, wf = wc := ⟨_, rfl⟩
    rw [← hwf] at J ⊢
    clear hwf
    have N0 : Hid (NF wf fb n (some ⟨b, off, none⟩) cc vb ab bb lb mb V mw A B L) := H.out.1.k0 J.out.2.2
    have x2 := cell_blk J.out.1 2 (v := .bool mi.put) rfl
    have CO : Hid (Calls Try.prog 74 #[.agg #[.int .i64 mi.client, .int .i64 mi.op, .bool mi.put, .string mi.key, .slice mi.va mi.vn mi.vc, .int .i64 mi.st, .int .i64 mi.frm, .int .i64 mi.to, .bool mi.opn, .int .i64 mi.tx, .int .i64 mi.ty]] wf fun o w' => o = .returned (.bool (mi.put && mi.opn)) ∧ Kept (fun _ => False) wf w') := isOpen mi wf
    obtain ⟨op, hop⟩ : ∃ op, (mi.put && mi.opn) = op := ⟨_, rfl⟩
    rw [hop] at CO
    have EA : Hid (mi.ahd mj = (!op && decide (0 ≤ mi.to) && decide (mi.to < mj.frm))) := by
      show mi.ahd mj = (!op && decide (0 ≤ mi.to) && decide (mi.to < mj.frm))
      rw [← hop]
      rfl
    have c0 := cell_blk J.out.1 0 (v := .int .i64 mi.client) rfl
    have c1 := cell_blk J.out.1 1 (v := .int .i64 mi.op) rfl
    have c3 := cell_blk J.out.1 3 (v := .string mi.key) rfl
    have c4 := cell_blk J.out.1 4 (v := .slice mi.va mi.vn mi.vc) rfl
    have c5 := cell_blk J.out.1 5 (v := .int .i64 mi.st) rfl
    have c6 := cell_blk J.out.1 6 (v := .int .i64 mi.frm) rfl
    have c7 := cell_blk J.out.1 7 (v := .int .i64 mi.to) rfl
    have c8 := cell_blk J.out.1 8 (v := .bool mi.opn) rfl
    have c9 := cell_blk J.out.1 9 (v := .int .i64 mi.tx) rfl
    have c10 := cell_blk J.out.1 10 (v := .int .i64 mi.ty) rfl
    clear hop
    go_upto_region 1 with fail
    go_cut [36] from 22 to 35 (fun x w4 => x = .bool (mi.ahd mj) ∧ Hid (NF w4 fb n (some ⟨b, off, none⟩) cc vb ab bb lb mb V mw A B L ∧ w4.heap[CI]? = some (.cells mi.cs 38 (0, 0)) ∧ w4.heap[CJ]? = some (.cells mj.cs 38 (0, 0)) ∧ Kept (fun _ => False) w w4))
    case first =>
      go_wp2_with fail
      refine CO.out.mono ?_
      rintro o w3 ⟨rfl, K3⟩
      have J3 : Hid (NF w3 fb n (some ⟨b, off, none⟩) cc vb ab bb lb mb V mw A B L ∧ w3.heap[CI]? = some (.cells mi.cs 38 (0, 0)) ∧ w3.heap[CJ]? = some (.cells mj.cs 38 (0, 0)) ∧ Kept (fun _ => False) w w3) := ⟨N0.out.k0 K3, K3.get J.out.1 (fun z => z), K3.get J.out.2.1 (fun z => z), J.out.2.2.trans K3 (fun _ _ z => z.elim)⟩
      clear K3 CO c0 c1 c3 c4 c5 c6 c7 c8 c9 c10 x2
      have x7 := cell_blk J3.out.2.1 7 (v := .int .i64 mi.to) rfl
      have y6 := cell_blk J3.out.2.2.1 6 (v := .int .i64 mj.frm) rfl
      cases op
      · by_cases h1 : 0 ≤ mi.to
        · by_cases h2 : mi.to < mj.frm
          · have E1 : Hid (mi.ahd mj = true) := by
              show mi.ahd mj = true
              rw [EA.out, decide_eq_true h1, decide_eq_true h2]
              rfl
            clear EA
            go_wp2_with fail
            go_meet
            case rel => exact ⟨by rw [E1.out] <;> first | (simp; omega) | simp, J3⟩
          · have E0 : Hid (mi.ahd mj = false) := by
              show mi.ahd mj = false
              rw [EA.out, decide_eq_false h2]
              simp
            clear EA
            go_wp2_with fail
            go_meet
            case rel => exact ⟨by rw [E0.out] <;> first | (simp; omega) | simp, J3⟩
        · have E0 : Hid (mi.ahd mj = false) := by
            show mi.ahd mj = false
            rw [EA.out, decide_eq_false h1]
            simp
          clear EA
          go_wp2_with fail
          go_meet
          case rel => exact ⟨by rw [E0.out] <;> first | (simp; omega) | simp, J3⟩
      · have E0 : Hid (mi.ahd mj = false) := by
          show mi.ahd mj = false
          rw [EA.out]
          simp
        clear EA
        go_wp2_with fail
        go_meet
        case rel => exact ⟨by rw [E0.out] <;> first | (simp; omega) | simp, J3⟩
    case rest =>
    clear c0 c1 c3 c4 c5 c6 c7 c8 c9 c10 x2 CO N0 J EA
    obtain ⟨rfl, J2⟩ := hcut
    obtain ⟨w3, hw3⟩ : ∃ w3, w3 = wc := ⟨_, rfl⟩
    rw [← hw3] at J2 ⊢
    clear hw3
    have J3 : Hid (NF w3 fb n (some ⟨b, off, none⟩) cc vb ab bb lb mb V mw A B L ∧ w3.heap[CI]? = some (.cells mi.cs 38 (0, 0)) ∧ w3.heap[CJ]? = some (.cells mj.cs 38 (0, 0)) ∧ Kept (fun _ => False) w w3) := J2.out
    clear J2
    obtain ⟨ah, hah⟩ : ∃ ah, ah = mi.ahd mj := ⟨_, rfl⟩
    rw [← hah]
    have HH : Hid (ah = mi.ahd mj) := hah
    clear hah
    go_upto_if 36 with fail
    go_cut [6] from 37 to 58 (fun x w4 => x = .pointer (some ⟨CI, 0, none⟩) ∧ Hid (NF w4 fb n (some ⟨b, off, none⟩) cc vb ab bb lb mb V mw (if mi.ahd mj = true then put1 A j (add (A j) i) else A) (if mi.ahd mj = true then put1 B i (add (B i) j) else B) L ∧ w4.heap[CI]? = some (.cells mi.cs 38 (0, 0)) ∧ w4.heap[CJ]? = some (.cells mj.cs 38 (0, 0)) ∧ Kept (fun b => b = ab ∨ b = bb ∨ b = lb) w w4))
    case first =>
      cases ah
      · have G : Hid (NF w3 fb n (some ⟨b, off, none⟩) cc vb ab bb lb mb V mw (if mi.ahd mj = true then put1 A j (add (A j) i) else A) (if mi.ahd mj = true then put1 B i (add (B i) j) else B) L ∧ w3.heap[CI]? = some (.cells mi.cs 38 (0, 0)) ∧ w3.heap[CJ]? = some (.cells mj.cs 38 (0, 0)) ∧ Kept (fun b => b = ab ∨ b = bb ∨ b = lb) w w3) := by
          rw [← HH.out, if_neg (by decide), if_neg (by decide)]
          exact ⟨J3.out.1, J3.out.2.1, J3.out.2.2.1, J3.out.2.2.2.mono (fun _ _ z => z.elim)⟩
        go_wp2_with fail
        go_meet
        case rel => exact ⟨rfl, G⟩
      · have E1 : Hid (mi.ahd mj = true) := HH.out.symm
        have f4 := cell_blk J3.out.1.blk 4 (v := .slice (some ⟨bb, 0, none⟩) n n) rfl
        have r4 := cell_blk J3.out.1.hb i (vrow_get _ H.out.2.1)
        have z4 := soft_blk J3.out.1.hb i
        unfold u32v at r4
        obtain ⟨q, hq⟩ : ∃ q : Nat, q = 2 ^ j := ⟨_, rfl⟩
        have p2 : (2 : Int) ^ j % 4294967296 = (q : Int) := by rw [hq]; exact pow_mod (by omega)
        have p3 : IntKind.u32.wrap ((2 : Int) ^ j) = (q : Int) := by rw [IntKind.wrap_u32]; exact p2
        obtain ⟨Bi, hBi⟩ : ∃ Bi, Bi = B i := ⟨_, rfl⟩
        rw [← hBi] at r4
        obtain ⟨ae, hae⟩ : ∃ ae, ae = add Bi j := ⟨_, rfl⟩
        have lBi : Bi < 16777216 := by rw [hBi]; exact J3.out.1.lB i
        have o2 : bits .or .u32 (Bi : Int) (q : Int) = (ae : Int) := by
          rw [hq, hae]
          exact or_pow Bi j (by omega) (by omega)
        have ae24 : ae < 16777216 := by rw [hae]; exact add_lt (n := 24) (by omega) (by omega)
        have nfb : ¬ fb = bb := J3.out.1.nvb.2.2.1
        have nbf : ¬ bb = fb := fun z => nfb z.symm
        have HB : Hid (ae = add (B i) j) := by show ae = add (B i) j; rw [hae, hBi]
        clear hq hBi hae
        go_wp2_with fail
        go_region
        obtain ⟨W5, hW5⟩ : ∃ W5, W5 = (w3.setCell ⟨bb, i, none⟩ (.int .u32 (ae : Int))).drew := ⟨_, rfl⟩
        have J5 : Hid (NF W5 fb n (some ⟨b, off, none⟩) cc vb ab bb lb mb V mw A (put1 B i (add (B i) j)) L ∧ W5.heap[CI]? = some (.cells mi.cs 38 (0, 0)) ∧ W5.heap[CJ]? = some (.cells mj.cs 38 (0, 0)) ∧ Kept (fun b => b = ab ∨ b = bb ∨ b = lb) w W5) := by
          have KS := keptSet w3 bb i (.int .u32 (ae : Int))
          have KD : Kept (fun _ => False) (w3.setCell ⟨bb, i, none⟩ (.int .u32 (ae : Int))) W5 := by rw [hW5]; exact (Kept.refl _ _).drew
          have nn : ∀ {C : Nat} {cs : Array Value}, w3.heap[C]? = some (.cells cs 38 (0, 0)) → ¬ C = bb := fun hc z => by
            rw [z, J3.out.1.hb] at hc
            simp at hc
          refine ⟨?_, KD.get (KS.get J3.out.2.1 (nn J3.out.2.1)) (fun z => z), KD.get (KS.get J3.out.2.2.1 (nn J3.out.2.2.1)) (fun z => z), ((J3.out.2.2.2.mono (fun _ _ z => z.elim)).trans KS (fun k _ z => .inr (.inl z))).trans KD (fun _ _ z => z.elim)⟩
          rw [← HB.out]
          exact (J3.out.1.setB i ae ae24).k0 KD
        rw [← hW5]
        clear hW5 f4 r4 z4 p2 p3 o2 nfb nbf J3
        have f3 := cell_blk J5.out.1.blk 3 (v := .slice (some ⟨ab, 0, none⟩) n n) rfl
        have r3 := cell_blk J5.out.1.ha j (vrow_get _ H.out.2.2)
        have z3 := soft_blk J5.out.1.ha j
        unfold u32v at r3
        obtain ⟨q', hq'⟩ : ∃ q : Nat, q = 2 ^ i := ⟨_, rfl⟩
        have p2 : (2 : Int) ^ i % 4294967296 = (q' : Int) := by rw [hq']; exact pow_mod (by omega)
        have p3 : IntKind.u32.wrap ((2 : Int) ^ i) = (q' : Int) := by rw [IntKind.wrap_u32]; exact p2
        obtain ⟨Aj, hAj⟩ : ∃ Aj, Aj = A j := ⟨_, rfl⟩
        rw [← hAj] at r3
        obtain ⟨af, haf⟩ : ∃ af, af = add Aj i := ⟨_, rfl⟩
        have lAj : Aj < 16777216 := by rw [hAj]; exact J5.out.1.lA j
        have o2 : bits .or .u32 (Aj : Int) (q' : Int) = (af : Int) := by
          rw [hq', haf]
          exact or_pow Aj i (by omega) (by omega)
        have af24 : af < 16777216 := by rw [haf]; exact add_lt (n := 24) (by omega) (by omega)
        have nfb : ¬ fb = ab := J5.out.1.nvb.2.1
        have nbf : ¬ ab = fb := fun z => nfb z.symm
        have HA : Hid (af = add (A j) i) := by show af = add (A j) i; rw [haf, hAj]
        clear hq' hAj haf
        go_wp2_with fail
        go_region
        have J6 : Hid (NF (W5.setCell ⟨ab, j, none⟩ (.int .u32 (af : Int))).drew fb n (some ⟨b, off, none⟩) cc vb ab bb lb mb V mw (if mi.ahd mj = true then put1 A j (add (A j) i) else A) (if mi.ahd mj = true then put1 B i (add (B i) j) else B) L ∧ (W5.setCell ⟨ab, j, none⟩ (.int .u32 (af : Int))).drew.heap[CI]? = some (.cells mi.cs 38 (0, 0)) ∧ (W5.setCell ⟨ab, j, none⟩ (.int .u32 (af : Int))).drew.heap[CJ]? = some (.cells mj.cs 38 (0, 0)) ∧ Kept (fun b => b = ab ∨ b = bb ∨ b = lb) w (W5.setCell ⟨ab, j, none⟩ (.int .u32 (af : Int))).drew) := by
          have KS := keptSet W5 ab j (.int .u32 (af : Int))
          have KD : Kept (fun _ => False) (W5.setCell ⟨ab, j, none⟩ (.int .u32 (af : Int))) (W5.setCell ⟨ab, j, none⟩ (.int .u32 (af : Int))).drew := (Kept.refl _ _).drew
          have nn : ∀ {C : Nat} {cs : Array Value}, W5.heap[C]? = some (.cells cs 38 (0, 0)) → ¬ C = ab := fun hc z => by
            rw [z, J5.out.1.ha] at hc
            simp at hc
          refine ⟨?_, KD.get (KS.get J5.out.2.1 (nn J5.out.2.1)) (fun z => z), KD.get (KS.get J5.out.2.2.1 (nn J5.out.2.2.1)) (fun z => z), (J5.out.2.2.2.trans KS (fun k _ z => .inl z)).trans KD (fun _ _ z => z.elim)⟩
          rw [if_pos E1.out, if_pos E1.out, ← HA.out]
          exact (J5.out.1.setA j af af24).k0 KD
        clear J5 f3 r3 z3 p2 p3 o2 nfb nbf
        go_wp2_with fail
        go_meet
        case rel => exact ⟨rfl, J6⟩
    case rest =>
      clear J3 HH
      obtain ⟨rfl, J⟩ := hcut
      obtain ⟨wg, hwg⟩ : ∃ wg, wg = wc := ⟨_, rfl⟩
      rw [← hwg] at J ⊢
      clear hwg
      have x2 := cell_blk J.out.2.1 2 (v := .bool mi.put) rfl
      have y2 := cell_blk J.out.2.2.1 2 (v := .bool mj.put) rfl
      have f1 := cell_blk J.out.1.blk 1 (v := .slice (some ⟨vb, 0, none⟩) n n) rfl
      have vi := cell_blk J.out.1.hv i (vrow_get _ H.out.2.1)
      have vj := cell_blk J.out.1.hv j (vrow_get _ H.out.2.2)
      unfold i64v at vi vj
      obtain ⟨Vi, hVi⟩ : ∃ v, v = V i := ⟨_, rfl⟩
      obtain ⟨Vj, hVj⟩ : ∃ v, v = V j := ⟨_, rfl⟩
      rw [← hVi] at vi
      rw [← hVj] at vj
      obtain ⟨pi, hpi⟩ : ∃ t, mi.put = t := ⟨_, rfl⟩
      obtain ⟨pj, hpj⟩ : ∃ t, mj.put = t := ⟨_, rfl⟩
      rw [hpi] at x2
      rw [hpj] at y2
      obtain ⟨t2, ht2⟩ : ∃ t, (Vi == Vj) = t := ⟨_, rfl⟩
      have EL : Hid ((mi.put != mj.put) = (pi != pj) ∧ (t2 = true ↔ V i = V j)) := by
        refine ⟨by rw [hpi, hpj], ?_⟩
        rw [← hVi, ← hVj, ← ht2, beq_iff_eq]
      have f5 := cell_blk J.out.1.blk 5 (v := .slice (some ⟨lb, 0, none⟩) n n) rfl
      clear hVi hVj hpi hpj
      have NOL : Hid (¬ ((mi.put != mj.put) = true ∧ V i = V j) → ∀ W, Kept (fun _ => False) wg W → NF W fb n (some ⟨b, off, none⟩) cc vb ab bb lb mb V mw (if mi.ahd mj = true then put1 A j (add (A j) i) else A) (if mi.ahd mj = true then put1 B i (add (B i) j) else B) (if (mi.put != mj.put) = true ∧ V i = V j then put1 L i (add (L i) j) else L) ∧ Kept (fun b => b = ab ∨ b = bb ∨ b = lb) w W) := by
        intro z W kw
        rw [if_neg z]
        exact ⟨J.out.1.k0 kw, J.out.2.2.2.trans kw (fun _ _ z => z.elim)⟩
      go_upto_region 4 with fail
      cases pi <;> cases pj
      · skip
        have G : Hid (∀ W, Kept (fun _ => False) wg W → NF W fb n (some ⟨b, off, none⟩) cc vb ab bb lb mb V mw (if mi.ahd mj = true then put1 A j (add (A j) i) else A) (if mi.ahd mj = true then put1 B i (add (B i) j) else B) (if (mi.put != mj.put) = true ∧ V i = V j then put1 L i (add (L i) j) else L) ∧ Kept (fun b => b = ab ∨ b = bb ∨ b = lb) w W) := NOL.out (fun z => by rw [EL.out.1] at z; cases z.1)
        clear NOL
        go_quiet (fail)
        go_wp2_with fail
        (first | (refine bodyPost_ret (results_none rfl _ _ _) rfl ?_) | go_end0)
        exact ⟨rfl, G.out _ ((Kept.refl _ _).drewN _)⟩
      · cases t2
        · skip
          have G : Hid (∀ W, Kept (fun _ => False) wg W → NF W fb n (some ⟨b, off, none⟩) cc vb ab bb lb mb V mw (if mi.ahd mj = true then put1 A j (add (A j) i) else A) (if mi.ahd mj = true then put1 B i (add (B i) j) else B) (if (mi.put != mj.put) = true ∧ V i = V j then put1 L i (add (L i) j) else L) ∧ Kept (fun b => b = ab ∨ b = bb ∨ b = lb) w W) := NOL.out (fun z => by have := EL.out.2.2 z.2; cases this)
          clear NOL
          go_quiet (fail)
          go_wp2_with fail
          (first | (refine bodyPost_ret (results_none rfl _ _ _) rfl ?_) | go_end0)
          exact ⟨rfl, G.out _ ((Kept.refl _ _).drewN _)⟩
        · skip
          have E2 : Hid ((mi.put != mj.put) = true ∧ V i = V j) := ⟨EL.out.1, EL.out.2.1 rfl⟩
          clear NOL
          go_quiet (fail)
          obtain ⟨W6, hW6⟩ : ∃ W6, W6 = wg.drewN nq := ⟨_, rfl⟩
          have K6 : Hid (Kept (fun _ => False) wg W6) := by rw [hW6]; exact (Kept.refl _ _).drewN _
          rw [← hW6]
          clear hW6
          have N6 : Hid (NF W6 fb n (some ⟨b, off, none⟩) cc vb ab bb lb mb V mw (if mi.ahd mj = true then put1 A j (add (A j) i) else A) (if mi.ahd mj = true then put1 B i (add (B i) j) else B) L) := J.out.1.k0 K6.out
          replace f5 := K6.out.cell f5 (fun z => z)
          have r5 := cell_blk N6.out.hl i (vrow_get _ H.out.2.1)
          have z5 := soft_blk N6.out.hl i
          unfold u32v at r5
          obtain ⟨q, hq⟩ : ∃ q : Nat, q = 2 ^ j := ⟨_, rfl⟩
          have p2 : (2 : Int) ^ j % 4294967296 = (q : Int) := by rw [hq]; exact pow_mod (by omega)
          have p3 : IntKind.u32.wrap ((2 : Int) ^ j) = (q : Int) := by rw [IntKind.wrap_u32]; exact p2
          obtain ⟨Li, hLi⟩ : ∃ Li, Li = L i := ⟨_, rfl⟩
          rw [← hLi] at r5
          obtain ⟨ae, hae⟩ : ∃ ae, ae = add Li j := ⟨_, rfl⟩
          have lLi : Li < 16777216 := by rw [hLi]; exact N6.out.lL i
          have o2 : bits .or .u32 (Li : Int) (q : Int) = (ae : Int) := by
            rw [hq, hae]
            exact or_pow Li j (by omega) (by omega)
          have ae24 : ae < 16777216 := by rw [hae]; exact add_lt (n := 24) (by omega) (by omega)
          have nfb : ¬ fb = lb := N6.out.nvb.2.2.2.1
          have nbf : ¬ lb = fb := fun z => nfb z.symm
          have HL : Hid (ae = add (L i) j) := by show ae = add (L i) j; rw [hae, hLi]
          clear hq hLi hae x2 y2 f1 vi vj
          go_wp2_with fail
          go_region
          have G : Hid (NF (W6.setCell ⟨lb, i, none⟩ (.int .u32 (ae : Int))).drew fb n (some ⟨b, off, none⟩) cc vb ab bb lb mb V mw (if mi.ahd mj = true then put1 A j (add (A j) i) else A) (if mi.ahd mj = true then put1 B i (add (B i) j) else B) (if (mi.put != mj.put) = true ∧ V i = V j then put1 L i (add (L i) j) else L) ∧ Kept (fun b => b = ab ∨ b = bb ∨ b = lb) w (W6.setCell ⟨lb, i, none⟩ (.int .u32 (ae : Int))).drew) := by
            have KS := keptSet W6 lb i (.int .u32 (ae : Int))
            have KD : Kept (fun _ => False) (W6.setCell ⟨lb, i, none⟩ (.int .u32 (ae : Int))) (W6.setCell ⟨lb, i, none⟩ (.int .u32 (ae : Int))).drew := (Kept.refl _ _).drew
            refine ⟨?_, ((J.out.2.2.2.trans K6.out (fun _ _ z => z.elim)).trans KS (fun k _ z => .inr (.inr z))).trans KD (fun _ _ z => z.elim)⟩
            rw [if_pos E2.out, ← HL.out]
            exact (N6.out.setL i ae ae24).k0 KD
          go_wp2_with fail
          (first | (refine bodyPost_ret (results_none rfl _ _ _) rfl ?_) | go_end0)
          exact ⟨rfl, G.out⟩
      · cases t2
        · skip
          have G : Hid (∀ W, Kept (fun _ => False) wg W → NF W fb n (some ⟨b, off, none⟩) cc vb ab bb lb mb V mw (if mi.ahd mj = true then put1 A j (add (A j) i) else A) (if mi.ahd mj = true then put1 B i (add (B i) j) else B) (if (mi.put != mj.put) = true ∧ V i = V j then put1 L i (add (L i) j) else L) ∧ Kept (fun b => b = ab ∨ b = bb ∨ b = lb) w W) := NOL.out (fun z => by have := EL.out.2.2 z.2; cases this)
          clear NOL
          go_quiet (fail)
          go_wp2_with fail
          (first | (refine bodyPost_ret (results_none rfl _ _ _) rfl ?_) | go_end0)
          exact ⟨rfl, G.out _ ((Kept.refl _ _).drewN _)⟩
        · skip
          have E2 : Hid ((mi.put != mj.put) = true ∧ V i = V j) := ⟨EL.out.1, EL.out.2.1 rfl⟩
          clear NOL
          go_quiet (fail)
          obtain ⟨W6, hW6⟩ : ∃ W6, W6 = wg.drewN nq := ⟨_, rfl⟩
          have K6 : Hid (Kept (fun _ => False) wg W6) := by rw [hW6]; exact (Kept.refl _ _).drewN _
          rw [← hW6]
          clear hW6
          have N6 : Hid (NF W6 fb n (some ⟨b, off, none⟩) cc vb ab bb lb mb V mw (if mi.ahd mj = true then put1 A j (add (A j) i) else A) (if mi.ahd mj = true then put1 B i (add (B i) j) else B) L) := J.out.1.k0 K6.out
          replace f5 := K6.out.cell f5 (fun z => z)
          have r5 := cell_blk N6.out.hl i (vrow_get _ H.out.2.1)
          have z5 := soft_blk N6.out.hl i
          unfold u32v at r5
          obtain ⟨q, hq⟩ : ∃ q : Nat, q = 2 ^ j := ⟨_, rfl⟩
          have p2 : (2 : Int) ^ j % 4294967296 = (q : Int) := by rw [hq]; exact pow_mod (by omega)
          have p3 : IntKind.u32.wrap ((2 : Int) ^ j) = (q : Int) := by rw [IntKind.wrap_u32]; exact p2
          obtain ⟨Li, hLi⟩ : ∃ Li, Li = L i := ⟨_, rfl⟩
          rw [← hLi] at r5
          obtain ⟨ae, hae⟩ : ∃ ae, ae = add Li j := ⟨_, rfl⟩
          have lLi : Li < 16777216 := by rw [hLi]; exact N6.out.lL i
          have o2 : bits .or .u32 (Li : Int) (q : Int) = (ae : Int) := by
            rw [hq, hae]
            exact or_pow Li j (by omega) (by omega)
          have ae24 : ae < 16777216 := by rw [hae]; exact add_lt (n := 24) (by omega) (by omega)
          have nfb : ¬ fb = lb := N6.out.nvb.2.2.2.1
          have nbf : ¬ lb = fb := fun z => nfb z.symm
          have HL : Hid (ae = add (L i) j) := by show ae = add (L i) j; rw [hae, hLi]
          clear hq hLi hae x2 y2 f1 vi vj
          go_wp2_with fail
          go_region
          have G : Hid (NF (W6.setCell ⟨lb, i, none⟩ (.int .u32 (ae : Int))).drew fb n (some ⟨b, off, none⟩) cc vb ab bb lb mb V mw (if mi.ahd mj = true then put1 A j (add (A j) i) else A) (if mi.ahd mj = true then put1 B i (add (B i) j) else B) (if (mi.put != mj.put) = true ∧ V i = V j then put1 L i (add (L i) j) else L) ∧ Kept (fun b => b = ab ∨ b = bb ∨ b = lb) w (W6.setCell ⟨lb, i, none⟩ (.int .u32 (ae : Int))).drew) := by
            have KS := keptSet W6 lb i (.int .u32 (ae : Int))
            have KD : Kept (fun _ => False) (W6.setCell ⟨lb, i, none⟩ (.int .u32 (ae : Int))) (W6.setCell ⟨lb, i, none⟩ (.int .u32 (ae : Int))).drew := (Kept.refl _ _).drew
            refine ⟨?_, ((J.out.2.2.2.trans K6.out (fun _ _ z => z.elim)).trans KS (fun k _ z => .inr (.inr z))).trans KD (fun _ _ z => z.elim)⟩
            rw [if_pos E2.out, ← HL.out]
            exact (N6.out.setL i ae ae24).k0 KD
          go_wp2_with fail
          (first | (refine bodyPost_ret (results_none rfl _ _ _) rfl ?_) | go_end0)
          exact ⟨rfl, G.out⟩
      · skip
        have G : Hid (∀ W, Kept (fun _ => False) wg W → NF W fb n (some ⟨b, off, none⟩) cc vb ab bb lb mb V mw (if mi.ahd mj = true then put1 A j (add (A j) i) else A) (if mi.ahd mj = true then put1 B i (add (B i) j) else B) (if (mi.put != mj.put) = true ∧ V i = V j then put1 L i (add (L i) j) else L) ∧ Kept (fun b => b = ab ∨ b = bb ∨ b = lb) w W) := NOL.out (fun z => by rw [EL.out.1] at z; cases z.1)
        clear NOL
        go_quiet (fail)
        go_wp2_with fail
        (first | (refine bodyPost_ret (results_none rfl _ _ _) rfl ?_) | go_end0)
        exact ⟨rfl, G.out _ ((Kept.refl _ _).drewN _)⟩
end Go.Proofs.Ytodmakcklacbfaa
