import Derived.Test.YtbangbobfeflcaaDoorHRm
import Derived.Test.YtbangbobfeflcaaDoorHPs
namespace Go.Proofs.YtbangbobfeflcaaDoor
open Go.RowKit 

theorem lModR (a : Int) (n : Nat) (h0 : 0 < n) (h1 : n < 4611686018427387904) {r : Nat} (hr : (r : Int) = a % (n : Int)) (w : World) : Calls Tryd.prog 13 #[.int .i64 a, .int .i64 (n : Int)] w fun o w' => o = .returned (.int .i64 (r : Int)) ∧ w' = w := by
  refine (lMod a n h0 h1 w).mono ?_
  rintro o w' ⟨⟨q, rfl, _, hq⟩, hw⟩
  have : q = r := by omega
  subst this
  exact ⟨rfl, hw⟩
theorem grown_keep {V w9 : World} {b0 : Nat} {t t' : TypeId} {size k c : Nat} {p : Option Addr} {xs : List Value} (ho : V.ownsRow b0 t size (.slice p k c) k xs) (hg : V.grownBy w9 (Value.slice p k c).ownBlock) (hne : t' ≠ t) {q : Nat} {cs : Array Value} (hq : V.heap[q]? = some (.cells cs t' (0, 0))) : w9.heap[q]? = some (.cells cs t' (0, 0)) := by
  have KG : Kept (fun j => blockOf p = some j) V w9 := (Kept.refl (fun j => blockOf p = some j) V).grown hg (fun j _ z => by rw [blockOf_own] at z; exact z)
  refine KG.get hq (fun z => ?_)
  obtain ⟨c2, e2⟩ := own_type ho q z
  rw [hq] at e2
  simp at e2
  exact hne e2.2
theorem EaR.off {b0 : Nat} {w w' : World} {p : Option Addr} {k c : Nat} {L : List Ev} (h : EaR b0 w p k c L) {q : Nat} {cs : Array Value} {t : TypeId} (hq : w.heap[q]? = some (.cells cs t (0, 0))) (ht : t ≠ 45) (K : Kept (fun j => j = q) w w') : EaR b0 w' p k c L := h.by K (fun j z e => by
  subst e
  obtain ⟨c2, e2⟩ := own_type h.row j z
  rw [hq] at e2
  simp at e2
  exact ht e2.2)
theorem CRo.off {b0 : Nat} {w w' : World} {p : Option Addr} {k c : Nat} {L : List Ca} (h : CRo b0 w p k c L) {q : Nat} {cs : Array Value} {t : TypeId} (hq : w.heap[q]? = some (.cells cs t (0, 0))) (ht : t ≠ 48) (K : Kept (fun j => j = q) w w') : CRo b0 w' p k c L := h.by K (fun j z e => by
  subst e
  obtain ⟨c2, e2⟩ := own_type h.row j z
  rw [hq] at e2
  simp at e2
  exact ht e2.2)
theorem blk_off {w w' : World} {q r : Nat} {cs ds : Array Value} {t u : TypeId} (hq : w.heap[q]? = some (.cells cs t (0, 0))) (hr : w.heap[r]? = some (.cells ds u (0, 0))) (h : u ≠ t) (K : Kept (fun j => j = q) w w') : w'.heap[r]? = some (.cells ds u (0, 0)) := K.get hr (fun e => by
  subst e
  rw [hr] at hq
  simp at hq
  exact h hq.2)
theorem set_kept {w : World} {q : Nat} (i : Nat) (v : Value) : Kept (fun j => j = q) w (w.setCell ⟨q, i, none⟩ v) := (Kept.refl (fun j => j = q) w).setCell (p := ⟨q, i, none⟩) (fun _ => rfl) v
theorem set5 {V : World} {nb c : Nat} {now : Nat → Bz} (h : V.heap[nb]? = some (.cells (nowC now) 65 (0, 0))) (hc : c < 5) (b : Bz) : (((((V.setCell ⟨nb, c * 5, none⟩ (.bool b.on)).setCell ⟨nb, c * 5 + 1, none⟩ (.int .i64 b.op)).setCell ⟨nb, c * 5 + 2, none⟩ (.int .i64 (b.at_ : Int))).setCell ⟨nb, c * 5 + 3, none⟩ (.bool b.put)).setCell ⟨nb, c * 5 + 4, none⟩ (.string b.key)).heap[nb]? = some (.cells (nowC (setB now c b)) 65 (0, 0)) ∧ Kept (fun j => j = nb) V (((((V.setCell ⟨nb, c * 5, none⟩ (.bool b.on)).setCell ⟨nb, c * 5 + 1, none⟩ (.int .i64 b.op)).setCell ⟨nb, c * 5 + 2, none⟩ (.int .i64 (b.at_ : Int))).setCell ⟨nb, c * 5 + 3, none⟩ (.bool b.put)).setCell ⟨nb, c * 5 + 4, none⟩ (.string b.key)) := by
  refine ⟨?_, ((((((Kept.refl (fun j => j = nb) V).setCell (p := ⟨nb, c * 5, none⟩) (fun _ => rfl) _).setCell (p := ⟨nb, c * 5 + 1, none⟩) (fun _ => rfl) _).setCell (p := ⟨nb, c * 5 + 2, none⟩) (fun _ => rfl) _).setCell (p := ⟨nb, c * 5 + 3, none⟩) (fun _ => rfl) _).setCell (p := ⟨nb, c * 5 + 4, none⟩) (fun _ => rfl) _)⟩
  rw [set_heap (set_heap (set_heap (set_heap (set_heap h (c * 5) _) (c * 5 + 1) _) (c * 5 + 2) _) (c * 5 + 3) _) (c * 5 + 4) _, nowC_set now hc b]
theorem fault_ok {e : Ev} (h1 : e.kind = 1 ∨ e.kind = 2 ∨ e.kind = 3) (h2 : 1 ≤ e.client ∧ e.client ≤ 65535) (h3 : 1 ≤ e.key.size ∧ e.key.size ≤ 64) (h4 : valueE e = true) (h5 : tagE e = true) (h6 : 1 ≤ e.op ∧ e.op ≤ 4611686018427387903) (h7 : statusE e = true) : faultE e = 0 := by
  unfold faultE
  rw [if_neg (fun z => z h1), if_neg (by omega), if_neg (by omega), if_neg (by rw [h4]; simp), if_neg (by rw [h5]; simp), if_neg (by rw [h7]; simp; omega)]
theorem fault_parts {e : Ev} (h : faultE e = 0) : (1 ≤ e.op ∧ e.op ≤ 4611686018427387903) ∧ valueE e = true := by
  unfold faultE at h
  split at h
  · cases h
  · split at h
    · cases h
    · split at h
      · cases h
      · split at h
        · cases h
        · rename_i hv
          split at h
          · cases h
          · split at h
            · cases h
            · refine ⟨by omega, ?_⟩
              revert hv
              cases valueE e <;> simp
theorem get_val {e : Ev} (h : faultE e = 0) (k : e.kind = 1) (hp : e.put = false) : e.vn = 0 := by
  have := (fault_parts h).2
  unfold valueE formE at this
  simp [k, hp] at this
  exact this
/-- How right stands when an operation begins: the boxes of what is under way, of the event and of the call. -/
structure OB (w wo V : World) (nb kb B D i : Nat) (ep : Option Addr) (ec : Nat) (cp : Option Addr) (k cc : Nat) (es : List Ev) (cs : List Ca) (now : Nat → Bz) (BZ E X : Array Value) : Prop where
  er : EaR w.heap.size V ep i ec es
  cr : CRo w.heap.size V cp k cc cs
  nw : V.heap[nb]? = some (.cells (nowC now) 65 (0, 0))
  ks : V.heap[kb]? = some (.cells #[.string ⟨#[107]⟩, .string ⟨#[108]⟩, .string ⟨#[0, 34]⟩] 66 (0, 0))
  bb : V.heap[B + 1]? = some (.cells BZ 64 (0, 0))
  eb : V.heap[D]? = some (.cells E 45 (0, 0))
  xb : V.heap[D + 1]? = some (.cells X 48 (0, 0))
  ne : ¬ blockOf ep = some D
  nx : ¬ blockOf cp = some (D + 1)
  kept : Kept (fun _ => False) w V
  lo : w.heap.size ≤ D
theorem OB.setE {w wo V : World} {nb kb B D i : Nat} {ep : Option Addr} {ec : Nat} {cp : Option Addr} {k cc : Nat} {es : List Ev} {cs : List Ca} {now : Nat → Bz} {BZ E X : Array Value} (h : OB w wo V nb kb B D i ep ec cp k cc es cs now BZ E X) (j : Nat) (v : Value) : OB w wo (V.setCell ⟨D, j, none⟩ v) nb kb B D i ep ec cp k cc es cs now BZ (E.setIfInBounds j v) X :=
  have K := set_kept (w := V) (q := D) j v
  ⟨h.er.by K (fun _ z e => h.ne (by rw [← e]; exact z)), h.cr.off h.eb (by decide) K, blk_off h.eb h.nw (by decide) K, blk_off h.eb h.ks (by decide) K, blk_off h.eb h.bb (by decide) K, set_heap h.eb j v, blk_off h.eb h.xb (by decide) K, h.ne, h.nx, h.kept.own K (fun b z => by subst z; exact h.lo), h.lo⟩
theorem OB.setX {w wo V : World} {nb kb B D i : Nat} {ep : Option Addr} {ec : Nat} {cp : Option Addr} {k cc : Nat} {es : List Ev} {cs : List Ca} {now : Nat → Bz} {BZ E X : Array Value} (h : OB w wo V nb kb B D i ep ec cp k cc es cs now BZ E X) (j : Nat) (v : Value) : OB w wo (V.setCell ⟨D + 1, j, none⟩ v) nb kb B D i ep ec cp k cc es cs now BZ E (X.setIfInBounds j v) :=
  have K := set_kept (w := V) (q := D + 1) j v
  ⟨h.er.off h.xb (by decide) K, h.cr.by K (fun _ z e => h.nx (by rw [← e]; exact z)), blk_off h.xb h.nw (by decide) K, blk_off h.xb h.ks (by decide) K, blk_off h.xb h.bb (by decide) K, blk_off h.xb h.eb (by decide) K, set_heap h.xb j v, h.ne, h.nx, h.kept.own K (fun b z => by subst z; have := h.lo; omega), h.lo⟩
theorem OB.keep {w wo V V' : World} {nb kb B D i : Nat} {ep : Option Addr} {ec : Nat} {cp : Option Addr} {k cc : Nat} {es : List Ev} {cs : List Ca} {now : Nat → Bz} {BZ E X : Array Value} (h : OB w wo V nb kb B D i ep ec cp k cc es cs now BZ E X) (K : Kept (fun _ => False) V V') : OB w wo V' nb kb B D i ep ec cp k cc es cs now BZ E X :=
  ⟨h.er.k0 K, h.cr.k0 K, K.get h.nw (fun z => z), K.get h.ks (fun z => z), K.get h.bb (fun z => z), K.get h.eb (fun z => z), K.get h.xb (fun z => z), h.ne, h.nx, h.kept.trans K (fun _ _ z => z), h.lo⟩
/-- The event is put behind. -/
theorem OB.grow {w wo V w9 : World} {nb kb B D i : Nat} {ep : Option Addr} {ec : Nat} {cp : Option Addr} {k cc : Nat} {es : List Ev} {cs : List Ca} {now : Nat → Bz} {BZ E X : Array Value} (h : OB w wo V nb kb B D i ep ec cp k cc es cs now BZ E X) {p9 : Option Addr} {c9 : Nat} {e : Ev} (ho : w9.ownsRow w.heap.size 45 9 (.slice p9 (i + 1) c9) (i + 1) (ecs es ++ ecs [e])) (hg : V.grownBy w9 (Value.slice ep i ec).ownBlock) : EaR w.heap.size w9 p9 (i + 1) c9 (es ++ [e]) ∧ CRo w.heap.size w9 cp k cc cs ∧ w9.heap[nb]? = some (.cells (nowC now) 65 (0, 0)) ∧ w9.heap[kb]? = some (.cells #[.string ⟨#[107]⟩, .string ⟨#[108]⟩, .string ⟨#[0, 34]⟩] 66 (0, 0)) ∧ w9.heap[B + 1]? = some (.cells BZ 64 (0, 0)) ∧ w9.heap[D + 1]? = some (.cells X 48 (0, 0)) ∧ Kept (fun _ => False) w w9 := by
  obtain ⟨r, KG⟩ := h.er.more (M := [e]) rfl ho hg
  refine ⟨r, h.cr.by KG (fun j z q => ?_), grown_keep h.er.row hg (by decide) h.nw, grown_keep h.er.row hg (by decide) h.ks, grown_keep h.er.row hg (by decide) h.bb, grown_keep h.er.row hg (by decide) h.xb, h.kept.own KG (fun j z => (own_lt h.er.row j z).1)⟩
  obtain ⟨c1, e1⟩ := own_type h.cr.row j z
  obtain ⟨c2, e2⟩ := own_type h.er.row j q
  rw [e1] at e2
  simp at e2
theorem rs_begin {w wo w10 w11 : World} {nb kb i k k2 cc c9 c10 ec : Nat} {ep cp p9 p10 : Option Addr} {es : List Ev} {cs : List Ca} {now : Nat → Bz} (h : RS w wo nb kb i ep ec cp k cc es cs now) {c : Nat} (hc : c < 5) (ho : (now c).on = false) {e : Ev} {x : Ca} (k1 : e.kind = 1) (kc : e.client = (c : Int) + 1) (k3 : e.op = (now c).op + 1) (hf : faultE e = 0) (hx : x.cc = beginC e i) (hev : Reads w e.va e.vn e.vc e.val ∧ e.vn ≤ 1000) (hxv : Reads w x.va x.vn x.vc x.val) (hk2 : k2 = k + 1)
    (er : EaR w.heap.size w10 p9 (i + 1) c9 (es ++ [e])) (cr : CRo w.heap.size w10 p10 k2 c10 (cs ++ [x])) (nw : w10.heap[nb]? = some (.cells (nowC now) 65 (0, 0))) (ks : w10.heap[kb]? = some (.cells #[.string ⟨#[107]⟩, .string ⟨#[108]⟩, .string ⟨#[0, 34]⟩] 66 (0, 0))) (kp : Kept (fun _ => False) w w10) (nw2 : w11.heap[nb]? = some (.cells (nowC (setB now c ⟨true, (now c).op + 1, k, e.put, e.key⟩)) 65 (0, 0))) (K : Kept (fun j => j = nb) w10 w11) : RS w w11 nb kb (i + 1) p9 c9 p10 k2 c10 (es ++ [e]) (cs ++ [x]) (setB now c ⟨true, (now c).op + 1, k, e.put, e.key⟩) := by
  have el : es.length = i := h.er.len
  have cl : (cs.map Ca.cc).length = k := by rw [List.length_map]; exact h.cr.len
  refine ⟨?_, er.off nw (by decide) K, cr.off nw (by decide) K, fun y hy => ?_, fun y hy => ?_, nw2, blk_off nw ks (by decide) K, h.lo, kp.own K (fun b z => by subst z; exact h.lo.1), by have := h.ki; omega⟩
  · have q := h.ri.begin hc ho k1 kc k3 hf
    rw [el, ← hx, cl] at q
    rw [List.map_append]
    exact q
  · rcases List.mem_append.1 hy with z | z
    · exact h.ev y z
    · rw [List.mem_singleton] at z
      rw [z]
      exact hev
  · rcases List.mem_append.1 hy with z | z
    · exact h.cv y z
    · rw [List.mem_singleton] at z
      rw [z]
      exact hxv
/-- How right stands when an operation ends: the boxes, and the row of calls that is written into. -/
structure FB (w V : World) (nb kb B D g i : Nat) (ep : Option Addr) (ec k cc : Nat) (es : List Ev) (L : List Ca) (now : Nat → Bz) (M BZ T E : Array Value) : Prop where
  er : EaR w.heap.size V ep i ec es
  cr : CRo w.heap.size V (some ⟨g, 0, none⟩) k cc L
  nw : V.heap[nb]? = some (.cells (nowC now) 65 (0, 0))
  ks : V.heap[kb]? = some (.cells #[.string ⟨#[107]⟩, .string ⟨#[108]⟩, .string ⟨#[0, 34]⟩] 66 (0, 0))
  mb : V.heap[B]? = some (.cells M 68 (0, 0))
  bb : V.heap[B + 1]? = some (.cells BZ 64 (0, 0))
  tb : V.heap[B + 2]? = some (.cells T 43 (0, 0))
  eb : V.heap[D]? = some (.cells E 45 (0, 0))
  ne : ¬ blockOf ep = some D
  kept : Kept (fun _ => False) w V
  lo : w.heap.size ≤ D
theorem FB.setE {w V : World} {nb kb B D g i : Nat} {ep : Option Addr} {ec k cc : Nat} {es : List Ev} {L : List Ca} {now : Nat → Bz} {M BZ T E : Array Value} (h : FB w V nb kb B D g i ep ec k cc es L now M BZ T E) (j : Nat) (v : Value) : FB w (V.setCell ⟨D, j, none⟩ v) nb kb B D g i ep ec k cc es L now M BZ T (E.setIfInBounds j v) :=
  have K := set_kept (w := V) (q := D) j v
  ⟨h.er.by K (fun _ z e => h.ne (by rw [← e]; exact z)), h.cr.off h.eb (by decide) K, blk_off h.eb h.nw (by decide) K, blk_off h.eb h.ks (by decide) K, blk_off h.eb h.mb (by decide) K, blk_off h.eb h.bb (by decide) K, blk_off h.eb h.tb (by decide) K, set_heap h.eb j v, h.ne, h.kept.own K (fun b z => by subst z; exact h.lo), h.lo⟩
theorem FB.setX {w V : World} {nb kb B D g i : Nat} {ep : Option Addr} {ec k cc : Nat} {es : List Ev} {L : List Ca} {now : Nat → Bz} {M BZ T E : Array Value} (h : FB w V nb kb B D g i ep ec k cc es L now M BZ T E) {t : Nat} {x : Ca} (ht : L[t]? = some x) (x' : Ca) (j : Nat) (v : Value) (hj : j < 11) (e : x'.cs.toList = x.cs.toList.set j v) : FB w (V.setCell ⟨g, t * 11 + j, none⟩ v) nb kb B D g i ep ec k cc es (L.set t x') now M BZ T E := by
  obtain ⟨c2, e2⟩ := own_type h.cr.row g rfl
  have K := set_kept (w := V) (q := g) (t * 11 + j) v
  exact ⟨h.er.off e2 (by decide) K, h.cr.set ht x' j v hj e, blk_off e2 h.nw (by decide) K, blk_off e2 h.ks (by decide) K, blk_off e2 h.mb (by decide) K, blk_off e2 h.bb (by decide) K, blk_off e2 h.tb (by decide) K, blk_off e2 h.eb (by decide) K, h.ne, h.kept.own K (fun b z => by subst z; exact (own_lt h.cr.row b rfl).1), h.lo⟩
theorem FB.keep {w V V' : World} {nb kb B D g i : Nat} {ep : Option Addr} {ec k cc : Nat} {es : List Ev} {L : List Ca} {now : Nat → Bz} {M BZ T E : Array Value} (h : FB w V nb kb B D g i ep ec k cc es L now M BZ T E) (K : Kept (fun _ => False) V V') : FB w V' nb kb B D g i ep ec k cc es L now M BZ T E :=
  ⟨h.er.k0 K, h.cr.k0 K, K.get h.nw (fun z => z), K.get h.ks (fun z => z), K.get h.mb (fun z => z), K.get h.bb (fun z => z), K.get h.tb (fun z => z), K.get h.eb (fun z => z), h.ne, h.kept.trans K (fun _ _ z => z), h.lo⟩
theorem FB.grow {w V w9 : World} {nb kb B D g i : Nat} {ep : Option Addr} {ec k cc : Nat} {es : List Ev} {L : List Ca} {now : Nat → Bz} {M BZ T E : Array Value} (h : FB w V nb kb B D g i ep ec k cc es L now M BZ T E) {p9 : Option Addr} {c9 : Nat} {e : Ev} (ho : w9.ownsRow w.heap.size 45 9 (.slice p9 (i + 1) c9) (i + 1) (ecs es ++ ecs [e])) (hg : V.grownBy w9 (Value.slice ep i ec).ownBlock) : EaR w.heap.size w9 p9 (i + 1) c9 (es ++ [e]) ∧ CRo w.heap.size w9 (some ⟨g, 0, none⟩) k cc L ∧ w9.heap[nb]? = some (.cells (nowC now) 65 (0, 0)) ∧ w9.heap[kb]? = some (.cells #[.string ⟨#[107]⟩, .string ⟨#[108]⟩, .string ⟨#[0, 34]⟩] 66 (0, 0)) ∧ Kept (fun _ => False) w w9 := by
  obtain ⟨r, KG⟩ := h.er.more (M := [e]) rfl ho hg
  refine ⟨r, h.cr.by KG (fun j z q => ?_), grown_keep h.er.row hg (by decide) h.nw, grown_keep h.er.row hg (by decide) h.ks, h.kept.own KG (fun j z => (own_lt h.er.row j z).1)⟩
  obtain ⟨c1, e1⟩ := own_type h.cr.row j z
  obtain ⟨c2, e2⟩ := own_type h.er.row j q
  rw [e1] at e2
  simp at e2
theorem rs_end {w wo w10 : World} {nb kb i k cc c9 ec : Nat} {ep cp p9 : Option Addr} {es : List Ev} {cs : List Ca} {now : Nat → Bz} (h : RS w wo nb kb i ep ec cp k cc es cs now) {c : Nat} (hc : c < 5) (ho : (now c).on = true) {e : Ev} {x x2 : Ca} (ht : cs[(now c).at_]? = some x) (k1 : ¬ e.kind = 1) (kc : e.client = (c : Int) + 1) (k3 : e.op = (now c).op) (k4 : e.put = (now c).put) (k5 : e.key = (now c).key) (hf : faultE e = 0) (hx : x2.cc = endC x.cc e i) (hev : Reads w e.va e.vn e.vc e.val ∧ e.vn ≤ 1000) (hxv : Reads w x2.va x2.vn x2.vc x2.val)
    (er : EaR w.heap.size w10 p9 (i + 1) c9 (es ++ [e])) {p10 : Option Addr} (cr : CRo w.heap.size w10 p10 k cc (cs.set (now c).at_ x2)) (nw : w10.heap[nb]? = some (.cells (nowC now) 65 (0, 0))) (ks : w10.heap[kb]? = some (.cells #[.string ⟨#[107]⟩, .string ⟨#[108]⟩, .string ⟨#[0, 34]⟩] 66 (0, 0))) (kp : Kept (fun _ => False) w w10) : RS w (w10.setCell ⟨nb, c * 5, none⟩ (.bool false)) nb kb (i + 1) p9 c9 p10 k cc (es ++ [e]) (cs.set (now c).at_ x2) (setB now c { now c with on := false }) := by
  have el : es.length = i := h.er.len
  have K := set_kept (w := w10) (q := nb) (c * 5) (.bool false)
  refine ⟨?_, er.off nw (by decide) K, cr.off nw (by decide) K, fun y hy => ?_, fun y hy => ?_, by rw [set_heap nw (c * 5) _, nowC_off now hc], blk_off nw ks (by decide) K, h.lo, kp.own K (fun b z => by subst z; exact h.lo.1), by have := h.ki; omega⟩
  · have q := h.ri.finish hc ho k1 kc k3 k4 k5 hf (d := x.cc) (by rw [List.getElem?_map, ht]; rfl)
    rw [el, ← hx] at q
    rw [List.map_set]
    exact q
  · rcases List.mem_append.1 hy with z | z
    · exact h.ev y z
    · rw [List.mem_singleton] at z
      rw [z]
      exact hev
  · rcases List.mem_or_eq_of_mem_set hy with z | z
    · exact h.cv y z
    · rw [z]
      exact hxv
/-- What the call of a client that has something under way is. -/
theorem RS.call {w wo : World} {nb kb i k cc ec : Nat} {ep cp : Option Addr} {es : List Ev} {cs : List Ca} {now : Nat → Bz} (h : RS w wo nb kb i ep ec cp k cc es cs now) {c : Nat} (hc : c < 5) (ho : (now c).on = true) : ∃ x, cs[(now c).at_]? = some x ∧ (now c).at_ < k ∧ x.put = (now c).put ∧ x.st = 0 ∧ x.too = -1 ∧ x.opn = (now c).put ∧ ((now c).put = false → x.val = []) ∧ (1 ≤ (now c).op ∧ (now c).op ≤ 4611686018427387903) ∧ (1 ≤ (now c).key.size ∧ (now c).key.size ≤ 64) ∧ Reads w x.va x.vn x.vc x.val := by
  obtain ⟨e, p, q1, q2, q3, q4, q5, q6, q7, q8, q9, q10, q11⟩ := h.ri.at hc ho
  rw [List.getElem?_map] at q7
  obtain ⟨x, hx, ex⟩ := Option.map_eq_some_iff.1 q7
  have em := List.mem_of_getElem? q1
  have hf := chk_fault es _ _ h.ri.ck e em
  have hv : x.val = e.val := congrArg Cc.val ex
  refine ⟨x, hx, ?_, by rw [← q4]; exact congrArg Cc.put ex, congrArg Cc.st ex, congrArg Cc.too ex, by rw [← q4]; exact congrArg Cc.opn ex, fun hp => ?_, by rw [← q3]; exact (fault_parts hf).1, by rw [← q5]; exact fault_key hf, h.cv x (List.mem_of_getElem? hx)⟩
  · have := (List.getElem?_eq_some_iff.1 hx).1
    rw [h.cr.len] at this
    exact this
  · have e0 := get_val hf q11 (q4.trans hp)
    have e1 := (h.ev e em).1.length
    rw [hv]
    exact List.eq_nil_of_length_eq_zero (by omega)
end Go.Proofs.YtbangbobfeflcaaDoor
