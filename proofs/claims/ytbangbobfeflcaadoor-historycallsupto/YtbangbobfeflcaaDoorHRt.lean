import Derived.Test.YtbangbobfeflcaaDoorHRw
import Derived.Deep.RegionHeldLaw
import Derived.Deep.DeepCutAuto
namespace Go.Proofs.YtbangbobfeflcaaDoor
open Go.RowKit 

def now0 : Nat → Bz := fun _ => ⟨false, 0, 0, false, ⟨#[]⟩⟩
def RetR (w : World) (n : Nat) (o : Ending) (w' : World) : Prop := ∃ (ep : Option Addr) (ec : Nat) (cp : Option Addr) (k cc : Nat) (es : List Ev) (cs : List Ca) (nb kb : Nat) (now : Nat → Bz), o = .returned (.tuple #[.slice ep n ec, .slice cp k cc]) ∧ RS w w' nb kb n ep ec cp k cc es cs now
theorem RS.start (w : World) : RS w ((w.alloc (.cells #[.bool false, .int .i64 0, .int .i64 0, .bool false, .string ⟨#[]⟩, .bool false, .int .i64 0, .int .i64 0, .bool false, .string ⟨#[]⟩, .bool false, .int .i64 0, .int .i64 0, .bool false, .string ⟨#[]⟩, .bool false, .int .i64 0, .int .i64 0, .bool false, .string ⟨#[]⟩, .bool false, .int .i64 0, .int .i64 0, .bool false, .string ⟨#[]⟩] 65)).alloc (.cells #[.string ⟨#[107]⟩, .string ⟨#[108]⟩, .string ⟨#[0, 34]⟩] 66)) w.heap.size (w.heap.size + 1) 0 none 0 none 0 0 [] [] now0 :=
  ⟨RI.start _ (fun _ => ⟨rfl, rfl⟩), EaR.nil _ _, CRo.nil _ _, fun e h => (by cases h), fun e h => (by cases h), alloc_old _ (alloc_new _ _), alloc_new2 _ _ _ _, ⟨Nat.le_refl _, Nat.le_succ _⟩, ((Kept.refl _ _).alloc _).alloc _, Nat.le_refl _⟩
/-- What a round of right has in hand: the move, what its client has under way, the tag. -/
structure RB (wo V : World) (B : Nat) (m : Mv) (bz : Array Value) (t1 t2 : Int) : Prop where
  mb : V.heap[B]? = some (.cells #[.int .i64 m.client, .bool m.put, .int .i64 m.key, .slice m.va m.vn m.vc, .int .i64 m.fin] 68 (0, 0))
  bb : V.heap[B + 1]? = some (.cells bz 64 (0, 0))
  tb : V.heap[B + 2]? = some (.cells #[.int .i64 t1, .int .i64 t2] 43 (0, 0))
theorem value_ok {e : Ev} (h : formE e = 1 ∨ formE e = 3) (hv : e.vn ≤ 65536) : valueE e = true := by
  unfold valueE
  rw [if_pos h]
  exact decide_eq_true hv
theorem value_nil {e : Ev} (f : Int) (h : formE e = f) (hf : ¬ (f = 1 ∨ f = 3)) (hv : e.vn = 0) : valueE e = true := by
  unfold valueE
  rw [h, if_neg hf]
  exact decide_eq_true hv
theorem tag_zero {e : Ev} (h : formE e = 0 ∨ formE e = 1) (h1 : e.tx = 0) (h2 : e.ty = 0) : tagE e = true := by
  unfold tagE
  rw [if_pos h, h1, h2]
  rfl
theorem tag_ok {e : Ev} (h : formE e = 2 ∨ formE e = 3 ∨ formE e = 4) (h1 : 1 ≤ e.tx ∧ e.tx ≤ 4611686018427387903) (h2 : 1 ≤ e.ty ∧ e.ty ≤ 65535) : tagE e = true := by
  unfold tagE
  have z : kIsZero e.tx e.ty = false := decide_eq_false (by omega)
  have p : kIsProper e.tx e.ty = true := decide_eq_true ⟨h1.1, h1.2, h2.1, h2.2⟩
  rw [if_neg (by omega), z, p]
  simp
theorem set_at {L : List Ca} {t : Nat} {x y : Ca} (h : L[t]? = some x) : (L.set t y)[t]? = some y := by
  rw [List.getElem?_set, if_pos rfl, if_pos (List.getElem?_eq_some_iff.1 h).1]
theorem crow {w w9 W w10 : World} {nb kb B i k cc c9 c10 : Nat} {p9 cp p10 : Option Addr} {es : List Ev} {cs : List Ca} {now : Nat → Bz} {BZ : Array Value} {x : Ca} (er : EaR w.heap.size w9 p9 i c9 es) (nw : w9.heap[nb]? = some (.cells (nowC now) 65 (0, 0))) (ks : w9.heap[kb]? = some (.cells #[.string ⟨#[107]⟩, .string ⟨#[108]⟩, .string ⟨#[0, 34]⟩] 66 (0, 0))) (bb : w9.heap[B + 1]? = some (.cells BZ 64 (0, 0))) (kp : Kept (fun _ => False) w w9) (K : Kept (fun _ => False) w9 W) (cr : CRo w.heap.size W cp k cc cs) (ho : w10.ownsRow w.heap.size 48 11 (.slice p10 (k + 1) c10) (k + 1) (kcs cs ++ kcs [x])) (hg : W.grownBy w10 (Value.slice cp k cc).ownBlock) : EaR w.heap.size w10 p9 i c9 es ∧ CRo w.heap.size w10 p10 (k + 1) c10 (cs ++ [x]) ∧ w10.heap[nb]? = some (.cells (nowC now) 65 (0, 0)) ∧ w10.heap[kb]? = some (.cells #[.string ⟨#[107]⟩, .string ⟨#[108]⟩, .string ⟨#[0, 34]⟩] 66 (0, 0)) ∧ w10.heap[B + 1]? = some (.cells BZ 64 (0, 0)) ∧ Kept (fun _ => False) w w10 := by
  have KG : Kept (fun j => blockOf cp = some j) W w10 := (Kept.refl (fun j => blockOf cp = some j) W).grown hg (fun j _ z => by rw [blockOf_own] at z; exact z)
  refine ⟨(er.k0 K).by KG (fun j z q => ?_), ⟨by rw [List.length_append, cr.len]; rfl, by rw [kcs_append]; exact ho⟩, grown_keep cr.row hg (by decide) (K.get nw (fun z => z)), grown_keep cr.row hg (by decide) (K.get ks (fun z => z)), grown_keep cr.row hg (by decide) (K.get bb (fun z => z)), (kp.trans K (fun _ _ z => z)).own KG (fun j z => (own_lt cr.row j z).1)⟩
  obtain ⟨c1, e1⟩ := own_type (er.k0 K).row j z
  obtain ⟨c2, e2⟩ := own_type cr.row j q
  rw [e1] at e2
  simp at e2
set_option maxRecDepth 100000 in
set_option maxHeartbeats 8000000 in
theorem hRight {w : World} {p0 : Option Addr} {n c0 : Nat} {ms : List Mv} (mr : MRd w p0 n c0 ms) (hn : n ≤ 1048576) : Calls Tryd.prog 9 #[.slice p0 n c0] w (RetR w n) := by
  have H : Hid (MRd w p0 n c0 ms ∧ n ≤ 1048576) := ⟨mr, hn⟩
  have rm := mr.room
  have sm := mr.small
  unfold maxLen at sm
  have S0 : Hid (RS w ((w.alloc (.cells #[.bool false, .int .i64 0, .int .i64 0, .bool false, .string ⟨#[]⟩, .bool false, .int .i64 0, .int .i64 0, .bool false, .string ⟨#[]⟩, .bool false, .int .i64 0, .int .i64 0, .bool false, .string ⟨#[]⟩, .bool false, .int .i64 0, .int .i64 0, .bool false, .string ⟨#[]⟩, .bool false, .int .i64 0, .int .i64 0, .bool false, .string ⟨#[]⟩] 65)).alloc (.cells #[.string ⟨#[107]⟩, .string ⟨#[108]⟩, .string ⟨#[0, 34]⟩] 66)) w.heap.size (w.heap.size + 1) 0 none 0 none 0 0 [] [] now0) := RS.start w
  clear mr
  go_enter Tryd.func9, Tryd.ntmps9
  go_wp2_with fail
  obtain ⟨nb, hnb⟩ : ∃ nb, nb = w.heap.size := ⟨_, rfl⟩
  obtain ⟨kb, hkb⟩ : ∃ kb, kb = w.heap.size + 1 := ⟨_, rfl⟩
  rw [← hkb, ← hnb] at S0 ⊢
  clear hnb hkb
  go_loopw [4, 5, 8, 9, 10, 11, 12, 13, 14, 15, 16, 17] (fun u4 u5 u8 _ _ _ _ _ _ _ _ _ wr => ∃ (i : Nat) (ep : Option Addr) (ec : Nat) (cp : Option Addr) (k cc : Nat) (es : List Ev) (cs : List Ca) (now : Nat → Bz), u4 = .slice ep i ec ∧ u5 = .slice cp k cc ∧ u8 = .int .i64 (i : Int) ∧ i ≤ n ∧ Hid (RS w wr nb kb i ep ec cp k cc es cs now)) (fun _ _ u8 _ _ _ _ _ _ _ _ _ _ => n - (intOf u8).toNat)
  case atStart => exact ⟨0, none, 0, none, 0, 0, [], [], now0, rfl, rfl, rfl, Nat.zero_le _, S0⟩
  case round =>
    obtain ⟨i, ep, ec, cp, k, cc, es, cs, now, rfl, rfl, rfl, hi, S⟩ := hrel
    clear S0
    obtain ⟨wo, hwo⟩ : ∃ wo, wo = wr := ⟨_, rfl⟩
    rw [← hwo] at S ⊢
    clear hwo
    by_cases hlt : i < n
    · have i1 : (i : Int) < (n : Int) := by omega
      obtain ⟨b8, off8, m, rfl, hm, c0', c1, c2, c3, c4, rd⟩ := (H.out.1.k0 S.out.kept).at hlt
      have MM : Hid (ms[i]? = some m ∧ Reads w m.va m.vn m.vc m.val) := ⟨hm, H.out.1.rd m (List.mem_of_getElem? hm)⟩
      have CM : Hid (∀ (V : World), Calls Tryd.prog 13 #[.int .i64 m.client, .int .i64 5] V fun o w' => (∃ r : Nat, o = .returned (.int .i64 (r : Int)) ∧ r < 5 ∧ (r : Int) = m.client % 5) ∧ w' = V) := fun V => lMod m.client 5 (by omega) (by omega) V
      clear hm rd
      go_wp2_with fail
      refine (CM.out _).mono ?_
      rintro o W1 ⟨⟨c, rfl, hc, hcr⟩, hW1⟩
      have J1 : Hid (W1.heap[wo.heap.size]? = some (.cells #[.int .i64 m.client, .bool m.put, .int .i64 m.key, .slice m.va m.vn m.vc, .int .i64 m.fin] 68 (0, 0)) ∧ W1.heap[nb]? = some (.cells (nowC now) 65 (0, 0)) ∧ Kept (fun _ => False) wo W1) := by
        rw [hW1]
        exact ⟨alloc_new _ _, alloc_old _ S.out.nw, (Kept.refl _ _).alloc _⟩
      clear hcr CM c0' c1 c2 c3 c4
      obtain ⟨B, hB⟩ : ∃ B, B = wo.heap.size := ⟨_, rfl⟩
      rw [← hB] at J1 ⊢
      have ng := nowC_get now hc
      obtain ⟨⟨on, op, at_, pu, ky⟩, hbz⟩ : ∃ bz, now c = bz := ⟨_, rfl⟩
      rw [hbz] at ng
      have NB : Hid (now c = ⟨on, op, at_, pu, ky⟩) := hbz
      clear hbz
      have n0 := cell_blk J1.out.2.1 (c * 5) ng.1
      have n1 := cell_blk J1.out.2.1 (c * 5 + 1) ng.2.1
      have n2 := cell_blk J1.out.2.1 (c * 5 + 2) ng.2.2.1
      have n3 := cell_blk J1.out.2.1 (c * 5 + 3) ng.2.2.2.1
      have n4 := cell_blk J1.out.2.1 (c * 5 + 4) ng.2.2.2.2
      have c5 : (c : Int) < 5 := by omega
      obtain ⟨W2, hW2⟩ : ∃ W2, W2 = W1.alloc (.cells #[.bool on, .int .i64 op, .int .i64 (at_ : Int), .bool pu, .string ky] 64) := ⟨_, rfl⟩
      have s1 : W1.heap.size = B + 1 := by rw [hW1, hB]; exact alloc_size _ _
      have J2 : Hid (W2.heap[B]? = some (.cells #[.int .i64 m.client, .bool m.put, .int .i64 m.key, .slice m.va m.vn m.vc, .int .i64 m.fin] 68 (0, 0)) ∧ W2.heap[B + 1]? = some (.cells #[.bool on, .int .i64 op, .int .i64 (at_ : Int), .bool pu, .string ky] 64 (0, 0)) ∧ Kept (fun _ => False) wo W2) := by
        rw [hW2]
        exact ⟨alloc_old _ J1.out.1, by rw [← s1]; exact alloc_new _ _, J1.out.2.2.alloc _⟩
      have BE : Hid (B = wo.heap.size) := hB
      clear ng hW1 hB
      go_upto_region 11 with fail
      rw [← hW2]
      have HW2 : Hid (W2 = W1.alloc (.cells #[.bool on, .int .i64 op, .int .i64 (at_ : Int), .bool pu, .string ky] 64)) := hW2
      clear n0 n1 n2 n3 n4 hW2
      have e3 := cell_blk J2.out.1 3 (v := .slice m.va m.vn m.vc) rfl
      obtain ⟨mn, hmn⟩ : ∃ mn : Nat, mn = min m.vn 1000 := ⟨_, rfl⟩
      have mi : min (m.vn : Int) 1000 = (mn : Int) := by omega
      have RV : Hid (Reads w m.va mn m.vc (m.val.take mn) ∧ mn ≤ 1000) := ⟨MM.out.2.take mn (by omega), by omega⟩
      have sl := slice_rd MM.out.2 mn (by omega) W2
      clear hmn
      go_upto_region 12 with fail
      clear sl mi
      obtain ⟨W3, hW3⟩ : ∃ W3, W3 = W2.alloc (.cells #[.int .i64 ((i : Int) + 1), .int .i64 ((c : Int) + 1)] 43) := ⟨_, rfl⟩
      have s2 : W2.heap.size = B + 2 := by rw [HW2.out, alloc_size, s1]
      have J3 : Hid (W3.heap[B]? = some (.cells #[.int .i64 m.client, .bool m.put, .int .i64 m.key, .slice m.va m.vn m.vc, .int .i64 m.fin] 68 (0, 0)) ∧ W3.heap[B + 1]? = some (.cells #[.bool on, .int .i64 op, .int .i64 (at_ : Int), .bool pu, .string ky] 64 (0, 0)) ∧ W3.heap[B + 2]? = some (.cells #[.int .i64 ((i : Int) + 1), .int .i64 ((c : Int) + 1)] 43 (0, 0)) ∧ Kept (fun _ => False) wo W3) := by
        rw [hW3]
        exact ⟨alloc_old _ J2.out.1, alloc_old _ J2.out.2.1, by rw [← s2]; exact alloc_new _ _, J2.out.2.2.alloc _⟩
      have s3 : W3.heap.size = B + 3 := by rw [hW3, alloc_size, s2]
      go_upto_region 13 with fail
      rw [← hW3]
      clear hW3 e3 J1 J2 s1 s2 HW2
      have op0 : 0 ≤ op ∧ op ≤ (i : Int) := by
        have q := S.out.ri.op c hc
        rw [NB.out] at q
        exact q
      have k0 : k ≤ i := S.out.ki
      have b0 := cell_blk J3.out.2.1 0 (v := .bool on) rfl
      have b1 := cell_blk J3.out.2.1 1 (v := .int .i64 op) rfl
      have b2 := cell_blk J3.out.2.1 2 (v := .int .i64 (at_ : Int)) rfl
      have b3 := cell_blk J3.out.2.1 3 (v := .bool pu) rfl
      have b4 := cell_blk J3.out.2.1 4 (v := .string ky) rfl
      cases on
      case false =>
        obtain ⟨r, hr⟩ : ∃ r : Nat, (r : Int) = m.key % 3 := ⟨(m.key % 3).toNat, by omega⟩
        have r3 : r < 3 := by omega
        have r4 : (r : Int) < 3 := by omega
        have CK : Hid (∀ V, Calls Tryd.prog 13 #[.int .i64 m.key, .int .i64 3] V fun o w' => o = .returned (.int .i64 (r : Int)) ∧ w' = V) := fun V => lModR m.key 3 (by omega) (by omega) hr V
        clear hr
        have wr1 : IntKind.i64.wrap (op + 1) = op + 1 := by rw [IntKind.wrap_i64]; omega
        have KS : Hid (W3.heap[kb]? = some (.cells #[.string ⟨#[107]⟩, .string ⟨#[108]⟩, .string ⟨#[0, 34]⟩] 66 (0, 0))) := J3.out.2.2.2.get S.out.ks (fun z => z)
        have kr : (#[.string ⟨#[107]⟩, .string ⟨#[108]⟩, .string ⟨#[0, 34]⟩] : Array Value)[r]? = some (.string (keyN r)) := by
          obtain rfl | rfl | rfl : r = 0 ∨ r = 1 ∨ r = 2 := by omega
          all_goals rfl
        have SD : Hid (W3.drew.cell? ⟨B, 1, none⟩ = some (.bool m.put) ∧ W3.drew.cell? ⟨B, 2, none⟩ = some (.int .i64 m.key) ∧ W3.drew.cell? ⟨kb, r, none⟩ = some (.string (keyN r))) := ⟨cell_blk J3.out.1 1 rfl, cell_blk J3.out.1 2 rfl, cell_blk KS.out r kr⟩
        have BD : Hid (W3.drew.heap[B + 1]? = some (.cells #[.bool false, .int .i64 op, .int .i64 (at_ : Int), .bool pu, .string ky] 64 (0, 0))) := J3.out.2.1
        have d0 := cell_blk BD.out 0 (v := .bool false) rfl
        have t0 := soft_blk J3.out.2.1 0
        have d1 := cell_blk BD.out 1 (v := .int .i64 op) rfl
        have t1 := soft_blk J3.out.2.1 1
        have d2 := cell_blk BD.out 2 (v := .int .i64 (at_ : Int)) rfl
        have t2 := soft_blk J3.out.2.1 2
        have d3 := cell_blk BD.out 3 (v := .bool pu) rfl
        have t3 := soft_blk J3.out.2.1 3
        have d4 := cell_blk BD.out 4 (v := .string ky) rfl
        have t4 := soft_blk J3.out.2.1 4
        have K5 : Hid (Kept (fun j => j = B + 1) W3 ((((((W3.setCell ⟨B + 1, 0, none⟩ (.bool true)).setCell ⟨B + 1, 1, none⟩ (.int .i64 (op + 1))).setCell ⟨B + 1, 2, none⟩ (.int .i64 (k : Int))).setCell ⟨B + 1, 3, none⟩ (.bool m.put)).setCell ⟨B + 1, 4, none⟩ (.string (keyN r))).drew)) := ((((((Kept.refl (fun j => j = B + 1) W3).setCell (p := ⟨B + 1, 0, none⟩) (fun _ => rfl) _).setCell (p := ⟨B + 1, 1, none⟩) (fun _ => rfl) _).setCell (p := ⟨B + 1, 2, none⟩) (fun _ => rfl) _).setCell (p := ⟨B + 1, 3, none⟩) (fun _ => rfl) _).setCell (p := ⟨B + 1, 4, none⟩) (fun _ => rfl) _).drew
        have H5 : Hid (((((((W3.setCell ⟨B + 1, 0, none⟩ (.bool true)).setCell ⟨B + 1, 1, none⟩ (.int .i64 (op + 1))).setCell ⟨B + 1, 2, none⟩ (.int .i64 (k : Int))).setCell ⟨B + 1, 3, none⟩ (.bool m.put)).setCell ⟨B + 1, 4, none⟩ (.string (keyN r))).drew).heap[B + 1]? = some (.cells #[.bool true, .int .i64 (op + 1), .int .i64 (k : Int), .bool m.put, .string (keyN r)] 64 (0, 0))) := set_heap (set_heap (set_heap (set_heap (set_heap BD.out 0 _) 1 _) 2 _) 3 _) 4 _
        have kne : ¬ kb = B + 1 := fun z => by have q := KS.out; rw [z, J3.out.2.1] at q; simp at q
        have SE : Hid (((((((W3.setCell ⟨B + 1, 0, none⟩ (.bool true)).setCell ⟨B + 1, 1, none⟩ (.int .i64 (op + 1))).setCell ⟨B + 1, 2, none⟩ (.int .i64 (k : Int))).setCell ⟨B + 1, 3, none⟩ (.bool m.put)).setCell ⟨B + 1, 4, none⟩ (.string (keyN r))).drew).cell? ⟨B, 1, none⟩ = some (.bool m.put) ∧ ((((((W3.setCell ⟨B + 1, 0, none⟩ (.bool true)).setCell ⟨B + 1, 1, none⟩ (.int .i64 (op + 1))).setCell ⟨B + 1, 2, none⟩ (.int .i64 (k : Int))).setCell ⟨B + 1, 3, none⟩ (.bool m.put)).setCell ⟨B + 1, 4, none⟩ (.string (keyN r))).drew).cell? ⟨B, 2, none⟩ = some (.int .i64 m.key) ∧ ((((((W3.setCell ⟨B + 1, 0, none⟩ (.bool true)).setCell ⟨B + 1, 1, none⟩ (.int .i64 (op + 1))).setCell ⟨B + 1, 2, none⟩ (.int .i64 (k : Int))).setCell ⟨B + 1, 3, none⟩ (.bool m.put)).setCell ⟨B + 1, 4, none⟩ (.string (keyN r))).drew).cell? ⟨kb, r, none⟩ = some (.string (keyN r))) := by
          have z1 := K5.out.get J3.out.1 (by show ¬ B = B + 1; omega)
          exact ⟨cell_blk z1 1 rfl, cell_blk z1 2 rfl, cell_blk (K5.out.get KS.out kne) r kr⟩
        clear kne kr
        go_upto_region 14 with fail
        go_cut [11] from 50 to 62 (fun s11 wc => s11 = .pointer (some ⟨B + 1, 0, none⟩) ∧ Hid (wc.heap[B + 1]? = some (.cells #[.bool true, .int .i64 (op + 1), .int .i64 (k : Int), .bool m.put, .string (keyN r)] 64 (0, 0)) ∧ Kept (fun j => j = B + 1) W3 wc))
        case first =>
          refine wp_region_held_drew (S := (fun V => V.cell? ⟨B, 1, none⟩ = some (.bool m.put) ∧ V.cell? ⟨B, 2, none⟩ = some (.int .i64 m.key) ∧ V.cell? ⟨kb, r, none⟩ = some (.string (keyN r)))) (by kernel_rfl) ?_ (fun hHeld => ?_)
          · exact SD.out
          refine wpAnyH_take (i := 0) (oi := { dst := some 50, op := Go.Op.fieldAddr 64 (Go.Operand.tmp 11) 1, type := 0, pos := "outright.go:101", after := #[], guard := none }) (v := .pointer (some ⟨B + 1, 1, none⟩)) rfl (by kernel_rfl) (by kernel_rfl) (by kernel_rfl) (fun _ _ _ h => h) (Or.inl ⟨by rfl, ?_⟩) (by assumption) ?_
          · intro w9 hSw
            (try dsimp only at hSw)
            go_simp
          (try simp only [Act.put, List.setIfInBounds_toArray, List.set_cons_zero, List.set_cons_succ])
          refine wpAnyH_take (i := 3) (oi := { dst := some 53, op := Go.Op.move (Go.Operand.tmp 5), type := 32, pos := "outright.go:101", after := #[], guard := none }) (v := .slice cp k cc) rfl (by kernel_rfl) (by kernel_rfl) (by kernel_rfl) (fun _ _ _ h => h) (Or.inl ⟨by rfl, ?_⟩) (by assumption) ?_
          · intro w9 hSw
            (try dsimp only at hSw)
            go_simp
          (try simp only [Act.put, List.setIfInBounds_toArray, List.set_cons_zero, List.set_cons_succ])
          refine wpAnyH_take (i := 4) (oi := { dst := some 54, op := Go.Op.call { callee := Go.Callee.builtin Go.Builtin.len, args := #[Go.Operand.tmp 53], argTypes := #[32] }, type := 3, pos := "outright.go:101", after := #[{ on := 3, ground := Go.Ground.data }], guard := none }) (v := .int .i64 (k : Int)) rfl (by kernel_rfl) (by kernel_rfl) (by kernel_rfl) (fun _ _ _ h => h) (Or.inl ⟨by rfl, ?_⟩) (by assumption) ?_
          · intro w9 hSw
            (try dsimp only at hSw)
            go_simp
          (try simp only [Act.put, List.setIfInBounds_toArray, List.set_cons_zero, List.set_cons_succ])
          refine wpAnyH_take (i := 5) (oi := { dst := some 55, op := Go.Op.fieldAddr 68 (Go.Operand.tmp 9) 1, type := 0, pos := "outright.go:101", after := #[], guard := none }) (v := .pointer (some ⟨B, 1, none⟩)) rfl (by kernel_rfl) (by kernel_rfl) (by kernel_rfl) (fun _ _ _ h => h) (Or.inl ⟨by rfl, ?_⟩) (by assumption) ?_
          · intro w9 hSw
            (try dsimp only at hSw)
            go_simp
          (try simp only [Act.put, List.setIfInBounds_toArray, List.set_cons_zero, List.set_cons_succ])
          refine wpAnyH_take (i := 6) (oi := { dst := some 56, op := Go.Op.load 4 (Go.Operand.tmp 55), type := 4, pos := "outright.go:101", after := #[{ on := 5, ground := Go.Ground.data }], guard := none }) (v := .bool m.put) rfl (by kernel_rfl) (by kernel_rfl) (by kernel_rfl) (fun _ _ _ h => h) (Or.inl ⟨by rfl, ?_⟩) (by assumption) ?_
          · intro w9 hSw
            (try dsimp only at hSw)
            go_simp
          (try simp only [Act.put, List.setIfInBounds_toArray, List.set_cons_zero, List.set_cons_succ])
          refine wpAnyH_take (i := 7) (oi := { dst := some 57, op := Go.Op.fieldAddr 68 (Go.Operand.tmp 9) 2, type := 0, pos := "outright.go:101", after := #[], guard := none }) (v := .pointer (some ⟨B, 2, none⟩)) rfl (by kernel_rfl) (by kernel_rfl) (by kernel_rfl) (fun _ _ _ h => h) (Or.inl ⟨by rfl, ?_⟩) (by assumption) ?_
          · intro w9 hSw
            (try dsimp only at hSw)
            go_simp
          (try simp only [Act.put, List.setIfInBounds_toArray, List.set_cons_zero, List.set_cons_succ])
          refine wpAnyH_take (i := 8) (oi := { dst := some 58, op := Go.Op.load 3 (Go.Operand.tmp 57), type := 3, pos := "outright.go:101", after := #[{ on := 7, ground := Go.Ground.data }], guard := none }) (v := .int .i64 m.key) rfl (by kernel_rfl) (by kernel_rfl) (by kernel_rfl) (fun _ _ _ h => h) (Or.inl ⟨by rfl, ?_⟩) (by assumption) ?_
          · intro w9 hSw
            (try dsimp only at hSw)
            go_simp
          (try simp only [Act.put, List.setIfInBounds_toArray, List.set_cons_zero, List.set_cons_succ])
          refine wpAnyH_ready (rs := [1, 9]) (by kernel_rfl) (by simp) ?_
          refine (AllReadyH.cons (o := { dst := some 51, op := Go.Op.load 2 (Go.Operand.tmp 50), type := 2, pos := "outright.go:101", after := #[{ on := 0, ground := Go.Ground.data }], guard := none }) rfl (fun K hK => ?_) (AllReadyH.cons (o := { dst := some 59, op := Go.Op.call { callee := Go.Callee.value (Go.Operand.func 13), args := #[Go.Operand.tmp 58, Go.Operand.const (Go.Value.int Go.IntKind.i64 3)], argTypes := #[3, 3] }, type := 3, pos := "outright.go:101", after := #[{ on := 8, ground := Go.Ground.data }], guard := none }) rfl (fun K hK => ?_) AllReadyH.nil))
          · go_simp
            refine hK.out _ _ ?_ (fun hHeld => ?_)
            · exact SD.out
            clear hK K
            (try simp only [Act.put, List.setIfInBounds_toArray, List.set_cons_zero, List.set_cons_succ])
            refine wpAnyH_take (i := 2) (oi := { dst := some 52, op := Go.Op.binOp Go.BinOp.add 2 (Go.Operand.tmp 51) (Go.Operand.const (Go.Value.int Go.IntKind.i64 1)) 2, type := 2, pos := "outright.go:101", after := #[{ on := 1, ground := Go.Ground.data }], guard := none }) (v := .int .i64 (op + 1)) rfl (by kernel_rfl) (by kernel_rfl) (by kernel_rfl) (fun _ _ _ h => h) (Or.inl ⟨by rfl, ?_⟩) (by assumption) ?_
            · intro w9 hSw
              (try dsimp only at hSw)
              go_simp
            (try simp only [Act.put, List.setIfInBounds_toArray, List.set_cons_zero, List.set_cons_succ])
            refine wpAnyH_ready (rs := [9]) (by kernel_rfl) (by simp) ?_
            refine (AllReadyH.cons (o := { dst := some 59, op := Go.Op.call { callee := Go.Callee.value (Go.Operand.func 13), args := #[Go.Operand.tmp 58, Go.Operand.const (Go.Value.int Go.IntKind.i64 3)], argTypes := #[3, 3] }, type := 3, pos := "outright.go:101", after := #[{ on := 8, ground := Go.Ground.data }], guard := none }) rfl (fun K hK => ?_) AllReadyH.nil)
            go_simp
            refine (CK.out _).mono ?_
            rintro o wq ⟨rfl, hwq⟩
            subst hwq
            refine hK.out _ _ ?_ (fun hHeld => ?_)
            · exact SD.out
            clear hK K
            (try simp only [Act.put, List.setIfInBounds_toArray, List.set_cons_zero, List.set_cons_succ])
            refine wpAnyH_take (i := 10) (oi := { dst := some 60, op := Go.Op.indexAddr 66 (Go.Operand.tmp 7) (Go.Operand.tmp 59), type := 0, pos := "outright.go:101", after := #[{ on := 9, ground := Go.Ground.data }], guard := none }) (v := .pointer (some ⟨kb, r, none⟩)) rfl (by kernel_rfl) (by kernel_rfl) (by kernel_rfl) (fun _ _ _ h => h) (Or.inl ⟨by rfl, ?_⟩) (by assumption) ?_
            · intro w9 hSw
              (try dsimp only at hSw)
              go_simp
            (try simp only [Act.put, List.setIfInBounds_toArray, List.set_cons_zero, List.set_cons_succ])
            refine wpAnyH_take (i := 11) (oi := { dst := some 61, op := Go.Op.load 9 (Go.Operand.tmp 60), type := 9, pos := "outright.go:101", after := #[{ on := 10, ground := Go.Ground.data }], guard := none }) (v := .string (keyN r)) rfl (by kernel_rfl) (by kernel_rfl) (by kernel_rfl) (fun _ _ _ h => h) (Or.inl ⟨by rfl, ?_⟩) (by assumption) ?_
            · intro w9 hSw
              (try dsimp only at hSw)
              go_simp
            (try simp only [Act.put, List.setIfInBounds_toArray, List.set_cons_zero, List.set_cons_succ])
            refine wpAnyH_take (i := 12) (oi := { dst := some 62, op := Go.Op.build 64 #[(0, Go.Operand.const (Go.Value.bool true)), (1, Go.Operand.tmp 52), (2, Go.Operand.tmp 54), (3, Go.Operand.tmp 56), (4, Go.Operand.tmp 61)], type := 64, pos := "outright.go:101", after := #[{ on := 2, ground := Go.Ground.data }, { on := 4, ground := Go.Ground.data }, { on := 6, ground := Go.Ground.data }, { on := 11, ground := Go.Ground.data }], guard := none }) (v := .agg #[.bool true, .int .i64 (op + 1), .int .i64 (k : Int), .bool m.put, .string (keyN r)]) rfl (by kernel_rfl) (by kernel_rfl) (by kernel_rfl) (fun _ _ _ h => h) (Or.inl ⟨by rfl, ?_⟩) (by assumption) ?_
            · intro w9 hSw
              (try dsimp only at hSw)
              go_simp
            (try simp only [Act.put, List.setIfInBounds_toArray, List.set_cons_zero, List.set_cons_succ])
            refine wpAnyH_ready (rs := [13]) (by kernel_rfl) (by simp) ?_
            refine (AllReadyH.cons (o := { dst := none, op := Go.Op.store 64 (Go.Operand.tmp 11) (Go.Operand.tmp 62), type := 0, pos := "outright.go:101", after := #[{ on := 12, ground := Go.Ground.data }, { on := 9, ground := Go.Ground.chain }, { on := 0, ground := Go.Ground.phase }, { on := 1, ground := Go.Ground.phase }, { on := 2, ground := Go.Ground.phase }, { on := 3, ground := Go.Ground.phase }, { on := 4, ground := Go.Ground.phase }, { on := 5, ground := Go.Ground.phase }, { on := 6, ground := Go.Ground.phase }, { on := 7, ground := Go.Ground.phase }, { on := 8, ground := Go.Ground.phase }, { on := 9, ground := Go.Ground.phase }, { on := 10, ground := Go.Ground.phase }, { on := 11, ground := Go.Ground.phase }, { on := 12, ground := Go.Ground.phase }], guard := none }) rfl (fun K hK => ?_) AllReadyH.nil)
            go_simp
            refine hK.out _ _ ?_ (fun hHeld => ?_)
            · exact SE.out
            clear hK K
            (try simp only [Act.put])
            refine wpAnyH_done (by kernel_rfl) ?_ _
            go_wp2_with fail
            go_meet
            case rel => exact ⟨rfl, H5.out, K5.out⟩
          · go_simp
            refine (CK.out _).mono ?_
            rintro o wq ⟨rfl, hwq⟩
            subst hwq
            refine hK.out _ _ ?_ (fun hHeld => ?_)
            · exact SD.out
            clear hK K
            (try simp only [Act.put, List.setIfInBounds_toArray, List.set_cons_zero, List.set_cons_succ])
            refine wpAnyH_take (i := 10) (oi := { dst := some 60, op := Go.Op.indexAddr 66 (Go.Operand.tmp 7) (Go.Operand.tmp 59), type := 0, pos := "outright.go:101", after := #[{ on := 9, ground := Go.Ground.data }], guard := none }) (v := .pointer (some ⟨kb, r, none⟩)) rfl (by kernel_rfl) (by kernel_rfl) (by kernel_rfl) (fun _ _ _ h => h) (Or.inl ⟨by rfl, ?_⟩) (by assumption) ?_
            · intro w9 hSw
              (try dsimp only at hSw)
              go_simp
            (try simp only [Act.put, List.setIfInBounds_toArray, List.set_cons_zero, List.set_cons_succ])
            refine wpAnyH_take (i := 11) (oi := { dst := some 61, op := Go.Op.load 9 (Go.Operand.tmp 60), type := 9, pos := "outright.go:101", after := #[{ on := 10, ground := Go.Ground.data }], guard := none }) (v := .string (keyN r)) rfl (by kernel_rfl) (by kernel_rfl) (by kernel_rfl) (fun _ _ _ h => h) (Or.inl ⟨by rfl, ?_⟩) (by assumption) ?_
            · intro w9 hSw
              (try dsimp only at hSw)
              go_simp
            (try simp only [Act.put, List.setIfInBounds_toArray, List.set_cons_zero, List.set_cons_succ])
            refine wpAnyH_ready (rs := [1]) (by kernel_rfl) (by simp) ?_
            refine (AllReadyH.cons (o := { dst := some 51, op := Go.Op.load 2 (Go.Operand.tmp 50), type := 2, pos := "outright.go:101", after := #[{ on := 0, ground := Go.Ground.data }], guard := none }) rfl (fun K hK => ?_) AllReadyH.nil)
            go_simp
            refine hK.out _ _ ?_ (fun hHeld => ?_)
            · exact SD.out
            clear hK K
            (try simp only [Act.put, List.setIfInBounds_toArray, List.set_cons_zero, List.set_cons_succ])
            refine wpAnyH_take (i := 2) (oi := { dst := some 52, op := Go.Op.binOp Go.BinOp.add 2 (Go.Operand.tmp 51) (Go.Operand.const (Go.Value.int Go.IntKind.i64 1)) 2, type := 2, pos := "outright.go:101", after := #[{ on := 1, ground := Go.Ground.data }], guard := none }) (v := .int .i64 (op + 1)) rfl (by kernel_rfl) (by kernel_rfl) (by kernel_rfl) (fun _ _ _ h => h) (Or.inl ⟨by rfl, ?_⟩) (by assumption) ?_
            · intro w9 hSw
              (try dsimp only at hSw)
              go_simp
            (try simp only [Act.put, List.setIfInBounds_toArray, List.set_cons_zero, List.set_cons_succ])
            refine wpAnyH_take (i := 12) (oi := { dst := some 62, op := Go.Op.build 64 #[(0, Go.Operand.const (Go.Value.bool true)), (1, Go.Operand.tmp 52), (2, Go.Operand.tmp 54), (3, Go.Operand.tmp 56), (4, Go.Operand.tmp 61)], type := 64, pos := "outright.go:101", after := #[{ on := 2, ground := Go.Ground.data }, { on := 4, ground := Go.Ground.data }, { on := 6, ground := Go.Ground.data }, { on := 11, ground := Go.Ground.data }], guard := none }) (v := .agg #[.bool true, .int .i64 (op + 1), .int .i64 (k : Int), .bool m.put, .string (keyN r)]) rfl (by kernel_rfl) (by kernel_rfl) (by kernel_rfl) (fun _ _ _ h => h) (Or.inl ⟨by rfl, ?_⟩) (by assumption) ?_
            · intro w9 hSw
              (try dsimp only at hSw)
              go_simp
            (try simp only [Act.put, List.setIfInBounds_toArray, List.set_cons_zero, List.set_cons_succ])
            refine wpAnyH_ready (rs := [13]) (by kernel_rfl) (by simp) ?_
            refine (AllReadyH.cons (o := { dst := none, op := Go.Op.store 64 (Go.Operand.tmp 11) (Go.Operand.tmp 62), type := 0, pos := "outright.go:101", after := #[{ on := 12, ground := Go.Ground.data }, { on := 9, ground := Go.Ground.chain }, { on := 0, ground := Go.Ground.phase }, { on := 1, ground := Go.Ground.phase }, { on := 2, ground := Go.Ground.phase }, { on := 3, ground := Go.Ground.phase }, { on := 4, ground := Go.Ground.phase }, { on := 5, ground := Go.Ground.phase }, { on := 6, ground := Go.Ground.phase }, { on := 7, ground := Go.Ground.phase }, { on := 8, ground := Go.Ground.phase }, { on := 9, ground := Go.Ground.phase }, { on := 10, ground := Go.Ground.phase }, { on := 11, ground := Go.Ground.phase }, { on := 12, ground := Go.Ground.phase }], guard := none }) rfl (fun K hK => ?_) AllReadyH.nil)
            go_simp
            refine hK.out _ _ ?_ (fun hHeld => ?_)
            · exact SE.out
            clear hK K
            (try simp only [Act.put])
            refine wpAnyH_done (by kernel_rfl) ?_ _
            go_wp2_with fail
            go_meet
            case rel => exact ⟨rfl, H5.out, K5.out⟩
        case rest =>
          obtain ⟨rfl, HC⟩ := hcut
          clear SD BD d0 d1 d2 d3 d4 t0 t1 t2 t3 t4 H5 K5 SE CK b0 b1 b2 b3 b4 wr1
          obtain ⟨W4, hW4⟩ : ∃ W4, W4 = wc := ⟨_, rfl⟩
          rw [← hW4] at HC ⊢
          clear hW4
          skip
          have K4 : Hid (Kept (fun _ => False) wo W4) := J3.out.2.2.2.trans HC.out.2 (fun j hj z => by subst z; have q := BE.out; omega)
          have OP : Hid (0 ≤ op ∧ op ≤ (i : Int)) := op0
          obtain ⟨D, s4⟩ : ∃ D, W4.heap.size = D := ⟨_, rfl⟩
          have DL : Hid (wo.heap.size ≤ D ∧ B + 1 < D) := ⟨by rw [← s4]; exact K4.out.size, by rw [← s4]; exact block_lt HC.out.1⟩
          have f0 := cell_blk HC.out.1 0 (v := .bool true) rfl
          have f1 := cell_blk HC.out.1 1 (v := .int .i64 (op + 1)) rfl
          have f2 := cell_blk HC.out.1 2 (v := .int .i64 (k : Int)) rfl
          have f3 := cell_blk HC.out.1 3 (v := .bool m.put) rfl
          have f4 := cell_blk HC.out.1 4 (v := .string (keyN r)) rfl
          obtain ⟨W5, hW5⟩ : ∃ W5, W5 = W4.alloc (.cells #[.int .i64 1, .int .i64 ((c : Int) + 1), .int .i64 (op + 1), .bool m.put, .string (keyN r), .slice none 0 0, .int .i64 0, .int .i64 0, .int .i64 0] 45) := ⟨_, rfl⟩
          have J5 : Hid (W5.heap[B + 1]? = some (.cells #[.bool true, .int .i64 (op + 1), .int .i64 (k : Int), .bool m.put, .string (keyN r)] 64 (0, 0)) ∧ W5.heap[D]? = some (.cells #[.int .i64 1, .int .i64 ((c : Int) + 1), .int .i64 (op + 1), .bool m.put, .string (keyN r), .slice none 0 0, .int .i64 0, .int .i64 0, .int .i64 0] 45 (0, 0)) ∧ Kept (fun _ => False) wo W5) := by
            rw [hW5]
            exact ⟨alloc_old _ HC.out.1, by rw [← s4]; exact alloc_new _ _, K4.out.alloc _⟩
          have s5 : W5.heap.size = D + 1 := by rw [hW5, alloc_size, s4]
          go_upto_region 16 with fail
          rw [← hW5]
          clear hW5 s4 f0 f1 f2 f3 f4
          have g0 := cell_blk J5.out.1 0 (v := .bool true) rfl
          have g1 := cell_blk J5.out.1 1 (v := .int .i64 (op + 1)) rfl
          have g2 := cell_blk J5.out.1 2 (v := .int .i64 (k : Int)) rfl
          have g3 := cell_blk J5.out.1 3 (v := .bool m.put) rfl
          have g4 := cell_blk J5.out.1 4 (v := .string (keyN r)) rfl
          obtain ⟨W6, hW6⟩ : ∃ W6, W6 = W5.alloc (.cells #[.int .i64 ((c : Int) + 1), .int .i64 (op + 1), .bool m.put, .string (keyN r), .slice none 0 0, .int .i64 0, .int .i64 (i : Int), .int .i64 (-1), .bool m.put, .int .i64 0, .int .i64 0] 48) := ⟨_, rfl⟩
          have Q6 : Hid (OB w wo W6 nb kb B D i ep ec cp k cc es cs now #[.bool true, .int .i64 (op + 1), .int .i64 (k : Int), .bool m.put, .string (keyN r)] #[.int .i64 1, .int .i64 ((c : Int) + 1), .int .i64 (op + 1), .bool m.put, .string (keyN r), .slice none 0 0, .int .i64 0, .int .i64 0, .int .i64 0] #[.int .i64 ((c : Int) + 1), .int .i64 (op + 1), .bool m.put, .string (keyN r), .slice none 0 0, .int .i64 0, .int .i64 (i : Int), .int .i64 (-1), .bool m.put, .int .i64 0, .int .i64 0]) := by
            have K6 : Kept (fun _ => False) wo W6 := by rw [hW6]; exact J5.out.2.2.alloc _
            exact ⟨S.out.er.k0 K6, S.out.cr.k0 K6, K6.get S.out.nw (fun z => z), K6.get S.out.ks (fun z => z), by rw [hW6]; exact alloc_old _ J5.out.1, by rw [hW6]; exact alloc_old _ J5.out.2.1, by rw [hW6, ← s5]; exact alloc_new _ _, fun z => by have q := own_lt S.out.er.row D z; have := DL.out.1; omega, fun z => by have q := own_lt S.out.cr.row (D + 1) z; have := DL.out.1; omega, S.out.kept.trans K6 (fun _ _ z => z), Nat.le_trans S.out.kept.size DL.out.1⟩
          go_upto_region 17 with fail
          rw [← hW6]
          have s6 : W6.heap.size = D + 2 := by rw [hW6, alloc_size, s5]
          clear hW6 s5 J5 g0 g1 g2 g3 g4 s6
          have PB : Hid (1 ≤ (keyN r).size ∧ (keyN r).size ≤ 64) := keyN_size r
          obtain ⟨KY, hKY⟩ : ∃ KY, KY = keyN r := ⟨_, rfl⟩
          rw [← hKY] at Q6 PB ⊢
          clear hKY KS r3 r4 J3
          obtain ⟨MP, hMP⟩ : ∃ MP, MP = m.put := ⟨_, rfl⟩
          rw [← hMP] at Q6 ⊢
          clear hMP
          cases MP
          case false =>
            have g3 := cell_blk Q6.out.bb 3 (v := .bool false) rfl
            go_upto_region 20 with fail
            clear g3
            have e0 := cell_blk Q6.out.eb 0 (v := .int .i64 1) rfl
            have e1 := cell_blk Q6.out.eb 1 (v := .int .i64 ((c : Int) + 1)) rfl
            have e2 := cell_blk Q6.out.eb 2 (v := .int .i64 (op + 1)) rfl
            have e3 := cell_blk Q6.out.eb 3 (v := .bool false) rfl
            have e4 := cell_blk Q6.out.eb 4 (v := .string KY) rfl
            have e5 := cell_blk Q6.out.eb 5 (v := .slice none 0 0) rfl
            have e6 := cell_blk Q6.out.eb 6 (v := .int .i64 0) rfl
            have e7 := cell_blk Q6.out.eb 7 (v := .int .i64 0) rfl
            have e8 := cell_blk Q6.out.eb 8 (v := .int .i64 0) rfl
            have KA : Hid (Kept (fun _ => False) W6 (W6.alloc (.cells #[.int .i64 1, .int .i64 ((c : Int) + 1), .int .i64 (op + 1), .bool false, .string KY, .slice none 0 0, .int .i64 0, .int .i64 0, .int .i64 0] 45))) := (Kept.refl _ _).alloc _
            have Q9 : Hid (OB w wo (W6.alloc (.cells #[.int .i64 1, .int .i64 ((c : Int) + 1), .int .i64 (op + 1), .bool false, .string KY, .slice none 0 0, .int .i64 0, .int .i64 0, .int .i64 0] 45)) nb kb B D i ep ec cp k cc es cs now #[.bool true, .int .i64 (op + 1), .int .i64 (k : Int), .bool false, .string KY] #[.int .i64 1, .int .i64 ((c : Int) + 1), .int .i64 (op + 1), .bool false, .string KY, .slice none 0 0, .int .i64 0, .int .i64 0, .int .i64 0] #[.int .i64 ((c : Int) + 1), .int .i64 (op + 1), .bool false, .string KY, .slice none 0 0, .int .i64 0, .int .i64 (i : Int), .int .i64 (-1), .bool false, .int .i64 0, .int .i64 0]) := Q6.out.keep KA.out
            have SR : Hid (Src Tryd.prog 9 22 (.slice (some ⟨W6.heap.size, 0, none⟩) 1 1) 1 (ecs [⟨1, (c : Int) + 1, op + 1, false, KY, none, 0, 0, 0, 0, 0, []⟩]) (W6.alloc (.cells #[.int .i64 1, .int .i64 ((c : Int) + 1), .int .i64 (op + 1), .bool false, .string KY, .slice none 0 0, .int .i64 0, .int .i64 0, .int .i64 0] 45))) := src_ev (alloc_new _ _)
            have LN : Hid (i + 1 ≤ maxLen ∧ ((i + 1) + (i + 1) / 4 + 192) * 96 ≤ 281474976710656) := by have := H.out.2; unfold maxLen; exact ⟨by omega, by omega⟩
            go_upto_region 21 with
              (first
                | (at_builtin; refine wpList_append_all _ rfl (.tmp 91) (.tmp 93) 22 45 22 _ 9 96 rfl Tryd.underlying22 Tryd.info45c rfl w.heap.size (.slice ep i ec) i (ecs es) rfl Q9.out.er.row _ 1 (ecs [⟨1, (c : Int) + 1, op + 1, false, KY, none, 0, 0, 0, 0, 0, []⟩]) rfl SR.out LN.out.1 LN.out.2 Q9.out.kept.size ?_; intro p9 c9 w9 ho hg hn9)
                | fail)
            have R9 : Hid (EaR w.heap.size w9 p9 (i + 1) c9 (es ++ [⟨1, (c : Int) + 1, op + 1, false, KY, none, 0, 0, 0, 0, 0, []⟩]) ∧ CRo w.heap.size w9 cp k cc cs ∧ w9.heap[nb]? = some (.cells (nowC now) 65 (0, 0)) ∧ w9.heap[kb]? = some (.cells #[.string ⟨#[107]⟩, .string ⟨#[108]⟩, .string ⟨#[0, 34]⟩] 66 (0, 0)) ∧ w9.heap[B + 1]? = some (.cells #[.bool true, .int .i64 (op + 1), .int .i64 (k : Int), .bool false, .string KY] 64 (0, 0)) ∧ w9.heap[D + 1]? = some (.cells #[.int .i64 ((c : Int) + 1), .int .i64 (op + 1), .bool false, .string KY, .slice none 0 0, .int .i64 0, .int .i64 (i : Int), .int .i64 (-1), .bool false, .int .i64 0, .int .i64 0] 48 (0, 0)) ∧ Kept (fun _ => False) w w9) := Q9.out.grow ho.out hg.out
            clear ho hg hn9 SR LN KA Q9 Q6 e0 e1 e2 e3 e4 e5 e6 e7 e8
            have x0 := cell_blk R9.out.2.2.2.2.2.1 0 (v := .int .i64 ((c : Int) + 1)) rfl
            have x1 := cell_blk R9.out.2.2.2.2.2.1 1 (v := .int .i64 (op + 1)) rfl
            have x2 := cell_blk R9.out.2.2.2.2.2.1 2 (v := .bool false) rfl
            have x3 := cell_blk R9.out.2.2.2.2.2.1 3 (v := .string KY) rfl
            have x4 := cell_blk R9.out.2.2.2.2.2.1 4 (v := .slice none 0 0) rfl
            have x5 := cell_blk R9.out.2.2.2.2.2.1 5 (v := .int .i64 0) rfl
            have x6 := cell_blk R9.out.2.2.2.2.2.1 6 (v := .int .i64 (i : Int)) rfl
            have x7 := cell_blk R9.out.2.2.2.2.2.1 7 (v := .int .i64 (-1)) rfl
            have x8 := cell_blk R9.out.2.2.2.2.2.1 8 (v := .bool false) rfl
            have x9 := cell_blk R9.out.2.2.2.2.2.1 9 (v := .int .i64 0) rfl
            have x10 := cell_blk R9.out.2.2.2.2.2.1 10 (v := .int .i64 0) rfl
            have KB : Hid (Kept (fun _ => False) w9 (w9.alloc (.cells #[.int .i64 ((c : Int) + 1), .int .i64 (op + 1), .bool false, .string KY, .slice none 0 0, .int .i64 0, .int .i64 (i : Int), .int .i64 (-1), .bool false, .int .i64 0, .int .i64 0] 48))) := (Kept.refl _ _).alloc _
            have C9 : Hid (CRo w.heap.size (w9.alloc (.cells #[.int .i64 ((c : Int) + 1), .int .i64 (op + 1), .bool false, .string KY, .slice none 0 0, .int .i64 0, .int .i64 (i : Int), .int .i64 (-1), .bool false, .int .i64 0, .int .i64 0] 48)) cp k cc cs) := R9.out.2.1.k0 KB.out
            have SR : Hid (Src Tryd.prog 11 32 (.slice (some ⟨w9.heap.size, 0, none⟩) 1 1) 1 (kcs [⟨(c : Int) + 1, op + 1, false, KY, none, 0, 0, 0, (i : Int), -1, false, 0, 0, []⟩]) (w9.alloc (.cells #[.int .i64 ((c : Int) + 1), .int .i64 (op + 1), .bool false, .string KY, .slice none 0 0, .int .i64 0, .int .i64 (i : Int), .int .i64 (-1), .bool false, .int .i64 0, .int .i64 0] 48))) := src_ca (alloc_new _ _)
            have LN : Hid (k + 1 ≤ maxLen ∧ ((k + 1) + (k + 1) / 4 + 192) * 112 ≤ 281474976710656 ∧ w.heap.size ≤ (w9.alloc (.cells #[.int .i64 ((c : Int) + 1), .int .i64 (op + 1), .bool false, .string KY, .slice none 0 0, .int .i64 0, .int .i64 (i : Int), .int .i64 (-1), .bool false, .int .i64 0, .int .i64 0] 48)).heap.size) := by have := H.out.2; unfold maxLen; exact ⟨by omega, by omega, Nat.le_trans R9.out.2.2.2.2.2.2.size KB.out.size⟩
            go_upto_region 22 with
              (first
                | (at_builtin; refine wpList_append_all _ rfl (.tmp 95) (.tmp 97) 32 48 32 _ 11 112 rfl Tryd.underlying32 Tryd.info48c rfl w.heap.size (.slice cp k cc) k (kcs cs) rfl C9.out.row _ 1 (kcs [⟨(c : Int) + 1, op + 1, false, KY, none, 0, 0, 0, (i : Int), -1, false, 0, 0, []⟩]) rfl SR.out LN.out.1 LN.out.2.1 LN.out.2.2 ?_; intro p10 c10 w10 ho hg hn9)
                | fail)
            have R10 : Hid (EaR w.heap.size w10 p9 (i + 1) c9 (es ++ [⟨1, (c : Int) + 1, op + 1, false, KY, none, 0, 0, 0, 0, 0, []⟩]) ∧ CRo w.heap.size w10 p10 (k + 1) c10 (cs ++ [⟨(c : Int) + 1, op + 1, false, KY, none, 0, 0, 0, (i : Int), -1, false, 0, 0, []⟩]) ∧ w10.heap[nb]? = some (.cells (nowC now) 65 (0, 0)) ∧ w10.heap[kb]? = some (.cells #[.string ⟨#[107]⟩, .string ⟨#[108]⟩, .string ⟨#[0, 34]⟩] 66 (0, 0)) ∧ w10.heap[B + 1]? = some (.cells #[.bool true, .int .i64 (op + 1), .int .i64 (k : Int), .bool false, .string KY] 64 (0, 0)) ∧ Kept (fun _ => False) w w10) := crow R9.out.1 R9.out.2.2.1 R9.out.2.2.2.1 R9.out.2.2.2.2.1 R9.out.2.2.2.2.2.2 KB.out C9.out ho.out hg.out
            clear ho hg hn9 SR LN KB C9 R9 x0 x1 x2 x3 x4 x5 x6 x7 x8 x9 x10
            have f0 := cell_blk R10.out.2.2.2.2.1 0 (v := .bool true) rfl
            have f1 := cell_blk R10.out.2.2.2.2.1 1 (v := .int .i64 (op + 1)) rfl
            have f2 := cell_blk R10.out.2.2.2.2.1 2 (v := .int .i64 (k : Int)) rfl
            have f3 := cell_blk R10.out.2.2.2.2.1 3 (v := .bool false) rfl
            have f4 := cell_blk R10.out.2.2.2.2.1 4 (v := .string KY) rfl
            have ng := nowC_get now hc
            have n0 := cell_blk R10.out.2.2.1 (c * 5) ng.1
            have m0 := soft_blk R10.out.2.2.1 (c * 5)
            have n1 := cell_blk R10.out.2.2.1 (c * 5 + 1) ng.2.1
            have m1 := soft_blk R10.out.2.2.1 (c * 5 + 1)
            have n2 := cell_blk R10.out.2.2.1 (c * 5 + 2) ng.2.2.1
            have m2 := soft_blk R10.out.2.2.1 (c * 5 + 2)
            have n3 := cell_blk R10.out.2.2.1 (c * 5 + 3) ng.2.2.2.1
            have m3 := soft_blk R10.out.2.2.1 (c * 5 + 3)
            have n4 := cell_blk R10.out.2.2.1 (c * 5 + 4) ng.2.2.2.2
            have m4 := soft_blk R10.out.2.2.1 (c * 5 + 4)
            clear ng
            have Z5 : Hid ((((((w10.setCell ⟨nb, c * 5, none⟩ (.bool true)).setCell ⟨nb, c * 5 + 1, none⟩ (.int .i64 (op + 1))).setCell ⟨nb, c * 5 + 2, none⟩ (.int .i64 (k : Int))).setCell ⟨nb, c * 5 + 3, none⟩ (.bool false)).setCell ⟨nb, c * 5 + 4, none⟩ (.string KY)).heap[nb]? = some (.cells (nowC (setB now c ⟨true, op + 1, k, false, KY⟩)) 65 (0, 0)) ∧ Kept (fun j => j = nb) w10 (((((w10.setCell ⟨nb, c * 5, none⟩ (.bool true)).setCell ⟨nb, c * 5 + 1, none⟩ (.int .i64 (op + 1))).setCell ⟨nb, c * 5 + 2, none⟩ (.int .i64 (k : Int))).setCell ⟨nb, c * 5 + 3, none⟩ (.bool false)).setCell ⟨nb, c * 5 + 4, none⟩ (.string KY))) := set5 R10.out.2.2.1 hc ⟨true, op + 1, k, false, KY⟩
            have NX : Hid (RS w (((((w10.setCell ⟨nb, c * 5, none⟩ (.bool true)).setCell ⟨nb, c * 5 + 1, none⟩ (.int .i64 (op + 1))).setCell ⟨nb, c * 5 + 2, none⟩ (.int .i64 (k : Int))).setCell ⟨nb, c * 5 + 3, none⟩ (.bool false)).setCell ⟨nb, c * 5 + 4, none⟩ (.string KY)) nb kb (i + 1) p9 c9 p10 (k + 1) c10 (es ++ [⟨1, (c : Int) + 1, op + 1, false, KY, none, 0, 0, 0, 0, 0, []⟩]) (cs ++ [⟨(c : Int) + 1, op + 1, false, KY, none, 0, 0, 0, (i : Int), -1, false, 0, 0, []⟩]) (setB now c ⟨true, op + 1, k, false, KY⟩)) := by
              have e1 : (now c).op = op := by rw [NB.out]
              have hf : faultE ⟨1, (c : Int) + 1, op + 1, false, KY, none, 0, 0, 0, 0, 0, []⟩ = 0 := fault_ok (.inl rfl) ⟨by show 1 ≤ (c : Int) + 1; omega, by show (c : Int) + 1 ≤ 65535; omega⟩ PB.out (value_nil 0 rfl (by decide) rfl) (tag_zero (.inl rfl) rfl rfl) ⟨by have := OP.out; show 1 ≤ op + 1; omega, by have := OP.out; show op + 1 ≤ _; omega⟩ rfl
              have q := rs_begin S.out hc (by rw [NB.out]) (e := ⟨1, (c : Int) + 1, op + 1, false, KY, none, 0, 0, 0, 0, 0, []⟩) (x := ⟨(c : Int) + 1, op + 1, false, KY, none, 0, 0, 0, (i : Int), -1, false, 0, 0, []⟩) rfl rfl (by rw [e1]) hf rfl ⟨(Reads.nil w), by first | exact RV.out.2 | exact Nat.zero_le _⟩ (Reads.nil w) rfl R10.out.1 R10.out.2.1 R10.out.2.2.1 R10.out.2.2.2.1 R10.out.2.2.2.2.2 (by rw [e1]; exact Z5.out.1) Z5.out.2
              rw [e1] at q
              exact q
            clear Z5 R10
            go_wp2_with fail
            go_roundw
            case rel => exact ⟨i + 1, p9, c9, p10, k + 1, c10, _, _, _, rfl, rfl, by go_num, by omega, NX⟩
            case measure => simp [intOf] <;> omega
          case true =>
            have g3 := cell_blk Q6.out.bb 3 (v := .bool true) rfl
            go_upto_region 18 with fail
            have h5 := cell_blk Q6.out.eb 5 (v := .slice none 0 0) rfl
            have h5s := soft_blk Q6.out.eb 5
            obtain ⟨W7, hW7⟩ : ∃ W7, W7 = W6.setCell ⟨D, 5, none⟩ (.slice m.va mn m.vc) := ⟨_, rfl⟩
            have Q7 : Hid (OB w wo W7 nb kb B D i ep ec cp k cc es cs now #[.bool true, .int .i64 (op + 1), .int .i64 (k : Int), .bool true, .string KY] #[.int .i64 1, .int .i64 ((c : Int) + 1), .int .i64 (op + 1), .bool true, .string KY, .slice m.va mn m.vc, .int .i64 0, .int .i64 0, .int .i64 0] #[.int .i64 ((c : Int) + 1), .int .i64 (op + 1), .bool true, .string KY, .slice none 0 0, .int .i64 0, .int .i64 (i : Int), .int .i64 (-1), .bool true, .int .i64 0, .int .i64 0]) := by rw [hW7]; exact Q6.out.setE 5 _
            go_upto_region 19 with fail
            rw [← hW7]
            clear hW7 h5 h5s g3
            have h4 := cell_blk Q7.out.xb 4 (v := .slice none 0 0) rfl
            have h4s := soft_blk Q7.out.xb 4
            obtain ⟨W8, hW8⟩ : ∃ W8, W8 = W7.setCell ⟨D + 1, 4, none⟩ (.slice m.va mn m.vc) := ⟨_, rfl⟩
            have Q8 : Hid (OB w wo W8 nb kb B D i ep ec cp k cc es cs now #[.bool true, .int .i64 (op + 1), .int .i64 (k : Int), .bool true, .string KY] #[.int .i64 1, .int .i64 ((c : Int) + 1), .int .i64 (op + 1), .bool true, .string KY, .slice m.va mn m.vc, .int .i64 0, .int .i64 0, .int .i64 0] #[.int .i64 ((c : Int) + 1), .int .i64 (op + 1), .bool true, .string KY, .slice m.va mn m.vc, .int .i64 0, .int .i64 (i : Int), .int .i64 (-1), .bool true, .int .i64 0, .int .i64 0]) := by rw [hW8]; exact Q7.out.setX 4 _
            go_upto_region 20 with fail
            rw [← hW8]
            clear hW8 h4 h4s
            have e0 := cell_blk Q8.out.eb 0 (v := .int .i64 1) rfl
            have e1 := cell_blk Q8.out.eb 1 (v := .int .i64 ((c : Int) + 1)) rfl
            have e2 := cell_blk Q8.out.eb 2 (v := .int .i64 (op + 1)) rfl
            have e3 := cell_blk Q8.out.eb 3 (v := .bool true) rfl
            have e4 := cell_blk Q8.out.eb 4 (v := .string KY) rfl
            have e5 := cell_blk Q8.out.eb 5 (v := .slice m.va mn m.vc) rfl
            have e6 := cell_blk Q8.out.eb 6 (v := .int .i64 0) rfl
            have e7 := cell_blk Q8.out.eb 7 (v := .int .i64 0) rfl
            have e8 := cell_blk Q8.out.eb 8 (v := .int .i64 0) rfl
            have KA : Hid (Kept (fun _ => False) W8 (W8.alloc (.cells #[.int .i64 1, .int .i64 ((c : Int) + 1), .int .i64 (op + 1), .bool true, .string KY, .slice m.va mn m.vc, .int .i64 0, .int .i64 0, .int .i64 0] 45))) := (Kept.refl _ _).alloc _
            have Q9 : Hid (OB w wo (W8.alloc (.cells #[.int .i64 1, .int .i64 ((c : Int) + 1), .int .i64 (op + 1), .bool true, .string KY, .slice m.va mn m.vc, .int .i64 0, .int .i64 0, .int .i64 0] 45)) nb kb B D i ep ec cp k cc es cs now #[.bool true, .int .i64 (op + 1), .int .i64 (k : Int), .bool true, .string KY] #[.int .i64 1, .int .i64 ((c : Int) + 1), .int .i64 (op + 1), .bool true, .string KY, .slice m.va mn m.vc, .int .i64 0, .int .i64 0, .int .i64 0] #[.int .i64 ((c : Int) + 1), .int .i64 (op + 1), .bool true, .string KY, .slice m.va mn m.vc, .int .i64 0, .int .i64 (i : Int), .int .i64 (-1), .bool true, .int .i64 0, .int .i64 0]) := Q8.out.keep KA.out
            have SR : Hid (Src Tryd.prog 9 22 (.slice (some ⟨W8.heap.size, 0, none⟩) 1 1) 1 (ecs [⟨1, (c : Int) + 1, op + 1, true, KY, m.va, mn, m.vc, 0, 0, 0, m.val.take mn⟩]) (W8.alloc (.cells #[.int .i64 1, .int .i64 ((c : Int) + 1), .int .i64 (op + 1), .bool true, .string KY, .slice m.va mn m.vc, .int .i64 0, .int .i64 0, .int .i64 0] 45))) := src_ev (alloc_new _ _)
            have LN : Hid (i + 1 ≤ maxLen ∧ ((i + 1) + (i + 1) / 4 + 192) * 96 ≤ 281474976710656) := by have := H.out.2; unfold maxLen; exact ⟨by omega, by omega⟩
            go_upto_region 21 with
              (first
                | (at_builtin; refine wpList_append_all _ rfl (.tmp 91) (.tmp 93) 22 45 22 _ 9 96 rfl Tryd.underlying22 Tryd.info45c rfl w.heap.size (.slice ep i ec) i (ecs es) rfl Q9.out.er.row _ 1 (ecs [⟨1, (c : Int) + 1, op + 1, true, KY, m.va, mn, m.vc, 0, 0, 0, m.val.take mn⟩]) rfl SR.out LN.out.1 LN.out.2 Q9.out.kept.size ?_; intro p9 c9 w9 ho hg hn9)
                | fail)
            have R9 : Hid (EaR w.heap.size w9 p9 (i + 1) c9 (es ++ [⟨1, (c : Int) + 1, op + 1, true, KY, m.va, mn, m.vc, 0, 0, 0, m.val.take mn⟩]) ∧ CRo w.heap.size w9 cp k cc cs ∧ w9.heap[nb]? = some (.cells (nowC now) 65 (0, 0)) ∧ w9.heap[kb]? = some (.cells #[.string ⟨#[107]⟩, .string ⟨#[108]⟩, .string ⟨#[0, 34]⟩] 66 (0, 0)) ∧ w9.heap[B + 1]? = some (.cells #[.bool true, .int .i64 (op + 1), .int .i64 (k : Int), .bool true, .string KY] 64 (0, 0)) ∧ w9.heap[D + 1]? = some (.cells #[.int .i64 ((c : Int) + 1), .int .i64 (op + 1), .bool true, .string KY, .slice m.va mn m.vc, .int .i64 0, .int .i64 (i : Int), .int .i64 (-1), .bool true, .int .i64 0, .int .i64 0] 48 (0, 0)) ∧ Kept (fun _ => False) w w9) := Q9.out.grow ho.out hg.out
            clear ho hg hn9 SR LN KA Q9 Q8 e0 e1 e2 e3 e4 e5 e6 e7 e8
            have x0 := cell_blk R9.out.2.2.2.2.2.1 0 (v := .int .i64 ((c : Int) + 1)) rfl
            have x1 := cell_blk R9.out.2.2.2.2.2.1 1 (v := .int .i64 (op + 1)) rfl
            have x2 := cell_blk R9.out.2.2.2.2.2.1 2 (v := .bool true) rfl
            have x3 := cell_blk R9.out.2.2.2.2.2.1 3 (v := .string KY) rfl
            have x4 := cell_blk R9.out.2.2.2.2.2.1 4 (v := .slice m.va mn m.vc) rfl
            have x5 := cell_blk R9.out.2.2.2.2.2.1 5 (v := .int .i64 0) rfl
            have x6 := cell_blk R9.out.2.2.2.2.2.1 6 (v := .int .i64 (i : Int)) rfl
            have x7 := cell_blk R9.out.2.2.2.2.2.1 7 (v := .int .i64 (-1)) rfl
            have x8 := cell_blk R9.out.2.2.2.2.2.1 8 (v := .bool true) rfl
            have x9 := cell_blk R9.out.2.2.2.2.2.1 9 (v := .int .i64 0) rfl
            have x10 := cell_blk R9.out.2.2.2.2.2.1 10 (v := .int .i64 0) rfl
            have KB : Hid (Kept (fun _ => False) w9 (w9.alloc (.cells #[.int .i64 ((c : Int) + 1), .int .i64 (op + 1), .bool true, .string KY, .slice m.va mn m.vc, .int .i64 0, .int .i64 (i : Int), .int .i64 (-1), .bool true, .int .i64 0, .int .i64 0] 48))) := (Kept.refl _ _).alloc _
            have C9 : Hid (CRo w.heap.size (w9.alloc (.cells #[.int .i64 ((c : Int) + 1), .int .i64 (op + 1), .bool true, .string KY, .slice m.va mn m.vc, .int .i64 0, .int .i64 (i : Int), .int .i64 (-1), .bool true, .int .i64 0, .int .i64 0] 48)) cp k cc cs) := R9.out.2.1.k0 KB.out
            have SR : Hid (Src Tryd.prog 11 32 (.slice (some ⟨w9.heap.size, 0, none⟩) 1 1) 1 (kcs [⟨(c : Int) + 1, op + 1, true, KY, m.va, mn, m.vc, 0, (i : Int), -1, true, 0, 0, m.val.take mn⟩]) (w9.alloc (.cells #[.int .i64 ((c : Int) + 1), .int .i64 (op + 1), .bool true, .string KY, .slice m.va mn m.vc, .int .i64 0, .int .i64 (i : Int), .int .i64 (-1), .bool true, .int .i64 0, .int .i64 0] 48))) := src_ca (alloc_new _ _)
            have LN : Hid (k + 1 ≤ maxLen ∧ ((k + 1) + (k + 1) / 4 + 192) * 112 ≤ 281474976710656 ∧ w.heap.size ≤ (w9.alloc (.cells #[.int .i64 ((c : Int) + 1), .int .i64 (op + 1), .bool true, .string KY, .slice m.va mn m.vc, .int .i64 0, .int .i64 (i : Int), .int .i64 (-1), .bool true, .int .i64 0, .int .i64 0] 48)).heap.size) := by have := H.out.2; unfold maxLen; exact ⟨by omega, by omega, Nat.le_trans R9.out.2.2.2.2.2.2.size KB.out.size⟩
            go_upto_region 22 with
              (first
                | (at_builtin; refine wpList_append_all _ rfl (.tmp 95) (.tmp 97) 32 48 32 _ 11 112 rfl Tryd.underlying32 Tryd.info48c rfl w.heap.size (.slice cp k cc) k (kcs cs) rfl C9.out.row _ 1 (kcs [⟨(c : Int) + 1, op + 1, true, KY, m.va, mn, m.vc, 0, (i : Int), -1, true, 0, 0, m.val.take mn⟩]) rfl SR.out LN.out.1 LN.out.2.1 LN.out.2.2 ?_; intro p10 c10 w10 ho hg hn9)
                | fail)
            have R10 : Hid (EaR w.heap.size w10 p9 (i + 1) c9 (es ++ [⟨1, (c : Int) + 1, op + 1, true, KY, m.va, mn, m.vc, 0, 0, 0, m.val.take mn⟩]) ∧ CRo w.heap.size w10 p10 (k + 1) c10 (cs ++ [⟨(c : Int) + 1, op + 1, true, KY, m.va, mn, m.vc, 0, (i : Int), -1, true, 0, 0, m.val.take mn⟩]) ∧ w10.heap[nb]? = some (.cells (nowC now) 65 (0, 0)) ∧ w10.heap[kb]? = some (.cells #[.string ⟨#[107]⟩, .string ⟨#[108]⟩, .string ⟨#[0, 34]⟩] 66 (0, 0)) ∧ w10.heap[B + 1]? = some (.cells #[.bool true, .int .i64 (op + 1), .int .i64 (k : Int), .bool true, .string KY] 64 (0, 0)) ∧ Kept (fun _ => False) w w10) := crow R9.out.1 R9.out.2.2.1 R9.out.2.2.2.1 R9.out.2.2.2.2.1 R9.out.2.2.2.2.2.2 KB.out C9.out ho.out hg.out
            clear ho hg hn9 SR LN KB C9 R9 x0 x1 x2 x3 x4 x5 x6 x7 x8 x9 x10
            have f0 := cell_blk R10.out.2.2.2.2.1 0 (v := .bool true) rfl
            have f1 := cell_blk R10.out.2.2.2.2.1 1 (v := .int .i64 (op + 1)) rfl
            have f2 := cell_blk R10.out.2.2.2.2.1 2 (v := .int .i64 (k : Int)) rfl
            have f3 := cell_blk R10.out.2.2.2.2.1 3 (v := .bool true) rfl
            have f4 := cell_blk R10.out.2.2.2.2.1 4 (v := .string KY) rfl
            have ng := nowC_get now hc
            have n0 := cell_blk R10.out.2.2.1 (c * 5) ng.1
            have m0 := soft_blk R10.out.2.2.1 (c * 5)
            have n1 := cell_blk R10.out.2.2.1 (c * 5 + 1) ng.2.1
            have m1 := soft_blk R10.out.2.2.1 (c * 5 + 1)
            have n2 := cell_blk R10.out.2.2.1 (c * 5 + 2) ng.2.2.1
            have m2 := soft_blk R10.out.2.2.1 (c * 5 + 2)
            have n3 := cell_blk R10.out.2.2.1 (c * 5 + 3) ng.2.2.2.1
            have m3 := soft_blk R10.out.2.2.1 (c * 5 + 3)
            have n4 := cell_blk R10.out.2.2.1 (c * 5 + 4) ng.2.2.2.2
            have m4 := soft_blk R10.out.2.2.1 (c * 5 + 4)
            clear ng
            have Z5 : Hid ((((((w10.setCell ⟨nb, c * 5, none⟩ (.bool true)).setCell ⟨nb, c * 5 + 1, none⟩ (.int .i64 (op + 1))).setCell ⟨nb, c * 5 + 2, none⟩ (.int .i64 (k : Int))).setCell ⟨nb, c * 5 + 3, none⟩ (.bool true)).setCell ⟨nb, c * 5 + 4, none⟩ (.string KY)).heap[nb]? = some (.cells (nowC (setB now c ⟨true, op + 1, k, true, KY⟩)) 65 (0, 0)) ∧ Kept (fun j => j = nb) w10 (((((w10.setCell ⟨nb, c * 5, none⟩ (.bool true)).setCell ⟨nb, c * 5 + 1, none⟩ (.int .i64 (op + 1))).setCell ⟨nb, c * 5 + 2, none⟩ (.int .i64 (k : Int))).setCell ⟨nb, c * 5 + 3, none⟩ (.bool true)).setCell ⟨nb, c * 5 + 4, none⟩ (.string KY))) := set5 R10.out.2.2.1 hc ⟨true, op + 1, k, true, KY⟩
            have NX : Hid (RS w (((((w10.setCell ⟨nb, c * 5, none⟩ (.bool true)).setCell ⟨nb, c * 5 + 1, none⟩ (.int .i64 (op + 1))).setCell ⟨nb, c * 5 + 2, none⟩ (.int .i64 (k : Int))).setCell ⟨nb, c * 5 + 3, none⟩ (.bool true)).setCell ⟨nb, c * 5 + 4, none⟩ (.string KY)) nb kb (i + 1) p9 c9 p10 (k + 1) c10 (es ++ [⟨1, (c : Int) + 1, op + 1, true, KY, m.va, mn, m.vc, 0, 0, 0, m.val.take mn⟩]) (cs ++ [⟨(c : Int) + 1, op + 1, true, KY, m.va, mn, m.vc, 0, (i : Int), -1, true, 0, 0, m.val.take mn⟩]) (setB now c ⟨true, op + 1, k, true, KY⟩)) := by
              have e1 : (now c).op = op := by rw [NB.out]
              have hf : faultE ⟨1, (c : Int) + 1, op + 1, true, KY, m.va, mn, m.vc, 0, 0, 0, m.val.take mn⟩ = 0 := fault_ok (.inl rfl) ⟨by show 1 ≤ (c : Int) + 1; omega, by show (c : Int) + 1 ≤ 65535; omega⟩ PB.out (value_ok (.inl rfl) (Nat.le_trans RV.out.2 (by decide))) (tag_zero (.inr rfl) rfl rfl) ⟨by have := OP.out; show 1 ≤ op + 1; omega, by have := OP.out; show op + 1 ≤ _; omega⟩ rfl
              have q := rs_begin S.out hc (by rw [NB.out]) (e := ⟨1, (c : Int) + 1, op + 1, true, KY, m.va, mn, m.vc, 0, 0, 0, m.val.take mn⟩) (x := ⟨(c : Int) + 1, op + 1, true, KY, m.va, mn, m.vc, 0, (i : Int), -1, true, 0, 0, m.val.take mn⟩) rfl rfl (by rw [e1]) hf rfl ⟨RV.out.1, by first | exact RV.out.2 | exact Nat.zero_le _⟩ RV.out.1 rfl R10.out.1 R10.out.2.1 R10.out.2.2.1 R10.out.2.2.2.1 R10.out.2.2.2.2.2 (by rw [e1]; exact Z5.out.1) Z5.out.2
              rw [e1] at q
              exact q
            clear Z5 R10
            go_wp2_with fail
            go_roundw
            case rel => exact ⟨i + 1, p9, c9, p10, k + 1, c10, _, _, _, rfl, rfl, by go_num, by omega, NX⟩
            case measure => simp [intOf] <;> omega
      case true =>
        obtain ⟨x, hx, atk, xput, xst, xto, xop, xval, opR, kyR, xrd⟩ := S.out.call hc (by rw [NB.out])
        rw [NB.out] at hx atk xput xop xval opR kyR
        dsimp only at hx atk xput xop xval opR kyR
        obtain ⟨g, rfl, gl, csr, hg⟩ := S.out.cr.at (by omega)
        have XX : Hid (cs[at_]? = some x ∧ x.put = pu ∧ x.st = 0 ∧ x.too = -1 ∧ x.opn = pu ∧ (pu = false → x.val = []) ∧ (1 ≤ op ∧ op ≤ 4611686018427387903) ∧ (1 ≤ ky.size ∧ ky.size ≤ 64) ∧ Reads w x.va x.vn x.vc x.val) := ⟨hx, xput, xst, xto, xop, xval, opR, kyR, xrd⟩
        have at1 : (at_ : Int) < (k : Int) := by omega
        clear hx xput xst xto xop xval opR kyR xrd gl hg csr
        obtain ⟨r, hr⟩ : ∃ r : Nat, (r : Int) = m.fin % 4 := ⟨(m.fin % 4).toNat, by omega⟩
        have CK : Hid (∀ V, Calls Tryd.prog 13 #[.int .i64 m.fin, .int .i64 4] V fun o w' => o = .returned (.int .i64 (r : Int)) ∧ w' = V) := fun V => lModR m.fin 4 (by omega) (by omega) hr V
        have r4 : r = 0 ∨ r = 1 ∨ r = 2 ∨ r = 3 := by omega
        clear hr
        obtain ⟨D, s4⟩ : ∃ D, W3.heap.size = D := ⟨_, rfl⟩
        have DL : Hid (wo.heap.size ≤ D) := by rw [← s4]; exact J3.out.2.2.2.size
        clear s3
        obtain ⟨W4, hW4⟩ : ∃ W4, W4 = W3.alloc (.cells #[.int .i64 2, .int .i64 ((c : Int) + 1), .int .i64 op, .bool pu, .string ky, .slice none 0 0, .int .i64 0, .int .i64 0, .int .i64 0] 45) := ⟨_, rfl⟩
        have Q4 : Hid (FB w W4 nb kb B D g i ep ec k cc es cs now #[.int .i64 m.client, .bool m.put, .int .i64 m.key, .slice m.va m.vn m.vc, .int .i64 m.fin] #[.bool true, .int .i64 op, .int .i64 (at_ : Int), .bool pu, .string ky] #[.int .i64 ((i : Int) + 1), .int .i64 ((c : Int) + 1)] #[.int .i64 2, .int .i64 ((c : Int) + 1), .int .i64 op, .bool pu, .string ky, .slice none 0 0, .int .i64 0, .int .i64 0, .int .i64 0]) := by
          have K6 : Kept (fun _ => False) wo W4 := by rw [hW4]; exact J3.out.2.2.2.alloc _
          exact ⟨S.out.er.k0 K6, S.out.cr.k0 K6, K6.get S.out.nw (fun z => z), K6.get S.out.ks (fun z => z), by rw [hW4]; exact alloc_old _ J3.out.1, by rw [hW4]; exact alloc_old _ J3.out.2.1, by rw [hW4]; exact alloc_old _ J3.out.2.2.1, by rw [hW4, ← s4]; exact alloc_new _ _, fun z => by have q := own_lt S.out.er.row D z; have := DL.out; omega, S.out.kept.trans K6 (fun _ _ z => z), Nat.le_trans S.out.kept.size DL.out⟩
        go_upto_region 24 with fail
        rw [← hW4]
        clear hW4 s4 b0 b1 b2 b3 b4 J3
        have c2 := cell_blk Q4.out.bb 2 (v := .int .i64 (at_ : Int)) rfl
        have c4 := cell_blk Q4.out.mb 4 (v := .int .i64 m.fin) rfl
        go_wp2_with fail
        refine (CK.out _).mono ?_
        rintro o wq ⟨rfl, hwq⟩
        subst hwq
        clear CK c2 c4
        have OP : Hid (0 ≤ op ∧ op ≤ (i : Int)) := op0
        cases pu
        case false =>
          obtain rfl | rfl | rfl | rfl := r4
          · have F4 : Hid (FB w wq nb kb B D g i ep ec k cc es cs now #[.int .i64 m.client, .bool m.put, .int .i64 m.key, .slice m.va m.vn m.vc, .int .i64 m.fin] #[.bool true, .int .i64 op, .int .i64 (at_ : Int), .bool false, .string ky] #[.int .i64 ((i : Int) + 1), .int .i64 ((c : Int) + 1)] #[.int .i64 2, .int .i64 ((c : Int) + 1), .int .i64 op, .bool false, .string ky, .slice none 0 0, .int .i64 0, .int .i64 0, .int .i64 0]) := Q4.out
            clear Q4
            go_upto_region 27 with fail
            have e0 := cell_blk F4.out.eb 0 (v := .int .i64 2) rfl
            have es0 := soft_blk F4.out.eb 0
            obtain ⟨V5, hV5⟩ : ∃ V5, V5 = (wq.setCell ⟨D, 0, none⟩ (.int .i64 3)) := ⟨_, rfl⟩
            have F5 : Hid (FB w V5 nb kb B D g i ep ec k cc es cs now #[.int .i64 m.client, .bool m.put, .int .i64 m.key, .slice m.va m.vn m.vc, .int .i64 m.fin] #[.bool true, .int .i64 op, .int .i64 (at_ : Int), .bool false, .string ky] #[.int .i64 ((i : Int) + 1), .int .i64 ((c : Int) + 1)] #[.int .i64 3, .int .i64 ((c : Int) + 1), .int .i64 op, .bool false, .string ky, .slice none 0 0, .int .i64 0, .int .i64 0, .int .i64 0]) := by rw [hV5]; exact (F4.out.setE 0 _)
            go_upto_region 28 with fail
            rw [← hV5]
            clear hV5  e0 es0
            have xc5 := F5.out.cr.cell (t := at_) XX.out.1 5 (v := .int .i64 x.st) rfl
            have xa5 := xc5.1
            have xb5 := xc5.2
            clear xc5
            obtain ⟨V6, hV6⟩ : ∃ V6, V6 = (V5.setCell ⟨g, at_ * 11 + 5, none⟩ (.int .i64 77)) := ⟨_, rfl⟩
            have F6 : Hid (FB w V6 nb kb B D g i ep ec k cc es (cs.set at_ ({ x with st := 77 } : Ca)) now #[.int .i64 m.client, .bool m.put, .int .i64 m.key, .slice m.va m.vn m.vc, .int .i64 m.fin] #[.bool true, .int .i64 op, .int .i64 (at_ : Int), .bool false, .string ky] #[.int .i64 ((i : Int) + 1), .int .i64 ((c : Int) + 1)] #[.int .i64 3, .int .i64 ((c : Int) + 1), .int .i64 op, .bool false, .string ky, .slice none 0 0, .int .i64 0, .int .i64 0, .int .i64 0]) := by rw [hV6]; exact (F5.out.setX (t := at_) XX.out.1 ({ x with st := 77 } : Ca) 5 _ (by omega) rfl)
            go_upto_region 29 with fail
            rw [← hV6]
            clear hV6  xa5 xb5
            have p3 := cell_blk F6.out.bb 3 (v := .bool false) rfl
            go_upto_region 51 with fail
            clear p3
            have e7 := cell_blk F6.out.eb 7 (v := .int .i64 0) rfl
            have e8 := cell_blk F6.out.eb 8 (v := .int .i64 0) rfl
            have xc9 := F6.out.cr.cell (t := at_) (set_at XX.out.1) 9 (v := .int .i64 x.tx) rfl
            have xa9 := xc9.1
            have xb9 := xc9.2
            clear xc9
            have xc10 := F6.out.cr.cell (t := at_) (set_at XX.out.1) 10 (v := .int .i64 x.ty) rfl
            have xa10 := xc10.1
            have xb10 := xc10.2
            clear xc10
            obtain ⟨V7, hV7⟩ : ∃ V7, V7 = ((V6.setCell ⟨g, at_ * 11 + 9, none⟩ (.int .i64 0)).setCell ⟨g, at_ * 11 + 10, none⟩ (.int .i64 0)) := ⟨_, rfl⟩
            have F7 : Hid (FB w V7 nb kb B D g i ep ec k cc es (((cs.set at_ ({ x with st := 77 } : Ca)).set at_ ({ x with st := 77, tx := 0 } : Ca)).set at_ ({ x with st := 77, tx := 0, ty := 0 } : Ca)) now #[.int .i64 m.client, .bool m.put, .int .i64 m.key, .slice m.va m.vn m.vc, .int .i64 m.fin] #[.bool true, .int .i64 op, .int .i64 (at_ : Int), .bool false, .string ky] #[.int .i64 ((i : Int) + 1), .int .i64 ((c : Int) + 1)] #[.int .i64 3, .int .i64 ((c : Int) + 1), .int .i64 op, .bool false, .string ky, .slice none 0 0, .int .i64 0, .int .i64 0, .int .i64 0]) := by rw [hV7]; exact ((F6.out.setX (t := at_) (set_at XX.out.1) ({ x with st := 77, tx := 0 } : Ca) 9 _ (by omega) rfl).setX (t := at_) (set_at (set_at XX.out.1)) ({ x with st := 77, tx := 0, ty := 0 } : Ca) 10 _ (by omega) rfl)
            go_upto_region 52 with fail
            rw [← hV7]
            clear hV7  xa9 xb9 xa10 xb10 e7 e8
            have e0 := cell_blk F7.out.eb 0 (v := .int .i64 3) rfl
            have e1 := cell_blk F7.out.eb 1 (v := .int .i64 ((c : Int) + 1)) rfl
            have e2 := cell_blk F7.out.eb 2 (v := .int .i64 op) rfl
            have e3 := cell_blk F7.out.eb 3 (v := .bool false) rfl
            have e4 := cell_blk F7.out.eb 4 (v := .string ky) rfl
            have e5 := cell_blk F7.out.eb 5 (v := .slice none 0 0) rfl
            have e6 := cell_blk F7.out.eb 6 (v := .int .i64 0) rfl
            have e7 := cell_blk F7.out.eb 7 (v := .int .i64 0) rfl
            have e8 := cell_blk F7.out.eb 8 (v := .int .i64 0) rfl
            have KA : Hid (Kept (fun _ => False) V7 (V7.alloc (.cells #[.int .i64 3, .int .i64 ((c : Int) + 1), .int .i64 op, .bool false, .string ky, .slice none 0 0, .int .i64 0, .int .i64 0, .int .i64 0] 45))) := (Kept.refl _ _).alloc _
            have Q9 : Hid (FB w (V7.alloc (.cells #[.int .i64 3, .int .i64 ((c : Int) + 1), .int .i64 op, .bool false, .string ky, .slice none 0 0, .int .i64 0, .int .i64 0, .int .i64 0] 45)) nb kb B D g i ep ec k cc es (((cs.set at_ ({ x with st := 77 } : Ca)).set at_ ({ x with st := 77, tx := 0 } : Ca)).set at_ ({ x with st := 77, tx := 0, ty := 0 } : Ca)) now #[.int .i64 m.client, .bool m.put, .int .i64 m.key, .slice m.va m.vn m.vc, .int .i64 m.fin] #[.bool true, .int .i64 op, .int .i64 (at_ : Int), .bool false, .string ky] #[.int .i64 ((i : Int) + 1), .int .i64 ((c : Int) + 1)] #[.int .i64 3, .int .i64 ((c : Int) + 1), .int .i64 op, .bool false, .string ky, .slice none 0 0, .int .i64 0, .int .i64 0, .int .i64 0]) := F7.out.keep KA.out
            have SR : Hid (Src Tryd.prog 9 22 (.slice (some ⟨V7.heap.size, 0, none⟩) 1 1) 1 (ecs [⟨3, (c : Int) + 1, op, false, ky, none, 0, 0, 0, 0, 0, []⟩]) (V7.alloc (.cells #[.int .i64 3, .int .i64 ((c : Int) + 1), .int .i64 op, .bool false, .string ky, .slice none 0 0, .int .i64 0, .int .i64 0, .int .i64 0] 45))) := src_ev (alloc_new _ _)
            have LN : Hid (i + 1 ≤ maxLen ∧ ((i + 1) + (i + 1) / 4 + 192) * 96 ≤ 281474976710656) := by have := H.out.2; unfold maxLen; exact ⟨by omega, by omega⟩
            go_upto_region 53 with
              (first
                | (at_builtin; refine wpList_append_all _ rfl (.tmp 190) (.tmp 192) 22 45 22 _ 9 96 rfl Tryd.underlying22 Tryd.info45c rfl w.heap.size (.slice ep i ec) i (ecs es) rfl Q9.out.er.row _ 1 (ecs [⟨3, (c : Int) + 1, op, false, ky, none, 0, 0, 0, 0, 0, []⟩]) rfl SR.out LN.out.1 LN.out.2 Q9.out.kept.size ?_; intro p9 c9 w9 ho hg hn9)
                | fail)
            have R9 : Hid (EaR w.heap.size w9 p9 (i + 1) c9 (es ++ [⟨3, (c : Int) + 1, op, false, ky, none, 0, 0, 0, 0, 0, []⟩]) ∧ CRo w.heap.size w9 (some ⟨g, 0, none⟩) k cc (cs.set at_ ({ x with st := 77, tx := 0, ty := 0 } : Ca)) ∧ w9.heap[nb]? = some (.cells (nowC now) 65 (0, 0)) ∧ w9.heap[kb]? = some (.cells #[.string ⟨#[107]⟩, .string ⟨#[108]⟩, .string ⟨#[0, 34]⟩] 66 (0, 0)) ∧ Kept (fun _ => False) w w9) := by have q := Q9.out.grow (e := ⟨3, (c : Int) + 1, op, false, ky, none, 0, 0, 0, 0, 0, []⟩) ho.out hg.out; simp only [List.set_set] at q; exact q
            clear ho hg hn9 SR LN KA Q9 F7 e0 e1 e2 e3 e4 e5 e6 e7 e8
            have ng := nowC_get now hc
            have n0 := cell_blk R9.out.2.2.1 (c * 5) ng.1
            have m0 := soft_blk R9.out.2.2.1 (c * 5)
            clear ng
            have NX : Hid (RS w (w9.setCell ⟨nb, c * 5, none⟩ (.bool false)) nb kb (i + 1) p9 c9 (some ⟨g, 0, none⟩) k cc (es ++ [⟨3, (c : Int) + 1, op, false, ky, none, 0, 0, 0, 0, 0, []⟩]) (cs.set at_ ({ x with st := 77, tx := 0, ty := 0 } : Ca)) (setB now c { now c with on := false })) := by
              have ea : (now c).at_ = at_ := by rw [NB.out]
              have hf : faultE ⟨3, (c : Int) + 1, op, false, ky, none, 0, 0, 0, 0, 0, []⟩ = 0 := fault_ok (.inr (.inr rfl)) ⟨by show 1 ≤ (c : Int) + 1; omega, by show (c : Int) + 1 ≤ 65535; omega⟩ XX.out.2.2.2.2.2.2.2.1 (value_nil 0 rfl (by decide) rfl) (tag_zero (.inl rfl) rfl rfl) XX.out.2.2.2.2.2.2.1 rfl
              have hcc : ({ x with st := 77, tx := 0, ty := 0 } : Ca).cc = endC x.cc ⟨3, (c : Int) + 1, op, false, ky, none, 0, 0, 0, 0, 0, []⟩ i := by
                obtain ⟨_, z1, z2, z3, z4, z5, _⟩ := XX.out
                have z1 : x.cc.put = false := z1
                have z5 := z5 (by first | rfl | trivial)
                unfold endC Ca.cc
                simp_all [Ca.cc]
              have q := rs_end S.out hc (by rw [NB.out]) (e := ⟨3, (c : Int) + 1, op, false, ky, none, 0, 0, 0, 0, 0, []⟩) (x := x) (x2 := ({ x with st := 77, tx := 0, ty := 0 } : Ca)) (by rw [ea]; exact XX.out.1) (by simp) rfl (by rw [NB.out]) (by rw [NB.out]) (by rw [NB.out]) hf hcc ⟨(Reads.nil w), by first | exact RV.out.2 | exact Nat.zero_le _⟩ XX.out.2.2.2.2.2.2.2.2 R9.out.1 (by rw [ea]; exact R9.out.2.1) R9.out.2.2.1 R9.out.2.2.2.1 R9.out.2.2.2.2
              rw [ea] at q
              exact q
            clear R9
            go_wp2_with fail
            go_roundw
            case rel => exact ⟨i + 1, p9, c9, _, k, cc, _, _, _, rfl, rfl, by go_num, by omega, NX⟩
            case measure => simp [intOf] <;> omega
          · have F4 : Hid (FB w wq nb kb B D g i ep ec k cc es cs now #[.int .i64 m.client, .bool m.put, .int .i64 m.key, .slice m.va m.vn m.vc, .int .i64 m.fin] #[.bool true, .int .i64 op, .int .i64 (at_ : Int), .bool false, .string ky] #[.int .i64 ((i : Int) + 1), .int .i64 ((c : Int) + 1)] #[.int .i64 2, .int .i64 ((c : Int) + 1), .int .i64 op, .bool false, .string ky, .slice none 0 0, .int .i64 0, .int .i64 0, .int .i64 0]) := Q4.out
            clear Q4
            go_upto_region 32 with fail
            have e6 := cell_blk F4.out.eb 6 (v := .int .i64 0) rfl
            have es6 := soft_blk F4.out.eb 6
            obtain ⟨V5, hV5⟩ : ∃ V5, V5 = (wq.setCell ⟨D, 6, none⟩ (.int .i64 42)) := ⟨_, rfl⟩
            have F5 : Hid (FB w V5 nb kb B D g i ep ec k cc es cs now #[.int .i64 m.client, .bool m.put, .int .i64 m.key, .slice m.va m.vn m.vc, .int .i64 m.fin] #[.bool true, .int .i64 op, .int .i64 (at_ : Int), .bool false, .string ky] #[.int .i64 ((i : Int) + 1), .int .i64 ((c : Int) + 1)] #[.int .i64 2, .int .i64 ((c : Int) + 1), .int .i64 op, .bool false, .string ky, .slice none 0 0, .int .i64 42, .int .i64 0, .int .i64 0]) := by rw [hV5]; exact (F4.out.setE 6 _)
            go_upto_region 33 with fail
            rw [← hV5]
            clear hV5  e6 es6
            have p3 := cell_blk F5.out.bb 3 (v := .bool false) rfl
            go_upto_region 34 with fail
            clear p3
            have e6 := cell_blk F5.out.eb 6 (v := .int .i64 42) rfl
            have es6 := soft_blk F5.out.eb 6
            obtain ⟨V6, hV6⟩ : ∃ V6, V6 = (V5.setCell ⟨D, 6, none⟩ (.int .i64 76)) := ⟨_, rfl⟩
            have F6 : Hid (FB w V6 nb kb B D g i ep ec k cc es cs now #[.int .i64 m.client, .bool m.put, .int .i64 m.key, .slice m.va m.vn m.vc, .int .i64 m.fin] #[.bool true, .int .i64 op, .int .i64 (at_ : Int), .bool false, .string ky] #[.int .i64 ((i : Int) + 1), .int .i64 ((c : Int) + 1)] #[.int .i64 2, .int .i64 ((c : Int) + 1), .int .i64 op, .bool false, .string ky, .slice none 0 0, .int .i64 76, .int .i64 0, .int .i64 0]) := by rw [hV6]; exact (F5.out.setE 6 _)
            go_upto_region 35 with fail
            rw [← hV6]
            clear hV6  e6 es6
            have xc7 := F6.out.cr.cell (t := at_) XX.out.1 7 (v := .int .i64 x.too) rfl
            have xa7 := xc7.1
            have xb7 := xc7.2
            clear xc7
            obtain ⟨V7, hV7⟩ : ∃ V7, V7 = (V6.setCell ⟨g, at_ * 11 + 7, none⟩ (.int .i64 (i : Int))) := ⟨_, rfl⟩
            have F7 : Hid (FB w V7 nb kb B D g i ep ec k cc es (cs.set at_ ({ x with too := (i : Int) } : Ca)) now #[.int .i64 m.client, .bool m.put, .int .i64 m.key, .slice m.va m.vn m.vc, .int .i64 m.fin] #[.bool true, .int .i64 op, .int .i64 (at_ : Int), .bool false, .string ky] #[.int .i64 ((i : Int) + 1), .int .i64 ((c : Int) + 1)] #[.int .i64 2, .int .i64 ((c : Int) + 1), .int .i64 op, .bool false, .string ky, .slice none 0 0, .int .i64 76, .int .i64 0, .int .i64 0]) := by rw [hV7]; exact (F6.out.setX (t := at_) XX.out.1 ({ x with too := (i : Int) } : Ca) 7 _ (by omega) rfl)
            go_upto_region 36 with fail
            rw [← hV7]
            clear hV7  xa7 xb7
            have e6 := cell_blk F7.out.eb 6 (v := .int .i64 76) rfl
            have xc5 := F7.out.cr.cell (t := at_) (set_at XX.out.1) 5 (v := .int .i64 x.st) rfl
            have xa5 := xc5.1
            have xb5 := xc5.2
            clear xc5
            obtain ⟨V8, hV8⟩ : ∃ V8, V8 = (V7.setCell ⟨g, at_ * 11 + 5, none⟩ (.int .i64 76)) := ⟨_, rfl⟩
            have F8 : Hid (FB w V8 nb kb B D g i ep ec k cc es ((cs.set at_ ({ x with too := (i : Int) } : Ca)).set at_ ({ x with too := (i : Int), st := 76 } : Ca)) now #[.int .i64 m.client, .bool m.put, .int .i64 m.key, .slice m.va m.vn m.vc, .int .i64 m.fin] #[.bool true, .int .i64 op, .int .i64 (at_ : Int), .bool false, .string ky] #[.int .i64 ((i : Int) + 1), .int .i64 ((c : Int) + 1)] #[.int .i64 2, .int .i64 ((c : Int) + 1), .int .i64 op, .bool false, .string ky, .slice none 0 0, .int .i64 76, .int .i64 0, .int .i64 0]) := by rw [hV8]; exact (F7.out.setX (t := at_) (set_at XX.out.1) ({ x with too := (i : Int), st := 76 } : Ca) 5 _ (by omega) rfl)
            go_upto_region 51 with fail
            rw [← hV8]
            clear hV8  xa5 xb5 e6
            have e7 := cell_blk F8.out.eb 7 (v := .int .i64 0) rfl
            have e8 := cell_blk F8.out.eb 8 (v := .int .i64 0) rfl
            have xc9 := F8.out.cr.cell (t := at_) (set_at (set_at XX.out.1)) 9 (v := .int .i64 x.tx) rfl
            have xa9 := xc9.1
            have xb9 := xc9.2
            clear xc9
            have xc10 := F8.out.cr.cell (t := at_) (set_at (set_at XX.out.1)) 10 (v := .int .i64 x.ty) rfl
            have xa10 := xc10.1
            have xb10 := xc10.2
            clear xc10
            obtain ⟨V9, hV9⟩ : ∃ V9, V9 = ((V8.setCell ⟨g, at_ * 11 + 9, none⟩ (.int .i64 0)).setCell ⟨g, at_ * 11 + 10, none⟩ (.int .i64 0)) := ⟨_, rfl⟩
            have F9 : Hid (FB w V9 nb kb B D g i ep ec k cc es ((((cs.set at_ ({ x with too := (i : Int) } : Ca)).set at_ ({ x with too := (i : Int), st := 76 } : Ca)).set at_ ({ x with too := (i : Int), st := 76, tx := 0 } : Ca)).set at_ ({ x with too := (i : Int), st := 76, tx := 0, ty := 0 } : Ca)) now #[.int .i64 m.client, .bool m.put, .int .i64 m.key, .slice m.va m.vn m.vc, .int .i64 m.fin] #[.bool true, .int .i64 op, .int .i64 (at_ : Int), .bool false, .string ky] #[.int .i64 ((i : Int) + 1), .int .i64 ((c : Int) + 1)] #[.int .i64 2, .int .i64 ((c : Int) + 1), .int .i64 op, .bool false, .string ky, .slice none 0 0, .int .i64 76, .int .i64 0, .int .i64 0]) := by rw [hV9]; exact ((F8.out.setX (t := at_) (set_at (set_at XX.out.1)) ({ x with too := (i : Int), st := 76, tx := 0 } : Ca) 9 _ (by omega) rfl).setX (t := at_) (set_at (set_at (set_at XX.out.1))) ({ x with too := (i : Int), st := 76, tx := 0, ty := 0 } : Ca) 10 _ (by omega) rfl)
            go_upto_region 52 with fail
            rw [← hV9]
            clear hV9  xa9 xb9 xa10 xb10 e7 e8
            have e0 := cell_blk F9.out.eb 0 (v := .int .i64 2) rfl
            have e1 := cell_blk F9.out.eb 1 (v := .int .i64 ((c : Int) + 1)) rfl
            have e2 := cell_blk F9.out.eb 2 (v := .int .i64 op) rfl
            have e3 := cell_blk F9.out.eb 3 (v := .bool false) rfl
            have e4 := cell_blk F9.out.eb 4 (v := .string ky) rfl
            have e5 := cell_blk F9.out.eb 5 (v := .slice none 0 0) rfl
            have e6 := cell_blk F9.out.eb 6 (v := .int .i64 76) rfl
            have e7 := cell_blk F9.out.eb 7 (v := .int .i64 0) rfl
            have e8 := cell_blk F9.out.eb 8 (v := .int .i64 0) rfl
            have KA : Hid (Kept (fun _ => False) V9 (V9.alloc (.cells #[.int .i64 2, .int .i64 ((c : Int) + 1), .int .i64 op, .bool false, .string ky, .slice none 0 0, .int .i64 76, .int .i64 0, .int .i64 0] 45))) := (Kept.refl _ _).alloc _
            have Q9 : Hid (FB w (V9.alloc (.cells #[.int .i64 2, .int .i64 ((c : Int) + 1), .int .i64 op, .bool false, .string ky, .slice none 0 0, .int .i64 76, .int .i64 0, .int .i64 0] 45)) nb kb B D g i ep ec k cc es ((((cs.set at_ ({ x with too := (i : Int) } : Ca)).set at_ ({ x with too := (i : Int), st := 76 } : Ca)).set at_ ({ x with too := (i : Int), st := 76, tx := 0 } : Ca)).set at_ ({ x with too := (i : Int), st := 76, tx := 0, ty := 0 } : Ca)) now #[.int .i64 m.client, .bool m.put, .int .i64 m.key, .slice m.va m.vn m.vc, .int .i64 m.fin] #[.bool true, .int .i64 op, .int .i64 (at_ : Int), .bool false, .string ky] #[.int .i64 ((i : Int) + 1), .int .i64 ((c : Int) + 1)] #[.int .i64 2, .int .i64 ((c : Int) + 1), .int .i64 op, .bool false, .string ky, .slice none 0 0, .int .i64 76, .int .i64 0, .int .i64 0]) := F9.out.keep KA.out
            have SR : Hid (Src Tryd.prog 9 22 (.slice (some ⟨V9.heap.size, 0, none⟩) 1 1) 1 (ecs [⟨2, (c : Int) + 1, op, false, ky, none, 0, 0, 76, 0, 0, []⟩]) (V9.alloc (.cells #[.int .i64 2, .int .i64 ((c : Int) + 1), .int .i64 op, .bool false, .string ky, .slice none 0 0, .int .i64 76, .int .i64 0, .int .i64 0] 45))) := src_ev (alloc_new _ _)
            have LN : Hid (i + 1 ≤ maxLen ∧ ((i + 1) + (i + 1) / 4 + 192) * 96 ≤ 281474976710656) := by have := H.out.2; unfold maxLen; exact ⟨by omega, by omega⟩
            go_upto_region 53 with
              (first
                | (at_builtin; refine wpList_append_all _ rfl (.tmp 190) (.tmp 192) 22 45 22 _ 9 96 rfl Tryd.underlying22 Tryd.info45c rfl w.heap.size (.slice ep i ec) i (ecs es) rfl Q9.out.er.row _ 1 (ecs [⟨2, (c : Int) + 1, op, false, ky, none, 0, 0, 76, 0, 0, []⟩]) rfl SR.out LN.out.1 LN.out.2 Q9.out.kept.size ?_; intro p9 c9 w9 ho hg hn9)
                | fail)
            have R9 : Hid (EaR w.heap.size w9 p9 (i + 1) c9 (es ++ [⟨2, (c : Int) + 1, op, false, ky, none, 0, 0, 76, 0, 0, []⟩]) ∧ CRo w.heap.size w9 (some ⟨g, 0, none⟩) k cc (cs.set at_ ({ x with too := (i : Int), st := 76, tx := 0, ty := 0 } : Ca)) ∧ w9.heap[nb]? = some (.cells (nowC now) 65 (0, 0)) ∧ w9.heap[kb]? = some (.cells #[.string ⟨#[107]⟩, .string ⟨#[108]⟩, .string ⟨#[0, 34]⟩] 66 (0, 0)) ∧ Kept (fun _ => False) w w9) := by have q := Q9.out.grow (e := ⟨2, (c : Int) + 1, op, false, ky, none, 0, 0, 76, 0, 0, []⟩) ho.out hg.out; simp only [List.set_set] at q; exact q
            clear ho hg hn9 SR LN KA Q9 F9 e0 e1 e2 e3 e4 e5 e6 e7 e8
            have ng := nowC_get now hc
            have n0 := cell_blk R9.out.2.2.1 (c * 5) ng.1
            have m0 := soft_blk R9.out.2.2.1 (c * 5)
            clear ng
            have NX : Hid (RS w (w9.setCell ⟨nb, c * 5, none⟩ (.bool false)) nb kb (i + 1) p9 c9 (some ⟨g, 0, none⟩) k cc (es ++ [⟨2, (c : Int) + 1, op, false, ky, none, 0, 0, 76, 0, 0, []⟩]) (cs.set at_ ({ x with too := (i : Int), st := 76, tx := 0, ty := 0 } : Ca)) (setB now c { now c with on := false })) := by
              have ea : (now c).at_ = at_ := by rw [NB.out]
              have hf : faultE ⟨2, (c : Int) + 1, op, false, ky, none, 0, 0, 76, 0, 0, []⟩ = 0 := fault_ok (.inr (.inl rfl)) ⟨by show 1 ≤ (c : Int) + 1; omega, by show (c : Int) + 1 ≤ 65535; omega⟩ XX.out.2.2.2.2.2.2.2.1 (value_nil 0 rfl (by decide) rfl) (tag_zero (.inl rfl) rfl rfl) XX.out.2.2.2.2.2.2.1 rfl
              have hcc : ({ x with too := (i : Int), st := 76, tx := 0, ty := 0 } : Ca).cc = endC x.cc ⟨2, (c : Int) + 1, op, false, ky, none, 0, 0, 76, 0, 0, []⟩ i := by
                obtain ⟨_, z1, z2, z3, z4, z5, _⟩ := XX.out
                have z1 : x.cc.put = false := z1
                have z5 := z5 (by first | rfl | trivial)
                unfold endC Ca.cc
                simp_all [Ca.cc]
              have q := rs_end S.out hc (by rw [NB.out]) (e := ⟨2, (c : Int) + 1, op, false, ky, none, 0, 0, 76, 0, 0, []⟩) (x := x) (x2 := ({ x with too := (i : Int), st := 76, tx := 0, ty := 0 } : Ca)) (by rw [ea]; exact XX.out.1) (by simp) rfl (by rw [NB.out]) (by rw [NB.out]) (by rw [NB.out]) hf hcc ⟨(Reads.nil w), by first | exact RV.out.2 | exact Nat.zero_le _⟩ XX.out.2.2.2.2.2.2.2.2 R9.out.1 (by rw [ea]; exact R9.out.2.1) R9.out.2.2.1 R9.out.2.2.2.1 R9.out.2.2.2.2
              rw [ea] at q
              exact q
            clear R9
            go_wp2_with fail
            go_roundw
            case rel => exact ⟨i + 1, p9, c9, _, k, cc, _, _, _, rfl, rfl, by go_num, by omega, NX⟩
            case measure => simp [intOf] <;> omega
          · have F4 : Hid (FB w wq nb kb B D g i ep ec k cc es cs now #[.int .i64 m.client, .bool m.put, .int .i64 m.key, .slice m.va m.vn m.vc, .int .i64 m.fin] #[.bool true, .int .i64 op, .int .i64 (at_ : Int), .bool false, .string ky] #[.int .i64 ((i : Int) + 1), .int .i64 ((c : Int) + 1)] #[.int .i64 2, .int .i64 ((c : Int) + 1), .int .i64 op, .bool false, .string ky, .slice none 0 0, .int .i64 0, .int .i64 0, .int .i64 0]) := Q4.out
            clear Q4
            have t0 := cell_blk F4.out.tb 0 (v := .int .i64 ((i : Int) + 1)) rfl
            have t1 := cell_blk F4.out.tb 1 (v := .int .i64 ((c : Int) + 1)) rfl
            go_upto_region 38 with fail
            have e7 := cell_blk F4.out.eb 7 (v := .int .i64 0) rfl
            have es7 := soft_blk F4.out.eb 7
            have e8 := cell_blk F4.out.eb 8 (v := .int .i64 0) rfl
            have es8 := soft_blk F4.out.eb 8
            obtain ⟨V5, hV5⟩ : ∃ V5, V5 = ((wq.setCell ⟨D, 7, none⟩ (.int .i64 ((i : Int) + 1))).setCell ⟨D, 8, none⟩ (.int .i64 ((c : Int) + 1))) := ⟨_, rfl⟩
            have F5 : Hid (FB w V5 nb kb B D g i ep ec k cc es cs now #[.int .i64 m.client, .bool m.put, .int .i64 m.key, .slice m.va m.vn m.vc, .int .i64 m.fin] #[.bool true, .int .i64 op, .int .i64 (at_ : Int), .bool false, .string ky] #[.int .i64 ((i : Int) + 1), .int .i64 ((c : Int) + 1)] #[.int .i64 2, .int .i64 ((c : Int) + 1), .int .i64 op, .bool false, .string ky, .slice none 0 0, .int .i64 0, .int .i64 ((i : Int) + 1), .int .i64 ((c : Int) + 1)]) := by rw [hV5]; exact ((F4.out.setE 7 _).setE 8 _)
            go_upto_region 39 with fail
            rw [← hV5]
            clear hV5  e7 es7 e8 es8 t0 t1
            have xc7 := F5.out.cr.cell (t := at_) XX.out.1 7 (v := .int .i64 x.too) rfl
            have xa7 := xc7.1
            have xb7 := xc7.2
            clear xc7
            obtain ⟨V6, hV6⟩ : ∃ V6, V6 = (V5.setCell ⟨g, at_ * 11 + 7, none⟩ (.int .i64 (i : Int))) := ⟨_, rfl⟩
            have F6 : Hid (FB w V6 nb kb B D g i ep ec k cc es (cs.set at_ ({ x with too := (i : Int) } : Ca)) now #[.int .i64 m.client, .bool m.put, .int .i64 m.key, .slice m.va m.vn m.vc, .int .i64 m.fin] #[.bool true, .int .i64 op, .int .i64 (at_ : Int), .bool false, .string ky] #[.int .i64 ((i : Int) + 1), .int .i64 ((c : Int) + 1)] #[.int .i64 2, .int .i64 ((c : Int) + 1), .int .i64 op, .bool false, .string ky, .slice none 0 0, .int .i64 0, .int .i64 ((i : Int) + 1), .int .i64 ((c : Int) + 1)]) := by rw [hV6]; exact (F5.out.setX (t := at_) XX.out.1 ({ x with too := (i : Int) } : Ca) 7 _ (by omega) rfl)
            go_upto_region 40 with fail
            rw [← hV6]
            clear hV6  xa7 xb7
            have xc8 := F6.out.cr.cell (t := at_) (set_at XX.out.1) 8 (v := .bool x.opn) rfl
            have xa8 := xc8.1
            have xb8 := xc8.2
            clear xc8
            obtain ⟨V7, hV7⟩ : ∃ V7, V7 = (V6.setCell ⟨g, at_ * 11 + 8, none⟩ (.bool false)) := ⟨_, rfl⟩
            have F7 : Hid (FB w V7 nb kb B D g i ep ec k cc es ((cs.set at_ ({ x with too := (i : Int) } : Ca)).set at_ ({ x with too := (i : Int), opn := false } : Ca)) now #[.int .i64 m.client, .bool m.put, .int .i64 m.key, .slice m.va m.vn m.vc, .int .i64 m.fin] #[.bool true, .int .i64 op, .int .i64 (at_ : Int), .bool false, .string ky] #[.int .i64 ((i : Int) + 1), .int .i64 ((c : Int) + 1)] #[.int .i64 2, .int .i64 ((c : Int) + 1), .int .i64 op, .bool false, .string ky, .slice none 0 0, .int .i64 0, .int .i64 ((i : Int) + 1), .int .i64 ((c : Int) + 1)]) := by rw [hV7]; exact (F6.out.setX (t := at_) (set_at XX.out.1) ({ x with too := (i : Int), opn := false } : Ca) 8 _ (by omega) rfl)
            go_upto_region 41 with fail
            rw [← hV7]
            clear hV7  xa8 xb8
            have p3 := cell_blk F7.out.bb 3 (v := .bool false) rfl
            go_upto_region 42 with fail
            clear p3
            have e5 := cell_blk F7.out.eb 5 (v := .slice none 0 0) rfl
            have es5 := soft_blk F7.out.eb 5
            obtain ⟨V8, hV8⟩ : ∃ V8, V8 = (V7.setCell ⟨D, 5, none⟩ (.slice m.va mn m.vc)) := ⟨_, rfl⟩
            have F8 : Hid (FB w V8 nb kb B D g i ep ec k cc es ((cs.set at_ ({ x with too := (i : Int) } : Ca)).set at_ ({ x with too := (i : Int), opn := false } : Ca)) now #[.int .i64 m.client, .bool m.put, .int .i64 m.key, .slice m.va m.vn m.vc, .int .i64 m.fin] #[.bool true, .int .i64 op, .int .i64 (at_ : Int), .bool false, .string ky] #[.int .i64 ((i : Int) + 1), .int .i64 ((c : Int) + 1)] #[.int .i64 2, .int .i64 ((c : Int) + 1), .int .i64 op, .bool false, .string ky, .slice m.va mn m.vc, .int .i64 0, .int .i64 ((i : Int) + 1), .int .i64 ((c : Int) + 1)]) := by rw [hV8]; exact (F7.out.setE 5 _)
            go_upto_region 43 with fail
            rw [← hV8]
            clear hV8  e5 es5
            have xc4 := F8.out.cr.cell (t := at_) (set_at (set_at XX.out.1)) 4 (v := .slice x.va x.vn x.vc) rfl
            have xa4 := xc4.1
            have xb4 := xc4.2
            clear xc4
            obtain ⟨V9, hV9⟩ : ∃ V9, V9 = (V8.setCell ⟨g, at_ * 11 + 4, none⟩ (.slice m.va mn m.vc)) := ⟨_, rfl⟩
            have F9 : Hid (FB w V9 nb kb B D g i ep ec k cc es (((cs.set at_ ({ x with too := (i : Int) } : Ca)).set at_ ({ x with too := (i : Int), opn := false } : Ca)).set at_ ({ x with too := (i : Int), opn := false, va := m.va, vn := mn, vc := m.vc, val := m.val.take mn } : Ca)) now #[.int .i64 m.client, .bool m.put, .int .i64 m.key, .slice m.va m.vn m.vc, .int .i64 m.fin] #[.bool true, .int .i64 op, .int .i64 (at_ : Int), .bool false, .string ky] #[.int .i64 ((i : Int) + 1), .int .i64 ((c : Int) + 1)] #[.int .i64 2, .int .i64 ((c : Int) + 1), .int .i64 op, .bool false, .string ky, .slice m.va mn m.vc, .int .i64 0, .int .i64 ((i : Int) + 1), .int .i64 ((c : Int) + 1)]) := by rw [hV9]; exact (F8.out.setX (t := at_) (set_at (set_at XX.out.1)) ({ x with too := (i : Int), opn := false, va := m.va, vn := mn, vc := m.vc, val := m.val.take mn } : Ca) 4 _ (by omega) rfl)
            go_upto_region 51 with fail
            rw [← hV9]
            clear hV9  xa4 xb4
            have e7 := cell_blk F9.out.eb 7 (v := .int .i64 ((i : Int) + 1)) rfl
            have e8 := cell_blk F9.out.eb 8 (v := .int .i64 ((c : Int) + 1)) rfl
            have xc9 := F9.out.cr.cell (t := at_) (set_at (set_at (set_at XX.out.1))) 9 (v := .int .i64 x.tx) rfl
            have xa9 := xc9.1
            have xb9 := xc9.2
            clear xc9
            have xc10 := F9.out.cr.cell (t := at_) (set_at (set_at (set_at XX.out.1))) 10 (v := .int .i64 x.ty) rfl
            have xa10 := xc10.1
            have xb10 := xc10.2
            clear xc10
            obtain ⟨V10, hV10⟩ : ∃ V10, V10 = ((V9.setCell ⟨g, at_ * 11 + 9, none⟩ (.int .i64 ((i : Int) + 1))).setCell ⟨g, at_ * 11 + 10, none⟩ (.int .i64 ((c : Int) + 1))) := ⟨_, rfl⟩
            have F10 : Hid (FB w V10 nb kb B D g i ep ec k cc es (((((cs.set at_ ({ x with too := (i : Int) } : Ca)).set at_ ({ x with too := (i : Int), opn := false } : Ca)).set at_ ({ x with too := (i : Int), opn := false, va := m.va, vn := mn, vc := m.vc, val := m.val.take mn } : Ca)).set at_ ({ x with too := (i : Int), opn := false, va := m.va, vn := mn, vc := m.vc, val := m.val.take mn, tx := ((i : Int) + 1) } : Ca)).set at_ ({ x with too := (i : Int), opn := false, va := m.va, vn := mn, vc := m.vc, val := m.val.take mn, tx := ((i : Int) + 1), ty := ((c : Int) + 1) } : Ca)) now #[.int .i64 m.client, .bool m.put, .int .i64 m.key, .slice m.va m.vn m.vc, .int .i64 m.fin] #[.bool true, .int .i64 op, .int .i64 (at_ : Int), .bool false, .string ky] #[.int .i64 ((i : Int) + 1), .int .i64 ((c : Int) + 1)] #[.int .i64 2, .int .i64 ((c : Int) + 1), .int .i64 op, .bool false, .string ky, .slice m.va mn m.vc, .int .i64 0, .int .i64 ((i : Int) + 1), .int .i64 ((c : Int) + 1)]) := by rw [hV10]; exact ((F9.out.setX (t := at_) (set_at (set_at (set_at XX.out.1))) ({ x with too := (i : Int), opn := false, va := m.va, vn := mn, vc := m.vc, val := m.val.take mn, tx := ((i : Int) + 1) } : Ca) 9 _ (by omega) rfl).setX (t := at_) (set_at (set_at (set_at (set_at XX.out.1)))) ({ x with too := (i : Int), opn := false, va := m.va, vn := mn, vc := m.vc, val := m.val.take mn, tx := ((i : Int) + 1), ty := ((c : Int) + 1) } : Ca) 10 _ (by omega) rfl)
            go_upto_region 52 with fail
            rw [← hV10]
            clear hV10  xa9 xb9 xa10 xb10 e7 e8
            have e0 := cell_blk F10.out.eb 0 (v := .int .i64 2) rfl
            have e1 := cell_blk F10.out.eb 1 (v := .int .i64 ((c : Int) + 1)) rfl
            have e2 := cell_blk F10.out.eb 2 (v := .int .i64 op) rfl
            have e3 := cell_blk F10.out.eb 3 (v := .bool false) rfl
            have e4 := cell_blk F10.out.eb 4 (v := .string ky) rfl
            have e5 := cell_blk F10.out.eb 5 (v := .slice m.va mn m.vc) rfl
            have e6 := cell_blk F10.out.eb 6 (v := .int .i64 0) rfl
            have e7 := cell_blk F10.out.eb 7 (v := .int .i64 ((i : Int) + 1)) rfl
            have e8 := cell_blk F10.out.eb 8 (v := .int .i64 ((c : Int) + 1)) rfl
            have KA : Hid (Kept (fun _ => False) V10 (V10.alloc (.cells #[.int .i64 2, .int .i64 ((c : Int) + 1), .int .i64 op, .bool false, .string ky, .slice m.va mn m.vc, .int .i64 0, .int .i64 ((i : Int) + 1), .int .i64 ((c : Int) + 1)] 45))) := (Kept.refl _ _).alloc _
            have Q9 : Hid (FB w (V10.alloc (.cells #[.int .i64 2, .int .i64 ((c : Int) + 1), .int .i64 op, .bool false, .string ky, .slice m.va mn m.vc, .int .i64 0, .int .i64 ((i : Int) + 1), .int .i64 ((c : Int) + 1)] 45)) nb kb B D g i ep ec k cc es (((((cs.set at_ ({ x with too := (i : Int) } : Ca)).set at_ ({ x with too := (i : Int), opn := false } : Ca)).set at_ ({ x with too := (i : Int), opn := false, va := m.va, vn := mn, vc := m.vc, val := m.val.take mn } : Ca)).set at_ ({ x with too := (i : Int), opn := false, va := m.va, vn := mn, vc := m.vc, val := m.val.take mn, tx := ((i : Int) + 1) } : Ca)).set at_ ({ x with too := (i : Int), opn := false, va := m.va, vn := mn, vc := m.vc, val := m.val.take mn, tx := ((i : Int) + 1), ty := ((c : Int) + 1) } : Ca)) now #[.int .i64 m.client, .bool m.put, .int .i64 m.key, .slice m.va m.vn m.vc, .int .i64 m.fin] #[.bool true, .int .i64 op, .int .i64 (at_ : Int), .bool false, .string ky] #[.int .i64 ((i : Int) + 1), .int .i64 ((c : Int) + 1)] #[.int .i64 2, .int .i64 ((c : Int) + 1), .int .i64 op, .bool false, .string ky, .slice m.va mn m.vc, .int .i64 0, .int .i64 ((i : Int) + 1), .int .i64 ((c : Int) + 1)]) := F10.out.keep KA.out
            have SR : Hid (Src Tryd.prog 9 22 (.slice (some ⟨V10.heap.size, 0, none⟩) 1 1) 1 (ecs [⟨2, (c : Int) + 1, op, false, ky, m.va, mn, m.vc, 0, ((i : Int) + 1), ((c : Int) + 1), m.val.take mn⟩]) (V10.alloc (.cells #[.int .i64 2, .int .i64 ((c : Int) + 1), .int .i64 op, .bool false, .string ky, .slice m.va mn m.vc, .int .i64 0, .int .i64 ((i : Int) + 1), .int .i64 ((c : Int) + 1)] 45))) := src_ev (alloc_new _ _)
            have LN : Hid (i + 1 ≤ maxLen ∧ ((i + 1) + (i + 1) / 4 + 192) * 96 ≤ 281474976710656) := by have := H.out.2; unfold maxLen; exact ⟨by omega, by omega⟩
            go_upto_region 53 with
              (first
                | (at_builtin; refine wpList_append_all _ rfl (.tmp 190) (.tmp 192) 22 45 22 _ 9 96 rfl Tryd.underlying22 Tryd.info45c rfl w.heap.size (.slice ep i ec) i (ecs es) rfl Q9.out.er.row _ 1 (ecs [⟨2, (c : Int) + 1, op, false, ky, m.va, mn, m.vc, 0, ((i : Int) + 1), ((c : Int) + 1), m.val.take mn⟩]) rfl SR.out LN.out.1 LN.out.2 Q9.out.kept.size ?_; intro p9 c9 w9 ho hg hn9)
                | fail)
            have R9 : Hid (EaR w.heap.size w9 p9 (i + 1) c9 (es ++ [⟨2, (c : Int) + 1, op, false, ky, m.va, mn, m.vc, 0, ((i : Int) + 1), ((c : Int) + 1), m.val.take mn⟩]) ∧ CRo w.heap.size w9 (some ⟨g, 0, none⟩) k cc (cs.set at_ ({ x with too := (i : Int), opn := false, va := m.va, vn := mn, vc := m.vc, val := m.val.take mn, tx := ((i : Int) + 1), ty := ((c : Int) + 1) } : Ca)) ∧ w9.heap[nb]? = some (.cells (nowC now) 65 (0, 0)) ∧ w9.heap[kb]? = some (.cells #[.string ⟨#[107]⟩, .string ⟨#[108]⟩, .string ⟨#[0, 34]⟩] 66 (0, 0)) ∧ Kept (fun _ => False) w w9) := by have q := Q9.out.grow (e := ⟨2, (c : Int) + 1, op, false, ky, m.va, mn, m.vc, 0, ((i : Int) + 1), ((c : Int) + 1), m.val.take mn⟩) ho.out hg.out; simp only [List.set_set] at q; exact q
            clear ho hg hn9 SR LN KA Q9 F10 e0 e1 e2 e3 e4 e5 e6 e7 e8
            have ng := nowC_get now hc
            have n0 := cell_blk R9.out.2.2.1 (c * 5) ng.1
            have m0 := soft_blk R9.out.2.2.1 (c * 5)
            clear ng
            have NX : Hid (RS w (w9.setCell ⟨nb, c * 5, none⟩ (.bool false)) nb kb (i + 1) p9 c9 (some ⟨g, 0, none⟩) k cc (es ++ [⟨2, (c : Int) + 1, op, false, ky, m.va, mn, m.vc, 0, ((i : Int) + 1), ((c : Int) + 1), m.val.take mn⟩]) (cs.set at_ ({ x with too := (i : Int), opn := false, va := m.va, vn := mn, vc := m.vc, val := m.val.take mn, tx := ((i : Int) + 1), ty := ((c : Int) + 1) } : Ca)) (setB now c { now c with on := false })) := by
              have ea : (now c).at_ = at_ := by rw [NB.out]
              have hf : faultE ⟨2, (c : Int) + 1, op, false, ky, m.va, mn, m.vc, 0, ((i : Int) + 1), ((c : Int) + 1), m.val.take mn⟩ = 0 := fault_ok (.inr (.inl rfl)) ⟨by show 1 ≤ (c : Int) + 1; omega, by show (c : Int) + 1 ≤ 65535; omega⟩ XX.out.2.2.2.2.2.2.2.1 (value_ok (.inr rfl) (Nat.le_trans RV.out.2 (by decide))) (tag_ok (.inr <| .inl rfl) ⟨by show 1 ≤ (i : Int) + 1; omega, by show (i : Int) + 1 ≤ 4611686018427387903; omega⟩ ⟨by show 1 ≤ (c : Int) + 1; omega, by show (c : Int) + 1 ≤ 65535; omega⟩) XX.out.2.2.2.2.2.2.1 rfl
              have hcc : ({ x with too := (i : Int), opn := false, va := m.va, vn := mn, vc := m.vc, val := m.val.take mn, tx := ((i : Int) + 1), ty := ((c : Int) + 1) } : Ca).cc = endC x.cc ⟨2, (c : Int) + 1, op, false, ky, m.va, mn, m.vc, 0, ((i : Int) + 1), ((c : Int) + 1), m.val.take mn⟩ i := by
                obtain ⟨_, z1, z2, z3, z4, z5, _⟩ := XX.out
                have z1 : x.cc.put = false := z1
                have z5 := z5 (by first | rfl | trivial)
                unfold endC Ca.cc
                simp_all [Ca.cc]
              have q := rs_end S.out hc (by rw [NB.out]) (e := ⟨2, (c : Int) + 1, op, false, ky, m.va, mn, m.vc, 0, ((i : Int) + 1), ((c : Int) + 1), m.val.take mn⟩) (x := x) (x2 := ({ x with too := (i : Int), opn := false, va := m.va, vn := mn, vc := m.vc, val := m.val.take mn, tx := ((i : Int) + 1), ty := ((c : Int) + 1) } : Ca)) (by rw [ea]; exact XX.out.1) (by simp) rfl (by rw [NB.out]) (by rw [NB.out]) (by rw [NB.out]) hf hcc ⟨RV.out.1, by first | exact RV.out.2 | exact Nat.zero_le _⟩ RV.out.1 R9.out.1 (by rw [ea]; exact R9.out.2.1) R9.out.2.2.1 R9.out.2.2.2.1 R9.out.2.2.2.2
              rw [ea] at q
              exact q
            clear R9
            go_wp2_with fail
            go_roundw
            case rel => exact ⟨i + 1, p9, c9, _, k, cc, _, _, _, rfl, rfl, by go_num, by omega, NX⟩
            case measure => simp [intOf] <;> omega
          · have F4 : Hid (FB w wq nb kb B D g i ep ec k cc es cs now #[.int .i64 m.client, .bool m.put, .int .i64 m.key, .slice m.va m.vn m.vc, .int .i64 m.fin] #[.bool true, .int .i64 op, .int .i64 (at_ : Int), .bool false, .string ky] #[.int .i64 ((i : Int) + 1), .int .i64 ((c : Int) + 1)] #[.int .i64 2, .int .i64 ((c : Int) + 1), .int .i64 op, .bool false, .string ky, .slice none 0 0, .int .i64 0, .int .i64 0, .int .i64 0]) := Q4.out
            clear Q4
            have t0 := cell_blk F4.out.tb 0 (v := .int .i64 ((i : Int) + 1)) rfl
            have t1 := cell_blk F4.out.tb 1 (v := .int .i64 ((c : Int) + 1)) rfl
            go_upto_region 45 with fail
            have e7 := cell_blk F4.out.eb 7 (v := .int .i64 0) rfl
            have es7 := soft_blk F4.out.eb 7
            have e8 := cell_blk F4.out.eb 8 (v := .int .i64 0) rfl
            have es8 := soft_blk F4.out.eb 8
            obtain ⟨V5, hV5⟩ : ∃ V5, V5 = ((wq.setCell ⟨D, 7, none⟩ (.int .i64 ((i : Int) + 1))).setCell ⟨D, 8, none⟩ (.int .i64 ((c : Int) + 1))) := ⟨_, rfl⟩
            have F5 : Hid (FB w V5 nb kb B D g i ep ec k cc es cs now #[.int .i64 m.client, .bool m.put, .int .i64 m.key, .slice m.va m.vn m.vc, .int .i64 m.fin] #[.bool true, .int .i64 op, .int .i64 (at_ : Int), .bool false, .string ky] #[.int .i64 ((i : Int) + 1), .int .i64 ((c : Int) + 1)] #[.int .i64 2, .int .i64 ((c : Int) + 1), .int .i64 op, .bool false, .string ky, .slice none 0 0, .int .i64 0, .int .i64 ((i : Int) + 1), .int .i64 ((c : Int) + 1)]) := by rw [hV5]; exact ((F4.out.setE 7 _).setE 8 _)
            go_upto_region 46 with fail
            rw [← hV5]
            clear hV5  e7 es7 e8 es8 t0 t1
            have xc7 := F5.out.cr.cell (t := at_) XX.out.1 7 (v := .int .i64 x.too) rfl
            have xa7 := xc7.1
            have xb7 := xc7.2
            clear xc7
            obtain ⟨V6, hV6⟩ : ∃ V6, V6 = (V5.setCell ⟨g, at_ * 11 + 7, none⟩ (.int .i64 (i : Int))) := ⟨_, rfl⟩
            have F6 : Hid (FB w V6 nb kb B D g i ep ec k cc es (cs.set at_ ({ x with too := (i : Int) } : Ca)) now #[.int .i64 m.client, .bool m.put, .int .i64 m.key, .slice m.va m.vn m.vc, .int .i64 m.fin] #[.bool true, .int .i64 op, .int .i64 (at_ : Int), .bool false, .string ky] #[.int .i64 ((i : Int) + 1), .int .i64 ((c : Int) + 1)] #[.int .i64 2, .int .i64 ((c : Int) + 1), .int .i64 op, .bool false, .string ky, .slice none 0 0, .int .i64 0, .int .i64 ((i : Int) + 1), .int .i64 ((c : Int) + 1)]) := by rw [hV6]; exact (F5.out.setX (t := at_) XX.out.1 ({ x with too := (i : Int) } : Ca) 7 _ (by omega) rfl)
            go_upto_region 47 with fail
            rw [← hV6]
            clear hV6  xa7 xb7
            have xc8 := F6.out.cr.cell (t := at_) (set_at XX.out.1) 8 (v := .bool x.opn) rfl
            have xa8 := xc8.1
            have xb8 := xc8.2
            clear xc8
            obtain ⟨V7, hV7⟩ : ∃ V7, V7 = (V6.setCell ⟨g, at_ * 11 + 8, none⟩ (.bool false)) := ⟨_, rfl⟩
            have F7 : Hid (FB w V7 nb kb B D g i ep ec k cc es ((cs.set at_ ({ x with too := (i : Int) } : Ca)).set at_ ({ x with too := (i : Int), opn := false } : Ca)) now #[.int .i64 m.client, .bool m.put, .int .i64 m.key, .slice m.va m.vn m.vc, .int .i64 m.fin] #[.bool true, .int .i64 op, .int .i64 (at_ : Int), .bool false, .string ky] #[.int .i64 ((i : Int) + 1), .int .i64 ((c : Int) + 1)] #[.int .i64 2, .int .i64 ((c : Int) + 1), .int .i64 op, .bool false, .string ky, .slice none 0 0, .int .i64 0, .int .i64 ((i : Int) + 1), .int .i64 ((c : Int) + 1)]) := by rw [hV7]; exact (F6.out.setX (t := at_) (set_at XX.out.1) ({ x with too := (i : Int), opn := false } : Ca) 8 _ (by omega) rfl)
            go_upto_region 48 with fail
            rw [← hV7]
            clear hV7  xa8 xb8
            have p3 := cell_blk F7.out.bb 3 (v := .bool false) rfl
            go_upto_region 49 with fail
            clear p3
            have e6 := cell_blk F7.out.eb 6 (v := .int .i64 0) rfl
            have es6 := soft_blk F7.out.eb 6
            obtain ⟨V8, hV8⟩ : ∃ V8, V8 = (V7.setCell ⟨D, 6, none⟩ (.int .i64 24)) := ⟨_, rfl⟩
            have F8 : Hid (FB w V8 nb kb B D g i ep ec k cc es ((cs.set at_ ({ x with too := (i : Int) } : Ca)).set at_ ({ x with too := (i : Int), opn := false } : Ca)) now #[.int .i64 m.client, .bool m.put, .int .i64 m.key, .slice m.va m.vn m.vc, .int .i64 m.fin] #[.bool true, .int .i64 op, .int .i64 (at_ : Int), .bool false, .string ky] #[.int .i64 ((i : Int) + 1), .int .i64 ((c : Int) + 1)] #[.int .i64 2, .int .i64 ((c : Int) + 1), .int .i64 op, .bool false, .string ky, .slice none 0 0, .int .i64 24, .int .i64 ((i : Int) + 1), .int .i64 ((c : Int) + 1)]) := by rw [hV8]; exact (F7.out.setE 6 _)
            go_upto_region 50 with fail
            rw [← hV8]
            clear hV8  e6 es6
            have xc5 := F8.out.cr.cell (t := at_) (set_at (set_at XX.out.1)) 5 (v := .int .i64 x.st) rfl
            have xa5 := xc5.1
            have xb5 := xc5.2
            clear xc5
            obtain ⟨V9, hV9⟩ : ∃ V9, V9 = (V8.setCell ⟨g, at_ * 11 + 5, none⟩ (.int .i64 24)) := ⟨_, rfl⟩
            have F9 : Hid (FB w V9 nb kb B D g i ep ec k cc es (((cs.set at_ ({ x with too := (i : Int) } : Ca)).set at_ ({ x with too := (i : Int), opn := false } : Ca)).set at_ ({ x with too := (i : Int), opn := false, st := 24 } : Ca)) now #[.int .i64 m.client, .bool m.put, .int .i64 m.key, .slice m.va m.vn m.vc, .int .i64 m.fin] #[.bool true, .int .i64 op, .int .i64 (at_ : Int), .bool false, .string ky] #[.int .i64 ((i : Int) + 1), .int .i64 ((c : Int) + 1)] #[.int .i64 2, .int .i64 ((c : Int) + 1), .int .i64 op, .bool false, .string ky, .slice none 0 0, .int .i64 24, .int .i64 ((i : Int) + 1), .int .i64 ((c : Int) + 1)]) := by rw [hV9]; exact (F8.out.setX (t := at_) (set_at (set_at XX.out.1)) ({ x with too := (i : Int), opn := false, st := 24 } : Ca) 5 _ (by omega) rfl)
            go_upto_region 51 with fail
            rw [← hV9]
            clear hV9  xa5 xb5
            have e7 := cell_blk F9.out.eb 7 (v := .int .i64 ((i : Int) + 1)) rfl
            have e8 := cell_blk F9.out.eb 8 (v := .int .i64 ((c : Int) + 1)) rfl
            have xc9 := F9.out.cr.cell (t := at_) (set_at (set_at (set_at XX.out.1))) 9 (v := .int .i64 x.tx) rfl
            have xa9 := xc9.1
            have xb9 := xc9.2
            clear xc9
            have xc10 := F9.out.cr.cell (t := at_) (set_at (set_at (set_at XX.out.1))) 10 (v := .int .i64 x.ty) rfl
            have xa10 := xc10.1
            have xb10 := xc10.2
            clear xc10
            obtain ⟨V10, hV10⟩ : ∃ V10, V10 = ((V9.setCell ⟨g, at_ * 11 + 9, none⟩ (.int .i64 ((i : Int) + 1))).setCell ⟨g, at_ * 11 + 10, none⟩ (.int .i64 ((c : Int) + 1))) := ⟨_, rfl⟩
            have F10 : Hid (FB w V10 nb kb B D g i ep ec k cc es (((((cs.set at_ ({ x with too := (i : Int) } : Ca)).set at_ ({ x with too := (i : Int), opn := false } : Ca)).set at_ ({ x with too := (i : Int), opn := false, st := 24 } : Ca)).set at_ ({ x with too := (i : Int), opn := false, st := 24, tx := ((i : Int) + 1) } : Ca)).set at_ ({ x with too := (i : Int), opn := false, st := 24, tx := ((i : Int) + 1), ty := ((c : Int) + 1) } : Ca)) now #[.int .i64 m.client, .bool m.put, .int .i64 m.key, .slice m.va m.vn m.vc, .int .i64 m.fin] #[.bool true, .int .i64 op, .int .i64 (at_ : Int), .bool false, .string ky] #[.int .i64 ((i : Int) + 1), .int .i64 ((c : Int) + 1)] #[.int .i64 2, .int .i64 ((c : Int) + 1), .int .i64 op, .bool false, .string ky, .slice none 0 0, .int .i64 24, .int .i64 ((i : Int) + 1), .int .i64 ((c : Int) + 1)]) := by rw [hV10]; exact ((F9.out.setX (t := at_) (set_at (set_at (set_at XX.out.1))) ({ x with too := (i : Int), opn := false, st := 24, tx := ((i : Int) + 1) } : Ca) 9 _ (by omega) rfl).setX (t := at_) (set_at (set_at (set_at (set_at XX.out.1)))) ({ x with too := (i : Int), opn := false, st := 24, tx := ((i : Int) + 1), ty := ((c : Int) + 1) } : Ca) 10 _ (by omega) rfl)
            go_upto_region 52 with fail
            rw [← hV10]
            clear hV10  xa9 xb9 xa10 xb10 e7 e8
            have e0 := cell_blk F10.out.eb 0 (v := .int .i64 2) rfl
            have e1 := cell_blk F10.out.eb 1 (v := .int .i64 ((c : Int) + 1)) rfl
            have e2 := cell_blk F10.out.eb 2 (v := .int .i64 op) rfl
            have e3 := cell_blk F10.out.eb 3 (v := .bool false) rfl
            have e4 := cell_blk F10.out.eb 4 (v := .string ky) rfl
            have e5 := cell_blk F10.out.eb 5 (v := .slice none 0 0) rfl
            have e6 := cell_blk F10.out.eb 6 (v := .int .i64 24) rfl
            have e7 := cell_blk F10.out.eb 7 (v := .int .i64 ((i : Int) + 1)) rfl
            have e8 := cell_blk F10.out.eb 8 (v := .int .i64 ((c : Int) + 1)) rfl
            have KA : Hid (Kept (fun _ => False) V10 (V10.alloc (.cells #[.int .i64 2, .int .i64 ((c : Int) + 1), .int .i64 op, .bool false, .string ky, .slice none 0 0, .int .i64 24, .int .i64 ((i : Int) + 1), .int .i64 ((c : Int) + 1)] 45))) := (Kept.refl _ _).alloc _
            have Q9 : Hid (FB w (V10.alloc (.cells #[.int .i64 2, .int .i64 ((c : Int) + 1), .int .i64 op, .bool false, .string ky, .slice none 0 0, .int .i64 24, .int .i64 ((i : Int) + 1), .int .i64 ((c : Int) + 1)] 45)) nb kb B D g i ep ec k cc es (((((cs.set at_ ({ x with too := (i : Int) } : Ca)).set at_ ({ x with too := (i : Int), opn := false } : Ca)).set at_ ({ x with too := (i : Int), opn := false, st := 24 } : Ca)).set at_ ({ x with too := (i : Int), opn := false, st := 24, tx := ((i : Int) + 1) } : Ca)).set at_ ({ x with too := (i : Int), opn := false, st := 24, tx := ((i : Int) + 1), ty := ((c : Int) + 1) } : Ca)) now #[.int .i64 m.client, .bool m.put, .int .i64 m.key, .slice m.va m.vn m.vc, .int .i64 m.fin] #[.bool true, .int .i64 op, .int .i64 (at_ : Int), .bool false, .string ky] #[.int .i64 ((i : Int) + 1), .int .i64 ((c : Int) + 1)] #[.int .i64 2, .int .i64 ((c : Int) + 1), .int .i64 op, .bool false, .string ky, .slice none 0 0, .int .i64 24, .int .i64 ((i : Int) + 1), .int .i64 ((c : Int) + 1)]) := F10.out.keep KA.out
            have SR : Hid (Src Tryd.prog 9 22 (.slice (some ⟨V10.heap.size, 0, none⟩) 1 1) 1 (ecs [⟨2, (c : Int) + 1, op, false, ky, none, 0, 0, 24, ((i : Int) + 1), ((c : Int) + 1), []⟩]) (V10.alloc (.cells #[.int .i64 2, .int .i64 ((c : Int) + 1), .int .i64 op, .bool false, .string ky, .slice none 0 0, .int .i64 24, .int .i64 ((i : Int) + 1), .int .i64 ((c : Int) + 1)] 45))) := src_ev (alloc_new _ _)
            have LN : Hid (i + 1 ≤ maxLen ∧ ((i + 1) + (i + 1) / 4 + 192) * 96 ≤ 281474976710656) := by have := H.out.2; unfold maxLen; exact ⟨by omega, by omega⟩
            go_upto_region 53 with
              (first
                | (at_builtin; refine wpList_append_all _ rfl (.tmp 190) (.tmp 192) 22 45 22 _ 9 96 rfl Tryd.underlying22 Tryd.info45c rfl w.heap.size (.slice ep i ec) i (ecs es) rfl Q9.out.er.row _ 1 (ecs [⟨2, (c : Int) + 1, op, false, ky, none, 0, 0, 24, ((i : Int) + 1), ((c : Int) + 1), []⟩]) rfl SR.out LN.out.1 LN.out.2 Q9.out.kept.size ?_; intro p9 c9 w9 ho hg hn9)
                | fail)
            have R9 : Hid (EaR w.heap.size w9 p9 (i + 1) c9 (es ++ [⟨2, (c : Int) + 1, op, false, ky, none, 0, 0, 24, ((i : Int) + 1), ((c : Int) + 1), []⟩]) ∧ CRo w.heap.size w9 (some ⟨g, 0, none⟩) k cc (cs.set at_ ({ x with too := (i : Int), opn := false, st := 24, tx := ((i : Int) + 1), ty := ((c : Int) + 1) } : Ca)) ∧ w9.heap[nb]? = some (.cells (nowC now) 65 (0, 0)) ∧ w9.heap[kb]? = some (.cells #[.string ⟨#[107]⟩, .string ⟨#[108]⟩, .string ⟨#[0, 34]⟩] 66 (0, 0)) ∧ Kept (fun _ => False) w w9) := by have q := Q9.out.grow (e := ⟨2, (c : Int) + 1, op, false, ky, none, 0, 0, 24, ((i : Int) + 1), ((c : Int) + 1), []⟩) ho.out hg.out; simp only [List.set_set] at q; exact q
            clear ho hg hn9 SR LN KA Q9 F10 e0 e1 e2 e3 e4 e5 e6 e7 e8
            have ng := nowC_get now hc
            have n0 := cell_blk R9.out.2.2.1 (c * 5) ng.1
            have m0 := soft_blk R9.out.2.2.1 (c * 5)
            clear ng
            have NX : Hid (RS w (w9.setCell ⟨nb, c * 5, none⟩ (.bool false)) nb kb (i + 1) p9 c9 (some ⟨g, 0, none⟩) k cc (es ++ [⟨2, (c : Int) + 1, op, false, ky, none, 0, 0, 24, ((i : Int) + 1), ((c : Int) + 1), []⟩]) (cs.set at_ ({ x with too := (i : Int), opn := false, st := 24, tx := ((i : Int) + 1), ty := ((c : Int) + 1) } : Ca)) (setB now c { now c with on := false })) := by
              have ea : (now c).at_ = at_ := by rw [NB.out]
              have hf : faultE ⟨2, (c : Int) + 1, op, false, ky, none, 0, 0, 24, ((i : Int) + 1), ((c : Int) + 1), []⟩ = 0 := fault_ok (.inr (.inl rfl)) ⟨by show 1 ≤ (c : Int) + 1; omega, by show (c : Int) + 1 ≤ 65535; omega⟩ XX.out.2.2.2.2.2.2.2.1 (value_nil 4 rfl (by decide) rfl) (tag_ok (.inr <| .inr rfl) ⟨by show 1 ≤ (i : Int) + 1; omega, by show (i : Int) + 1 ≤ 4611686018427387903; omega⟩ ⟨by show 1 ≤ (c : Int) + 1; omega, by show (c : Int) + 1 ≤ 65535; omega⟩) XX.out.2.2.2.2.2.2.1 rfl
              have hcc : ({ x with too := (i : Int), opn := false, st := 24, tx := ((i : Int) + 1), ty := ((c : Int) + 1) } : Ca).cc = endC x.cc ⟨2, (c : Int) + 1, op, false, ky, none, 0, 0, 24, ((i : Int) + 1), ((c : Int) + 1), []⟩ i := by
                obtain ⟨_, z1, z2, z3, z4, z5, _⟩ := XX.out
                have z1 : x.cc.put = false := z1
                have z5 := z5 (by first | rfl | trivial)
                unfold endC Ca.cc
                simp_all [Ca.cc]
              have q := rs_end S.out hc (by rw [NB.out]) (e := ⟨2, (c : Int) + 1, op, false, ky, none, 0, 0, 24, ((i : Int) + 1), ((c : Int) + 1), []⟩) (x := x) (x2 := ({ x with too := (i : Int), opn := false, st := 24, tx := ((i : Int) + 1), ty := ((c : Int) + 1) } : Ca)) (by rw [ea]; exact XX.out.1) (by simp) rfl (by rw [NB.out]) (by rw [NB.out]) (by rw [NB.out]) hf hcc ⟨(Reads.nil w), by first | exact RV.out.2 | exact Nat.zero_le _⟩ XX.out.2.2.2.2.2.2.2.2 R9.out.1 (by rw [ea]; exact R9.out.2.1) R9.out.2.2.1 R9.out.2.2.2.1 R9.out.2.2.2.2
              rw [ea] at q
              exact q
            clear R9
            go_wp2_with fail
            go_roundw
            case rel => exact ⟨i + 1, p9, c9, _, k, cc, _, _, _, rfl, rfl, by go_num, by omega, NX⟩
            case measure => simp [intOf] <;> omega
        case true =>
          obtain rfl | rfl | rfl | rfl := r4
          · have F4 : Hid (FB w wq nb kb B D g i ep ec k cc es cs now #[.int .i64 m.client, .bool m.put, .int .i64 m.key, .slice m.va m.vn m.vc, .int .i64 m.fin] #[.bool true, .int .i64 op, .int .i64 (at_ : Int), .bool true, .string ky] #[.int .i64 ((i : Int) + 1), .int .i64 ((c : Int) + 1)] #[.int .i64 2, .int .i64 ((c : Int) + 1), .int .i64 op, .bool true, .string ky, .slice none 0 0, .int .i64 0, .int .i64 0, .int .i64 0]) := Q4.out
            clear Q4
            go_upto_region 27 with fail
            have e0 := cell_blk F4.out.eb 0 (v := .int .i64 2) rfl
            have es0 := soft_blk F4.out.eb 0
            obtain ⟨V5, hV5⟩ : ∃ V5, V5 = (wq.setCell ⟨D, 0, none⟩ (.int .i64 3)) := ⟨_, rfl⟩
            have F5 : Hid (FB w V5 nb kb B D g i ep ec k cc es cs now #[.int .i64 m.client, .bool m.put, .int .i64 m.key, .slice m.va m.vn m.vc, .int .i64 m.fin] #[.bool true, .int .i64 op, .int .i64 (at_ : Int), .bool true, .string ky] #[.int .i64 ((i : Int) + 1), .int .i64 ((c : Int) + 1)] #[.int .i64 3, .int .i64 ((c : Int) + 1), .int .i64 op, .bool true, .string ky, .slice none 0 0, .int .i64 0, .int .i64 0, .int .i64 0]) := by rw [hV5]; exact (F4.out.setE 0 _)
            go_upto_region 28 with fail
            rw [← hV5]
            clear hV5  e0 es0
            have xc5 := F5.out.cr.cell (t := at_) XX.out.1 5 (v := .int .i64 x.st) rfl
            have xa5 := xc5.1
            have xb5 := xc5.2
            clear xc5
            obtain ⟨V6, hV6⟩ : ∃ V6, V6 = (V5.setCell ⟨g, at_ * 11 + 5, none⟩ (.int .i64 77)) := ⟨_, rfl⟩
            have F6 : Hid (FB w V6 nb kb B D g i ep ec k cc es (cs.set at_ ({ x with st := 77 } : Ca)) now #[.int .i64 m.client, .bool m.put, .int .i64 m.key, .slice m.va m.vn m.vc, .int .i64 m.fin] #[.bool true, .int .i64 op, .int .i64 (at_ : Int), .bool true, .string ky] #[.int .i64 ((i : Int) + 1), .int .i64 ((c : Int) + 1)] #[.int .i64 3, .int .i64 ((c : Int) + 1), .int .i64 op, .bool true, .string ky, .slice none 0 0, .int .i64 0, .int .i64 0, .int .i64 0]) := by rw [hV6]; exact (F5.out.setX (t := at_) XX.out.1 ({ x with st := 77 } : Ca) 5 _ (by omega) rfl)
            go_upto_region 29 with fail
            rw [← hV6]
            clear hV6  xa5 xb5
            have p3 := cell_blk F6.out.bb 3 (v := .bool true) rfl
            have t0 := cell_blk F6.out.tb 0 (v := .int .i64 ((i : Int) + 1)) rfl
            have t1 := cell_blk F6.out.tb 1 (v := .int .i64 ((c : Int) + 1)) rfl
            go_upto_region 30 with fail
            have e7 := cell_blk F6.out.eb 7 (v := .int .i64 0) rfl
            have es7 := soft_blk F6.out.eb 7
            have e8 := cell_blk F6.out.eb 8 (v := .int .i64 0) rfl
            have es8 := soft_blk F6.out.eb 8
            obtain ⟨V7, hV7⟩ : ∃ V7, V7 = ((V6.setCell ⟨D, 7, none⟩ (.int .i64 ((i : Int) + 1))).setCell ⟨D, 8, none⟩ (.int .i64 ((c : Int) + 1))) := ⟨_, rfl⟩
            have F7 : Hid (FB w V7 nb kb B D g i ep ec k cc es (cs.set at_ ({ x with st := 77 } : Ca)) now #[.int .i64 m.client, .bool m.put, .int .i64 m.key, .slice m.va m.vn m.vc, .int .i64 m.fin] #[.bool true, .int .i64 op, .int .i64 (at_ : Int), .bool true, .string ky] #[.int .i64 ((i : Int) + 1), .int .i64 ((c : Int) + 1)] #[.int .i64 3, .int .i64 ((c : Int) + 1), .int .i64 op, .bool true, .string ky, .slice none 0 0, .int .i64 0, .int .i64 ((i : Int) + 1), .int .i64 ((c : Int) + 1)]) := by rw [hV7]; exact ((F6.out.setE 7 _).setE 8 _)
            go_upto_region 51 with fail
            rw [← hV7]
            clear hV7  e7 es7 e8 es8 t0 t1 p3
            have e7 := cell_blk F7.out.eb 7 (v := .int .i64 ((i : Int) + 1)) rfl
            have e8 := cell_blk F7.out.eb 8 (v := .int .i64 ((c : Int) + 1)) rfl
            have xc9 := F7.out.cr.cell (t := at_) (set_at XX.out.1) 9 (v := .int .i64 x.tx) rfl
            have xa9 := xc9.1
            have xb9 := xc9.2
            clear xc9
            have xc10 := F7.out.cr.cell (t := at_) (set_at XX.out.1) 10 (v := .int .i64 x.ty) rfl
            have xa10 := xc10.1
            have xb10 := xc10.2
            clear xc10
            obtain ⟨V8, hV8⟩ : ∃ V8, V8 = ((V7.setCell ⟨g, at_ * 11 + 9, none⟩ (.int .i64 ((i : Int) + 1))).setCell ⟨g, at_ * 11 + 10, none⟩ (.int .i64 ((c : Int) + 1))) := ⟨_, rfl⟩
            have F8 : Hid (FB w V8 nb kb B D g i ep ec k cc es (((cs.set at_ ({ x with st := 77 } : Ca)).set at_ ({ x with st := 77, tx := ((i : Int) + 1) } : Ca)).set at_ ({ x with st := 77, tx := ((i : Int) + 1), ty := ((c : Int) + 1) } : Ca)) now #[.int .i64 m.client, .bool m.put, .int .i64 m.key, .slice m.va m.vn m.vc, .int .i64 m.fin] #[.bool true, .int .i64 op, .int .i64 (at_ : Int), .bool true, .string ky] #[.int .i64 ((i : Int) + 1), .int .i64 ((c : Int) + 1)] #[.int .i64 3, .int .i64 ((c : Int) + 1), .int .i64 op, .bool true, .string ky, .slice none 0 0, .int .i64 0, .int .i64 ((i : Int) + 1), .int .i64 ((c : Int) + 1)]) := by rw [hV8]; exact ((F7.out.setX (t := at_) (set_at XX.out.1) ({ x with st := 77, tx := ((i : Int) + 1) } : Ca) 9 _ (by omega) rfl).setX (t := at_) (set_at (set_at XX.out.1)) ({ x with st := 77, tx := ((i : Int) + 1), ty := ((c : Int) + 1) } : Ca) 10 _ (by omega) rfl)
            go_upto_region 52 with fail
            rw [← hV8]
            clear hV8  xa9 xb9 xa10 xb10 e7 e8
            have e0 := cell_blk F8.out.eb 0 (v := .int .i64 3) rfl
            have e1 := cell_blk F8.out.eb 1 (v := .int .i64 ((c : Int) + 1)) rfl
            have e2 := cell_blk F8.out.eb 2 (v := .int .i64 op) rfl
            have e3 := cell_blk F8.out.eb 3 (v := .bool true) rfl
            have e4 := cell_blk F8.out.eb 4 (v := .string ky) rfl
            have e5 := cell_blk F8.out.eb 5 (v := .slice none 0 0) rfl
            have e6 := cell_blk F8.out.eb 6 (v := .int .i64 0) rfl
            have e7 := cell_blk F8.out.eb 7 (v := .int .i64 ((i : Int) + 1)) rfl
            have e8 := cell_blk F8.out.eb 8 (v := .int .i64 ((c : Int) + 1)) rfl
            have KA : Hid (Kept (fun _ => False) V8 (V8.alloc (.cells #[.int .i64 3, .int .i64 ((c : Int) + 1), .int .i64 op, .bool true, .string ky, .slice none 0 0, .int .i64 0, .int .i64 ((i : Int) + 1), .int .i64 ((c : Int) + 1)] 45))) := (Kept.refl _ _).alloc _
            have Q9 : Hid (FB w (V8.alloc (.cells #[.int .i64 3, .int .i64 ((c : Int) + 1), .int .i64 op, .bool true, .string ky, .slice none 0 0, .int .i64 0, .int .i64 ((i : Int) + 1), .int .i64 ((c : Int) + 1)] 45)) nb kb B D g i ep ec k cc es (((cs.set at_ ({ x with st := 77 } : Ca)).set at_ ({ x with st := 77, tx := ((i : Int) + 1) } : Ca)).set at_ ({ x with st := 77, tx := ((i : Int) + 1), ty := ((c : Int) + 1) } : Ca)) now #[.int .i64 m.client, .bool m.put, .int .i64 m.key, .slice m.va m.vn m.vc, .int .i64 m.fin] #[.bool true, .int .i64 op, .int .i64 (at_ : Int), .bool true, .string ky] #[.int .i64 ((i : Int) + 1), .int .i64 ((c : Int) + 1)] #[.int .i64 3, .int .i64 ((c : Int) + 1), .int .i64 op, .bool true, .string ky, .slice none 0 0, .int .i64 0, .int .i64 ((i : Int) + 1), .int .i64 ((c : Int) + 1)]) := F8.out.keep KA.out
            have SR : Hid (Src Tryd.prog 9 22 (.slice (some ⟨V8.heap.size, 0, none⟩) 1 1) 1 (ecs [⟨3, (c : Int) + 1, op, true, ky, none, 0, 0, 0, ((i : Int) + 1), ((c : Int) + 1), []⟩]) (V8.alloc (.cells #[.int .i64 3, .int .i64 ((c : Int) + 1), .int .i64 op, .bool true, .string ky, .slice none 0 0, .int .i64 0, .int .i64 ((i : Int) + 1), .int .i64 ((c : Int) + 1)] 45))) := src_ev (alloc_new _ _)
            have LN : Hid (i + 1 ≤ maxLen ∧ ((i + 1) + (i + 1) / 4 + 192) * 96 ≤ 281474976710656) := by have := H.out.2; unfold maxLen; exact ⟨by omega, by omega⟩
            go_upto_region 53 with
              (first
                | (at_builtin; refine wpList_append_all _ rfl (.tmp 190) (.tmp 192) 22 45 22 _ 9 96 rfl Tryd.underlying22 Tryd.info45c rfl w.heap.size (.slice ep i ec) i (ecs es) rfl Q9.out.er.row _ 1 (ecs [⟨3, (c : Int) + 1, op, true, ky, none, 0, 0, 0, ((i : Int) + 1), ((c : Int) + 1), []⟩]) rfl SR.out LN.out.1 LN.out.2 Q9.out.kept.size ?_; intro p9 c9 w9 ho hg hn9)
                | fail)
            have R9 : Hid (EaR w.heap.size w9 p9 (i + 1) c9 (es ++ [⟨3, (c : Int) + 1, op, true, ky, none, 0, 0, 0, ((i : Int) + 1), ((c : Int) + 1), []⟩]) ∧ CRo w.heap.size w9 (some ⟨g, 0, none⟩) k cc (cs.set at_ ({ x with st := 77, tx := ((i : Int) + 1), ty := ((c : Int) + 1) } : Ca)) ∧ w9.heap[nb]? = some (.cells (nowC now) 65 (0, 0)) ∧ w9.heap[kb]? = some (.cells #[.string ⟨#[107]⟩, .string ⟨#[108]⟩, .string ⟨#[0, 34]⟩] 66 (0, 0)) ∧ Kept (fun _ => False) w w9) := by have q := Q9.out.grow (e := ⟨3, (c : Int) + 1, op, true, ky, none, 0, 0, 0, ((i : Int) + 1), ((c : Int) + 1), []⟩) ho.out hg.out; simp only [List.set_set] at q; exact q
            clear ho hg hn9 SR LN KA Q9 F8 e0 e1 e2 e3 e4 e5 e6 e7 e8
            have ng := nowC_get now hc
            have n0 := cell_blk R9.out.2.2.1 (c * 5) ng.1
            have m0 := soft_blk R9.out.2.2.1 (c * 5)
            clear ng
            have NX : Hid (RS w (w9.setCell ⟨nb, c * 5, none⟩ (.bool false)) nb kb (i + 1) p9 c9 (some ⟨g, 0, none⟩) k cc (es ++ [⟨3, (c : Int) + 1, op, true, ky, none, 0, 0, 0, ((i : Int) + 1), ((c : Int) + 1), []⟩]) (cs.set at_ ({ x with st := 77, tx := ((i : Int) + 1), ty := ((c : Int) + 1) } : Ca)) (setB now c { now c with on := false })) := by
              have ea : (now c).at_ = at_ := by rw [NB.out]
              have hf : faultE ⟨3, (c : Int) + 1, op, true, ky, none, 0, 0, 0, ((i : Int) + 1), ((c : Int) + 1), []⟩ = 0 := fault_ok (.inr (.inr rfl)) ⟨by show 1 ≤ (c : Int) + 1; omega, by show (c : Int) + 1 ≤ 65535; omega⟩ XX.out.2.2.2.2.2.2.2.1 (value_nil 2 rfl (by decide) rfl) (tag_ok (.inl rfl) ⟨by show 1 ≤ (i : Int) + 1; omega, by show (i : Int) + 1 ≤ 4611686018427387903; omega⟩ ⟨by show 1 ≤ (c : Int) + 1; omega, by show (c : Int) + 1 ≤ 65535; omega⟩) XX.out.2.2.2.2.2.2.1 rfl
              have hcc : ({ x with st := 77, tx := ((i : Int) + 1), ty := ((c : Int) + 1) } : Ca).cc = endC x.cc ⟨3, (c : Int) + 1, op, true, ky, none, 0, 0, 0, ((i : Int) + 1), ((c : Int) + 1), []⟩ i := by
                obtain ⟨_, z1, z2, z3, z4, z5, _⟩ := XX.out
                have z1 : x.cc.put = true := z1
                unfold endC Ca.cc
                simp_all [Ca.cc]
              have q := rs_end S.out hc (by rw [NB.out]) (e := ⟨3, (c : Int) + 1, op, true, ky, none, 0, 0, 0, ((i : Int) + 1), ((c : Int) + 1), []⟩) (x := x) (x2 := ({ x with st := 77, tx := ((i : Int) + 1), ty := ((c : Int) + 1) } : Ca)) (by rw [ea]; exact XX.out.1) (by simp) rfl (by rw [NB.out]) (by rw [NB.out]) (by rw [NB.out]) hf hcc ⟨(Reads.nil w), by first | exact RV.out.2 | exact Nat.zero_le _⟩ XX.out.2.2.2.2.2.2.2.2 R9.out.1 (by rw [ea]; exact R9.out.2.1) R9.out.2.2.1 R9.out.2.2.2.1 R9.out.2.2.2.2
              rw [ea] at q
              exact q
            clear R9
            go_wp2_with fail
            go_roundw
            case rel => exact ⟨i + 1, p9, c9, _, k, cc, _, _, _, rfl, rfl, by go_num, by omega, NX⟩
            case measure => simp [intOf] <;> omega
          · have F4 : Hid (FB w wq nb kb B D g i ep ec k cc es cs now #[.int .i64 m.client, .bool m.put, .int .i64 m.key, .slice m.va m.vn m.vc, .int .i64 m.fin] #[.bool true, .int .i64 op, .int .i64 (at_ : Int), .bool true, .string ky] #[.int .i64 ((i : Int) + 1), .int .i64 ((c : Int) + 1)] #[.int .i64 2, .int .i64 ((c : Int) + 1), .int .i64 op, .bool true, .string ky, .slice none 0 0, .int .i64 0, .int .i64 0, .int .i64 0]) := Q4.out
            clear Q4
            go_upto_region 32 with fail
            have e6 := cell_blk F4.out.eb 6 (v := .int .i64 0) rfl
            have es6 := soft_blk F4.out.eb 6
            obtain ⟨V5, hV5⟩ : ∃ V5, V5 = (wq.setCell ⟨D, 6, none⟩ (.int .i64 42)) := ⟨_, rfl⟩
            have F5 : Hid (FB w V5 nb kb B D g i ep ec k cc es cs now #[.int .i64 m.client, .bool m.put, .int .i64 m.key, .slice m.va m.vn m.vc, .int .i64 m.fin] #[.bool true, .int .i64 op, .int .i64 (at_ : Int), .bool true, .string ky] #[.int .i64 ((i : Int) + 1), .int .i64 ((c : Int) + 1)] #[.int .i64 2, .int .i64 ((c : Int) + 1), .int .i64 op, .bool true, .string ky, .slice none 0 0, .int .i64 42, .int .i64 0, .int .i64 0]) := by rw [hV5]; exact (F4.out.setE 6 _)
            go_upto_region 33 with fail
            rw [← hV5]
            clear hV5  e6 es6
            have p3 := cell_blk F5.out.bb 3 (v := .bool true) rfl
            go_upto_region 36 with fail
            clear p3
            have e6 := cell_blk F5.out.eb 6 (v := .int .i64 42) rfl
            have xc5 := F5.out.cr.cell (t := at_) XX.out.1 5 (v := .int .i64 x.st) rfl
            have xa5 := xc5.1
            have xb5 := xc5.2
            clear xc5
            obtain ⟨V6, hV6⟩ : ∃ V6, V6 = (V5.setCell ⟨g, at_ * 11 + 5, none⟩ (.int .i64 42)) := ⟨_, rfl⟩
            have F6 : Hid (FB w V6 nb kb B D g i ep ec k cc es (cs.set at_ ({ x with st := 42 } : Ca)) now #[.int .i64 m.client, .bool m.put, .int .i64 m.key, .slice m.va m.vn m.vc, .int .i64 m.fin] #[.bool true, .int .i64 op, .int .i64 (at_ : Int), .bool true, .string ky] #[.int .i64 ((i : Int) + 1), .int .i64 ((c : Int) + 1)] #[.int .i64 2, .int .i64 ((c : Int) + 1), .int .i64 op, .bool true, .string ky, .slice none 0 0, .int .i64 42, .int .i64 0, .int .i64 0]) := by rw [hV6]; exact (F5.out.setX (t := at_) XX.out.1 ({ x with st := 42 } : Ca) 5 _ (by omega) rfl)
            go_upto_region 51 with fail
            rw [← hV6]
            clear hV6  xa5 xb5 e6
            have e7 := cell_blk F6.out.eb 7 (v := .int .i64 0) rfl
            have e8 := cell_blk F6.out.eb 8 (v := .int .i64 0) rfl
            have xc9 := F6.out.cr.cell (t := at_) (set_at XX.out.1) 9 (v := .int .i64 x.tx) rfl
            have xa9 := xc9.1
            have xb9 := xc9.2
            clear xc9
            have xc10 := F6.out.cr.cell (t := at_) (set_at XX.out.1) 10 (v := .int .i64 x.ty) rfl
            have xa10 := xc10.1
            have xb10 := xc10.2
            clear xc10
            obtain ⟨V7, hV7⟩ : ∃ V7, V7 = ((V6.setCell ⟨g, at_ * 11 + 9, none⟩ (.int .i64 0)).setCell ⟨g, at_ * 11 + 10, none⟩ (.int .i64 0)) := ⟨_, rfl⟩
            have F7 : Hid (FB w V7 nb kb B D g i ep ec k cc es (((cs.set at_ ({ x with st := 42 } : Ca)).set at_ ({ x with st := 42, tx := 0 } : Ca)).set at_ ({ x with st := 42, tx := 0, ty := 0 } : Ca)) now #[.int .i64 m.client, .bool m.put, .int .i64 m.key, .slice m.va m.vn m.vc, .int .i64 m.fin] #[.bool true, .int .i64 op, .int .i64 (at_ : Int), .bool true, .string ky] #[.int .i64 ((i : Int) + 1), .int .i64 ((c : Int) + 1)] #[.int .i64 2, .int .i64 ((c : Int) + 1), .int .i64 op, .bool true, .string ky, .slice none 0 0, .int .i64 42, .int .i64 0, .int .i64 0]) := by rw [hV7]; exact ((F6.out.setX (t := at_) (set_at XX.out.1) ({ x with st := 42, tx := 0 } : Ca) 9 _ (by omega) rfl).setX (t := at_) (set_at (set_at XX.out.1)) ({ x with st := 42, tx := 0, ty := 0 } : Ca) 10 _ (by omega) rfl)
            go_upto_region 52 with fail
            rw [← hV7]
            clear hV7  xa9 xb9 xa10 xb10 e7 e8
            have e0 := cell_blk F7.out.eb 0 (v := .int .i64 2) rfl
            have e1 := cell_blk F7.out.eb 1 (v := .int .i64 ((c : Int) + 1)) rfl
            have e2 := cell_blk F7.out.eb 2 (v := .int .i64 op) rfl
            have e3 := cell_blk F7.out.eb 3 (v := .bool true) rfl
            have e4 := cell_blk F7.out.eb 4 (v := .string ky) rfl
            have e5 := cell_blk F7.out.eb 5 (v := .slice none 0 0) rfl
            have e6 := cell_blk F7.out.eb 6 (v := .int .i64 42) rfl
            have e7 := cell_blk F7.out.eb 7 (v := .int .i64 0) rfl
            have e8 := cell_blk F7.out.eb 8 (v := .int .i64 0) rfl
            have KA : Hid (Kept (fun _ => False) V7 (V7.alloc (.cells #[.int .i64 2, .int .i64 ((c : Int) + 1), .int .i64 op, .bool true, .string ky, .slice none 0 0, .int .i64 42, .int .i64 0, .int .i64 0] 45))) := (Kept.refl _ _).alloc _
            have Q9 : Hid (FB w (V7.alloc (.cells #[.int .i64 2, .int .i64 ((c : Int) + 1), .int .i64 op, .bool true, .string ky, .slice none 0 0, .int .i64 42, .int .i64 0, .int .i64 0] 45)) nb kb B D g i ep ec k cc es (((cs.set at_ ({ x with st := 42 } : Ca)).set at_ ({ x with st := 42, tx := 0 } : Ca)).set at_ ({ x with st := 42, tx := 0, ty := 0 } : Ca)) now #[.int .i64 m.client, .bool m.put, .int .i64 m.key, .slice m.va m.vn m.vc, .int .i64 m.fin] #[.bool true, .int .i64 op, .int .i64 (at_ : Int), .bool true, .string ky] #[.int .i64 ((i : Int) + 1), .int .i64 ((c : Int) + 1)] #[.int .i64 2, .int .i64 ((c : Int) + 1), .int .i64 op, .bool true, .string ky, .slice none 0 0, .int .i64 42, .int .i64 0, .int .i64 0]) := F7.out.keep KA.out
            have SR : Hid (Src Tryd.prog 9 22 (.slice (some ⟨V7.heap.size, 0, none⟩) 1 1) 1 (ecs [⟨2, (c : Int) + 1, op, true, ky, none, 0, 0, 42, 0, 0, []⟩]) (V7.alloc (.cells #[.int .i64 2, .int .i64 ((c : Int) + 1), .int .i64 op, .bool true, .string ky, .slice none 0 0, .int .i64 42, .int .i64 0, .int .i64 0] 45))) := src_ev (alloc_new _ _)
            have LN : Hid (i + 1 ≤ maxLen ∧ ((i + 1) + (i + 1) / 4 + 192) * 96 ≤ 281474976710656) := by have := H.out.2; unfold maxLen; exact ⟨by omega, by omega⟩
            go_upto_region 53 with
              (first
                | (at_builtin; refine wpList_append_all _ rfl (.tmp 190) (.tmp 192) 22 45 22 _ 9 96 rfl Tryd.underlying22 Tryd.info45c rfl w.heap.size (.slice ep i ec) i (ecs es) rfl Q9.out.er.row _ 1 (ecs [⟨2, (c : Int) + 1, op, true, ky, none, 0, 0, 42, 0, 0, []⟩]) rfl SR.out LN.out.1 LN.out.2 Q9.out.kept.size ?_; intro p9 c9 w9 ho hg hn9)
                | fail)
            have R9 : Hid (EaR w.heap.size w9 p9 (i + 1) c9 (es ++ [⟨2, (c : Int) + 1, op, true, ky, none, 0, 0, 42, 0, 0, []⟩]) ∧ CRo w.heap.size w9 (some ⟨g, 0, none⟩) k cc (cs.set at_ ({ x with st := 42, tx := 0, ty := 0 } : Ca)) ∧ w9.heap[nb]? = some (.cells (nowC now) 65 (0, 0)) ∧ w9.heap[kb]? = some (.cells #[.string ⟨#[107]⟩, .string ⟨#[108]⟩, .string ⟨#[0, 34]⟩] 66 (0, 0)) ∧ Kept (fun _ => False) w w9) := by have q := Q9.out.grow (e := ⟨2, (c : Int) + 1, op, true, ky, none, 0, 0, 42, 0, 0, []⟩) ho.out hg.out; simp only [List.set_set] at q; exact q
            clear ho hg hn9 SR LN KA Q9 F7 e0 e1 e2 e3 e4 e5 e6 e7 e8
            have ng := nowC_get now hc
            have n0 := cell_blk R9.out.2.2.1 (c * 5) ng.1
            have m0 := soft_blk R9.out.2.2.1 (c * 5)
            clear ng
            have NX : Hid (RS w (w9.setCell ⟨nb, c * 5, none⟩ (.bool false)) nb kb (i + 1) p9 c9 (some ⟨g, 0, none⟩) k cc (es ++ [⟨2, (c : Int) + 1, op, true, ky, none, 0, 0, 42, 0, 0, []⟩]) (cs.set at_ ({ x with st := 42, tx := 0, ty := 0 } : Ca)) (setB now c { now c with on := false })) := by
              have ea : (now c).at_ = at_ := by rw [NB.out]
              have hf : faultE ⟨2, (c : Int) + 1, op, true, ky, none, 0, 0, 42, 0, 0, []⟩ = 0 := fault_ok (.inr (.inl rfl)) ⟨by show 1 ≤ (c : Int) + 1; omega, by show (c : Int) + 1 ≤ 65535; omega⟩ XX.out.2.2.2.2.2.2.2.1 (value_nil 0 rfl (by decide) rfl) (tag_zero (.inl rfl) rfl rfl) XX.out.2.2.2.2.2.2.1 rfl
              have hcc : ({ x with st := 42, tx := 0, ty := 0 } : Ca).cc = endC x.cc ⟨2, (c : Int) + 1, op, true, ky, none, 0, 0, 42, 0, 0, []⟩ i := by
                obtain ⟨_, z1, z2, z3, z4, z5, _⟩ := XX.out
                have z1 : x.cc.put = true := z1
                unfold endC Ca.cc
                simp_all [Ca.cc]
              have q := rs_end S.out hc (by rw [NB.out]) (e := ⟨2, (c : Int) + 1, op, true, ky, none, 0, 0, 42, 0, 0, []⟩) (x := x) (x2 := ({ x with st := 42, tx := 0, ty := 0 } : Ca)) (by rw [ea]; exact XX.out.1) (by simp) rfl (by rw [NB.out]) (by rw [NB.out]) (by rw [NB.out]) hf hcc ⟨(Reads.nil w), by first | exact RV.out.2 | exact Nat.zero_le _⟩ XX.out.2.2.2.2.2.2.2.2 R9.out.1 (by rw [ea]; exact R9.out.2.1) R9.out.2.2.1 R9.out.2.2.2.1 R9.out.2.2.2.2
              rw [ea] at q
              exact q
            clear R9
            go_wp2_with fail
            go_roundw
            case rel => exact ⟨i + 1, p9, c9, _, k, cc, _, _, _, rfl, rfl, by go_num, by omega, NX⟩
            case measure => simp [intOf] <;> omega
          · have F4 : Hid (FB w wq nb kb B D g i ep ec k cc es cs now #[.int .i64 m.client, .bool m.put, .int .i64 m.key, .slice m.va m.vn m.vc, .int .i64 m.fin] #[.bool true, .int .i64 op, .int .i64 (at_ : Int), .bool true, .string ky] #[.int .i64 ((i : Int) + 1), .int .i64 ((c : Int) + 1)] #[.int .i64 2, .int .i64 ((c : Int) + 1), .int .i64 op, .bool true, .string ky, .slice none 0 0, .int .i64 0, .int .i64 0, .int .i64 0]) := Q4.out
            clear Q4
            have t0 := cell_blk F4.out.tb 0 (v := .int .i64 ((i : Int) + 1)) rfl
            have t1 := cell_blk F4.out.tb 1 (v := .int .i64 ((c : Int) + 1)) rfl
            go_upto_region 38 with fail
            have e7 := cell_blk F4.out.eb 7 (v := .int .i64 0) rfl
            have es7 := soft_blk F4.out.eb 7
            have e8 := cell_blk F4.out.eb 8 (v := .int .i64 0) rfl
            have es8 := soft_blk F4.out.eb 8
            obtain ⟨V5, hV5⟩ : ∃ V5, V5 = ((wq.setCell ⟨D, 7, none⟩ (.int .i64 ((i : Int) + 1))).setCell ⟨D, 8, none⟩ (.int .i64 ((c : Int) + 1))) := ⟨_, rfl⟩
            have F5 : Hid (FB w V5 nb kb B D g i ep ec k cc es cs now #[.int .i64 m.client, .bool m.put, .int .i64 m.key, .slice m.va m.vn m.vc, .int .i64 m.fin] #[.bool true, .int .i64 op, .int .i64 (at_ : Int), .bool true, .string ky] #[.int .i64 ((i : Int) + 1), .int .i64 ((c : Int) + 1)] #[.int .i64 2, .int .i64 ((c : Int) + 1), .int .i64 op, .bool true, .string ky, .slice none 0 0, .int .i64 0, .int .i64 ((i : Int) + 1), .int .i64 ((c : Int) + 1)]) := by rw [hV5]; exact ((F4.out.setE 7 _).setE 8 _)
            go_upto_region 39 with fail
            rw [← hV5]
            clear hV5  e7 es7 e8 es8 t0 t1
            have xc7 := F5.out.cr.cell (t := at_) XX.out.1 7 (v := .int .i64 x.too) rfl
            have xa7 := xc7.1
            have xb7 := xc7.2
            clear xc7
            obtain ⟨V6, hV6⟩ : ∃ V6, V6 = (V5.setCell ⟨g, at_ * 11 + 7, none⟩ (.int .i64 (i : Int))) := ⟨_, rfl⟩
            have F6 : Hid (FB w V6 nb kb B D g i ep ec k cc es (cs.set at_ ({ x with too := (i : Int) } : Ca)) now #[.int .i64 m.client, .bool m.put, .int .i64 m.key, .slice m.va m.vn m.vc, .int .i64 m.fin] #[.bool true, .int .i64 op, .int .i64 (at_ : Int), .bool true, .string ky] #[.int .i64 ((i : Int) + 1), .int .i64 ((c : Int) + 1)] #[.int .i64 2, .int .i64 ((c : Int) + 1), .int .i64 op, .bool true, .string ky, .slice none 0 0, .int .i64 0, .int .i64 ((i : Int) + 1), .int .i64 ((c : Int) + 1)]) := by rw [hV6]; exact (F5.out.setX (t := at_) XX.out.1 ({ x with too := (i : Int) } : Ca) 7 _ (by omega) rfl)
            go_upto_region 40 with fail
            rw [← hV6]
            clear hV6  xa7 xb7
            have xc8 := F6.out.cr.cell (t := at_) (set_at XX.out.1) 8 (v := .bool x.opn) rfl
            have xa8 := xc8.1
            have xb8 := xc8.2
            clear xc8
            obtain ⟨V7, hV7⟩ : ∃ V7, V7 = (V6.setCell ⟨g, at_ * 11 + 8, none⟩ (.bool false)) := ⟨_, rfl⟩
            have F7 : Hid (FB w V7 nb kb B D g i ep ec k cc es ((cs.set at_ ({ x with too := (i : Int) } : Ca)).set at_ ({ x with too := (i : Int), opn := false } : Ca)) now #[.int .i64 m.client, .bool m.put, .int .i64 m.key, .slice m.va m.vn m.vc, .int .i64 m.fin] #[.bool true, .int .i64 op, .int .i64 (at_ : Int), .bool true, .string ky] #[.int .i64 ((i : Int) + 1), .int .i64 ((c : Int) + 1)] #[.int .i64 2, .int .i64 ((c : Int) + 1), .int .i64 op, .bool true, .string ky, .slice none 0 0, .int .i64 0, .int .i64 ((i : Int) + 1), .int .i64 ((c : Int) + 1)]) := by rw [hV7]; exact (F6.out.setX (t := at_) (set_at XX.out.1) ({ x with too := (i : Int), opn := false } : Ca) 8 _ (by omega) rfl)
            go_upto_region 41 with fail
            rw [← hV7]
            clear hV7  xa8 xb8
            have p3 := cell_blk F7.out.bb 3 (v := .bool true) rfl
            go_upto_region 51 with fail
            clear p3
            have e7 := cell_blk F7.out.eb 7 (v := .int .i64 ((i : Int) + 1)) rfl
            have e8 := cell_blk F7.out.eb 8 (v := .int .i64 ((c : Int) + 1)) rfl
            have xc9 := F7.out.cr.cell (t := at_) (set_at (set_at XX.out.1)) 9 (v := .int .i64 x.tx) rfl
            have xa9 := xc9.1
            have xb9 := xc9.2
            clear xc9
            have xc10 := F7.out.cr.cell (t := at_) (set_at (set_at XX.out.1)) 10 (v := .int .i64 x.ty) rfl
            have xa10 := xc10.1
            have xb10 := xc10.2
            clear xc10
            obtain ⟨V8, hV8⟩ : ∃ V8, V8 = ((V7.setCell ⟨g, at_ * 11 + 9, none⟩ (.int .i64 ((i : Int) + 1))).setCell ⟨g, at_ * 11 + 10, none⟩ (.int .i64 ((c : Int) + 1))) := ⟨_, rfl⟩
            have F8 : Hid (FB w V8 nb kb B D g i ep ec k cc es ((((cs.set at_ ({ x with too := (i : Int) } : Ca)).set at_ ({ x with too := (i : Int), opn := false } : Ca)).set at_ ({ x with too := (i : Int), opn := false, tx := ((i : Int) + 1) } : Ca)).set at_ ({ x with too := (i : Int), opn := false, tx := ((i : Int) + 1), ty := ((c : Int) + 1) } : Ca)) now #[.int .i64 m.client, .bool m.put, .int .i64 m.key, .slice m.va m.vn m.vc, .int .i64 m.fin] #[.bool true, .int .i64 op, .int .i64 (at_ : Int), .bool true, .string ky] #[.int .i64 ((i : Int) + 1), .int .i64 ((c : Int) + 1)] #[.int .i64 2, .int .i64 ((c : Int) + 1), .int .i64 op, .bool true, .string ky, .slice none 0 0, .int .i64 0, .int .i64 ((i : Int) + 1), .int .i64 ((c : Int) + 1)]) := by rw [hV8]; exact ((F7.out.setX (t := at_) (set_at (set_at XX.out.1)) ({ x with too := (i : Int), opn := false, tx := ((i : Int) + 1) } : Ca) 9 _ (by omega) rfl).setX (t := at_) (set_at (set_at (set_at XX.out.1))) ({ x with too := (i : Int), opn := false, tx := ((i : Int) + 1), ty := ((c : Int) + 1) } : Ca) 10 _ (by omega) rfl)
            go_upto_region 52 with fail
            rw [← hV8]
            clear hV8  xa9 xb9 xa10 xb10 e7 e8
            have e0 := cell_blk F8.out.eb 0 (v := .int .i64 2) rfl
            have e1 := cell_blk F8.out.eb 1 (v := .int .i64 ((c : Int) + 1)) rfl
            have e2 := cell_blk F8.out.eb 2 (v := .int .i64 op) rfl
            have e3 := cell_blk F8.out.eb 3 (v := .bool true) rfl
            have e4 := cell_blk F8.out.eb 4 (v := .string ky) rfl
            have e5 := cell_blk F8.out.eb 5 (v := .slice none 0 0) rfl
            have e6 := cell_blk F8.out.eb 6 (v := .int .i64 0) rfl
            have e7 := cell_blk F8.out.eb 7 (v := .int .i64 ((i : Int) + 1)) rfl
            have e8 := cell_blk F8.out.eb 8 (v := .int .i64 ((c : Int) + 1)) rfl
            have KA : Hid (Kept (fun _ => False) V8 (V8.alloc (.cells #[.int .i64 2, .int .i64 ((c : Int) + 1), .int .i64 op, .bool true, .string ky, .slice none 0 0, .int .i64 0, .int .i64 ((i : Int) + 1), .int .i64 ((c : Int) + 1)] 45))) := (Kept.refl _ _).alloc _
            have Q9 : Hid (FB w (V8.alloc (.cells #[.int .i64 2, .int .i64 ((c : Int) + 1), .int .i64 op, .bool true, .string ky, .slice none 0 0, .int .i64 0, .int .i64 ((i : Int) + 1), .int .i64 ((c : Int) + 1)] 45)) nb kb B D g i ep ec k cc es ((((cs.set at_ ({ x with too := (i : Int) } : Ca)).set at_ ({ x with too := (i : Int), opn := false } : Ca)).set at_ ({ x with too := (i : Int), opn := false, tx := ((i : Int) + 1) } : Ca)).set at_ ({ x with too := (i : Int), opn := false, tx := ((i : Int) + 1), ty := ((c : Int) + 1) } : Ca)) now #[.int .i64 m.client, .bool m.put, .int .i64 m.key, .slice m.va m.vn m.vc, .int .i64 m.fin] #[.bool true, .int .i64 op, .int .i64 (at_ : Int), .bool true, .string ky] #[.int .i64 ((i : Int) + 1), .int .i64 ((c : Int) + 1)] #[.int .i64 2, .int .i64 ((c : Int) + 1), .int .i64 op, .bool true, .string ky, .slice none 0 0, .int .i64 0, .int .i64 ((i : Int) + 1), .int .i64 ((c : Int) + 1)]) := F8.out.keep KA.out
            have SR : Hid (Src Tryd.prog 9 22 (.slice (some ⟨V8.heap.size, 0, none⟩) 1 1) 1 (ecs [⟨2, (c : Int) + 1, op, true, ky, none, 0, 0, 0, ((i : Int) + 1), ((c : Int) + 1), []⟩]) (V8.alloc (.cells #[.int .i64 2, .int .i64 ((c : Int) + 1), .int .i64 op, .bool true, .string ky, .slice none 0 0, .int .i64 0, .int .i64 ((i : Int) + 1), .int .i64 ((c : Int) + 1)] 45))) := src_ev (alloc_new _ _)
            have LN : Hid (i + 1 ≤ maxLen ∧ ((i + 1) + (i + 1) / 4 + 192) * 96 ≤ 281474976710656) := by have := H.out.2; unfold maxLen; exact ⟨by omega, by omega⟩
            go_upto_region 53 with
              (first
                | (at_builtin; refine wpList_append_all _ rfl (.tmp 190) (.tmp 192) 22 45 22 _ 9 96 rfl Tryd.underlying22 Tryd.info45c rfl w.heap.size (.slice ep i ec) i (ecs es) rfl Q9.out.er.row _ 1 (ecs [⟨2, (c : Int) + 1, op, true, ky, none, 0, 0, 0, ((i : Int) + 1), ((c : Int) + 1), []⟩]) rfl SR.out LN.out.1 LN.out.2 Q9.out.kept.size ?_; intro p9 c9 w9 ho hg hn9)
                | fail)
            have R9 : Hid (EaR w.heap.size w9 p9 (i + 1) c9 (es ++ [⟨2, (c : Int) + 1, op, true, ky, none, 0, 0, 0, ((i : Int) + 1), ((c : Int) + 1), []⟩]) ∧ CRo w.heap.size w9 (some ⟨g, 0, none⟩) k cc (cs.set at_ ({ x with too := (i : Int), opn := false, tx := ((i : Int) + 1), ty := ((c : Int) + 1) } : Ca)) ∧ w9.heap[nb]? = some (.cells (nowC now) 65 (0, 0)) ∧ w9.heap[kb]? = some (.cells #[.string ⟨#[107]⟩, .string ⟨#[108]⟩, .string ⟨#[0, 34]⟩] 66 (0, 0)) ∧ Kept (fun _ => False) w w9) := by have q := Q9.out.grow (e := ⟨2, (c : Int) + 1, op, true, ky, none, 0, 0, 0, ((i : Int) + 1), ((c : Int) + 1), []⟩) ho.out hg.out; simp only [List.set_set] at q; exact q
            clear ho hg hn9 SR LN KA Q9 F8 e0 e1 e2 e3 e4 e5 e6 e7 e8
            have ng := nowC_get now hc
            have n0 := cell_blk R9.out.2.2.1 (c * 5) ng.1
            have m0 := soft_blk R9.out.2.2.1 (c * 5)
            clear ng
            have NX : Hid (RS w (w9.setCell ⟨nb, c * 5, none⟩ (.bool false)) nb kb (i + 1) p9 c9 (some ⟨g, 0, none⟩) k cc (es ++ [⟨2, (c : Int) + 1, op, true, ky, none, 0, 0, 0, ((i : Int) + 1), ((c : Int) + 1), []⟩]) (cs.set at_ ({ x with too := (i : Int), opn := false, tx := ((i : Int) + 1), ty := ((c : Int) + 1) } : Ca)) (setB now c { now c with on := false })) := by
              have ea : (now c).at_ = at_ := by rw [NB.out]
              have hf : faultE ⟨2, (c : Int) + 1, op, true, ky, none, 0, 0, 0, ((i : Int) + 1), ((c : Int) + 1), []⟩ = 0 := fault_ok (.inr (.inl rfl)) ⟨by show 1 ≤ (c : Int) + 1; omega, by show (c : Int) + 1 ≤ 65535; omega⟩ XX.out.2.2.2.2.2.2.2.1 (value_nil 2 rfl (by decide) rfl) (tag_ok (.inl rfl) ⟨by show 1 ≤ (i : Int) + 1; omega, by show (i : Int) + 1 ≤ 4611686018427387903; omega⟩ ⟨by show 1 ≤ (c : Int) + 1; omega, by show (c : Int) + 1 ≤ 65535; omega⟩) XX.out.2.2.2.2.2.2.1 rfl
              have hcc : ({ x with too := (i : Int), opn := false, tx := ((i : Int) + 1), ty := ((c : Int) + 1) } : Ca).cc = endC x.cc ⟨2, (c : Int) + 1, op, true, ky, none, 0, 0, 0, ((i : Int) + 1), ((c : Int) + 1), []⟩ i := by
                obtain ⟨_, z1, z2, z3, z4, z5, _⟩ := XX.out
                have z1 : x.cc.put = true := z1
                unfold endC Ca.cc
                simp_all [Ca.cc]
              have q := rs_end S.out hc (by rw [NB.out]) (e := ⟨2, (c : Int) + 1, op, true, ky, none, 0, 0, 0, ((i : Int) + 1), ((c : Int) + 1), []⟩) (x := x) (x2 := ({ x with too := (i : Int), opn := false, tx := ((i : Int) + 1), ty := ((c : Int) + 1) } : Ca)) (by rw [ea]; exact XX.out.1) (by simp) rfl (by rw [NB.out]) (by rw [NB.out]) (by rw [NB.out]) hf hcc ⟨(Reads.nil w), by first | exact RV.out.2 | exact Nat.zero_le _⟩ XX.out.2.2.2.2.2.2.2.2 R9.out.1 (by rw [ea]; exact R9.out.2.1) R9.out.2.2.1 R9.out.2.2.2.1 R9.out.2.2.2.2
              rw [ea] at q
              exact q
            clear R9
            go_wp2_with fail
            go_roundw
            case rel => exact ⟨i + 1, p9, c9, _, k, cc, _, _, _, rfl, rfl, by go_num, by omega, NX⟩
            case measure => simp [intOf] <;> omega
          · have F4 : Hid (FB w wq nb kb B D g i ep ec k cc es cs now #[.int .i64 m.client, .bool m.put, .int .i64 m.key, .slice m.va m.vn m.vc, .int .i64 m.fin] #[.bool true, .int .i64 op, .int .i64 (at_ : Int), .bool true, .string ky] #[.int .i64 ((i : Int) + 1), .int .i64 ((c : Int) + 1)] #[.int .i64 2, .int .i64 ((c : Int) + 1), .int .i64 op, .bool true, .string ky, .slice none 0 0, .int .i64 0, .int .i64 0, .int .i64 0]) := Q4.out
            clear Q4
            have t0 := cell_blk F4.out.tb 0 (v := .int .i64 ((i : Int) + 1)) rfl
            have t1 := cell_blk F4.out.tb 1 (v := .int .i64 ((c : Int) + 1)) rfl
            go_upto_region 45 with fail
            have e7 := cell_blk F4.out.eb 7 (v := .int .i64 0) rfl
            have es7 := soft_blk F4.out.eb 7
            have e8 := cell_blk F4.out.eb 8 (v := .int .i64 0) rfl
            have es8 := soft_blk F4.out.eb 8
            obtain ⟨V5, hV5⟩ : ∃ V5, V5 = ((wq.setCell ⟨D, 7, none⟩ (.int .i64 ((i : Int) + 1))).setCell ⟨D, 8, none⟩ (.int .i64 ((c : Int) + 1))) := ⟨_, rfl⟩
            have F5 : Hid (FB w V5 nb kb B D g i ep ec k cc es cs now #[.int .i64 m.client, .bool m.put, .int .i64 m.key, .slice m.va m.vn m.vc, .int .i64 m.fin] #[.bool true, .int .i64 op, .int .i64 (at_ : Int), .bool true, .string ky] #[.int .i64 ((i : Int) + 1), .int .i64 ((c : Int) + 1)] #[.int .i64 2, .int .i64 ((c : Int) + 1), .int .i64 op, .bool true, .string ky, .slice none 0 0, .int .i64 0, .int .i64 ((i : Int) + 1), .int .i64 ((c : Int) + 1)]) := by rw [hV5]; exact ((F4.out.setE 7 _).setE 8 _)
            go_upto_region 46 with fail
            rw [← hV5]
            clear hV5  e7 es7 e8 es8 t0 t1
            have xc7 := F5.out.cr.cell (t := at_) XX.out.1 7 (v := .int .i64 x.too) rfl
            have xa7 := xc7.1
            have xb7 := xc7.2
            clear xc7
            obtain ⟨V6, hV6⟩ : ∃ V6, V6 = (V5.setCell ⟨g, at_ * 11 + 7, none⟩ (.int .i64 (i : Int))) := ⟨_, rfl⟩
            have F6 : Hid (FB w V6 nb kb B D g i ep ec k cc es (cs.set at_ ({ x with too := (i : Int) } : Ca)) now #[.int .i64 m.client, .bool m.put, .int .i64 m.key, .slice m.va m.vn m.vc, .int .i64 m.fin] #[.bool true, .int .i64 op, .int .i64 (at_ : Int), .bool true, .string ky] #[.int .i64 ((i : Int) + 1), .int .i64 ((c : Int) + 1)] #[.int .i64 2, .int .i64 ((c : Int) + 1), .int .i64 op, .bool true, .string ky, .slice none 0 0, .int .i64 0, .int .i64 ((i : Int) + 1), .int .i64 ((c : Int) + 1)]) := by rw [hV6]; exact (F5.out.setX (t := at_) XX.out.1 ({ x with too := (i : Int) } : Ca) 7 _ (by omega) rfl)
            go_upto_region 47 with fail
            rw [← hV6]
            clear hV6  xa7 xb7
            have xc8 := F6.out.cr.cell (t := at_) (set_at XX.out.1) 8 (v := .bool x.opn) rfl
            have xa8 := xc8.1
            have xb8 := xc8.2
            clear xc8
            obtain ⟨V7, hV7⟩ : ∃ V7, V7 = (V6.setCell ⟨g, at_ * 11 + 8, none⟩ (.bool false)) := ⟨_, rfl⟩
            have F7 : Hid (FB w V7 nb kb B D g i ep ec k cc es ((cs.set at_ ({ x with too := (i : Int) } : Ca)).set at_ ({ x with too := (i : Int), opn := false } : Ca)) now #[.int .i64 m.client, .bool m.put, .int .i64 m.key, .slice m.va m.vn m.vc, .int .i64 m.fin] #[.bool true, .int .i64 op, .int .i64 (at_ : Int), .bool true, .string ky] #[.int .i64 ((i : Int) + 1), .int .i64 ((c : Int) + 1)] #[.int .i64 2, .int .i64 ((c : Int) + 1), .int .i64 op, .bool true, .string ky, .slice none 0 0, .int .i64 0, .int .i64 ((i : Int) + 1), .int .i64 ((c : Int) + 1)]) := by rw [hV7]; exact (F6.out.setX (t := at_) (set_at XX.out.1) ({ x with too := (i : Int), opn := false } : Ca) 8 _ (by omega) rfl)
            go_upto_region 48 with fail
            rw [← hV7]
            clear hV7  xa8 xb8
            have p3 := cell_blk F7.out.bb 3 (v := .bool true) rfl
            go_upto_region 51 with fail
            clear p3
            have e7 := cell_blk F7.out.eb 7 (v := .int .i64 ((i : Int) + 1)) rfl
            have e8 := cell_blk F7.out.eb 8 (v := .int .i64 ((c : Int) + 1)) rfl
            have xc9 := F7.out.cr.cell (t := at_) (set_at (set_at XX.out.1)) 9 (v := .int .i64 x.tx) rfl
            have xa9 := xc9.1
            have xb9 := xc9.2
            clear xc9
            have xc10 := F7.out.cr.cell (t := at_) (set_at (set_at XX.out.1)) 10 (v := .int .i64 x.ty) rfl
            have xa10 := xc10.1
            have xb10 := xc10.2
            clear xc10
            obtain ⟨V8, hV8⟩ : ∃ V8, V8 = ((V7.setCell ⟨g, at_ * 11 + 9, none⟩ (.int .i64 ((i : Int) + 1))).setCell ⟨g, at_ * 11 + 10, none⟩ (.int .i64 ((c : Int) + 1))) := ⟨_, rfl⟩
            have F8 : Hid (FB w V8 nb kb B D g i ep ec k cc es ((((cs.set at_ ({ x with too := (i : Int) } : Ca)).set at_ ({ x with too := (i : Int), opn := false } : Ca)).set at_ ({ x with too := (i : Int), opn := false, tx := ((i : Int) + 1) } : Ca)).set at_ ({ x with too := (i : Int), opn := false, tx := ((i : Int) + 1), ty := ((c : Int) + 1) } : Ca)) now #[.int .i64 m.client, .bool m.put, .int .i64 m.key, .slice m.va m.vn m.vc, .int .i64 m.fin] #[.bool true, .int .i64 op, .int .i64 (at_ : Int), .bool true, .string ky] #[.int .i64 ((i : Int) + 1), .int .i64 ((c : Int) + 1)] #[.int .i64 2, .int .i64 ((c : Int) + 1), .int .i64 op, .bool true, .string ky, .slice none 0 0, .int .i64 0, .int .i64 ((i : Int) + 1), .int .i64 ((c : Int) + 1)]) := by rw [hV8]; exact ((F7.out.setX (t := at_) (set_at (set_at XX.out.1)) ({ x with too := (i : Int), opn := false, tx := ((i : Int) + 1) } : Ca) 9 _ (by omega) rfl).setX (t := at_) (set_at (set_at (set_at XX.out.1))) ({ x with too := (i : Int), opn := false, tx := ((i : Int) + 1), ty := ((c : Int) + 1) } : Ca) 10 _ (by omega) rfl)
            go_upto_region 52 with fail
            rw [← hV8]
            clear hV8  xa9 xb9 xa10 xb10 e7 e8
            have e0 := cell_blk F8.out.eb 0 (v := .int .i64 2) rfl
            have e1 := cell_blk F8.out.eb 1 (v := .int .i64 ((c : Int) + 1)) rfl
            have e2 := cell_blk F8.out.eb 2 (v := .int .i64 op) rfl
            have e3 := cell_blk F8.out.eb 3 (v := .bool true) rfl
            have e4 := cell_blk F8.out.eb 4 (v := .string ky) rfl
            have e5 := cell_blk F8.out.eb 5 (v := .slice none 0 0) rfl
            have e6 := cell_blk F8.out.eb 6 (v := .int .i64 0) rfl
            have e7 := cell_blk F8.out.eb 7 (v := .int .i64 ((i : Int) + 1)) rfl
            have e8 := cell_blk F8.out.eb 8 (v := .int .i64 ((c : Int) + 1)) rfl
            have KA : Hid (Kept (fun _ => False) V8 (V8.alloc (.cells #[.int .i64 2, .int .i64 ((c : Int) + 1), .int .i64 op, .bool true, .string ky, .slice none 0 0, .int .i64 0, .int .i64 ((i : Int) + 1), .int .i64 ((c : Int) + 1)] 45))) := (Kept.refl _ _).alloc _
            have Q9 : Hid (FB w (V8.alloc (.cells #[.int .i64 2, .int .i64 ((c : Int) + 1), .int .i64 op, .bool true, .string ky, .slice none 0 0, .int .i64 0, .int .i64 ((i : Int) + 1), .int .i64 ((c : Int) + 1)] 45)) nb kb B D g i ep ec k cc es ((((cs.set at_ ({ x with too := (i : Int) } : Ca)).set at_ ({ x with too := (i : Int), opn := false } : Ca)).set at_ ({ x with too := (i : Int), opn := false, tx := ((i : Int) + 1) } : Ca)).set at_ ({ x with too := (i : Int), opn := false, tx := ((i : Int) + 1), ty := ((c : Int) + 1) } : Ca)) now #[.int .i64 m.client, .bool m.put, .int .i64 m.key, .slice m.va m.vn m.vc, .int .i64 m.fin] #[.bool true, .int .i64 op, .int .i64 (at_ : Int), .bool true, .string ky] #[.int .i64 ((i : Int) + 1), .int .i64 ((c : Int) + 1)] #[.int .i64 2, .int .i64 ((c : Int) + 1), .int .i64 op, .bool true, .string ky, .slice none 0 0, .int .i64 0, .int .i64 ((i : Int) + 1), .int .i64 ((c : Int) + 1)]) := F8.out.keep KA.out
            have SR : Hid (Src Tryd.prog 9 22 (.slice (some ⟨V8.heap.size, 0, none⟩) 1 1) 1 (ecs [⟨2, (c : Int) + 1, op, true, ky, none, 0, 0, 0, ((i : Int) + 1), ((c : Int) + 1), []⟩]) (V8.alloc (.cells #[.int .i64 2, .int .i64 ((c : Int) + 1), .int .i64 op, .bool true, .string ky, .slice none 0 0, .int .i64 0, .int .i64 ((i : Int) + 1), .int .i64 ((c : Int) + 1)] 45))) := src_ev (alloc_new _ _)
            have LN : Hid (i + 1 ≤ maxLen ∧ ((i + 1) + (i + 1) / 4 + 192) * 96 ≤ 281474976710656) := by have := H.out.2; unfold maxLen; exact ⟨by omega, by omega⟩
            go_upto_region 53 with
              (first
                | (at_builtin; refine wpList_append_all _ rfl (.tmp 190) (.tmp 192) 22 45 22 _ 9 96 rfl Tryd.underlying22 Tryd.info45c rfl w.heap.size (.slice ep i ec) i (ecs es) rfl Q9.out.er.row _ 1 (ecs [⟨2, (c : Int) + 1, op, true, ky, none, 0, 0, 0, ((i : Int) + 1), ((c : Int) + 1), []⟩]) rfl SR.out LN.out.1 LN.out.2 Q9.out.kept.size ?_; intro p9 c9 w9 ho hg hn9)
                | fail)
            have R9 : Hid (EaR w.heap.size w9 p9 (i + 1) c9 (es ++ [⟨2, (c : Int) + 1, op, true, ky, none, 0, 0, 0, ((i : Int) + 1), ((c : Int) + 1), []⟩]) ∧ CRo w.heap.size w9 (some ⟨g, 0, none⟩) k cc (cs.set at_ ({ x with too := (i : Int), opn := false, tx := ((i : Int) + 1), ty := ((c : Int) + 1) } : Ca)) ∧ w9.heap[nb]? = some (.cells (nowC now) 65 (0, 0)) ∧ w9.heap[kb]? = some (.cells #[.string ⟨#[107]⟩, .string ⟨#[108]⟩, .string ⟨#[0, 34]⟩] 66 (0, 0)) ∧ Kept (fun _ => False) w w9) := by have q := Q9.out.grow (e := ⟨2, (c : Int) + 1, op, true, ky, none, 0, 0, 0, ((i : Int) + 1), ((c : Int) + 1), []⟩) ho.out hg.out; simp only [List.set_set] at q; exact q
            clear ho hg hn9 SR LN KA Q9 F8 e0 e1 e2 e3 e4 e5 e6 e7 e8
            have ng := nowC_get now hc
            have n0 := cell_blk R9.out.2.2.1 (c * 5) ng.1
            have m0 := soft_blk R9.out.2.2.1 (c * 5)
            clear ng
            have NX : Hid (RS w (w9.setCell ⟨nb, c * 5, none⟩ (.bool false)) nb kb (i + 1) p9 c9 (some ⟨g, 0, none⟩) k cc (es ++ [⟨2, (c : Int) + 1, op, true, ky, none, 0, 0, 0, ((i : Int) + 1), ((c : Int) + 1), []⟩]) (cs.set at_ ({ x with too := (i : Int), opn := false, tx := ((i : Int) + 1), ty := ((c : Int) + 1) } : Ca)) (setB now c { now c with on := false })) := by
              have ea : (now c).at_ = at_ := by rw [NB.out]
              have hf : faultE ⟨2, (c : Int) + 1, op, true, ky, none, 0, 0, 0, ((i : Int) + 1), ((c : Int) + 1), []⟩ = 0 := fault_ok (.inr (.inl rfl)) ⟨by show 1 ≤ (c : Int) + 1; omega, by show (c : Int) + 1 ≤ 65535; omega⟩ XX.out.2.2.2.2.2.2.2.1 (value_nil 2 rfl (by decide) rfl) (tag_ok (.inl rfl) ⟨by show 1 ≤ (i : Int) + 1; omega, by show (i : Int) + 1 ≤ 4611686018427387903; omega⟩ ⟨by show 1 ≤ (c : Int) + 1; omega, by show (c : Int) + 1 ≤ 65535; omega⟩) XX.out.2.2.2.2.2.2.1 rfl
              have hcc : ({ x with too := (i : Int), opn := false, tx := ((i : Int) + 1), ty := ((c : Int) + 1) } : Ca).cc = endC x.cc ⟨2, (c : Int) + 1, op, true, ky, none, 0, 0, 0, ((i : Int) + 1), ((c : Int) + 1), []⟩ i := by
                obtain ⟨_, z1, z2, z3, z4, z5, _⟩ := XX.out
                have z1 : x.cc.put = true := z1
                unfold endC Ca.cc
                simp_all [Ca.cc]
              have q := rs_end S.out hc (by rw [NB.out]) (e := ⟨2, (c : Int) + 1, op, true, ky, none, 0, 0, 0, ((i : Int) + 1), ((c : Int) + 1), []⟩) (x := x) (x2 := ({ x with too := (i : Int), opn := false, tx := ((i : Int) + 1), ty := ((c : Int) + 1) } : Ca)) (by rw [ea]; exact XX.out.1) (by simp) rfl (by rw [NB.out]) (by rw [NB.out]) (by rw [NB.out]) hf hcc ⟨(Reads.nil w), by first | exact RV.out.2 | exact Nat.zero_le _⟩ XX.out.2.2.2.2.2.2.2.2 R9.out.1 (by rw [ea]; exact R9.out.2.1) R9.out.2.2.1 R9.out.2.2.2.1 R9.out.2.2.2.2
              rw [ea] at q
              exact q
            clear R9
            go_wp2_with fail
            go_roundw
            case rel => exact ⟨i + 1, p9, c9, _, k, cc, _, _, _, rfl, rfl, by go_num, by omega, NX⟩
            case measure => simp [intOf] <;> omega
    · have i1 : ¬ (i : Int) < (n : Int) := by omega
      have ei : i = n := by omega
      subst ei
      go_wp2_with fail
      go_ret2
      exact ⟨ep, ec, cp, k, cc, es, cs, nb, kb, now, by first | rfl | simp, S.out⟩
end Go.Proofs.YtbangbobfeflcaaDoor
