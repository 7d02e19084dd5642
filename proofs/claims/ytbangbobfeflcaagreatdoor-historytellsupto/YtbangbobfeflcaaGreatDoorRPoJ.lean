import Derived.Test.YtbangbobfeflcaaGreatDoorRLn
import Derived.Test.YtbangbobfeflcaaGreatDoorLTxJ
import Derived.BigQuiet
import Derived.Deep.QuietTactic
namespace Go.Proofs.YtbangbobfeflcaaGreatDoor
open Go.RowKit 

set_option maxRecDepth 100000 in
set_option maxHeartbeats 4000000 in
theorem hRefText {w : World} {p : Option Addr} {n c : Nat} {es : List Ev} (er : ERd w p n c es) (hz : (txtF es).length ≤ 140737488355328) : Calls Tryz.prog 24 #[.slice p n c] w fun o w' => o = .returned (.tuple #[.string (txtE es).1, .int .i64 (txtE es).2]) ∧ Kept (fun _ => False) w w' := by
  have hn : n ≤ 9223372036854775807 := by have h1 := er.room; have h2 := er.small; unfold maxLen at h2; omega
  have H : Hid (ERd w p n c es ∧ (txtF es).length ≤ 140737488355328) := ⟨er, hz⟩
  have S0 : Hid (Kept (fun _ => False) w w ∧ ∀ x ∈ es.take 0, faultE x = 0) := ⟨Kept.refl _ _, fun x hx => by simp at hx⟩
  clear er hz
  go_enter Tryz.func24, Tryz.ntmps24
  go_upto_region 3 with fail
  go_loopw [4, 5, 6] (fun u4 u5 _ wr => ∃ i : Nat, u4 = .string ⟨(txtF (es.take i)).toArray⟩ ∧ u5 = .int .i64 (i : Int) ∧ i ≤ n ∧ Hid (Kept (fun _ => False) w wr ∧ ∀ x ∈ es.take i, faultE x = 0)) (fun _ u5 _ _ => n - (intOf u5).toNat)
  case atStart => exact ⟨0, rfl, rfl, Nat.zero_le _, S0⟩
  case round =>
    clear S0
    obtain ⟨i, rfl, rfl, hi, S⟩ := hrel
    obtain ⟨wo, hwo⟩ : ∃ wo, wo = wr := ⟨_, rfl⟩
    rw [← hwo] at S ⊢
    clear hwo
    by_cases hlt : i < n
    · have lti : (i : Int) < (n : Int) := by omega
      obtain ⟨b, off, e, rfl, he, c0, c1, c2, c3, c4, c5, c6, c7, c8, rd⟩ := (H.out.1.k0 S.out.1).at hlt
      obtain ⟨fe, hfe⟩ : ∃ fe, faultE e = fe := ⟨_, rfl⟩
      have HE : Hid (es[i]? = some e ∧ Reads wo e.va e.vn e.vc e.val ∧ faultE e = fe) := ⟨he, rd, hfe⟩
      have C34 : Hid (∀ V, Calls Tryz.prog 34 #[.agg #[.int .i64 e.kind, .int .i64 e.client, .int .i64 e.op, .bool e.put, .string e.key, .slice e.va e.vn e.vc, .int .i64 e.st, .int .i64 e.tx, .int .i64 e.ty]] V fun o w' => o = .returned (.int .i64 fe) ∧ Kept (fun _ => False) V w') := fun V => by
        rw [← hfe]
        exact hRForm e (by have h1 := rd.room; have h2 := rd.small; unfold maxLen at h2; omega) V
      obtain ⟨A, hA⟩ : ∃ A : ByteArray, (⟨(txtF (es.take i)).toArray⟩ : ByteArray) = A := ⟨_, rfl⟩
      have HA : Hid ((⟨(txtF (es.take i)).toArray⟩ : ByteArray) = A) := hA
      rw [hA]
      clear he rd hfe hA
      go_wp2_with fail
      refine (C34.out _).mono ?_
      rintro o w5 ⟨rfl, K5'⟩
      have d0 := K5'.cell c0 (fun z => z)
      have d1 := K5'.cell c1 (fun z => z)
      have d2 := K5'.cell c2 (fun z => z)
      have d3 := K5'.cell c3 (fun z => z)
      have d4 := K5'.cell c4 (fun z => z)
      have d5 := K5'.cell c5 (fun z => z)
      have d6 := K5'.cell c6 (fun z => z)
      have d7 := K5'.cell c7 (fun z => z)
      have d8 := K5'.cell c8 (fun z => z)
      have K5 : Hid (Kept (fun _ => False) wo w5) := K5'
      clear c0 c1 c2 c3 c4 c5 c6 c7 c8 K5' C34
      by_cases hf : fe = 0
      · have fz : (fe != 0) = false := by rw [hf]; rfl
        have fz2 : (fe == 0) = true := by rw [hf]; rfl
        have HF : Hid (fe = 0) := hf
        have C35 : Hid (Calls Tryz.prog 35 #[.agg #[.int .i64 e.kind, .int .i64 e.client, .int .i64 e.op, .bool e.put, .string e.key, .slice e.va e.vn e.vc, .int .i64 e.st, .int .i64 e.tx, .int .i64 e.ty]] w5 fun o w' => o = .returned (.string (lineB e)) ∧ Kept (fun _ => False) w5 w') := hRLine e (by rw [HE.out.2.2]; exact hf) (HE.out.2.1.kept K5.out (fun _ _ z => z))
        obtain ⟨LB, hLB⟩ : ∃ LB, lineB e = LB := ⟨_, rfl⟩
        rw [hLB] at C35
        have AT : Hid (A ++ LB ++ ⟨#[10]⟩ = (⟨(txtF (es.take (i + 1))).toArray⟩ : ByteArray)) := by
          show _ = _
          rw [txtF_take HE.out.1, ← HA.out, ← hLB]
          apply ByteArray.ext
          rw [ByteArray.data_append, ByteArray.data_append]
          simp
        have AZ : (A ++ LB ++ ⟨#[10]⟩).size ≤ 140737488355328 := by
          rw [AT.out]
          have q1 := txtF_len es (i + 1)
          have q2 := H.out.2
          show (txtF (es.take (i + 1))).toArray.size ≤ _
          rw [List.size_toArray]
          omega
        have z1 : (A ++ LB).size = A.size + LB.size := ByteArray.size_append
        have z2 : (A ++ LB ++ ⟨#[10]⟩).size = (A ++ LB).size + 1 := ByteArray.size_append
        have add1 : ∀ U, (Op.stringOp .add A LB).run Tryz.prog U = .ok (.string (A ++ LB)) U := fun U => run_string_add_sum U A LB (by omega)
        have add2 : ∀ U, (Op.stringOp .add (A ++ LB) ⟨#[10]⟩).run Tryz.prog U = .ok (.string (A ++ LB ++ ⟨#[10]⟩)) U := fun U => run_string_add_sum U (A ++ LB) ⟨#[10]⟩ (by show _ + 1 ≤ _; omega)
        obtain ⟨B, hB⟩ : ∃ B, A ++ LB = B := ⟨_, rfl⟩
        rw [hB] at add1 add2 AT
        obtain ⟨C, hC⟩ : ∃ C, B ++ ⟨#[10]⟩ = C := ⟨_, rfl⟩
        rw [hC] at add2 AT
        clear hLB hf hB hC AZ z1 z2
        go_wp2_with fail
        refine C35.out.mono ?_
        rintro o w6 ⟨rfl, K6⟩
        have N : Hid (Kept (fun _ => False) w w6 ∧ ∀ x ∈ es.take (i + 1), faultE x = 0) := by
          refine ⟨(S.out.1.trans K5.out (fun _ _ z => z)).trans K6 (fun _ _ z => z), fun x hx => ?_⟩
          rw [List.take_add_one, HE.out.1] at hx
          rcases List.mem_append.1 hx with z | z
          · exact S.out.2 x z
          · have z : x = e := by simpa using z
            rw [z, HE.out.2.2]
            exact HF.out
        clear d0 d1 d2 d3 d4 d5 d6 d7 d8 K6 C35 K5 S
        go_wp2_with fail
        go_roundw
        case rel => exact ⟨i + 1, by rw [AT.out], by go_num, by omega, N⟩
        case measure => simp [intOf] <;> omega
      · have fz : (fe != 0) = true := by simpa using hf
        have fz2 : ¬ fe = 0 := hf
        have AN : Hid (txtE es = (⟨#[]⟩, fe) ∧ Kept (fun _ => False) w w5) := ⟨by
          have q : fstF es = fe := by rw [← HE.out.2.2]; exact fstF_at HE.out.1 S.out.2 (by rw [HE.out.2.2]; exact hf)
          unfold txtE
          rw [q, if_neg hf], S.out.1.trans K5.out (fun _ _ z => z)⟩
        clear S K5 hf d0 d1 d2 d3 d4 d5 d6 d7 d8
        go_wp2_with fail
        go_ret2
        exact ⟨by simp [AN.out.1], AN.out.2⟩
    · have lti : ¬ (i : Int) < (n : Int) := by omega
      obtain rfl : i = n := by omega
      have eL : es.take i = es := List.take_of_length_le (by rw [H.out.1.len]; exact Nat.le_refl _)
      rw [eL] at S ⊢
      have AN : Hid (txtE es = (⟨(txtF es).toArray⟩, 0)) := by
        show txtE es = _
        unfold txtE
        rw [if_pos (fstF_all S.out.2)]
      obtain ⟨T, hT⟩ : ∃ T : ByteArray, (⟨(txtF es).toArray⟩ : ByteArray) = T := ⟨_, rfl⟩
      rw [hT] at AN ⊢
      clear eL hT
      go_wp2_with fail
      go_ret2
      exact ⟨by simp [AN.out], S.out.1⟩
end Go.Proofs.YtbangbobfeflcaaGreatDoor

namespace Go.Proofs.YtbangbobfeflcaaGreatDoor
open Go.RowKit 

/-- A list of texts, read. -/
def StR (w : World) (p : Option Addr) (ks : List ByteArray) : Prop := ∀ (i : Nat) (k : ByteArray), ks[i]? = some k → ∃ g, p = some ⟨g, 0, none⟩ ∧ w.cell? ⟨g, i, none⟩ = some (.string k)
theorem StR.k0 {w w' : World} {p : Option Addr} {ks : List ByteArray} (h : StR w p ks) (K : Kept (fun _ => False) w w') : StR w' p ks := fun i k hk => by
  obtain ⟨g, e, c⟩ := h i k hk
  exact ⟨g, e, K.cell c (fun z => z)⟩
set_option maxRecDepth 100000 in
set_option maxHeartbeats 4000000 in
theorem hNames {w : World} {p1 p2 : Option Addr} {n c1 c2 : Nat} {ks : List ByteArray} (h1 : StR w p1 ks) (h2 : StR w p2 ks) (hl : ks.length = n) (nb : n ≤ 9223372036854775807) : Calls Tryz.prog 25 #[.slice p1 n c1, .slice p2 n c2] w fun o w' => o = .returned (.bool true) ∧ Kept (fun _ => False) w w' := by
  have H : Hid (StR w p1 ks ∧ StR w p2 ks ∧ ks.length = n) := ⟨h1, h2, hl⟩
  have S0 : Hid (Kept (fun _ => False) w w) := Kept.refl _ _
  clear h1 h2 hl
  go_enter Tryz.func25, Tryz.ntmps25
  go_upto_region 4 with fail
  go_loopw [5] (fun u5 wr => ∃ i : Nat, u5 = .int .i64 (i : Int) ∧ i ≤ n ∧ Hid (Kept (fun _ => False) w wr)) (fun u5 _ => n - (intOf u5).toNat)
  case atStart => exact ⟨0, rfl, Nat.zero_le _, S0⟩
  case round =>
    clear S0
    obtain ⟨i, rfl, hi, S⟩ := hrel
    obtain ⟨wo, hwo⟩ : ∃ wo, wo = wr := ⟨_, rfl⟩
    rw [← hwo] at S ⊢
    clear hwo
    by_cases hlt : i < n
    · have lti : (i : Int) < (n : Int) := by omega
      have i0 : (0 : Int) ≤ (i : Int) := by omega
      obtain ⟨k, hk⟩ : ∃ k, ks[i]? = some k := ⟨_, List.getElem?_eq_getElem (by rw [H.out.2.2]; exact hlt)⟩
      obtain ⟨g1, rfl, e1⟩ := H.out.1.k0 S.out i k hk
      obtain ⟨g2, rfl, e2⟩ := H.out.2.1.k0 S.out i k hk
      clear hk
      go_upto_region 6 with fail
      go_quiet (fail)
      go_wp2_with fail
      go_roundw
      case rel => exact ⟨i + 1, by go_num, by omega, S.out.drewN _⟩
      case measure => simp [intOf] <;> omega
    · have lti : ¬ (i : Int) < (n : Int) := by omega
      go_wp2_with fail
      go_ret
      exact ⟨by first | rfl | simp, S.out⟩
end Go.Proofs.YtbangbobfeflcaaGreatDoor

namespace Go.Proofs.YtbangbobfeflcaaGreatDoor
open Go.RowKit 

end Go.Proofs.YtbangbobfeflcaaGreatDoor

namespace Go.Proofs.YtbangbobfeflcaaGreatDoor
open Go.RowKit 

end Go.Proofs.YtbangbobfeflcaaGreatDoor

namespace Go.Proofs.YtbangbobfeflcaaGreatDoor
open Go.RowKit 

end Go.Proofs.YtbangbobfeflcaaGreatDoor

namespace Go.Proofs.YtbangbobfeflcaaGreatDoor
open Go.RowKit 

theorem strs_len (l : List ByteArray) : (strs l).length = l.length := by unfold strs; rw [List.length_map]
theorem strs_app (a b : List ByteArray) : strs (a ++ b) = strs a ++ strs b := by unfold strs; rw [List.map_append]
/-- Where words is. -/
structure WS (w wr : World) (g j c : Nat) (pre : List ByteArray) (last : ByteArray) : Prop where
  row : wr.ownsRow w.heap.size 9 1 (.slice (some ⟨g, 0, none⟩) (j + 1) c) (j + 1) (strs (pre ++ [last]))
  kept : Kept (fun _ => False) w wr
theorem WS.len {w wr : World} {g j c : Nat} {pre : List ByteArray} {last : ByteArray} (h : WS w wr g j c pre last) : pre.length = j := by
  have q := h.row.1
  rw [strs_len, List.length_append] at q
  simp at q
  omega
theorem WS.k0 {w wr W : World} {g j c : Nat} {pre : List ByteArray} {last : ByteArray} (h : WS w wr g j c pre last) (K : Kept (fun _ => False) wr W) : WS w W g j c pre last := ⟨K.owns h.row (fun _ _ z => z), h.kept.trans K (fun _ _ z => z)⟩
theorem WS.at {w wr : World} {g j c : Nat} {pre : List ByteArray} {last : ByteArray} (h : WS w wr g j c pre last) : wr.cell? ⟨g, j, none⟩ = some (.string last) ∧ wr.frozen? ⟨g, j, none⟩ = false := by
  have hl := h.len
  have hc := h.row.cells (g := g) rfl
  have e : (strs (pre ++ [last]))[j]? = some (.string last) := by
    unfold strs
    rw [List.getElem?_map, List.getElem?_append_right (by omega), hl]
    simp
  have q := hc j _ e
  rw [Addr.add_none, Nat.zero_add] at q
  obtain ⟨c1, e1⟩ := own_type h.row g rfl
  exact ⟨q, soft_blk e1 j⟩
theorem WS.set {w wr : World} {g j c : Nat} {pre : List ByteArray} {last : ByteArray} (h : WS w wr g j c pre last) (x : ByteArray) : WS w (wr.setCell ⟨g, j, none⟩ (.string x)) g j c pre x := by
  have hl := h.len
  refine ⟨?_, h.kept.setCell (p := ⟨g, j, none⟩) (fun z => by
    have z : g < w.heap.size := z
    have := (own_lt h.row g rfl).1
    omega) _⟩
  have q := owns_set h.row j (.string x)
  have e : (strs (pre ++ [last])).set j (.string x) = strs (pre ++ [x]) := by
    rw [strs_app, strs_app, List.set_append_right _ _ (by rw [strs_len]; omega), strs_len, hl, Nat.sub_self]
    rfl
  rw [e] at q
  exact q
end Go.Proofs.YtbangbobfeflcaaGreatDoor

namespace Go.Proofs.YtbangbobfeflcaaGreatDoor
open Go.RowKit 

end Go.Proofs.YtbangbobfeflcaaGreatDoor

namespace Go.Proofs.YtbangbobfeflcaaGreatDoor
open Go.RowKit 

/-- Where ended is: the event in its box, what it answers, words in memory. -/
structure En (w W : World) (cs : Array Value) : Prop where
  bx : W.heap[w.heap.size]? = some (.cells cs 39 (0, 0))
  rs : W.heap[w.heap.size + 1]? = some (.cells zEv 39 (0, 0))
  kept : Kept (fun _ => False) w W
theorem En.start (w : World) (cs : Array Value) : En w ((w.alloc (.cells cs 39)).alloc (.cells zEv 39)) cs := ⟨alloc_old _ (alloc_new _ _), by
  have q := alloc_new (w.alloc (.cells cs 39)) (.cells zEv 39)
  rw [alloc_size] at q
  exact q, ((Kept.refl _ _).alloc _).alloc _⟩
theorem En.keep {w W W' : World} {cs : Array Value} (h : En w W cs) (K : Kept (fun _ => False) W W') : En w W' cs := ⟨K.get h.bx (fun z => z), K.get h.rs (fun z => z), h.kept.trans K (fun _ _ z => z)⟩
theorem En.set {w W : World} {cs : Array Value} (h : En w W cs) (i : Nat) (v : Value) : En w (W.setCell ⟨w.heap.size, i, none⟩ v) (cs.setIfInBounds i v) := by
  have K : Kept (fun j => j = w.heap.size) W (W.setCell ⟨w.heap.size, i, none⟩ v) := (Kept.refl (fun j => j = w.heap.size) W).setCell (p := ⟨w.heap.size, i, none⟩) (fun _ => rfl) v
  exact ⟨set_heap h.bx i v, K.get h.rs (by omega), h.kept.trans K (fun j hj z => by have z : j = w.heap.size := z; omega)⟩
end Go.Proofs.YtbangbobfeflcaaGreatDoor

namespace Go.Proofs.YtbangbobfeflcaaGreatDoor
open Go.RowKit 

/-- Where event is: what it answers, the event, the words. -/
structure Eg (w W : World) (cs : Array Value) (g k c : Nat) (ws : List ByteArray) : Prop where
  rs : W.heap[w.heap.size]? = some (.cells zEv 39 (0, 0))
  ev : W.heap[w.heap.size + 1]? = some (.cells cs 39 (0, 0))
  row : W.ownsRow (w.heap.size + 2) 9 1 (.slice (some ⟨g, 0, none⟩) k c) k (strs ws)
  kept : Kept (fun _ => False) w W
theorem Eg.keep {w W W' : World} {cs : Array Value} {g k c : Nat} {ws : List ByteArray} (h : Eg w W cs g k c ws) (K : Kept (fun _ => False) W W') : Eg w W' cs g k c ws := ⟨K.get h.rs (fun z => z), K.get h.ev (fun z => z), K.owns h.row (fun _ _ z => z), h.kept.trans K (fun _ _ z => z)⟩
theorem Eg.by {w W W' : World} {cs cs' : Array Value} {g k c : Nat} {ws : List ByteArray} (h : Eg w W cs g k c ws) (K : Kept (fun j => j = w.heap.size + 1) W W') (e : W'.heap[w.heap.size + 1]? = some (.cells cs' 39 (0, 0))) : Eg w W' cs' g k c ws := ⟨K.get h.rs (by omega), e, K.owns h.row (fun j hj z => by have q := h.row.lt j hj; have z : j = w.heap.size + 1 := z; omega), h.kept.trans K (fun j hj z => by have z : j = w.heap.size + 1 := z; omega)⟩
theorem Eg.set {w W : World} {cs : Array Value} {g k c : Nat} {ws : List ByteArray} (h : Eg w W cs g k c ws) (i : Nat) (v : Value) : Eg w (W.setCell ⟨w.heap.size + 1, i, none⟩ v) (cs.setIfInBounds i v) g k c ws := h.by ((Kept.refl (fun j => j = w.heap.size + 1) W).setCell (p := ⟨w.heap.size + 1, i, none⟩) (fun _ => rfl) v) (set_heap h.ev i v)
theorem Eg.len {w W : World} {cs : Array Value} {g k c : Nat} {ws : List ByteArray} (h : Eg w W cs g k c ws) : ws.length = k := by
  have q := h.row.1
  rw [strs_len] at q
  omega
end Go.Proofs.YtbangbobfeflcaaGreatDoor

namespace Go.Proofs.YtbangbobfeflcaaGreatDoor
open Go.RowKit 

end Go.Proofs.YtbangbobfeflcaaGreatDoor

namespace Go.Proofs.YtbangbobfeflcaaGreatDoor
open Go.RowKit 

end Go.Proofs.YtbangbobfeflcaaGreatDoor

namespace Go.Proofs.YtbangbobfeflcaaGreatDoor
open Go.RowKit 

/-- The values of events lie in blocks of their own. -/
def Dst (wr : World) (L : List Ev) : Prop := L.Pairwise (fun a b => ∀ x, blockOf a.va = some x → blockOf b.va ≠ some x) ∧ ∀ e ∈ L, ∀ x, blockOf e.va = some x → x < wr.heap.size
theorem Dst.more {wr W : World} {L : List Ev} {x : Ev} (h : Dst wr L) (hx : ∀ b, blockOf x.va = some b → wr.heap.size ≤ b ∧ b < W.heap.size) (hs : wr.heap.size ≤ W.heap.size) : Dst W (L ++ [x]) := by
  refine ⟨List.pairwise_append.2 ⟨h.1, List.pairwise_singleton _ _, fun a ha b hb z hz q => ?_⟩, fun e he z hz => ?_⟩
  · rw [List.mem_singleton.1 hb] at q
    have q1 := h.2 a ha z hz
    have q2 := hx z q
    omega
  · rcases List.mem_append.1 he with m | m
    · have := h.2 e m z hz
      omega
    · rw [List.mem_singleton.1 m] at hz
      exact (hx z hz).2
end Go.Proofs.YtbangbobfeflcaaGreatDoor
