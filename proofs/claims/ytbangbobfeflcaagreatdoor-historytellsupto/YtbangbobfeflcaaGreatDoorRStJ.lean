import Derived.Test.YtbangbobfeflcaaGreatDoorRPoJ
import Derived.Test.YtbangbobfeflcaaGreatDoorRLbJ
import Derived.Test.YtbangbobfeflcaaGreatDoorHCheckJ
namespace Go.Proofs.YtbangbobfeflcaaGreatDoor
open Go.RowKit 

/-- The events of a key. -/
def ofK (es : List Ev) (key : ByteArray) : List Ev := es.filter fun e => decide (e.key = key)
theorem ofK_take {es : List Ev} {i : Nat} {e : Ev} (h : es[i]? = some e) (key : ByteArray) : ofK (es.take (i + 1)) key = if e.key = key then ofK (es.take i) key ++ [e] else ofK (es.take i) key := by
  have et : es.take (i + 1) = es.take i ++ [e] := by rw [List.take_add_one, h]; rfl
  unfold ofK
  rw [et, List.filter_append]
  by_cases q : e.key = key
  · rw [if_pos q]
    simp [q]
  · rw [if_neg q]
    simp [q]
/-- A value cloned: what lies where. -/
structure OM7 (W w9 : World) (B vn c9 : Nat) (p9 : Option Addr) (val : List Nat) (cs : Array Value) : Prop where
  row : w9.ownsRow W.heap.size 5 1 (.slice p9 vn c9) vn (cellsOf val)
  blk : w9.heap[B]? = some (.cells cs 39 (0, 0))
  kept : Kept (fun _ => False) W w9
theorem of_mid {W w9 : World} {B vn c9 : Nat} {p9 : Option Addr} {val : List Nat} {cs : Array Value} (hB : B < W.heap.size) (hb : (W.alloc (.cells #[] 5)).heap[B]? = some (.cells cs 39 (0, 0))) (ho : w9.ownsRow W.heap.size 5 1 (.slice p9 (0 + vn) c9) (0 + vn) (cellsOf ([] ++ val))) (hg : (W.alloc (.cells #[] 5)).grownBy w9 (Value.slice (some ⟨W.heap.size, 0, none⟩) 0 0).ownBlock) : OM7 W w9 B vn c9 p9 val cs := by
  have KG := kgr hg
  refine ⟨?_, KG.get hb (fun z => ?_), Kept.own ((Kept.refl _ _).alloc _) KG (fun j z => ?_)⟩
  · rw [Nat.zero_add, List.nil_append] at ho
    exact ho
  · have z : some W.heap.size = some B := z
    have z := Option.some.inj z
    omega
  · have z : some W.heap.size = some j := z
    have z := Option.some.inj z
    omega
theorem OM7.set {W w9 : World} {B vn c9 : Nat} {p9 : Option Addr} {val : List Nat} {cs : Array Value} (h : OM7 W w9 B vn c9 p9 val cs) (u : Value) : (w9.setCell ⟨B, 5, none⟩ u).heap[B]? = some (.cells (cs.setIfInBounds 5 u) 39 (0, 0)) ∧ (w9.setCell ⟨B, 5, none⟩ u).ownsRow W.heap.size 5 1 (.slice p9 vn c9) vn (cellsOf val) ∧ Kept (fun j => j = B) W (w9.setCell ⟨B, 5, none⟩ u) := by
  refine ⟨set_heap h.blk 5 u, ((Kept.refl (fun k => k = B) w9).setCell (p := ⟨B, 5, none⟩) (fun _ => rfl) u).owns h.row (fun k hk z => ?_), (h.kept.mono (S' := fun j => j = B) (fun _ _ z => z.elim)).setCell (p := ⟨B, 5, none⟩) (fun _ => rfl) u⟩
  have z : k = B := z
  subst z
  rw [blockOf_own] at hk
  obtain ⟨c1, e1⟩ := own_type h.row k hk
  rw [h.blk] at e1
  simp at e1
def OfQ (w : World) (es : List Ev) (key : ByteArray) (o : Ending) (w' : World) : Prop := ∃ (p : Option Addr) (k c : Nat) (L : List Ev), o = .returned (.slice p k c) ∧ PS w w' p k c L ∧ L.map Ev.core = (ofK es key).map Ev.core
def OfS (w wr : World) (es : List Ev) (key : ByteArray) (i : Nat) (p : Option Addr) (k c : Nat) (L : List Ev) : Prop := PS w wr p k c L ∧ L.map Ev.core = (ofK (es.take i) key).map Ev.core ∧ k ≤ i
set_option maxRecDepth 100000 in
set_option maxHeartbeats 4000000 in
theorem hRefOf {w : World} {p0 : Option Addr} {n c0 : Nat} {es : List Ev} {key : ByteArray} (er : ERd w p0 n c0 es) (hb : n ≤ 1500000000000) (vb : ∀ e ∈ es, e.vn + 1 ≤ 140737488355328) : Calls Tryz.prog 27 #[.slice p0 n c0, .string key] w (OfQ w es key) := by
  have H : Hid (ERd w p0 n c0 es ∧ ∀ e ∈ es, e.vn + 1 ≤ 140737488355328) := ⟨er, vb⟩
  have S0 : Hid (OfS w w es key 0 none 0 0 []) := ⟨⟨EaR.nil _ _, fun e h => (by cases h), Kept.refl _ _⟩, rfl, Nat.le_refl _⟩
  clear er vb
  go_enter Tryz.func27, Tryz.ntmps27
  go_upto_region 3 with fail
  go_loopw [5, 6, 7] (fun u5 u6 _ wr => ∃ (i : Nat) (p : Option Addr) (k c : Nat) (L : List Ev), u5 = .slice p k c ∧ u6 = .int .i64 (i : Int) ∧ i ≤ n ∧ k ≤ i ∧ Hid (OfS w wr es key i p k c L)) (fun _ u6 _ _ => n - (intOf u6).toNat)
  case atStart => exact ⟨0, none, 0, 0, [], rfl, rfl, Nat.zero_le _, Nat.le_refl _, S0⟩
  case round =>
    clear S0
    obtain ⟨i, p, k, c, L, rfl, rfl, hi, hk, S⟩ := hrel
    obtain ⟨wo, hwo⟩ : ∃ wo, wo = wr := ⟨_, rfl⟩
    rw [← hwo] at S ⊢
    clear hwo
    by_cases hlt : i < n
    · have lti : (i : Int) < (n : Int) := by omega
      obtain ⟨b, off, e, rfl, he, c0', c1', c2', c3', c4', c5', c6', c7', c8', rd⟩ := (H.out.1.k0 S.out.1.kept).at hlt
      have HE : Hid (es[i]? = some e ∧ Reads wo e.va e.vn e.vc e.val) := ⟨he, rd⟩
      have vz := H.out.2 e (List.mem_of_getElem? he)
      have ot := ofK_take he key
      by_cases hq : e.key = key
      · rw [if_pos hq] at ot
        have HO : Hid (ofK (es.take (i + 1)) key = ofK (es.take i) key ++ [e]) := ot
        obtain ⟨kd, cl, op, pt, ky, va, vn, vc, st, tx, ty, val⟩ := e
        have vz : vn + 1 ≤ 140737488355328 := vz
        have hq : ky = key := hq
        subst hq
        have c0' : wo.cell? ⟨b, off + i * 9, none⟩ = some (.int .i64 kd) := c0'
        have c1' : wo.cell? ⟨b, off + i * 9 + 1, none⟩ = some (.int .i64 cl) := c1'
        have c2' : wo.cell? ⟨b, off + i * 9 + 2, none⟩ = some (.int .i64 op) := c2'
        have c3' : wo.cell? ⟨b, off + i * 9 + 3, none⟩ = some (.bool pt) := c3'
        have c4' : wo.cell? ⟨b, off + i * 9 + 4, none⟩ = some (.string ky) := c4'
        have c5' : wo.cell? ⟨b, off + i * 9 + 5, none⟩ = some (.slice va vn vc) := c5'
        have c6' : wo.cell? ⟨b, off + i * 9 + 6, none⟩ = some (.int .i64 st) := c6'
        have c7' : wo.cell? ⟨b, off + i * 9 + 7, none⟩ = some (.int .i64 tx) := c7'
        have c8' : wo.cell? ⟨b, off + i * 9 + 8, none⟩ = some (.int .i64 ty) := c8'
        obtain ⟨W, hW⟩ : ∃ W, W = wo.alloc (.cells #[.int .i64 kd, .int .i64 cl, .int .i64 op, .bool pt, .string ky, .slice va vn vc, .int .i64 st, .int .i64 tx, .int .i64 ty] 39) := ⟨_, rfl⟩
        obtain ⟨B, hB⟩ : ∃ B, B = wo.heap.size := ⟨_, rfl⟩
        have J : Hid (W.heap[B]? = some (.cells #[.int .i64 kd, .int .i64 cl, .int .i64 op, .bool pt, .string ky, .slice va vn vc, .int .i64 st, .int .i64 tx, .int .i64 ty] 39 (0, 0)) ∧ Kept (fun _ => False) wo W ∧ wo.heap.size = B ∧ B < W.heap.size) := ⟨by rw [hW, hB]; exact alloc_new _ _, by rw [hW]; exact (Kept.refl _ _).alloc _, hB.symm, block_lt (by rw [hW, hB]; exact alloc_new _ _)⟩
        have EW : Hid (W = wo.alloc (.cells #[.int .i64 kd, .int .i64 cl, .int .i64 op, .bool pt, .string ky, .slice va vn vc, .int .i64 st, .int .i64 tx, .int .i64 ty] 39) ∧ B = wo.heap.size) := ⟨hW, hB⟩
        clear hW hB he rd ot
        go_upto_region 7 with fail
        rw [← EW.out.1, ← EW.out.2]
        clear c0' c1' c2' c3' c4' c5' c6' c7' c8' EW
        have AK : Hid (Kept (fun _ => False) W (W.alloc (.cells #[] 5))) := (Kept.refl _ _).alloc _
        have RW : Hid ((W.alloc (.cells #[] 5)).ownsRow W.heap.size 5 1 (.slice (some ⟨W.heap.size, 0, none⟩) 0 0) 0 (cellsOf []) ∧ Reads (W.alloc (.cells #[] 5)) va vn vc val ∧ (W.alloc (.cells #[] 5)).heap[B]? = some (.cells #[.int .i64 kd, .int .i64 cl, .int .i64 op, .bool pt, .string ky, .slice va vn vc, .int .i64 st, .int .i64 tx, .int .i64 ty] 39 (0, 0))) := ⟨⟨rfl, .inr ⟨W.heap.size, 0, #[], rfl, Nat.le_refl _, alloc_new _ _, Nat.le_refl _, by unfold maxLen; omega, rfl, rfl⟩⟩, Reads.kept AK.out (Reads.kept J.out.2.1 HE.out.2 (fun _ _ z => z)) (fun _ _ z => z), AK.out.get J.out.1 (fun z => z)⟩
        have x5 := cell_blk RW.out.2.2 5 (v := .slice va vn vc) rfl
        have LW : Hid (W.heap.size ≤ (W.alloc (.cells #[] 5)).heap.size) := AK.out.size
        have BL : Hid (B < W.heap.size) := J.out.2.2.2
        go_upto_region 8 with
          (first
            | (at_builtin; refine wpList_append_bytes _ rfl (.tmp 25) (.tmp 27) rfl W.heap.size (.slice (some ⟨W.heap.size, 0, none⟩) 0 0) 0 [] rfl RW.out.1 _ vn val rfl RW.out.2.1.src (by omega) LW.out ?_; intro p9 c9 w9 ho hg hn9; have O9 : Hid (OM7 W w9 B vn c9 p9 val #[.int .i64 kd, .int .i64 cl, .int .i64 op, .bool pt, .string ky, .slice va vn vc, .int .i64 st, .int .i64 tx, .int .i64 ty]) := of_mid BL.out RW.out.2.2 ho.out hg.out; have y5 := cell_blk O9.out.blk 5 (v := .slice va vn vc) rfl; have ys := soft_blk O9.out.blk 5; clear ho hg hn9; rw [Nat.zero_add])
            | fail)
        have Q9 : Hid ((w9.setCell ⟨B, 5, none⟩ (.slice p9 vn c9)).heap[B]? = some (.cells #[.int .i64 kd, .int .i64 cl, .int .i64 op, .bool pt, .string ky, .slice p9 vn c9, .int .i64 st, .int .i64 tx, .int .i64 ty] 39 (0, 0)) ∧ (w9.setCell ⟨B, 5, none⟩ (.slice p9 vn c9)).ownsRow W.heap.size 5 1 (.slice p9 vn c9) vn (cellsOf val) ∧ Kept (fun j => j = B) W (w9.setCell ⟨B, 5, none⟩ (.slice p9 vn c9))) := O9.out.set (.slice p9 vn c9)
        obtain ⟨V, hV⟩ : ∃ V, w9.setCell ⟨B, 5, none⟩ (.slice p9 vn c9) = V := ⟨_, rfl⟩
        rw [hV] at Q9 ⊢
        have KV : Hid (Kept (fun _ => False) wo V) := Kept.own J.out.2.1 Q9.out.2.2 (fun b z => by have z : b = B := z; have := J.out.2.2.1; omega)
        obtain ⟨Y, hY⟩ : ∃ Y, V.alloc (.cells #[.int .i64 kd, .int .i64 cl, .int .i64 op, .bool pt, .string ky, .slice p9 vn c9, .int .i64 st, .int .i64 tx, .int .i64 ty] 39) = Y := ⟨_, rfl⟩
        have KY : Hid (Kept (fun _ => False) V Y) := by rw [← hY]; exact (Kept.refl _ _).alloc _
        have SR : Hid (Src Tryz.prog 9 22 (.slice (some ⟨V.heap.size, 0, none⟩) 1 1) 1 (ecs [⟨kd, cl, op, pt, ky, p9, vn, c9, st, tx, ty, val⟩]) Y) := by rw [← hY]; exact src_ev (e := ⟨kd, cl, op, pt, ky, p9, vn, c9, st, tx, ty, val⟩) (alloc_new _ _)
        have PY : Hid (PS w Y p k c L ∧ Y.ownsRow w.heap.size 5 1 (.slice p9 vn c9) vn (cellsOf val)) := ⟨(S.out.1.k0 KV.out).k0 KY.out, owns_base (KY.out.owns Q9.out.2.1 (fun _ _ z => z)) (Nat.le_trans S.out.1.kept.size J.out.2.1.size)⟩
        have EY : Hid (V.alloc (.cells #[.int .i64 kd, .int .i64 cl, .int .i64 op, .bool pt, .string ky, .slice p9 vn c9, .int .i64 st, .int .i64 tx, .int .i64 ty] 39) = Y) := hY
        have x0 := cell_blk Q9.out.1 0 (v := .int .i64 kd) rfl
        have x1 := cell_blk Q9.out.1 1 (v := .int .i64 cl) rfl
        have x2 := cell_blk Q9.out.1 2 (v := .int .i64 op) rfl
        have x3 := cell_blk Q9.out.1 3 (v := .bool pt) rfl
        have x4 := cell_blk Q9.out.1 4 (v := .string ky) rfl
        have x5 := cell_blk Q9.out.1 5 (v := .slice p9 vn c9) rfl
        have x6 := cell_blk Q9.out.1 6 (v := .int .i64 st) rfl
        have x7 := cell_blk Q9.out.1 7 (v := .int .i64 tx) rfl
        have x8 := cell_blk Q9.out.1 8 (v := .int .i64 ty) rfl
        have BB : Hid (w.heap.size ≤ Y.heap.size) := PY.out.1.kept.size
        clear hV hY y5 ys O9 Q9 RW AK LW BL J
        go_wp2_with
          (first
            | (at_builtin; rw [EY.out]; refine wpList_append_all _ rfl (.tmp 30) (.tmp 32) 22 39 22 _ 9 96 rfl Tryz.underlying22 Tryz.info39c rfl w.heap.size (.slice p k c) k (ecs L) rfl PY.out.1.row.row _ 1 (ecs [⟨kd, cl, op, pt, ky, p9, vn, c9, st, tx, ty, val⟩]) rfl SR.out (by unfold maxLen; omega) (by omega) BB.out ?_; intro p8 c8 w8 ho hg hn9)
            | fail)
        have N : Hid (OfS w w8 es ky (i + 1) p8 (k + 1) c8 (L ++ [⟨kd, cl, op, pt, ky, p9, vn, c9, st, tx, ty, val⟩])) := by
          refine ⟨PY.out.1.more PY.out.2 ho.out hg.out, ?_, by omega⟩
          rw [HO.out, List.map_append, List.map_append, S.out.2.1]
          rfl
        clear ho hg hn9 x0 x1 x2 x3 x4 x5 x6 x7 x8 PY SR EY KY KV BB S
        go_roundw
        case rel => exact ⟨i + 1, p8, k + 1, c8, _, rfl, by go_num, by omega, by omega, N⟩
        case measure => simp [intOf] <;> omega
      · rw [if_neg hq] at ot
        have kn := ba_ne hq
        have kq : (e.key.toList == key.toList) = false := by simpa using kn
        have N : Hid (OfS w wo es key (i + 1) p k c L) := ⟨S.out.1, by rw [ot]; exact S.out.2.1, by omega⟩
        clear ot he rd c0' c1' c2' c3' c5' c6' c7' c8'
        go_wp2_with fail
        go_roundw
        case rel => exact ⟨i + 1, p, k, c, L, rfl, by go_num, by omega, by omega, N⟩
        case measure => simp [intOf] <;> omega
    · have lti : ¬ (i : Int) < (n : Int) := by omega
      obtain rfl : i = n := by omega
      have F : Hid (PS w wo p k c L ∧ L.map Ev.core = (ofK es key).map Ev.core) := by
        refine ⟨S.out.1, ?_⟩
        have q := S.out.2.1
        rw [List.take_of_length_le (by rw [H.out.1.len]; exact Nat.le_refl _)] at q
        exact q
      clear S
      go_wp2_with fail
      go_ret
      exact ⟨p, k, c, L, by first | rfl | simp, F.out⟩
end Go.Proofs.YtbangbobfeflcaaGreatDoor

namespace Go.Proofs.YtbangbobfeflcaaGreatDoor
open Go.RowKit 

/-- What standing reckons of one client: is it busy, how many Invokes, the last of them. -/
structure St where
  busy : Bool
  ops : Nat
  last : Ev
def zE : Ev := ⟨0, 0, 0, false, ⟨#[]⟩, none, 0, 0, 0, 0, 0, []⟩
def stStep (cl : Int) (s : St) (e : Ev) : St := if e.client = cl then (if e.kind = 1 then ⟨true, s.ops + 1, e⟩ else ⟨false, s.ops, s.last⟩) else s
def stOf (cl : Int) (es : List Ev) : St := es.foldl (stStep cl) ⟨false, 0, zE⟩
def stF (es : List Ev) (e : Ev) : Bool := if e.kind = 1 then !(stOf e.client es).busy && decide (e.op = ((stOf e.client es).ops : Int) + 1) else (stOf e.client es).busy && decide ((stOf e.client es).last.op = e.op) && decide ((stOf e.client es).last.put = e.put) && decide ((stOf e.client es).last.key = e.key)
theorem stOf_snoc (cl : Int) (es : List Ev) (e : Ev) : stOf cl (es ++ [e]) = stStep cl (stOf cl es) e := by
  unfold stOf
  rw [List.foldl_append]
  rfl
theorem stOf_take {es : List Ev} {i : Nat} {e : Ev} (h : es[i]? = some e) (cl : Int) : stOf cl (es.take (i + 1)) = stStep cl (stOf cl (es.take i)) e := by
  have et : es.take (i + 1) = es.take i ++ [e] := by rw [List.take_add_one, h]; rfl
  rw [et, stOf_snoc]
theorem snoc_ind {α : Type} {P : List α → Prop} (h0 : P []) (hs : ∀ l a, P l → P (l ++ [a])) (l : List α) : P l := by
  have q : ∀ r : List α, P r.reverse := fun r => by
    induction r with
    | nil => exact h0
    | cons a r ih =>
      rw [List.reverse_cons]
      exact hs _ a ih
  have := q l.reverse
  rw [List.reverse_reverse] at this
  exact this
theorem stOf_ops (cl : Int) (es : List Ev) : (stOf cl es).ops ≤ es.length := by
  refine snoc_ind (P := fun es => (stOf cl es).ops ≤ es.length) (Nat.le_refl _) (fun l e ih => ?_) es
  show (stOf cl (l ++ [e])).ops ≤ (l ++ [e]).length
  rw [stOf_snoc, List.length_append, List.length_singleton]
  unfold stStep
  split
  · split
    · show _ + 1 ≤ _
      omega
    · show (stOf cl l).ops ≤ _
      omega
  · omega
/-- What the last one of a client says of it. -/
def StI (s : St) : Option Ev → Prop
  | none => s.busy = false ∧ s.ops = 0
  | some x => s.busy = decide (x.kind = 1) ∧ (s.ops : Int) = x.op ∧ (x.kind = 1 → s.last = x)
theorem chk_one {a : Ev} {M : Int → Option Ev} {i : Nat} (h : chkE [a] M i = (-1, 0)) : faultE a = 0 ∧ mayF (M a.client) a = true := by
  rw [chk_cons] at h
  by_cases h1 : faultE a ≠ 0
  · rw [if_pos h1] at h
    exact (chk_no h).elim
  · rw [if_neg h1] at h
    by_cases h2 : mayF (M a.client) a = false
    · rw [if_pos h2] at h
      exact (chk_no h).elim
    · exact ⟨by simpa using h1, by simpa using h2⟩
theorem lastM_snocC (l : List Ev) (a : Ev) (M : Int → Option Ev) (cl : Int) : lastM (l ++ [a]) M cl = if a.client = cl then some a else lastM l M cl := by
  rw [lastM_app]
  show upd (lastM l M) a.client a cl = _
  unfold upd
  by_cases q : a.client = cl
  · rw [if_pos q, if_pos q.symm]
  · rw [if_neg q, if_neg (fun z => q z.symm)]
theorem st_inv (es : List Ev) : chkE es noM 0 = (-1, 0) → ∀ cl, StI (stOf cl es) (lastM es noM cl) := by
  refine snoc_ind (P := fun es => chkE es noM 0 = (-1, 0) → ∀ cl, StI (stOf cl es) (lastM es noM cl)) (fun _ cl => ⟨rfl, rfl⟩) (fun l a ih h cl => ?_) es
  have hp := chk_pre l [a] noM 0 h
  have ha := chk_app l [a] noM 0 hp
  rw [h] at ha
  obtain ⟨_, hm⟩ := chk_one ha.symm
  rw [lastM_snocC, stOf_snoc]
  unfold stStep
  have IH := ih hp cl
  by_cases q : a.client = cl
  · rw [if_pos q, if_pos q]
    rw [q] at hm
    unfold mayF at hm
    by_cases k : a.kind = 1
    · rw [if_pos k]
      simp only [k, if_true] at hm
      cases hl : lastM l noM cl with
      | none =>
        rw [hl] at hm IH
        refine ⟨by simp [k], ?_, fun _ => rfl⟩
        have e : a.op = 0 + 1 := by simpa using hm
        have e2 : (stOf cl l).ops = 0 := IH.2
        show (((stOf cl l).ops + 1 : Nat) : Int) = a.op
        omega
      | some x =>
        rw [hl] at hm IH
        refine ⟨by simp [k], ?_, fun _ => rfl⟩
        have e : a.op = x.op + 1 := by
          have := (Bool.and_eq_true _ _ ▸ hm).2
          simpa using this
        have e2 : ((stOf cl l).ops : Int) = x.op := IH.2.1
        show (((stOf cl l).ops + 1 : Nat) : Int) = a.op
        omega
    · rw [if_neg k]
      simp only [k, if_false] at hm
      cases hl : lastM l noM cl with
      | none =>
        rw [hl] at hm
        cases hm
      | some x =>
        rw [hl] at hm IH
        refine ⟨by simp [k], ?_, fun z => absurd z k⟩
        have e : a.op = x.op := by
          have h1 : ((decide (x.kind = 1) && decide (a.op = x.op)) && decide (a.put = x.put) && decide (a.key = x.key)) = true := hm
          simp only [Bool.and_eq_true, decide_eq_true_eq] at h1
          exact h1.1.1.2
        have e2 : ((stOf cl l).ops : Int) = x.op := IH.2.1
        show ((stOf cl l).ops : Int) = a.op
        omega
  · rw [if_neg q, if_neg q]
    exact IH
theorem st_may {es : List Ev} (h : chkE es noM 0 = (-1, 0)) (e : Ev) : stF es e = mayF (lastM es noM e.client) e := by
  have I := st_inv es h e.client
  unfold stF mayF
  cases hl : lastM es noM e.client with
  | none =>
    rw [hl] at I
    obtain ⟨i1, i2⟩ := I
    rw [i1, i2]
    simp
  | some x =>
    rw [hl] at I
    obtain ⟨i1, i2, i3⟩ := I
    rw [i1, i2]
    by_cases k : x.kind = 1
    · rw [i3 k]
      simp [k, eq_comm]
    · simp [k]
end Go.Proofs.YtbangbobfeflcaaGreatDoor
