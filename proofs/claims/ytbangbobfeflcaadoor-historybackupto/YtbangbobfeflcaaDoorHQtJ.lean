import Derived.Test.YtbangbobfeflcaaDoorHSc
import Derived.Deep.Cut
namespace Go.Proofs.YtbangbobfeflcaaDoor
open Go.RowKit 

theorem kcs_get : ∀ (L : List Ca) (i : Nat) (h : i < L.length) (k : Nat), k < 11 → (kcs L)[i * 11 + k]? = L[i].cs[k]?
  | [], i, h, _, _ => absurd h (by simp)
  | a :: L, 0, _, k, hk => by
    have e : kcs (a :: L) = a.cs.toList ++ kcs L := by unfold kcs; simp
    have el : a.cs.toList.length = 11 := rfl
    rw [e, Nat.zero_mul, Nat.zero_add, List.getElem?_append_left (by rw [el]; exact hk), Array.getElem?_toList]
    rfl
  | a :: L, i + 1, h, k, hk => by
    have e : kcs (a :: L) = a.cs.toList ++ kcs L := by unfold kcs; simp
    have el : a.cs.toList.length = 11 := rfl
    rw [e, List.getElem?_append_right (by rw [el]; omega), el, show (i + 1) * 11 + k - 11 = i * 11 + k by omega]
    exact kcs_get L i (by simpa using h) k hk
theorem KaR.crd {b0 : Nat} {w : World} {p : Option Addr} {k c : Nat} {L : List Ca} (h : KaR b0 w p k c L) (hb : ∀ x ∈ L, ∀ y ∈ x.val, y < 256) : CaRd w p k c L := by
  obtain ⟨r1, r2⟩ := own_room h.row
  refine ⟨h.len, r1, r2, fun h0 => ?_, fun x hx => reads_own (h.val x hx) (hb x hx)⟩
  rcases h.row.2 with ⟨_, hn⟩ | ⟨g, cap, cur, z, _⟩
  · omega
  · have z : Value.slice p k c = .slice (some ⟨g, 0, none⟩) k cap := z
    injection z with z1 _ z3
    subst z1
    subst z3
    have hc := h.row.cells (g := g) rfl
    refine ⟨g, 0, rfl, fun i hi j v hv => ?_⟩
    have hj : j < 11 := by
      obtain ⟨h1, _⟩ := Array.getElem?_eq_some_iff.1 hv
      have : L[i].cs.size = 11 := rfl
      omega
    have := hc (i * 11 + j) v (by rw [kcs_get L i hi j hj]; exact hv)
    rw [Addr.add_none, Nat.zero_add] at this
    rw [Nat.zero_add]
    exact this
theorem callP_val {es : List Ev} : ∀ {pl : List Nat} {c : Cc}, callP es pl = some c → ∃ e ∈ es, c.val = e.val
  | [], c, h => by cases h
  | [p], c, h => by
    have h : (es[p]?).map (fun b => beginC b p) = some c := h
    obtain ⟨e, he, rfl⟩ := Option.map_eq_some_iff.1 h
    exact ⟨e, List.mem_of_getElem? he, rfl⟩
  | p :: q :: r, c, h => by
    have h : (match es[p]?, es[q]? with | some b, some x => some (endC (beginC b p) x q) | _, _ => none) = some c := h
    cases hp : es[p]? with
    | none => rw [hp] at h; cases h
    | some b =>
      cases hq : es[q]? with
      | none => rw [hp, hq] at h; cases h
      | some x =>
        rw [hp, hq] at h
        have h := Option.some.inj h
        rw [← h]
        unfold endC
        split
        · exact ⟨b, List.mem_of_getElem? hp, rfl⟩
        · split
          · exact ⟨x, List.mem_of_getElem? hq, rfl⟩
          · split
            · exact ⟨b, List.mem_of_getElem? hp, rfl⟩
            · exact ⟨b, List.mem_of_getElem? hp, rfl⟩
theorem told_bytes {w : World} {p0 : Option Addr} {n c0 : Nat} {es : List Ev} (er : ERd w p0 n c0 es) {L : List Ca} (h : L.map (fun x => some x.cc) = callsE es) : ∀ x ∈ L, ∀ y ∈ x.val, y < 256 := by
  intro x hx y hy
  have hm : some x.cc ∈ callsE es := by rw [← h]; exact List.mem_map.2 ⟨x, hx, rfl⟩
  unfold callsE at hm
  obtain ⟨i, _, hi⟩ := List.mem_map.1 hm
  obtain ⟨e, he, ev⟩ := callP_val hi
  have ev : x.val = e.val := ev
  rw [ev] at hy
  exact (er.rd e he).bytes y hy
def endB (st : Int) : ByteArray := if st = 0 then ⟨#[111, 107]⟩ else if st = 42 then ⟨#[102, 117, 108, 108]⟩ else if st = 76 then ⟨#[97, 98, 115, 101, 110, 116]⟩ else ⟨#[119, 114, 111, 110, 103]⟩
theorem hEndWord (st : Int) (w : World) : Calls Tryd.prog 33 #[.int .i64 st] w fun o w' => o = .returned (.string (endB st)) ∧ w' = w := by
  obtain ⟨v, hv⟩ : ∃ v, v = endB st := ⟨_, rfl⟩
  have HV : Hid (v = endB st) := hv
  rw [← hv]
  clear hv
  unfold endB at HV
  go_enter Tryd.func33, Tryd.ntmps33
  by_cases h0 : st = 0
  · subst h0
    have A : v = ⟨#[111, 107]⟩ := by rw [HV.out]; rfl
    subst A
    clear HV
    go_wp2_with fail
    go_ret
    exact ⟨by first | rfl | simp, rfl⟩
  · have q0 : (st == 0) = false := by simp [h0]
    by_cases h1 : st = 42
    · subst h1
      have A : v = ⟨#[102, 117, 108, 108]⟩ := by rw [HV.out]; rfl
      subst A
      clear HV
      go_wp2_with fail
      go_ret
      exact ⟨by first | rfl | simp, rfl⟩
    · have q1 : (st == 42) = false := by simp [h1]
      by_cases h2 : st = 76
      · subst h2
        have A : v = ⟨#[97, 98, 115, 101, 110, 116]⟩ := by rw [HV.out]; rfl
        subst A
        clear HV
        go_wp2_with fail
        go_ret
        exact ⟨by first | rfl | simp, rfl⟩
      · have q2 : (st == 76) = false := by simp [h2]
        have A : v = ⟨#[119, 114, 111, 110, 103]⟩ := by rw [HV.out, if_neg h0, if_neg h1, if_neg h2]
        subst A
        clear HV
        go_wp2_with fail
        go_ret
        exact ⟨by first | rfl | simp, rfl⟩
end Go.Proofs.YtbangbobfeflcaaDoor

namespace Go.Proofs.YtbangbobfeflcaaDoor
open Go.RowKit 

def plainB (c : Int) : Bool := decide (32 ≤ c) && decide (c ≤ 126) && (c != 34) && (c != 92)
theorem hPlain (c : Int) (w : World) : Calls Tryd.prog 50 #[.int .u8 c] w fun o w' => o = .returned (.bool (plainB c)) ∧ w' = w := by
  unfold plainB
  obtain ⟨t1, e1⟩ : ∃ t, decide (32 ≤ c) = t := ⟨_, rfl⟩
  obtain ⟨t2, e2⟩ : ∃ t, decide (c ≤ 126) = t := ⟨_, rfl⟩
  rw [e1, e2]
  go_enter Tryd.func50, Tryd.ntmps50
  cases t1
  · go_wp2_with fail
    go_ret
    exact ⟨by first | rfl | simp, rfl⟩
  · cases t2
    · go_wp2_with fail
      go_ret
      exact ⟨by first | rfl | simp, rfl⟩
    · by_cases h3 : c = 34
      · subst h3
        go_wp2_with fail
        go_ret
        exact ⟨by first | rfl | simp, rfl⟩
      · go_wp2_with fail
        go_ret
        exact ⟨by first | rfl | simp, rfl⟩
def statusB (s : ByteArray) : Int := if (s.toList == [111, 107]) = true then 0 else if (s.toList == [102, 117, 108, 108]) = true then 42 else if (s.toList == [97, 98, 115, 101, 110, 116]) = true then 76 else 26
theorem hStatusOf (s : ByteArray) (w : World) : Calls Tryd.prog 42 #[.string s] w fun o w' => o = .returned (.int .i64 (statusB s)) ∧ w' = w := by
  unfold statusB
  obtain ⟨t1, e1⟩ : ∃ t, (s.toList == [111, 107]) = t := ⟨_, rfl⟩
  obtain ⟨t2, e2⟩ : ∃ t, (s.toList == [102, 117, 108, 108]) = t := ⟨_, rfl⟩
  obtain ⟨t3, e3⟩ : ∃ t, (s.toList == [97, 98, 115, 101, 110, 116]) = t := ⟨_, rfl⟩
  rw [e1, e2, e3]
  go_enter Tryd.func42, Tryd.ntmps42
  cases t1
  · cases t2
    · cases t3
      · go_wp2_with fail
        go_ret
        exact ⟨by first | rfl | simp, rfl⟩
      · go_wp2_with fail
        go_ret
        exact ⟨by first | rfl | simp, rfl⟩
    · go_wp2_with fail
      go_ret
      exact ⟨by first | rfl | simp, rfl⟩
  · go_wp2_with fail
    go_ret
    exact ⟨by first | rfl | simp, rfl⟩
end Go.Proofs.YtbangbobfeflcaaDoor

namespace Go.Proofs.YtbangbobfeflcaaDoor
open Go.RowKit 

theorem wpList_append_text {ops : Array Oper} {rest : List Oper} {o : Oper} {a : Act} {Q : Exit → Act → World → Prop} (w : World) (hgd : o.guard = none) (s x : Operand)
    (ho : o.op = .call { callee := .builtin .append, args := #[s, x], argTypes := #[41, 9] })
    (base : Nat) (v : Value) (n : Nat) (l : List Nat) (hs : a.eval s = v) (hown : w.ownsRow base 5 1 v n (cellsOf l))
    (y : ByteArray) (k : List Nat) (hx : a.eval x = .string y) (hk : byteCells y = cellsOf k)
    (hbytes : n + y.size ≤ 140737488355328) (hbase : base ≤ w.heap.size)
    (h : ∀ p c w', Hid (w'.ownsRow base 5 1 (.slice p (n + y.size) c) (n + y.size) (cellsOf (l ++ k))) → Hid (w.grownBy w' v.ownBlock) → wpList Tryd.prog ops Q rest (a.put o.dst (.slice p (n + y.size) c)) w') : wpList Tryd.prog ops Q (o :: rest) a w := by
  have r : Src Tryd.prog 1 9 (.string y) y.size (byteCells y) w := Src.ofString w Tryd.underlying9 y
  rw [hk] at r
  refine wpList_append_all w hgd s x 41 5 9 (.int .u8 0) 1 1 ho Tryd.underlying41 Tryd.info5 rfl base v n (cellsOf l) hs hown _ _ (cellsOf k) hx r (by unfold maxLen; omega) (by omega) hbase fun p c w' h1 h2 _ => h p c w' ?_ h2
  rw [cellsOf_append]
  exact h1
structure QS (w : World) (l : List Nat) (p : Option Addr) (n c : Nat) (w' : World) : Prop where
  row : w'.ownsRow w.heap.size 5 1 (.slice p n c) n (cellsOf l)
  kept : Kept (fun _ => False) w w'
theorem QS.on {w w1 w2 : World} {l : List Nat} {p : Option Addr} {n c : Nat} (h : QS w l p n c w1) (K : Kept (fun _ => False) w1 w2) : QS w l p n c w2 := ⟨K.owns h.row (fun _ _ z => z), h.kept.trans K (fun _ _ z => z)⟩
theorem QS.grow {w w1 w2 : World} {l : List Nat} {p : Option Addr} {n c : Nat} (h : QS w l p n c w1) (hg : w1.grownBy w2 (Value.slice p n c).ownBlock) : Kept (fun _ => False) w w2 := by
  refine h.kept.own ((Kept.refl (fun j => blockOf p = some j) w1).grown hg (fun j _ z => by rw [blockOf_own] at z; exact z)) (fun b z => ?_)
  exact (own_lt h.row b z).1
set_option maxRecDepth 100000 in
theorem hQuotedK (w : World) : Calls Tryd.prog 32 #[.string ⟨#[107]⟩] w fun o w' => o = .returned (.string ⟨#[34, 107, 34]⟩) ∧ Kept (fun _ => False) w w' := by
  have mk : (Instr.makeSlice 41 (.int .i64 0) (.int .i64 3)).run Tryd.prog w = .ok (.slice (some ⟨w.heap.size, 0, none⟩) 0 3) (w.alloc (.cells #[.int .u8 0, .int .u8 0, .int .u8 0] 5)) := by kernel_rfl
  have S : Hid ((w.alloc (.cells #[.int .u8 0, .int .u8 0, .int .u8 0] 5)).ownsRow w.heap.size 5 1 (.slice (some ⟨w.heap.size, 0, none⟩) 0 3) 0 (cellsOf []) ∧ Kept (fun _ => False) w (w.alloc (.cells #[.int .u8 0, .int .u8 0, .int .u8 0] 5))) := by
    have K : Kept (fun _ => False) w (w.alloc (.cells #[.int .u8 0, .int .u8 0, .int .u8 0] 5)) := (Kept.refl _ _).alloc _
    exact ⟨⟨rfl, .inr ⟨w.heap.size, 3, #[.int .u8 0, .int .u8 0, .int .u8 0], rfl, Nat.le_refl _, alloc_new _ _, by omega, by unfold maxLen; omega, rfl, rfl⟩⟩, K⟩
  obtain ⟨W, hW⟩ : ∃ W, W = w.alloc (.cells #[.int .u8 0, .int .u8 0, .int .u8 0] 5) := ⟨_, rfl⟩
  rw [← hW] at mk S
  clear hW
  go_enter Tryd.func32, Tryd.ntmps32
  go_upto_region 2 with fail
  go_wp2_with
      (first
        | (at_builtin; refine wpList_append_text _ rfl (.tmp 10) (.const (.string ⟨#[34]⟩)) rfl w.heap.size (.slice (some ⟨w.heap.size, 0, none⟩) 0 3) 0 [] rfl S.out.1 ⟨#[34]⟩ [34] rfl rfl (by decide) S.out.2.size ?_; intro p1 c1 w1 ho hg)
        | fail)
  have Q1 : Hid (QS w [34] p1 1 c1 w1) := ⟨ho.out, Kept.own S.out.2 ((Kept.refl (fun j => j = w.heap.size) _).grown hg.out (fun j _ z => by rw [blockOf_own] at z; exact (Option.some.inj z).symm)) (fun b z => by have z : b = w.heap.size := z; omega)⟩
  clear ho hg mk S
  go_loopw [3, 4, 5, 14] (fun u3 _ _ u14 wr => ∃ (p : Option Addr) (c i : Nat), u3 = .slice p (i + 1) c ∧ u14 = .int .i64 (i : Int) ∧ i ≤ 1 ∧ Hid (QS w ([34, 107].take (i + 1)) p (i + 1) c wr)) (fun _ _ _ u14 _ => 1 - (intOf u14).toNat)
  case atStart => exact ⟨p1, c1, 0, rfl, rfl, by omega, Q1⟩
  case round =>
    obtain ⟨p, c, i, rfl, rfl, hi, S⟩ := hrel
    by_cases hlt : i < 1
    · obtain rfl : i = 0 := by omega
      have CP : Hid (∀ V, Calls Tryd.prog 50 #[.int .u8 107] V fun o w' => o = .returned (.bool true) ∧ w' = V) := fun V => hPlain 107 V
      have S1 : Hid (QS w [34] p 1 c wr) := S
      clear S Q1 hi hlt
      obtain ⟨V, hV⟩ : ∃ V, V = wr.alloc (.cells #[.int .u8 107] 5) := ⟨_, rfl⟩
      have KV : Hid (Kept (fun _ => False) wr V) := by rw [hV]; exact (Kept.refl _ _).alloc _
      have S2 : Hid (QS w [34] p 1 c V) := S1.out.on KV.out
      have RV : Hid (Reads V (some ⟨wr.heap.size, 0, none⟩) 1 1 [107]) := by
        have o : V.ownsRow wr.heap.size 5 1 (.slice (some ⟨wr.heap.size, 0, none⟩) 1 1) 1 (cellsOf [107]) := ⟨rfl, .inr ⟨wr.heap.size, 1, #[.int .u8 107], rfl, Nat.le_refl _, by rw [hV]; exact alloc_new _ _, by omega, by unfold maxLen; omega, rfl, rfl⟩⟩
        exact reads_own o (by decide)
      rw [hV] at KV S2 RV
      clear hV
      go_wp2_with fail
      refine (CP.out _).mono ?_
      rintro o w2 ⟨rfl, rfl⟩
      clear CP
      go_upto_region 10 with
        (first
          | (at_builtin; refine wpList_append_bytes _ rfl (.tmp 22) (.tmp 24) rfl w.heap.size (.slice p 1 c) 1 [34] rfl S2.out.row _ 1 [107] rfl RV.out.src (by omega) S2.out.kept.size ?_; intro p9 c9 w9 ho hg hn9)
          | fail)
      have NX : Hid (QS w [34, 107] p9 2 c9 w9) := ⟨ho.out, QS.grow S2.out hg.out⟩
      clear ho hg hn9 S2 RV KV S1
      go_wp2_with fail
      go_roundw
      case rel => exact ⟨p9, c9, 1, rfl, by go_num, by omega, NX⟩
      case measure => simp [intOf]
    · obtain rfl : i = 1 := by omega
      have S1 : Hid (QS w [34, 107] p 2 c wr) := S
      clear S Q1 hi hlt
      go_wp2_with
        (first
          | (at_builtin; refine wpList_append_text _ rfl (.tmp 36) (.const (.string ⟨#[34]⟩)) rfl w.heap.size (.slice p 2 c) 2 [34, 107] rfl S1.out.row ⟨#[34]⟩ [34] rfl rfl (by decide) S1.out.kept.size ?_; intro p9 c9 w9 ho hg; have cv : (convert 41 9 (.slice p9 3 c9)).run Tryd.prog w9 = .ok (.string ⟨#[34, 107, 34]⟩) w9 := (reads_own (l := [34, 107, 34]) ho.out (by decide)).string)
          | fail)
      have F : Hid (Kept (fun _ => False) w w9) := QS.grow S1.out hg.out
      go_ret
      exact ⟨by first | rfl | simp, F.out⟩
set_option maxRecDepth 100000 in
theorem hQuotedX (w : World) : Calls Tryd.prog 32 #[.string ⟨#[120]⟩] w fun o w' => o = .returned (.string ⟨#[34, 120, 34]⟩) ∧ Kept (fun _ => False) w w' := by
  have mk : (Instr.makeSlice 41 (.int .i64 0) (.int .i64 3)).run Tryd.prog w = .ok (.slice (some ⟨w.heap.size, 0, none⟩) 0 3) (w.alloc (.cells #[.int .u8 0, .int .u8 0, .int .u8 0] 5)) := by kernel_rfl
  have S : Hid ((w.alloc (.cells #[.int .u8 0, .int .u8 0, .int .u8 0] 5)).ownsRow w.heap.size 5 1 (.slice (some ⟨w.heap.size, 0, none⟩) 0 3) 0 (cellsOf []) ∧ Kept (fun _ => False) w (w.alloc (.cells #[.int .u8 0, .int .u8 0, .int .u8 0] 5))) := by
    have K : Kept (fun _ => False) w (w.alloc (.cells #[.int .u8 0, .int .u8 0, .int .u8 0] 5)) := (Kept.refl _ _).alloc _
    exact ⟨⟨rfl, .inr ⟨w.heap.size, 3, #[.int .u8 0, .int .u8 0, .int .u8 0], rfl, Nat.le_refl _, alloc_new _ _, by omega, by unfold maxLen; omega, rfl, rfl⟩⟩, K⟩
  obtain ⟨W, hW⟩ : ∃ W, W = w.alloc (.cells #[.int .u8 0, .int .u8 0, .int .u8 0] 5) := ⟨_, rfl⟩
  rw [← hW] at mk S
  clear hW
  go_enter Tryd.func32, Tryd.ntmps32
  go_upto_region 2 with fail
  go_wp2_with
      (first
        | (at_builtin; refine wpList_append_text _ rfl (.tmp 10) (.const (.string ⟨#[34]⟩)) rfl w.heap.size (.slice (some ⟨w.heap.size, 0, none⟩) 0 3) 0 [] rfl S.out.1 ⟨#[34]⟩ [34] rfl rfl (by decide) S.out.2.size ?_; intro p1 c1 w1 ho hg)
        | fail)
  have Q1 : Hid (QS w [34] p1 1 c1 w1) := ⟨ho.out, Kept.own S.out.2 ((Kept.refl (fun j => j = w.heap.size) _).grown hg.out (fun j _ z => by rw [blockOf_own] at z; exact (Option.some.inj z).symm)) (fun b z => by have z : b = w.heap.size := z; omega)⟩
  clear ho hg mk S
  go_loopw [3, 4, 5, 14] (fun u3 _ _ u14 wr => ∃ (p : Option Addr) (c i : Nat), u3 = .slice p (i + 1) c ∧ u14 = .int .i64 (i : Int) ∧ i ≤ 1 ∧ Hid (QS w ([34, 120].take (i + 1)) p (i + 1) c wr)) (fun _ _ _ u14 _ => 1 - (intOf u14).toNat)
  case atStart => exact ⟨p1, c1, 0, rfl, rfl, by omega, Q1⟩
  case round =>
    obtain ⟨p, c, i, rfl, rfl, hi, S⟩ := hrel
    by_cases hlt : i < 1
    · obtain rfl : i = 0 := by omega
      have CP : Hid (∀ V, Calls Tryd.prog 50 #[.int .u8 120] V fun o w' => o = .returned (.bool true) ∧ w' = V) := fun V => hPlain 120 V
      have S1 : Hid (QS w [34] p 1 c wr) := S
      clear S Q1 hi hlt
      obtain ⟨V, hV⟩ : ∃ V, V = wr.alloc (.cells #[.int .u8 120] 5) := ⟨_, rfl⟩
      have KV : Hid (Kept (fun _ => False) wr V) := by rw [hV]; exact (Kept.refl _ _).alloc _
      have S2 : Hid (QS w [34] p 1 c V) := S1.out.on KV.out
      have RV : Hid (Reads V (some ⟨wr.heap.size, 0, none⟩) 1 1 [120]) := by
        have o : V.ownsRow wr.heap.size 5 1 (.slice (some ⟨wr.heap.size, 0, none⟩) 1 1) 1 (cellsOf [120]) := ⟨rfl, .inr ⟨wr.heap.size, 1, #[.int .u8 120], rfl, Nat.le_refl _, by rw [hV]; exact alloc_new _ _, by omega, by unfold maxLen; omega, rfl, rfl⟩⟩
        exact reads_own o (by decide)
      rw [hV] at KV S2 RV
      clear hV
      go_wp2_with fail
      refine (CP.out _).mono ?_
      rintro o w2 ⟨rfl, rfl⟩
      clear CP
      go_upto_region 10 with
        (first
          | (at_builtin; refine wpList_append_bytes _ rfl (.tmp 22) (.tmp 24) rfl w.heap.size (.slice p 1 c) 1 [34] rfl S2.out.row _ 1 [120] rfl RV.out.src (by omega) S2.out.kept.size ?_; intro p9 c9 w9 ho hg hn9)
          | fail)
      have NX : Hid (QS w [34, 120] p9 2 c9 w9) := ⟨ho.out, QS.grow S2.out hg.out⟩
      clear ho hg hn9 S2 RV KV S1
      go_wp2_with fail
      go_roundw
      case rel => exact ⟨p9, c9, 1, rfl, by go_num, by omega, NX⟩
      case measure => simp [intOf]
    · obtain rfl : i = 1 := by omega
      have S1 : Hid (QS w [34, 120] p 2 c wr) := S
      clear S Q1 hi hlt
      go_wp2_with
        (first
          | (at_builtin; refine wpList_append_text _ rfl (.tmp 36) (.const (.string ⟨#[34]⟩)) rfl w.heap.size (.slice p 2 c) 2 [34, 120] rfl S1.out.row ⟨#[34]⟩ [34] rfl rfl (by decide) S1.out.kept.size ?_; intro p9 c9 w9 ho hg; have cv : (convert 41 9 (.slice p9 3 c9)).run Tryd.prog w9 = .ok (.string ⟨#[34, 120, 34]⟩) w9 := (reads_own (l := [34, 120, 34]) ho.out (by decide)).string)
          | fail)
      have F : Hid (Kept (fun _ => False) w w9) := QS.grow S1.out hg.out
      go_ret
      exact ⟨by first | rfl | simp, F.out⟩
end Go.Proofs.YtbangbobfeflcaaDoor
