import Derived.Test.YtbangbobfeflcaaGreatDoorHWo
import Derived.Deep.Cut
namespace Go.Proofs.YtbangbobfeflcaaGreatDoor
open Go.RowKit 

theorem wpList_append_text {ops : Array Oper} {rest : List Oper} {o : Oper} {a : Act} {Q : Exit → Act → World → Prop} (w : World) (hgd : o.guard = none) (s x : Operand)
    (ho : o.op = .call { callee := .builtin .append, args := #[s, x], argTypes := #[34, 9] })
    (base : Nat) (v : Value) (n : Nat) (l : List Nat) (hs : a.eval s = v) (hown : w.ownsRow base 5 1 v n (cellsOf l))
    (y : ByteArray) (k : List Nat) (hx : a.eval x = .string y) (hk : byteCells y = cellsOf k)
    (hbytes : n + y.size ≤ 140737488355328) (hbase : base ≤ w.heap.size)
    (h : ∀ p c w', Hid (w'.ownsRow base 5 1 (.slice p (n + y.size) c) (n + y.size) (cellsOf (l ++ k))) → Hid (w.grownBy w' v.ownBlock) → wpList Tryz.prog ops Q rest (a.put o.dst (.slice p (n + y.size) c)) w') : wpList Tryz.prog ops Q (o :: rest) a w := by
  have r : Src Tryz.prog 1 9 (.string y) y.size (byteCells y) w := Src.ofString w Tryz.underlying9 y
  rw [hk] at r
  refine wpList_append_all w hgd s x 34 5 9 (.int .u8 0) 1 1 ho Tryz.underlying34 Tryz.info5 rfl base v n (cellsOf l) hs hown _ _ (cellsOf k) hx r (by unfold maxLen; omega) (by omega) hbase fun p c w' h1 h2 _ => h p c w' ?_ h2
  rw [cellsOf_append]
  exact h1
structure QS (w : World) (l : List Nat) (p : Option Addr) (n c : Nat) (w' : World) : Prop where
  row : w'.ownsRow w.heap.size 5 1 (.slice p n c) n (cellsOf l)
  kept : Kept (fun _ => False) w w'
theorem QS.on {w w1 w2 : World} {l : List Nat} {p : Option Addr} {n c : Nat} (h : QS w l p n c w1) (K : Kept (fun _ => False) w1 w2) : QS w l p n c w2 := ⟨K.owns h.row (fun _ _ z => z), h.kept.trans K (fun _ _ z => z)⟩
theorem QS.grow {w w1 w2 : World} {l : List Nat} {p : Option Addr} {n c : Nat} (h : QS w l p n c w1) (hg : w1.grownBy w2 (Value.slice p n c).ownBlock) : Kept (fun _ => False) w w2 := by
  refine h.kept.own ((Kept.refl (fun j => blockOf p = some j) w1).grown hg (fun j _ z => by rw [blockOf_own] at z; exact z)) (fun b z => ?_)
  exact (own_lt h.row b z).1
set_option maxRecDepth 100000 in
theorem hQuotedK (w : World) : Calls Tryz.prog 62 #[.string ⟨#[107]⟩] w fun o w' => o = .returned (.string ⟨#[34, 107, 34]⟩) ∧ Kept (fun _ => False) w w' := by
  have mk : (Instr.makeSlice 34 (.int .i64 0) (.int .i64 3)).run Tryz.prog w = .ok (.slice (some ⟨w.heap.size, 0, none⟩) 0 3) (w.alloc (.cells #[.int .u8 0, .int .u8 0, .int .u8 0] 5)) := by kernel_rfl
  have S : Hid ((w.alloc (.cells #[.int .u8 0, .int .u8 0, .int .u8 0] 5)).ownsRow w.heap.size 5 1 (.slice (some ⟨w.heap.size, 0, none⟩) 0 3) 0 (cellsOf []) ∧ Kept (fun _ => False) w (w.alloc (.cells #[.int .u8 0, .int .u8 0, .int .u8 0] 5))) := by
    have K : Kept (fun _ => False) w (w.alloc (.cells #[.int .u8 0, .int .u8 0, .int .u8 0] 5)) := (Kept.refl _ _).alloc _
    exact ⟨⟨rfl, .inr ⟨w.heap.size, 3, #[.int .u8 0, .int .u8 0, .int .u8 0], rfl, Nat.le_refl _, alloc_new _ _, by omega, by unfold maxLen; omega, rfl, rfl⟩⟩, K⟩
  obtain ⟨W, hW⟩ : ∃ W, W = w.alloc (.cells #[.int .u8 0, .int .u8 0, .int .u8 0] 5) := ⟨_, rfl⟩
  rw [← hW] at mk S
  clear hW
  go_enter Tryz.func62, Tryz.ntmps62
  go_upto_region 2 with fail
  go_wp2_with
      (first
        | (at_builtin; refine wpList_append_text _ rfl (.tmp 10) (.const (.string ⟨#[34]⟩)) rfl w.heap.size (.slice (some ⟨w.heap.size, 0, none⟩) 0 3) 0 [] rfl S.out.1 ⟨#[34]⟩ [34] rfl rfl (by decide) S.out.2.size ?_; intro p1 c1 w1 ho hg)
        | fail)
  have Q1 : Hid (QS w [34] p1 1 c1 w1) := ⟨ho.out, Kept.own S.out.2 ((Kept.refl (fun j => j = w.heap.size) _).grown hg.out (fun j _ z => by rw [blockOf_own] at z; exact (Option.some.inj z).symm)) (fun b z => by have z : b = w.heap.size := z; omega)⟩
  clear ho hg mk S
  go_loopw [3, 4, 5, 14] (fun u3 _ _ u14 wr => ∃ (p : Option Addr) (c i : Nat), u3 = .slice p (i + 1) c ∧ u14 = .int .i64 (i : Int) ∧ i ≤ 1 ∧ Hid (QS w ([34, 107].take (i + 1)) p (i + 1) c wr)) (fun _ _ _ u14 _ => 1 - (intOf u14).toNat)
  case atStart => exact ⟨p1, c1, 0, rfl, rfl, by omega, Q1⟩
  case round =>
    obtain ⟨p, c, i, rfl, rfl, hi, S⟩ := hrel
    by_cases hlt : i < 1
    · obtain rfl : i = 0 := by omega
      have CP : Hid (∀ V, Calls Tryz.prog 91 #[.int .u8 107] V fun o w' => o = .returned (.bool true) ∧ w' = V) := fun V => hPlain 107 V
      have S1 : Hid (QS w [34] p 1 c wr) := S
      clear S Q1 hi hlt
      obtain ⟨V, hV⟩ : ∃ V, V = wr.alloc (.cells #[.int .u8 107] 5) := ⟨_, rfl⟩
      have KV : Hid (Kept (fun _ => False) wr V) := by rw [hV]; exact (Kept.refl _ _).alloc _
      have S2 : Hid (QS w [34] p 1 c V) := S1.out.on KV.out
      have RV : Hid (Reads V (some ⟨wr.heap.size, 0, none⟩) 1 1 [107]) := by
        have o : V.ownsRow wr.heap.size 5 1 (.slice (some ⟨wr.heap.size, 0, none⟩) 1 1) 1 (cellsOf [107]) := ⟨rfl, .inr ⟨wr.heap.size, 1, #[.int .u8 107], rfl, Nat.le_refl _, by rw [hV]; exact alloc_new _ _, by omega, by unfold maxLen; omega, rfl, rfl⟩⟩
        exact reads_own o (by decide)
      rw [hV] at KV S2 RV
      clear hV
      go_wp2_with fail
      refine (CP.out _).mono ?_
      rintro o w2 ⟨rfl, rfl⟩
      clear CP
      go_upto_region 10 with
        (first
          | (at_builtin; refine wpList_append_bytes _ rfl (.tmp 22) (.tmp 24) rfl w.heap.size (.slice p 1 c) 1 [34] rfl S2.out.row _ 1 [107] rfl RV.out.src (by omega) S2.out.kept.size ?_; intro p9 c9 w9 ho hg hn9)
          | fail)
      have NX : Hid (QS w [34, 107] p9 2 c9 w9) := ⟨ho.out, QS.grow S2.out hg.out⟩
      clear ho hg hn9 S2 RV KV S1
      go_wp2_with fail
      go_roundw
      case rel => exact ⟨p9, c9, 1, rfl, by go_num, by omega, NX⟩
      case measure => simp [intOf]
    · obtain rfl : i = 1 := by omega
      have S1 : Hid (QS w [34, 107] p 2 c wr) := S
      clear S Q1 hi hlt
      go_wp2_with
        (first
          | (at_builtin; refine wpList_append_text _ rfl (.tmp 36) (.const (.string ⟨#[34]⟩)) rfl w.heap.size (.slice p 2 c) 2 [34, 107] rfl S1.out.row ⟨#[34]⟩ [34] rfl rfl (by decide) S1.out.kept.size ?_; intro p9 c9 w9 ho hg; have cv : (convert 34 9 (.slice p9 3 c9)).run Tryz.prog w9 = .ok (.string ⟨#[34, 107, 34]⟩) w9 := (reads_own (l := [34, 107, 34]) ho.out (by decide)).string)
          | fail)
      have F : Hid (Kept (fun _ => False) w w9) := QS.grow S1.out hg.out
      go_ret
      exact ⟨by first | rfl | simp, F.out⟩
set_option maxRecDepth 100000 in
theorem hQuotedX (w : World) : Calls Tryz.prog 62 #[.string ⟨#[120]⟩] w fun o w' => o = .returned (.string ⟨#[34, 120, 34]⟩) ∧ Kept (fun _ => False) w w' := by
  have mk : (Instr.makeSlice 34 (.int .i64 0) (.int .i64 3)).run Tryz.prog w = .ok (.slice (some ⟨w.heap.size, 0, none⟩) 0 3) (w.alloc (.cells #[.int .u8 0, .int .u8 0, .int .u8 0] 5)) := by kernel_rfl
  have S : Hid ((w.alloc (.cells #[.int .u8 0, .int .u8 0, .int .u8 0] 5)).ownsRow w.heap.size 5 1 (.slice (some ⟨w.heap.size, 0, none⟩) 0 3) 0 (cellsOf []) ∧ Kept (fun _ => False) w (w.alloc (.cells #[.int .u8 0, .int .u8 0, .int .u8 0] 5))) := by
    have K : Kept (fun _ => False) w (w.alloc (.cells #[.int .u8 0, .int .u8 0, .int .u8 0] 5)) := (Kept.refl _ _).alloc _
    exact ⟨⟨rfl, .inr ⟨w.heap.size, 3, #[.int .u8 0, .int .u8 0, .int .u8 0], rfl, Nat.le_refl _, alloc_new _ _, by omega, by unfold maxLen; omega, rfl, rfl⟩⟩, K⟩
  obtain ⟨W, hW⟩ : ∃ W, W = w.alloc (.cells #[.int .u8 0, .int .u8 0, .int .u8 0] 5) := ⟨_, rfl⟩
  rw [← hW] at mk S
  clear hW
  go_enter Tryz.func62, Tryz.ntmps62
  go_upto_region 2 with fail
  go_wp2_with
      (first
        | (at_builtin; refine wpList_append_text _ rfl (.tmp 10) (.const (.string ⟨#[34]⟩)) rfl w.heap.size (.slice (some ⟨w.heap.size, 0, none⟩) 0 3) 0 [] rfl S.out.1 ⟨#[34]⟩ [34] rfl rfl (by decide) S.out.2.size ?_; intro p1 c1 w1 ho hg)
        | fail)
  have Q1 : Hid (QS w [34] p1 1 c1 w1) := ⟨ho.out, Kept.own S.out.2 ((Kept.refl (fun j => j = w.heap.size) _).grown hg.out (fun j _ z => by rw [blockOf_own] at z; exact (Option.some.inj z).symm)) (fun b z => by have z : b = w.heap.size := z; omega)⟩
  clear ho hg mk S
  go_loopw [3, 4, 5, 14] (fun u3 _ _ u14 wr => ∃ (p : Option Addr) (c i : Nat), u3 = .slice p (i + 1) c ∧ u14 = .int .i64 (i : Int) ∧ i ≤ 1 ∧ Hid (QS w ([34, 120].take (i + 1)) p (i + 1) c wr)) (fun _ _ _ u14 _ => 1 - (intOf u14).toNat)
  case atStart => exact ⟨p1, c1, 0, rfl, rfl, by omega, Q1⟩
  case round =>
    obtain ⟨p, c, i, rfl, rfl, hi, S⟩ := hrel
    by_cases hlt : i < 1
    · obtain rfl : i = 0 := by omega
      have CP : Hid (∀ V, Calls Tryz.prog 91 #[.int .u8 120] V fun o w' => o = .returned (.bool true) ∧ w' = V) := fun V => hPlain 120 V
      have S1 : Hid (QS w [34] p 1 c wr) := S
      clear S Q1 hi hlt
      obtain ⟨V, hV⟩ : ∃ V, V = wr.alloc (.cells #[.int .u8 120] 5) := ⟨_, rfl⟩
      have KV : Hid (Kept (fun _ => False) wr V) := by rw [hV]; exact (Kept.refl _ _).alloc _
      have S2 : Hid (QS w [34] p 1 c V) := S1.out.on KV.out
      have RV : Hid (Reads V (some ⟨wr.heap.size, 0, none⟩) 1 1 [120]) := by
        have o : V.ownsRow wr.heap.size 5 1 (.slice (some ⟨wr.heap.size, 0, none⟩) 1 1) 1 (cellsOf [120]) := ⟨rfl, .inr ⟨wr.heap.size, 1, #[.int .u8 120], rfl, Nat.le_refl _, by rw [hV]; exact alloc_new _ _, by omega, by unfold maxLen; omega, rfl, rfl⟩⟩
        exact reads_own o (by decide)
      rw [hV] at KV S2 RV
      clear hV
      go_wp2_with fail
      refine (CP.out _).mono ?_
      rintro o w2 ⟨rfl, rfl⟩
      clear CP
      go_upto_region 10 with
        (first
          | (at_builtin; refine wpList_append_bytes _ rfl (.tmp 22) (.tmp 24) rfl w.heap.size (.slice p 1 c) 1 [34] rfl S2.out.row _ 1 [120] rfl RV.out.src (by omega) S2.out.kept.size ?_; intro p9 c9 w9 ho hg hn9)
          | fail)
      have NX : Hid (QS w [34, 120] p9 2 c9 w9) := ⟨ho.out, QS.grow S2.out hg.out⟩
      clear ho hg hn9 S2 RV KV S1
      go_wp2_with fail
      go_roundw
      case rel => exact ⟨p9, c9, 1, rfl, by go_num, by omega, NX⟩
      case measure => simp [intOf]
    · obtain rfl : i = 1 := by omega
      have S1 : Hid (QS w [34, 120] p 2 c wr) := S
      clear S Q1 hi hlt
      go_wp2_with
        (first
          | (at_builtin; refine wpList_append_text _ rfl (.tmp 36) (.const (.string ⟨#[34]⟩)) rfl w.heap.size (.slice p 2 c) 2 [34, 120] rfl S1.out.row ⟨#[34]⟩ [34] rfl rfl (by decide) S1.out.kept.size ?_; intro p9 c9 w9 ho hg; have cv : (convert 34 9 (.slice p9 3 c9)).run Tryz.prog w9 = .ok (.string ⟨#[34, 120, 34]⟩) w9 := (reads_own (l := [34, 120, 34]) ho.out (by decide)).string)
          | fail)
      have F : Hid (Kept (fun _ => False) w w9) := QS.grow S1.out hg.out
      go_ret
      exact ⟨by first | rfl | simp, F.out⟩
end Go.Proofs.YtbangbobfeflcaaGreatDoor
