import Derived.Test.YtbangbobfeflcaaGreatDoorHCoJ
import Derived.Deep.Cut
import Derived.BigQuiet
namespace Go.Proofs.YtbangbobfeflcaaGreatDoor
open Go.RowKit 

def kcs (L : List Ca) : List Value := L.flatMap fun c => c.cs.toList
theorem kcs_append (a b : List Ca) : kcs (a ++ b) = kcs a ++ kcs b := by unfold kcs; rw [List.flatMap_append]
/-- A list of calls of one's own, whose bytes lie in rows of their own. -/
structure KaR (b0 : Nat) (w : World) (p : Option Addr) (k c : Nat) (L : List Ca) : Prop where
  len : L.length = k
  row : w.ownsRow b0 58 11 (.slice p k c) k (kcs L)
  val : ∀ x ∈ L, w.ownsRow b0 5 1 (.slice x.va x.vn x.vc) x.vn (cellsOf x.val)
theorem KaR.k0 {b0 : Nat} {w w' : World} {p : Option Addr} {k c : Nat} {L : List Ca} (h : KaR b0 w p k c L) (K : Kept (fun _ => False) w w') : KaR b0 w' p k c L := ⟨h.len, K.owns h.row (fun _ _ z => z), fun x hx => K.owns (h.val x hx) (fun _ _ z => z)⟩
theorem KaR.more {b0 : Nat} {w w9 W0 : World} {p p9 : Option Addr} {k c c9 : Nat} {L : List Ca} {x : Ca} (h : KaR b0 w p k c L) (hx : w.ownsRow b0 5 1 (.slice x.va x.vn x.vc) x.vn (cellsOf x.val)) (ho : w9.ownsRow b0 58 11 (.slice p9 (k + 1) c9) (k + 1) (kcs L ++ kcs [x])) (hg : w.grownBy w9 (Value.slice p k c).ownBlock) (K0 : Kept (fun _ => False) W0 w) (hb : W0.heap.size ≤ b0) : KaR b0 w9 p9 (k + 1) c9 (L ++ [x]) ∧ Kept (fun _ => False) W0 w9 := by
  have KG : Kept (fun j => blockOf p = some j) w w9 := (Kept.refl (fun j => blockOf p = some j) w).grown hg (fun j _ z => by rw [blockOf_own] at z; exact z)
  have ap : ∀ y : Ca, w.ownsRow b0 5 1 (.slice y.va y.vn y.vc) y.vn (cellsOf y.val) → w9.ownsRow b0 5 1 (.slice y.va y.vn y.vc) y.vn (cellsOf y.val) := fun y hy => KG.owns hy (fun j z q => by
    rw [blockOf_own] at z
    obtain ⟨c1, e1⟩ := own_type hy j z
    obtain ⟨c2, e2⟩ := own_type h.row j q
    rw [e1] at e2
    simp at e2)
  refine ⟨⟨by rw [List.length_append, h.len]; rfl, by rw [kcs_append]; exact ho, fun y hy => ?_⟩, Kept.own K0 KG (fun j z => by have := (own_lt h.row j z).1; omega)⟩
  rcases List.mem_append.1 hy with z | z
  · exact ap y (h.val y z)
  · rw [List.mem_singleton] at z
    rw [z]
    exact ap x hx
def RetK (Q : Option Addr → Nat → Nat → Int → World → Prop) (o : Ending) (w : World) : Prop := ∃ (q : Option Addr) (k c : Nat) (e : Int), o = .returned (.tuple #[.slice q k c, .int .i64 e]) ∧ Q q k c e w
theorem RetK.mk {Q : Option Addr → Nat → Nat → Int → World → Prop} {o : Ending} {w : World} (q : Option Addr) (k c : Nat) (e : Int) (h : o = .returned (.tuple #[.slice q k c, .int .i64 e])) (hq : Q q k c e w) : RetK Q o w := ⟨q, k, c, e, h, hq⟩
end Go.Proofs.YtbangbobfeflcaaGreatDoor

namespace Go.Proofs.YtbangbobfeflcaaGreatDoor
open Go.RowKit 

theorem KaR.mono {b0 b1 : Nat} {w : World} {p : Option Addr} {k c : Nat} {L : List Ca} (h : KaR b0 w p k c L) (hb : b1 ≤ b0) : KaR b1 w p k c L := ⟨h.len, owns_mono h.row hb, fun x hx => owns_mono (h.val x hx) hb⟩
end Go.Proofs.YtbangbobfeflcaaGreatDoor

namespace Go.Proofs.YtbangbobfeflcaaGreatDoor
open Go.RowKit 

/-- A list of calls reads so. -/
structure CaRd (w : World) (p : Option Addr) (n c : Nat) (L : List Ca) : Prop where
  len : L.length = n
  room : n ≤ c
  small : c ≤ maxLen
  cells : 0 < n → ∃ b off, p = some ⟨b, off, none⟩ ∧ ∀ i (h : i < L.length) k v, L[i].cs[k]? = some v → w.cell? ⟨b, off + i * 11 + k, none⟩ = some v
  rd : ∀ x ∈ L, Reads w x.va x.vn x.vc x.val
theorem CaRd.at {w : World} {p : Option Addr} {n c : Nat} {L : List Ca} (h : CaRd w p n c L) {i : Nat} (hi : i < n) : ∃ b off x, p = some ⟨b, off, none⟩ ∧ L[i]? = some x ∧ w.cell? ⟨b, off + i * 11, none⟩ = some (.int .i64 x.client) ∧ w.cell? ⟨b, off + i * 11 + 1, none⟩ = some (.int .i64 x.op) ∧ w.cell? ⟨b, off + i * 11 + 2, none⟩ = some (.bool x.put) ∧ w.cell? ⟨b, off + i * 11 + 3, none⟩ = some (.string x.key) ∧ w.cell? ⟨b, off + i * 11 + 4, none⟩ = some (.slice x.va x.vn x.vc) ∧ w.cell? ⟨b, off + i * 11 + 5, none⟩ = some (.int .i64 x.st) ∧ w.cell? ⟨b, off + i * 11 + 6, none⟩ = some (.int .i64 x.frm) ∧ w.cell? ⟨b, off + i * 11 + 7, none⟩ = some (.int .i64 x.too) ∧ w.cell? ⟨b, off + i * 11 + 8, none⟩ = some (.bool x.opn) ∧ w.cell? ⟨b, off + i * 11 + 9, none⟩ = some (.int .i64 x.tx) ∧ w.cell? ⟨b, off + i * 11 + 10, none⟩ = some (.int .i64 x.ty) ∧ Reads w x.va x.vn x.vc x.val := by
  obtain ⟨b, off, e, hc⟩ := h.cells (by omega)
  have hi2 : i < L.length := by rw [h.len]; exact hi
  exact ⟨b, off, L[i], e, List.getElem?_eq_getElem hi2, hc i hi2 0 _ rfl, hc i hi2 1 _ rfl, hc i hi2 2 _ rfl, hc i hi2 3 _ rfl, hc i hi2 4 _ rfl, hc i hi2 5 _ rfl, hc i hi2 6 _ rfl, hc i hi2 7 _ rfl, hc i hi2 8 _ rfl, hc i hi2 9 _ rfl, hc i hi2 10 _ rfl, h.rd _ (List.getElem_mem hi2)⟩
theorem CaRd.k0 {w w' : World} {p : Option Addr} {n c : Nat} {L : List Ca} (h : CaRd w p n c L) (K : Kept (fun _ => False) w w') : CaRd w' p n c L := by
  refine ⟨h.len, h.room, h.small, fun h0 => ?_, fun x hx => Reads.kept K (h.rd x hx) (fun _ _ z => z)⟩
  obtain ⟨b, off, e, hc⟩ := h.cells h0
  exact ⟨b, off, e, fun i hi k v hv => K.cell (hc i hi k v hv) (fun z => z)⟩
end Go.Proofs.YtbangbobfeflcaaGreatDoor

namespace Go.Proofs.YtbangbobfeflcaaGreatDoor
open Go.RowKit 

def endB (st : Int) : ByteArray := if st = 0 then ⟨#[111, 107]⟩ else if st = 42 then ⟨#[102, 117, 108, 108]⟩ else if st = 76 then ⟨#[97, 98, 115, 101, 110, 116]⟩ else ⟨#[119, 114, 111, 110, 103]⟩
theorem hEndWord (st : Int) (w : World) : Calls Tryz.prog 63 #[.int .i64 st] w fun o w' => o = .returned (.string (endB st)) ∧ w' = w := by
  obtain ⟨v, hv⟩ : ∃ v, v = endB st := ⟨_, rfl⟩
  have HV : Hid (v = endB st) := hv
  rw [← hv]
  clear hv
  unfold endB at HV
  go_enter Tryz.func63, Tryz.ntmps63
  by_cases h0 : st = 0
  · subst h0
    have A : v = ⟨#[111, 107]⟩ := by rw [HV.out]; rfl
    subst A
    clear HV
    go_wp2_with fail
    go_ret
    exact ⟨by first | rfl | simp, rfl⟩
  · have q0 : (st == 0) = false := by simp [h0]
    by_cases h1 : st = 42
    · subst h1
      have A : v = ⟨#[102, 117, 108, 108]⟩ := by rw [HV.out]; rfl
      subst A
      clear HV
      go_wp2_with fail
      go_ret
      exact ⟨by first | rfl | simp, rfl⟩
    · have q1 : (st == 42) = false := by simp [h1]
      by_cases h2 : st = 76
      · subst h2
        have A : v = ⟨#[97, 98, 115, 101, 110, 116]⟩ := by rw [HV.out]; rfl
        subst A
        clear HV
        go_wp2_with fail
        go_ret
        exact ⟨by first | rfl | simp, rfl⟩
      · have q2 : (st == 76) = false := by simp [h2]
        have A : v = ⟨#[119, 114, 111, 110, 103]⟩ := by rw [HV.out, if_neg h0, if_neg h1, if_neg h2]
        subst A
        clear HV
        go_wp2_with fail
        go_ret
        exact ⟨by first | rfl | simp, rfl⟩
end Go.Proofs.YtbangbobfeflcaaGreatDoor

namespace Go.Proofs.YtbangbobfeflcaaGreatDoor
open Go.RowKit 

def plainB (c : Int) : Bool := decide (32 ≤ c) && decide (c ≤ 126) && (c != 34) && (c != 92)
theorem hPlain (c : Int) (w : World) : Calls Tryz.prog 91 #[.int .u8 c] w fun o w' => o = .returned (.bool (plainB c)) ∧ w' = w := by
  unfold plainB
  obtain ⟨t1, e1⟩ : ∃ t, decide (32 ≤ c) = t := ⟨_, rfl⟩
  obtain ⟨t2, e2⟩ : ∃ t, decide (c ≤ 126) = t := ⟨_, rfl⟩
  rw [e1, e2]
  go_enter Tryz.func91, Tryz.ntmps91
  cases t1
  · go_wp2_with fail
    go_ret
    exact ⟨by first | rfl | simp, rfl⟩
  · cases t2
    · go_wp2_with fail
      go_ret
      exact ⟨by first | rfl | simp, rfl⟩
    · by_cases h3 : c = 34
      · subst h3
        go_wp2_with fail
        go_ret
        exact ⟨by first | rfl | simp, rfl⟩
      · go_wp2_with fail
        go_ret
        exact ⟨by first | rfl | simp, rfl⟩
def statusB (s : ByteArray) : Int := if (s.toList == [111, 107]) = true then 0 else if (s.toList == [102, 117, 108, 108]) = true then 42 else if (s.toList == [97, 98, 115, 101, 110, 116]) = true then 76 else 26
theorem hStatusOf (s : ByteArray) (w : World) : Calls Tryz.prog 54 #[.string s] w fun o w' => o = .returned (.int .i64 (statusB s)) ∧ w' = w := by
  unfold statusB
  obtain ⟨t1, e1⟩ : ∃ t, (s.toList == [111, 107]) = t := ⟨_, rfl⟩
  obtain ⟨t2, e2⟩ : ∃ t, (s.toList == [102, 117, 108, 108]) = t := ⟨_, rfl⟩
  obtain ⟨t3, e3⟩ : ∃ t, (s.toList == [97, 98, 115, 101, 110, 116]) = t := ⟨_, rfl⟩
  rw [e1, e2, e3]
  go_enter Tryz.func54, Tryz.ntmps54
  cases t1
  · cases t2
    · cases t3
      · go_wp2_with fail
        go_ret
        exact ⟨by first | rfl | simp, rfl⟩
      · go_wp2_with fail
        go_ret
        exact ⟨by first | rfl | simp, rfl⟩
    · go_wp2_with fail
      go_ret
      exact ⟨by first | rfl | simp, rfl⟩
  · go_wp2_with fail
    go_ret
    exact ⟨by first | rfl | simp, rfl⟩
end Go.Proofs.YtbangbobfeflcaaGreatDoor

namespace Go.Proofs.YtbangbobfeflcaaGreatDoor
open Go.RowKit 

theorem wpList_append_text {ops : Array Oper} {rest : List Oper} {o : Oper} {a : Act} {Q : Exit → Act → World → Prop} (w : World) (hgd : o.guard = none) (s x : Operand)
    (ho : o.op = .call { callee := .builtin .append, args := #[s, x], argTypes := #[34, 9] })
    (base : Nat) (v : Value) (n : Nat) (l : List Nat) (hs : a.eval s = v) (hown : w.ownsRow base 5 1 v n (cellsOf l))
    (y : ByteArray) (k : List Nat) (hx : a.eval x = .string y) (hk : byteCells y = cellsOf k)
    (hbytes : n + y.size ≤ 140737488355328) (hbase : base ≤ w.heap.size)
    (h : ∀ p c w', Hid (w'.ownsRow base 5 1 (.slice p (n + y.size) c) (n + y.size) (cellsOf (l ++ k))) → Hid (w.grownBy w' v.ownBlock) → wpList Tryz.prog ops Q rest (a.put o.dst (.slice p (n + y.size) c)) w') : wpList Tryz.prog ops Q (o :: rest) a w := by
  have r : Src Tryz.prog 1 9 (.string y) y.size (byteCells y) w := Src.ofString w Tryz.underlying9 y
  rw [hk] at r
  refine wpList_append_all w hgd s x 34 5 9 (.int .u8 0) 1 1 ho Tryz.underlying34 Tryz.info5 rfl base v n (cellsOf l) hs hown _ _ (cellsOf k) hx r (by unfold maxLen; omega) (by omega) hbase fun p c w' h1 h2 _ => h p c w' ?_ h2
  rw [cellsOf_append]
  exact h1
structure QS (w : World) (l : List Nat) (p : Option Addr) (n c : Nat) (w' : World) : Prop where
  row : w'.ownsRow w.heap.size 5 1 (.slice p n c) n (cellsOf l)
  kept : Kept (fun _ => False) w w'
theorem QS.on {w w1 w2 : World} {l : List Nat} {p : Option Addr} {n c : Nat} (h : QS w l p n c w1) (K : Kept (fun _ => False) w1 w2) : QS w l p n c w2 := ⟨K.owns h.row (fun _ _ z => z), h.kept.trans K (fun _ _ z => z)⟩
theorem QS.grow {w w1 w2 : World} {l : List Nat} {p : Option Addr} {n c : Nat} (h : QS w l p n c w1) (hg : w1.grownBy w2 (Value.slice p n c).ownBlock) : Kept (fun _ => False) w w2 := by
  refine h.kept.own ((Kept.refl (fun j => blockOf p = some j) w1).grown hg (fun j _ z => by rw [blockOf_own] at z; exact z)) (fun b z => ?_)
  exact (own_lt h.row b z).1
end Go.Proofs.YtbangbobfeflcaaGreatDoor
