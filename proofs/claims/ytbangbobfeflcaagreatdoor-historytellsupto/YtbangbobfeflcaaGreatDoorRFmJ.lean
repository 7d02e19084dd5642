import Derived.Test.YtbangbobfeflcaaGreatDoorLTxJ
import Derived.Lib.AtoiAllCases
import Derived.Lib.ParseIntBTie
import Derived.Lib.ItoaMem
import Derived.Lib.Bytealg
import Derived.Lib.IndexMore
import Derived.Lib.ConvBytes
import Derived.Shelf.Strconv.ToError
import Derived.Shelf.Strconv.Lower
import Derived.Deep.Cut
import Derived.BigQuiet
import Derived.Test.YtbangbobfeflcaaGreatDoorHTkJ
namespace Go.Proofs.YtbangbobfeflcaaGreatDoor
open Go.RowKit 

/-- The library's two errors. -/
structure EVs (w : World) : Prop where
  syn : ∃ tp p, w.var? Tryz.prog "strconv.ErrSyntax" = some #[.iface tp p]
  rng : ∃ tp p, w.var? Tryz.prog "strconv.ErrRange" = some #[.iface tp p]
theorem EVs.by {w w' : World} (h : EVs w) (B : Below w.heap.size w w') : EVs w' := ⟨by obtain ⟨a, b, q⟩ := h.syn; exact ⟨a, b, var_by B q⟩, by obtain ⟨a, b, q⟩ := h.rng; exact ⟨a, b, var_by B q⟩⟩
end Go.Proofs.YtbangbobfeflcaaGreatDoor

namespace Go.Proofs.YtbangbobfeflcaaGreatDoor
open Go.Lib

end Go.Proofs.YtbangbobfeflcaaGreatDoor

namespace Go.Proofs.YtbangbobfeflcaaGreatDoor
open Go.RowKit 

end Go.Proofs.YtbangbobfeflcaaGreatDoor

namespace Go.Proofs.YtbangbobfeflcaaGreatDoor
open Go.RowKit 

def lowN (c : Nat) : Nat := (bits .or .u8 (c : Int) 32).toNat
/-- What a digit of sixteen stands for. -/
def hxv (c : Nat) : Option Nat := if 48 ≤ c ∧ c ≤ 57 then some (c - 48) else if 97 ≤ lowN c ∧ lowN c ≤ 102 then some (lowN c - 87) else none
def UX (a b : Nat) (v : Int) (i : Value) : Prop := (∃ x y, hxv a = some x ∧ hxv b = some y ∧ v = ((x * 16 + y : Nat) : Int) ∧ i = .nilIface) ∨ ((hxv a = none ∨ hxv b = none) ∧ v = 0 ∧ i = .iface 153 (.int .i64 2))
end Go.Proofs.YtbangbobfeflcaaGreatDoor

namespace Go.Proofs.YtbangbobfeflcaaGreatDoor
open Go.RowKit 

/-- What two bytes stand for. -/
def hx2 (a b : Nat) : Option Nat := match hxv a, hxv b with
  | some x, some y => some (x * 16 + y)
  | _, _ => none
def UY (a b : Nat) (v : Int) (i : Value) : Prop := v = (((hx2 a b).getD 0 : Nat) : Int) ∧ (i = .nilIface ∨ ∃ t q, i = .iface t (.pointer (some q)))
theorem UX.ok {a b : Nat} {v : Int} (h : UX a b v .nilIface) : UY a b v .nilIface := by
  rcases h with ⟨x, y, h1, h2, rfl, _⟩ | ⟨_, _, h3⟩
  · refine ⟨?_, .inl rfl⟩
    unfold hx2
    rw [h1, h2]
    rfl
  · cases h3
end Go.Proofs.YtbangbobfeflcaaGreatDoor

namespace Go.Proofs.YtbangbobfeflcaaGreatDoor
open Go.RowKit 

end Go.Proofs.YtbangbobfeflcaaGreatDoor

namespace Go.Proofs.YtbangbobfeflcaaGreatDoor
open Go.RowKit 

end Go.Proofs.YtbangbobfeflcaaGreatDoor

namespace Go.Proofs.YtbangbobfeflcaaGreatDoor
open Go.RowKit 

end Go.Proofs.YtbangbobfeflcaaGreatDoor

namespace Go.Proofs.YtbangbobfeflcaaGreatDoor
open Go.RowKit 

end Go.Proofs.YtbangbobfeflcaaGreatDoor

namespace Go.Proofs.YtbangbobfeflcaaGreatDoor
open Go.RowKit 

theorem itB_list (v : Int) : (itB v).data.toList = Lib.itoa v := by unfold itB; simp
theorem tagB_list (a b : Int) : (tagB a b).data.toList = Lib.itoa a ++ 46 :: Lib.itoa b := by
  unfold tagB
  rw [ByteArray.data_append, ByteArray.data_append, Array.toList_append, Array.toList_append, itB_list, itB_list, List.append_assoc]
  rfl
end Go.Proofs.YtbangbobfeflcaaGreatDoor

namespace Go.Proofs.YtbangbobfeflcaaGreatDoor
open Go.RowKit 

end Go.Proofs.YtbangbobfeflcaaGreatDoor

namespace Go.Proofs.YtbangbobfeflcaaGreatDoor
open Go.RowKit 

theorem joinB_one (a : ByteArray) : joinB [a] = a := by
  unfold joinB
  show (⟨(Lib.join [a.data.toList] [32]).toArray⟩ : ByteArray) = a
  rw [show Lib.join [a.data.toList] [32] = a.data.toList by simp [Lib.join]]
theorem joinB_list (a b : ByteArray) (r : List ByteArray) : (joinB (a :: b :: r)).data.toList = a.data.toList ++ 32 :: (joinB (b :: r)).data.toList := by
  unfold joinB
  simp [Lib.join]
end Go.Proofs.YtbangbobfeflcaaGreatDoor

namespace Go.Proofs.YtbangbobfeflcaaGreatDoor
open Go.RowKit 

end Go.Proofs.YtbangbobfeflcaaGreatDoor

namespace Go.Proofs.YtbangbobfeflcaaGreatDoor
open Go.RowKit 

end Go.Proofs.YtbangbobfeflcaaGreatDoor

namespace Go.Proofs.YtbangbobfeflcaaGreatDoor
open Go.RowKit 

end Go.Proofs.YtbangbobfeflcaaGreatDoor

namespace Go.Proofs.YtbangbobfeflcaaGreatDoor
open Go.RowKit 

end Go.Proofs.YtbangbobfeflcaaGreatDoor

namespace Go.Proofs.YtbangbobfeflcaaGreatDoor
open Go.RowKit 

end Go.Proofs.YtbangbobfeflcaaGreatDoor

namespace Go.Proofs.YtbangbobfeflcaaGreatDoor
open Go.RowKit 

end Go.Proofs.YtbangbobfeflcaaGreatDoor

namespace Go.Proofs.YtbangbobfeflcaaGreatDoor
open Go.RowKit 

end Go.Proofs.YtbangbobfeflcaaGreatDoor

namespace Go.Proofs.YtbangbobfeflcaaGreatDoor
open Go.RowKit 

theorem tg_zero {e : Ev} (h : tagE e = true) (hf : formE e = 0 ∨ formE e = 1) : e.tx = 0 ∧ e.ty = 0 := by
  unfold tagE at h
  rw [if_pos hf] at h
  unfold kIsZero at h
  simpa using h
end Go.Proofs.YtbangbobfeflcaaGreatDoor

namespace Go.Proofs.YtbangbobfeflcaaGreatDoor
open Go.RowKit 

end Go.Proofs.YtbangbobfeflcaaGreatDoor

namespace Go.Proofs.YtbangbobfeflcaaGreatDoor
open Go.RowKit 

/-- An event that may be. -/
def GoodE (e : Ev) : Prop := faultE e = 0 ∧ ∃ w0, Reads w0 e.va e.vn e.vc e.val
theorem txtF_cons (e : Ev) (es : List Ev) : txtF (e :: es) = (lineB e).data.toList ++ 10 :: txtF es := by
  unfold txtF
  rw [List.flatMap_cons, List.append_assoc]
  rfl
/-- An event but for where its value lies. -/
def Ev.core (e : Ev) : Ev := ⟨e.kind, e.client, e.op, e.put, e.key, none, e.vn, 0, e.st, e.tx, e.ty, e.val⟩
theorem core_fault (e : Ev) : faultE e.core = faultE e := rfl
theorem core_line (e : Ev) : lineB e.core = lineB e := rfl
theorem core_txt : ∀ es : List Ev, txtF (es.map Ev.core) = txtF es
  | [] => rfl
  | e :: es => by rw [List.map_cons, txtF_cons, txtF_cons, core_line, core_txt es]
theorem core_fst : ∀ es : List Ev, fstF (es.map Ev.core) = fstF es
  | [] => rfl
  | e :: es => by
    show (if faultE e.core = 0 then fstF (es.map Ev.core) else faultE e.core) = (if faultE e = 0 then fstF es else faultE e)
    rw [core_fault, core_fst es]
theorem txt_same {L es : List Ev} (h : L.map Ev.core = es.map Ev.core) : txtF L = txtF es := by rw [← core_txt L, h, core_txt]
theorem fst_same {L es : List Ev} (h : L.map Ev.core = es.map Ev.core) : fstF L = fstF es := by rw [← core_fst L, h, core_fst]
theorem core_at {L es : List Ev} (h : L.map Ev.core = es.map Ev.core) {i : Nat} {x e : Ev} (hx : L[i]? = some x) (he : es[i]? = some e) : x.core = e.core := by
  have q := congrArg (fun l => l[i]?) h
  simp only [List.getElem?_map, hx, he] at q
  exact Option.some.inj q
end Go.Proofs.YtbangbobfeflcaaGreatDoor

namespace Go.Proofs.YtbangbobfeflcaaGreatDoor
open Go.RowKit 

end Go.Proofs.YtbangbobfeflcaaGreatDoor

namespace Go.Proofs.YtbangbobfeflcaaGreatDoor
open Go.RowKit 

theorem hRZero (a b : Int) (w : World) : Calls Tryz.prog 115 #[.agg #[.int .i64 a, .int .i64 b]] w fun o w' => o = .returned (.bool (kIsZero a b)) ∧ Kept (fun _ => False) w w' := by
  unfold kIsZero
  go_enter Tryz.func115, Tryz.ntmps115
  by_cases h : a = 0
  · by_cases h2 : b = 0
    · go_wp2_with fail
      go_ret
      exact ⟨by simp [h, h2], (Kept.refl _ _).alloc _⟩
    · go_wp2_with fail
      go_ret
      exact ⟨by simp [h, h2], (Kept.refl _ _).alloc _⟩
  · go_wp2_with fail
    go_ret
    exact ⟨by simp [h], (Kept.refl _ _).alloc _⟩
theorem hRProper (a b : Int) (w : World) : Calls Tryz.prog 116 #[.agg #[.int .i64 a, .int .i64 b]] w fun x w' => x = .returned (.bool (kIsProper a b)) ∧ Kept (fun _ => False) w w' := by
  have K : Hid (Kept (fun _ => False) w (w.alloc (Obj.cells #[.int .i64 a, .int .i64 b] 37))) := (Kept.refl _ _).alloc _
  obtain ⟨t1, e1⟩ : ∃ t, decide (1 ≤ a) = t := ⟨_, rfl⟩
  obtain ⟨t2, e2⟩ : ∃ t, decide (a ≤ 4611686018427387903) = t := ⟨_, rfl⟩
  obtain ⟨t3, e3⟩ : ∃ t, decide (1 ≤ b) = t := ⟨_, rfl⟩
  obtain ⟨t4, e4⟩ : ∃ t, decide (b ≤ 65535) = t := ⟨_, rfl⟩
  have E : Hid (kIsProper a b = (t1 && t2 && t3 && t4)) := by
    show kIsProper a b = _
    unfold kIsProper
    rw [← e1, ← e2, ← e3, ← e4, Bool.eq_iff_iff]
    simp [and_assoc]
  rw [E.out]
  clear E
  go_enter Tryz.func116, Tryz.ntmps116
  cases t1
  · cases t2
    · cases t3
      · cases t4
        · go_wp2_with fail
          go_ret
          exact ⟨by first | rfl | simp, K.out⟩
        · go_wp2_with fail
          go_ret
          exact ⟨by first | rfl | simp, K.out⟩
      · cases t4
        · go_wp2_with fail
          go_ret
          exact ⟨by first | rfl | simp, K.out⟩
        · go_wp2_with fail
          go_ret
          exact ⟨by first | rfl | simp, K.out⟩
    · cases t3
      · cases t4
        · go_wp2_with fail
          go_ret
          exact ⟨by first | rfl | simp, K.out⟩
        · go_wp2_with fail
          go_ret
          exact ⟨by first | rfl | simp, K.out⟩
      · cases t4
        · go_wp2_with fail
          go_ret
          exact ⟨by first | rfl | simp, K.out⟩
        · go_wp2_with fail
          go_ret
          exact ⟨by first | rfl | simp, K.out⟩
  · cases t2
    · cases t3
      · cases t4
        · go_wp2_with fail
          go_ret
          exact ⟨by first | rfl | simp, K.out⟩
        · go_wp2_with fail
          go_ret
          exact ⟨by first | rfl | simp, K.out⟩
      · cases t4
        · go_wp2_with fail
          go_ret
          exact ⟨by first | rfl | simp, K.out⟩
        · go_wp2_with fail
          go_ret
          exact ⟨by first | rfl | simp, K.out⟩
    · cases t3
      · cases t4
        · go_wp2_with fail
          go_ret
          exact ⟨by first | rfl | simp, K.out⟩
        · go_wp2_with fail
          go_ret
          exact ⟨by first | rfl | simp, K.out⟩
      · cases t4
        · go_wp2_with fail
          go_ret
          exact ⟨by first | rfl | simp, K.out⟩
        · go_wp2_with fail
          go_ret
          exact ⟨by first | rfl | simp, K.out⟩
theorem hRValid (a b : Int) (w : World) : Calls Tryz.prog 95 #[.agg #[.int .i64 a, .int .i64 b]] w fun x w' => x = .returned (.bool (kIsZero a b || kIsProper a b)) ∧ Kept (fun _ => False) w w' := by
  have K : Hid (Kept (fun _ => False) w (w.alloc (Obj.cells #[.int .i64 a, .int .i64 b] 37))) := (Kept.refl _ _).alloc _
  have CZ : Hid (∀ V, Calls Tryz.prog 115 #[.agg #[.int .i64 a, .int .i64 b]] V fun x w' => x = .returned (.bool (kIsZero a b)) ∧ Kept (fun _ => False) V w') := fun V => hRZero a b V
  have CP : Hid (∀ V, Calls Tryz.prog 116 #[.agg #[.int .i64 a, .int .i64 b]] V fun x w' => x = .returned (.bool (kIsProper a b)) ∧ Kept (fun _ => False) V w') := fun V => hRProper a b V
  obtain ⟨zb, hz⟩ : ∃ zb, kIsZero a b = zb := ⟨_, rfl⟩
  obtain ⟨pb, hp⟩ : ∃ pb, kIsProper a b = pb := ⟨_, rfl⟩
  rw [hz] at CZ ⊢
  rw [hp] at CP ⊢
  clear hz hp
  go_enter Tryz.func95, Tryz.ntmps95
  go_wp2_with fail
  refine (CZ.out _).mono ?_
  rintro o w1 ⟨rfl, K1⟩
  have c0 : w1.cell? ⟨w.heap.size, 0, none⟩ = some (.int .i64 a) := K1.cell (by simp) (fun z => z)
  have c1 : w1.cell? ⟨w.heap.size, 1, none⟩ = some (.int .i64 b) := K1.cell (by simp) (fun z => z)
  have KE := K.out.trans K1 (fun _ _ z => z)
  clear K1
  cases zb
  · go_wp2_with fail
    refine (CP.out _).mono ?_
    rintro o w2 ⟨rfl, K2⟩
    have KF := KE.trans K2 (fun _ _ z => z)
    clear K2
    go_wp2_with fail
    go_ret
    exact ⟨by first | rfl | simp, KF⟩
  · go_wp2_with fail
    go_ret
    exact ⟨by first | rfl | simp, KE⟩
theorem valued_b (ki st : Int) (pu : Bool) (e : Ev) (h1 : e.kind = ki) (h2 : e.st = st) (h3 : e.put = pu) : decide (formE e = 1 ∨ formE e = 3) = (((ki == 1) && pu) || ((ki == 2) && !pu && (st == 0))) := by
  unfold formE formR
  rw [h1, h2, h3, Bool.eq_iff_iff]
  by_cases k1 : ki = 1
  · subst k1
    cases pu <;> simp
  · by_cases k2 : ki = 2
    · subst k2
      by_cases s0 : st = 0
      · subst s0
        cases pu <;> simp
      · by_cases s1 : st = 76 ∨ st = 42
        · cases pu <;> simp [s0, s1]
        · cases pu <;> simp [s0, s1]
    · by_cases k3 : ki = 3
      · subst k3
        cases pu <;> simp
      · simp [k1, k2, k3]
set_option maxRecDepth 100000 in
theorem hValued (e : Ev) (w : World) : Calls Tryz.prog 71 #[e.agg] w fun o w' => o = .returned (.bool (decide (formE e = 1 ∨ formE e = 3))) ∧ Kept (fun _ => False) w w' := by
  rw [valued_b e.kind e.st e.put e rfl rfl rfl]
  obtain ⟨ki, cl, op, pu, ke, va, vn, vc, st, tx, ty, vl⟩ := e
  unfold Ev.agg
  dsimp only
  have K : Hid (Kept (fun _ => False) w (w.alloc (Obj.cells #[.int .i64 ki, .int .i64 cl, .int .i64 op, .bool pu, .string ke, .slice va vn vc, .int .i64 st, .int .i64 tx, .int .i64 ty] 39))) := (Kept.refl _ _).alloc _
  obtain ⟨b1, e1⟩ : ∃ t, (ki == 1) = t := ⟨_, rfl⟩
  obtain ⟨b2, e2⟩ : ∃ t, (ki == 2) = t := ⟨_, rfl⟩
  obtain ⟨b3, e3⟩ : ∃ t, (st == 0) = t := ⟨_, rfl⟩
  rw [e1, e2, e3]
  go_enter Tryz.func71, Tryz.ntmps71
  cases b1
  · cases pu
    · cases b2
      · cases b3
        · go_wp2_with fail
          go_ret
          exact ⟨by first | rfl | simp, K.out⟩
        · go_wp2_with fail
          go_ret
          exact ⟨by first | rfl | simp, K.out⟩
      · cases b3
        · go_wp2_with fail
          go_ret
          exact ⟨by first | rfl | simp, K.out⟩
        · go_wp2_with fail
          go_ret
          exact ⟨by first | rfl | simp, K.out⟩
    · cases b2
      · cases b3
        · go_wp2_with fail
          go_ret
          exact ⟨by first | rfl | simp, K.out⟩
        · go_wp2_with fail
          go_ret
          exact ⟨by first | rfl | simp, K.out⟩
      · cases b3
        · go_wp2_with fail
          go_ret
          exact ⟨by first | rfl | simp, K.out⟩
        · go_wp2_with fail
          go_ret
          exact ⟨by first | rfl | simp, K.out⟩
  · cases pu
    · cases b2
      · cases b3
        · go_wp2_with fail
          go_ret
          exact ⟨by first | rfl | simp, K.out⟩
        · go_wp2_with fail
          go_ret
          exact ⟨by first | rfl | simp, K.out⟩
      · cases b3
        · go_wp2_with fail
          go_ret
          exact ⟨by first | rfl | simp, K.out⟩
        · go_wp2_with fail
          go_ret
          exact ⟨by first | rfl | simp, K.out⟩
    · cases b2
      · cases b3
        · go_wp2_with fail
          go_ret
          exact ⟨by first | rfl | simp, K.out⟩
        · go_wp2_with fail
          go_ret
          exact ⟨by first | rfl | simp, K.out⟩
      · cases b3
        · go_wp2_with fail
          go_ret
          exact ⟨by first | rfl | simp, K.out⟩
        · go_wp2_with fail
          go_ret
          exact ⟨by first | rfl | simp, K.out⟩
theorem stated_b (ki st : Int) (pu : Bool) (e : Ev) (h1 : e.kind = ki) (h2 : e.st = st) (h3 : e.put = pu) : statusE e = (if ((!(ki == 2)) || (st == 0)) = true then (st == 0) else if pu = true then (st == 42) else ((st == 76) || (decide (20 ≤ st) && decide (st ≤ 26)))) := by
  unfold statusE
  rw [h1, h2, h3, Bool.eq_iff_iff]
  by_cases s0 : st = 0
  · simp [s0]
  · by_cases k2 : ki = 2
    · cases pu <;> simp [s0, k2]
    · simp [s0, k2]
set_option maxRecDepth 100000 in
theorem hStated (e : Ev) (w : World) : Calls Tryz.prog 73 #[e.agg] w fun o w' => o = .returned (.bool (statusE e)) ∧ Kept (fun _ => False) w w' := by
  rw [stated_b e.kind e.st e.put e rfl rfl rfl]
  obtain ⟨ki, cl, op, pu, ke, va, vn, vc, st, tx, ty, vl⟩ := e
  unfold Ev.agg
  dsimp only
  have K : Hid (Kept (fun _ => False) w (w.alloc (Obj.cells #[.int .i64 ki, .int .i64 cl, .int .i64 op, .bool pu, .string ke, .slice va vn vc, .int .i64 st, .int .i64 tx, .int .i64 ty] 39))) := (Kept.refl _ _).alloc _
  obtain ⟨b2, e2⟩ : ∃ t, (ki == 2) = t := ⟨_, rfl⟩
  obtain ⟨b3, e3⟩ : ∃ t, (st == 0) = t := ⟨_, rfl⟩
  obtain ⟨b4, e4⟩ : ∃ t, (st == 42) = t := ⟨_, rfl⟩
  obtain ⟨b5, e5⟩ : ∃ t, (st == 76) = t := ⟨_, rfl⟩
  obtain ⟨b6, e6⟩ : ∃ t, decide (20 ≤ st) = t := ⟨_, rfl⟩
  obtain ⟨b7, e7⟩ : ∃ t, decide (st ≤ 26) = t := ⟨_, rfl⟩
  have n2 : (ki != 2) = !b2 := by rw [← e2]; rfl
  rw [e2, e3, e4, e5, e6, e7]
  go_enter Tryz.func73, Tryz.ntmps73
  cases b2
  · go_wp2_with fail
    go_ret
    exact ⟨by first | rfl | simp, K.out⟩
  · cases b3
    · cases pu
      · cases b5
        · cases b6
          · go_wp2_with fail
            go_ret
            exact ⟨by first | rfl | simp, K.out⟩
          · go_wp2_with fail
            go_ret
            exact ⟨by first | rfl | simp, K.out⟩
        · go_wp2_with fail
          go_ret
          exact ⟨by first | rfl | simp, K.out⟩
      · go_wp2_with fail
        go_ret
        exact ⟨by first | rfl | simp, K.out⟩
    · go_wp2_with fail
      go_ret
      exact ⟨by first | rfl | simp, K.out⟩
end Go.Proofs.YtbangbobfeflcaaGreatDoor
