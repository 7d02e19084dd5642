import Derived.Test.YtbangbobfeflcaaGreatDoorLMapJ
import Derived.BigQuiet
namespace Go.Proofs.YtbangbobfeflcaaGreatDoor
open Go.RowKit 

/-- An event, with the bytes that it leads to. -/
structure Ev where
  kind : Int
  client : Int
  op : Int
  put : Bool
  key : ByteArray
  va : Option Addr
  vn : Nat
  vc : Nat
  st : Int
  tx : Int
  ty : Int
  val : List Nat
def Ev.cs (e : Ev) : Array Value := #[.int .i64 e.kind, .int .i64 e.client, .int .i64 e.op, .bool e.put, .string e.key, .slice e.va e.vn e.vc, .int .i64 e.st, .int .i64 e.tx, .int .i64 e.ty]
def Ev.agg (e : Ev) : Value := .agg #[.int .i64 e.kind, .int .i64 e.client, .int .i64 e.op, .bool e.put, .string e.key, .slice e.va e.vn e.vc, .int .i64 e.st, .int .i64 e.tx, .int .i64 e.ty]
/-- A list of events reads so. -/
structure ERd (w : World) (p : Option Addr) (n c : Nat) (es : List Ev) : Prop where
  len : es.length = n
  room : n ≤ c
  small : c ≤ maxLen
  cells : 0 < n → ∃ b off, p = some ⟨b, off, none⟩ ∧ ∀ i (h : i < es.length) k v, es[i].cs[k]? = some v → w.cell? ⟨b, off + i * 9 + k, none⟩ = some v
  rd : ∀ e ∈ es, Reads w e.va e.vn e.vc e.val
theorem ERd.at {w : World} {p : Option Addr} {n c : Nat} {es : List Ev} (h : ERd w p n c es) {i : Nat} (hi : i < n) : ∃ b off e, p = some ⟨b, off, none⟩ ∧ es[i]? = some e ∧ w.cell? ⟨b, off + i * 9, none⟩ = some (.int .i64 e.kind) ∧ w.cell? ⟨b, off + i * 9 + 1, none⟩ = some (.int .i64 e.client) ∧ w.cell? ⟨b, off + i * 9 + 2, none⟩ = some (.int .i64 e.op) ∧ w.cell? ⟨b, off + i * 9 + 3, none⟩ = some (.bool e.put) ∧ w.cell? ⟨b, off + i * 9 + 4, none⟩ = some (.string e.key) ∧ w.cell? ⟨b, off + i * 9 + 5, none⟩ = some (.slice e.va e.vn e.vc) ∧ w.cell? ⟨b, off + i * 9 + 6, none⟩ = some (.int .i64 e.st) ∧ w.cell? ⟨b, off + i * 9 + 7, none⟩ = some (.int .i64 e.tx) ∧ w.cell? ⟨b, off + i * 9 + 8, none⟩ = some (.int .i64 e.ty) ∧ Reads w e.va e.vn e.vc e.val := by
  obtain ⟨b, off, e, hc⟩ := h.cells (by omega)
  have hi2 : i < es.length := by rw [h.len]; exact hi
  exact ⟨b, off, es[i], e, List.getElem?_eq_getElem hi2, hc i hi2 0 _ rfl, hc i hi2 1 _ rfl, hc i hi2 2 _ rfl, hc i hi2 3 _ rfl, hc i hi2 4 _ rfl, hc i hi2 5 _ rfl, hc i hi2 6 _ rfl, hc i hi2 7 _ rfl, hc i hi2 8 _ rfl, h.rd _ (List.getElem_mem hi2)⟩
theorem ERd.k0 {w w' : World} {p : Option Addr} {n c : Nat} {es : List Ev} (h : ERd w p n c es) (K : Kept (fun _ => False) w w') : ERd w' p n c es := by
  refine ⟨h.len, h.room, h.small, fun h0 => ?_, fun e he => Reads.kept K (h.rd e he) (fun _ _ z => z)⟩
  obtain ⟨b, off, e, hc⟩ := h.cells h0
  exact ⟨b, off, e, fun i hi k v hv => K.cell (hc i hi k v hv) (fun z => z)⟩
def kIsProper (a b : Int) : Bool := decide (1 ≤ a ∧ a ≤ 4611686018427387903 ∧ 1 ≤ b ∧ b ≤ 65535)
def kIsZero (a b : Int) : Bool := decide (a = 0 ∧ b = 0)
/-- What stands behind the key in an event's line: nothing 0, a value 1, a tag 2, both 3, a status and a tag 4. -/
def formR (st : Int) (pu : Bool) : Int := if st = 0 then (if pu = true then 2 else 3) else if st = 76 ∨ st = 42 then 0 else 4
def formE (e : Ev) : Int := if e.kind = 1 then (if e.put = true then 1 else 0) else if e.kind = 3 then (if e.put = true then 2 else 0) else if e.kind = 2 then formR e.st e.put else 0
def valueE (e : Ev) : Bool := if formE e = 1 ∨ formE e = 3 then decide (e.vn ≤ 65536) else decide (e.vn = 0)
def tagE (e : Ev) : Bool := if formE e = 0 ∨ formE e = 1 then kIsZero e.tx e.ty else (kIsZero e.tx e.ty || kIsProper e.tx e.ty) && !(decide (e.kind = 2) && decide (e.st = 0) && kIsZero e.tx e.ty)
def statusE (e : Ev) : Bool := if e.st = 0 then true else if e.kind ≠ 2 then false else if e.put = true then decide (e.st = 42) else (decide (e.st = 76) || (decide (20 ≤ e.st) && decide (e.st ≤ 26)))
/-- What is wrong with an event by itself. -/
def faultE (e : Ev) : Int :=
  if ¬ (e.kind = 1 ∨ e.kind = 2 ∨ e.kind = 3) then 32
  else if e.client < 1 ∨ 65535 < e.client then 51
  else if e.key.size < 1 ∨ 64 < e.key.size then 74
  else if valueE e = false then 75
  else if tagE e = false then 41
  else if e.op < 1 ∨ 4611686018427387903 < e.op ∨ statusE e = false then 80 else 0
/-- May it stand behind its client's last one? -/
def mayF (l : Option Ev) (e : Ev) : Bool :=
  let busy := match l with | some x => decide (x.kind = 1) | none => false
  let lop := match l with | some x => x.op | none => 0
  if e.kind = 1 then !busy && decide (e.op = lop + 1)
  else match l with | some x => busy && decide (e.op = x.op) && decide (e.put = x.put) && decide (e.key = x.key) | none => false
/-- The first event that can't stand where it stands. -/
def chkE : List Ev → (Int → Option Ev) → Nat → Int × Int
  | [], _, _ => (-1, 0)
  | e :: es, M, i => if faultE e ≠ 0 then ((i : Int), faultE e) else if mayF (M e.client) e = false then ((i : Int), 80) else chkE es (upd M e.client e) (i + 1)
theorem chk_cons (e : Ev) (es : List Ev) (M : Int → Option Ev) (i : Nat) : chkE (e :: es) M i = if faultE e ≠ 0 then ((i : Int), faultE e) else if mayF (M e.client) e = false then ((i : Int), 80) else chkE es (upd M e.client e) (i + 1) := rfl
theorem chk_no {i : Nat} {v : Int} (h : ((i : Int), v) = (-1, 0)) : False := by
  injection h with h1 _
  omega
/-- The last ones by client. -/
def lastM : List Ev → (Int → Option Ev) → Int → Option Ev
  | [], M => M
  | e :: es, M => lastM es (upd M e.client e)
theorem lastM_app : ∀ (a b : List Ev) (M : Int → Option Ev), lastM (a ++ b) M = lastM b (lastM a M)
  | [], _, _ => rfl
  | _ :: a, b, _ => lastM_app a b _
theorem chk_app : ∀ (a b : List Ev) (M : Int → Option Ev) (i : Nat), chkE a M i = (-1, 0) → chkE (a ++ b) M i = chkE b (lastM a M) (i + a.length)
  | [], _, _, _, _ => rfl
  | e :: a, b, M, i, h => by
    rw [chk_cons] at h
    rw [List.cons_append, chk_cons]
    by_cases h1 : faultE e ≠ 0
    · rw [if_pos h1] at h
      exact (chk_no h).elim
    · rw [if_neg h1] at h ⊢
      by_cases h2 : mayF (M e.client) e = false
      · rw [if_pos h2] at h
        exact (chk_no h).elim
      · rw [if_neg h2] at h ⊢
        rw [chk_app a b _ _ h, List.length_cons, show i + 1 + a.length = i + (a.length + 1) by omega]
        rfl
theorem chk_pre : ∀ (a b : List Ev) (M : Int → Option Ev) (i : Nat), chkE (a ++ b) M i = (-1, 0) → chkE a M i = (-1, 0)
  | [], _, _, _, _ => rfl
  | e :: a, b, M, i, h => by
    rw [List.cons_append] at h
    rw [chk_cons] at h ⊢
    by_cases h1 : faultE e ≠ 0
    · rw [if_pos h1] at h
      exact (chk_no h).elim
    · rw [if_neg h1] at h ⊢
      by_cases h2 : mayF (M e.client) e = false
      · rw [if_pos h2] at h
        exact (chk_no h).elim
      · rw [if_neg h2] at h ⊢
        exact chk_pre a b _ _ h
theorem chk_fault : ∀ (es : List Ev) (M : Int → Option Ev) (i : Nat), chkE es M i = (-1, 0) → ∀ e ∈ es, faultE e = 0
  | [], _, _, _, e, he => by cases he
  | x :: es, M, i, h, e, he => by
    rw [chk_cons] at h
    by_cases h1 : faultE x ≠ 0
    · rw [if_pos h1] at h
      exact (chk_no h).elim
    · rw [if_neg h1] at h
      by_cases h2 : mayF (M x.client) x = false
      · rw [if_pos h2] at h
        exact (chk_no h).elim
      · rw [if_neg h2] at h
        rcases List.mem_cons.1 he with z | z
        · rw [z]
          exact Classical.not_not.1 h1
        · exact chk_fault es _ _ h e z
def noM : Int → Option Ev := fun _ => none
end Go.Proofs.YtbangbobfeflcaaGreatDoor

namespace Go.Proofs.YtbangbobfeflcaaGreatDoor
open Go.RowKit 

theorem hZero (a b : Int) (w : World) : Calls Tryz.prog 87 #[.agg #[.int .i64 a, .int .i64 b]] w fun o w' => o = .returned (.bool (kIsZero a b)) ∧ Kept (fun _ => False) w w' := by
  unfold kIsZero
  go_enter Tryz.func87, Tryz.ntmps87
  by_cases h : a = 0
  · by_cases h2 : b = 0
    · go_wp2_with fail
      go_ret
      exact ⟨by simp [h, h2], (Kept.refl _ _).alloc _⟩
    · go_wp2_with fail
      go_ret
      exact ⟨by simp [h, h2], (Kept.refl _ _).alloc _⟩
  · go_wp2_with fail
    go_ret
    exact ⟨by simp [h], (Kept.refl _ _).alloc _⟩
def clientB (n : Int) : Bool := decide (1 ≤ n ∧ n ≤ 65535)
theorem hClient (n : Int) (w : World) : Calls Tryz.prog 135 #[.int .i64 n] w fun x w' => x = .returned (.bool (clientB n)) ∧ Kept (fun _ => False) w w' := by
  obtain ⟨t1, e1⟩ : ∃ t, decide (1 ≤ n) = t := ⟨_, rfl⟩
  obtain ⟨t2, e2⟩ : ∃ t, decide (n ≤ 65535) = t := ⟨_, rfl⟩
  have E : Hid (clientB n = (t1 && t2)) := by
    show clientB n = (t1 && t2)
    unfold clientB
    rw [← e1, ← e2, Bool.eq_iff_iff]
    simp
  rw [E.out]
  clear E
  go_enter Tryz.func135, Tryz.ntmps135
  cases t1
  · go_wp2_with fail
    go_ret
    exact ⟨by first | rfl | simp, Kept.refl _ _⟩
  · cases t2
    · go_wp2_with fail
      go_ret
      exact ⟨by first | rfl | simp, Kept.refl _ _⟩
    · go_wp2_with fail
      go_ret
      exact ⟨by first | rfl | simp, Kept.refl _ _⟩
theorem hProper (a b : Int) (w : World) : Calls Tryz.prog 109 #[.agg #[.int .i64 a, .int .i64 b]] w fun x w' => x = .returned (.bool (kIsProper a b)) ∧ Kept (fun _ => False) w w' := by
  have K : Hid (Kept (fun _ => False) w (w.alloc (Obj.cells #[.int .i64 a, .int .i64 b] 37))) := (Kept.refl _ _).alloc _
  have C : Hid (∀ V, Calls Tryz.prog 135 #[.int .i64 b] V fun x w' => x = .returned (.bool (clientB b)) ∧ Kept (fun _ => False) V w') := fun V => hClient b V
  obtain ⟨t1, e1⟩ : ∃ t, decide (1 ≤ a) = t := ⟨_, rfl⟩
  obtain ⟨t2, e2⟩ : ∃ t, decide (a ≤ 4611686018427387903) = t := ⟨_, rfl⟩
  have E : Hid (kIsProper a b = (t1 && t2 && clientB b)) := by
    show kIsProper a b = _
    unfold kIsProper clientB
    rw [← e1, ← e2, Bool.eq_iff_iff]
    simp [and_assoc]
  rw [E.out]
  obtain ⟨cb, hcb⟩ : ∃ cb, clientB b = cb := ⟨_, rfl⟩
  rw [hcb] at C ⊢
  clear hcb E
  go_enter Tryz.func109, Tryz.ntmps109
  cases t1
  · go_wp2_with fail
    go_ret
    exact ⟨by first | rfl | simp, K.out⟩
  · cases t2
    · go_wp2_with fail
      go_ret
      exact ⟨by first | rfl | simp, K.out⟩
    · go_wp2_with fail
      refine (C.out _).mono ?_
      rintro o w1 ⟨rfl, K1⟩
      have KE := K.out.trans K1 (fun _ _ z => z)
      clear K1
      go_wp2_with fail
      go_ret
      exact ⟨by first | rfl | simp, KE⟩
theorem hValid (a b : Int) (w : World) : Calls Tryz.prog 88 #[.agg #[.int .i64 a, .int .i64 b]] w fun x w' => x = .returned (.bool (kIsZero a b || kIsProper a b)) ∧ Kept (fun _ => False) w w' := by
  have K : Hid (Kept (fun _ => False) w (w.alloc (Obj.cells #[.int .i64 a, .int .i64 b] 37))) := (Kept.refl _ _).alloc _
  have CZ : Hid (∀ V, Calls Tryz.prog 87 #[.agg #[.int .i64 a, .int .i64 b]] V fun x w' => x = .returned (.bool (kIsZero a b)) ∧ Kept (fun _ => False) V w') := fun V => hZero a b V
  have CP : Hid (∀ V, Calls Tryz.prog 109 #[.agg #[.int .i64 a, .int .i64 b]] V fun x w' => x = .returned (.bool (kIsProper a b)) ∧ Kept (fun _ => False) V w') := fun V => hProper a b V
  obtain ⟨zb, hz⟩ : ∃ zb, kIsZero a b = zb := ⟨_, rfl⟩
  obtain ⟨pb, hp⟩ : ∃ pb, kIsProper a b = pb := ⟨_, rfl⟩
  rw [hz] at CZ ⊢
  rw [hp] at CP ⊢
  clear hz hp
  go_enter Tryz.func88, Tryz.ntmps88
  go_wp2_with fail
  refine (CZ.out _).mono ?_
  rintro o w1 ⟨rfl, K1⟩
  have c0 : w1.cell? ⟨w.heap.size, 0, none⟩ = some (.int .i64 a) := K1.cell (by simp) (fun z => z)
  have c1 : w1.cell? ⟨w.heap.size, 1, none⟩ = some (.int .i64 b) := K1.cell (by simp) (fun z => z)
  have KE := K.out.trans K1 (fun _ _ z => z)
  clear K1
  cases zb
  · go_wp2_with fail
    refine (CP.out _).mono ?_
    rintro o w2 ⟨rfl, K2⟩
    have KF := KE.trans K2 (fun _ _ z => z)
    clear K2
    go_wp2_with fail
    go_ret
    exact ⟨by first | rfl | simp, KF⟩
  · go_wp2_with fail
    go_ret
    exact ⟨by first | rfl | simp, KE⟩
set_option maxRecDepth 100000 in
theorem hFormR (e : Ev) (w : World) : Calls Tryz.prog 85 #[e.agg] w fun o w' => o = .returned (.int .i64 (formR e.st e.put)) ∧ Kept (fun _ => False) w w' := by
  obtain ⟨ki, cl, op, pu, ke, va, vn, vc, st, tx, ty, vl⟩ := e
  unfold Ev.agg
  dsimp only
  obtain ⟨v, hv⟩ : ∃ v, v = formR st pu := ⟨_, rfl⟩
  have HV : Hid (v = formR st pu) := hv
  unfold formR at HV
  rw [← hv]
  clear hv
  go_enter Tryz.func85, Tryz.ntmps85
  by_cases h : st = 0
  · subst h
    cases pu
    · have A : v = 3 := by rw [HV.out]; simp
      subst A
      clear HV
      go_wp2_with fail
      go_ret
      exact ⟨by first | rfl | simp, (Kept.refl _ _).alloc _⟩
    · have A : v = 2 := by rw [HV.out]; simp
      subst A
      clear HV
      go_wp2_with fail
      go_ret
      exact ⟨by first | rfl | simp, (Kept.refl _ _).alloc _⟩
  · have q0 : (st == 0) = false := by simp [h]
    by_cases h1 : st = 76
    · subst h1
      have A : v = 0 := by rw [HV.out]; simp
      subst A
      clear HV
      go_wp2_with fail
      go_ret
      exact ⟨by first | rfl | simp, (Kept.refl _ _).alloc _⟩
    · have q1 : (st == 76) = false := by simp [h1]
      by_cases h2 : st = 42
      · subst h2
        have A : v = 0 := by rw [HV.out]; simp
        subst A
        clear HV
        go_wp2_with fail
        go_ret
        exact ⟨by first | rfl | simp, (Kept.refl _ _).alloc _⟩
      · have q2 : (st == 42) = false := by simp [h2]
        have A : v = 4 := by rw [HV.out]; simp [h, h1, h2]
        subst A
        clear HV
        go_wp2_with fail
        go_ret
        exact ⟨by first | rfl | simp, (Kept.refl _ _).alloc _⟩
set_option maxRecDepth 100000 in
theorem hForm (e : Ev) (w : World) : Calls Tryz.prog 55 #[e.agg] w fun o w' => o = .returned (.int .i64 (formE e)) ∧ Kept (fun _ => False) w w' := by
  have CR : Hid (∀ V, Calls Tryz.prog 85 #[e.agg] V fun o w' => o = .returned (.int .i64 (formR e.st e.put)) ∧ Kept (fun _ => False) V w') := fun V => hFormR e V
  obtain ⟨v, hv⟩ : ∃ v, v = formE e := ⟨_, rfl⟩
  have HV : Hid (v = formE e) := hv
  rw [← hv]
  clear hv
  obtain ⟨ki, cl, op, pu, ke, va, vn, vc, st, tx, ty, vl⟩ := e
  unfold Ev.agg at CR ⊢
  unfold formE at HV
  dsimp only at CR HV ⊢
  obtain ⟨fr, hfr⟩ : ∃ fr, formR st pu = fr := ⟨_, rfl⟩
  rw [hfr] at CR HV
  clear hfr
  go_enter Tryz.func55, Tryz.ntmps55
  by_cases h : ki = 1
  · subst h
    cases pu
    · have A : v = 0 := by rw [HV.out]; simp
      subst A
      clear HV
      go_wp2_with fail
      go_ret
      exact ⟨by first | rfl | simp, (Kept.refl _ _).alloc _⟩
    · have A : v = 1 := by rw [HV.out]; simp
      subst A
      clear HV
      go_wp2_with fail
      go_ret
      exact ⟨by first | rfl | simp, (Kept.refl _ _).alloc _⟩
  · have q0 : (ki == 1) = false := by simp [h]
    by_cases h1 : ki = 3
    · subst h1
      cases pu
      · have A : v = 0 := by rw [HV.out]; simp
        subst A
        clear HV
        go_wp2_with fail
        go_ret
        exact ⟨by first | rfl | simp, (Kept.refl _ _).alloc _⟩
      · have A : v = 2 := by rw [HV.out]; simp
        subst A
        clear HV
        go_wp2_with fail
        go_ret
        exact ⟨by first | rfl | simp, (Kept.refl _ _).alloc _⟩
    · have q1 : (ki == 3) = false := by simp [h1]
      by_cases h2 : ki = 2
      · subst h2
        have A : v = fr := by rw [HV.out]; simp
        subst A
        clear HV
        have K : Hid (Kept (fun _ => False) w (w.alloc (Obj.cells #[.int .i64 2, .int .i64 cl, .int .i64 op, .bool pu, .string ke, .slice va vn vc, .int .i64 st, .int .i64 tx, .int .i64 ty] 39))) := (Kept.refl _ _).alloc _
        go_wp2_with fail
        refine (CR.out _).mono ?_
        rintro o w1 ⟨rfl, K1⟩
        have KE := K.out.trans K1 (fun _ _ z => z)
        clear K1
        go_wp2_with fail
        go_ret
        exact ⟨by first | rfl | simp, KE⟩
      · have q2 : (ki == 2) = false := by simp [h2]
        have A : v = 0 := by rw [HV.out]; simp [h, h1, h2]
        subst A
        clear HV
        go_wp2_with fail
        go_ret
        exact ⟨by first | rfl | simp, (Kept.refl _ _).alloc _⟩
end Go.Proofs.YtbangbobfeflcaaGreatDoor

namespace Go.Proofs.YtbangbobfeflcaaGreatDoor
open Go.RowKit 

set_option maxRecDepth 100000 in
theorem hValue (e : Ev) (hn : e.vn ≤ 9223372036854775807) (w : World) : Calls Tryz.prog 57 #[e.agg] w fun o w' => o = .returned (.bool (valueE e)) ∧ Kept (fun _ => False) w w' := by
  have CF : Hid (∀ V, Calls Tryz.prog 55 #[e.agg] V fun o w' => o = .returned (.int .i64 (formE e)) ∧ Kept (fun _ => False) V w') := fun V => hForm e V
  obtain ⟨v, hv⟩ : ∃ v, v = valueE e := ⟨_, rfl⟩
  obtain ⟨f, hf⟩ : ∃ f, formE e = f := ⟨_, rfl⟩
  have HV : Hid (v = if f = 1 ∨ f = 3 then decide (e.vn ≤ 65536) else decide (e.vn = 0)) := by rw [hv, ← hf]; rfl
  rw [hf] at CF
  rw [← hv]
  clear hv hf
  obtain ⟨ki, cl, op, pu, ke, va, vn, vc, st, tx, ty, vl⟩ := e
  unfold Ev.agg at CF ⊢
  dsimp only at CF HV hn ⊢
  have K0 : Hid (Kept (fun _ => False) w (w.alloc (Obj.cells #[.int .i64 ki, .int .i64 cl, .int .i64 op, .bool pu, .string ke, .slice va vn vc, .int .i64 st, .int .i64 tx, .int .i64 ty] 39))) := (Kept.refl _ _).alloc _
  obtain ⟨t1, e1⟩ : ∃ t, decide ((vn : Int) ≤ 65536) = t := ⟨_, rfl⟩
  obtain ⟨t2, e2⟩ : ∃ t, ((vn : Int) == 0) = t := ⟨_, rfl⟩
  have E1 : Hid (decide (vn ≤ 65536) = t1) := by rw [← e1]; exact decide_eq_decide.2 (by omega)
  have E2 : Hid (decide (vn = 0) = t2) := by
    show decide (vn = 0) = t2
    rw [← e2, Bool.eq_iff_iff]
    simp
  rw [E1.out, E2.out] at HV
  clear E1 E2
  go_enter Tryz.func57, Tryz.ntmps57
  go_wp2_with fail
  refine (CF.out _).mono ?_
  rintro o w1 ⟨rfl, K1⟩
  have bb : w1.heap[w.heap.size]? = some (.cells #[.int .i64 ki, .int .i64 cl, .int .i64 op, .bool pu, .string ke, .slice va vn vc, .int .i64 st, .int .i64 tx, .int .i64 ty] 39 (0, 0)) := K1.get (alloc_new _ _) (fun z => z)
  have d5 := cell_blk bb 5 (v := .slice va vn vc) rfl
  have KE := K0.out.trans K1 (fun _ _ z => z)
  clear K1 bb CF
  by_cases h1 : f = 1
  · subst h1
    have A : v = t1 := by rw [HV.out]; simp
    subst A
    clear HV
    go_wp2_with fail
    go_ret
    exact ⟨by first | rfl | simp, KE⟩
  · have q1 : (f == 1) = false := by simp [h1]
    by_cases h3 : f = 3
    · subst h3
      have A : v = t1 := by rw [HV.out]; simp
      subst A
      clear HV
      go_wp2_with fail
      go_ret
      exact ⟨by first | rfl | simp, KE⟩
    · have q3 : (f == 3) = false := by simp [h3]
      have A : v = t2 := by rw [HV.out]; simp [h1, h3]
      subst A
      clear HV
      go_wp2_with fail
      go_ret
      exact ⟨by first | rfl | simp, KE⟩
set_option maxRecDepth 100000 in
theorem hStatus (e : Ev) (w : World) : Calls Tryz.prog 59 #[e.agg] w fun o w' => o = .returned (.bool (statusE e)) ∧ Kept (fun _ => False) w w' := by
  obtain ⟨v, hv⟩ : ∃ v, v = statusE e := ⟨_, rfl⟩
  have HV : Hid (v = statusE e) := hv
  rw [← hv]
  clear hv
  obtain ⟨ki, cl, op, pu, ke, va, vn, vc, st, tx, ty, vl⟩ := e
  unfold Ev.agg
  unfold statusE at HV
  dsimp only at HV ⊢
  obtain ⟨t1, e1⟩ : ∃ t, decide (20 ≤ st) = t := ⟨_, rfl⟩
  obtain ⟨t2, e2⟩ : ∃ t, decide (st ≤ 26) = t := ⟨_, rfl⟩
  rw [e1, e2] at HV
  go_enter Tryz.func59, Tryz.ntmps59
  by_cases h : st = 0
  · subst h
    have A : v = true := by rw [HV.out]; simp
    subst A
    clear HV
    go_wp2_with fail
    go_ret
    exact ⟨by first | rfl | simp, (Kept.refl _ _).alloc _⟩
  · have q0 : (st == 0) = false := by simp [h]
    by_cases h2 : ki = 2
    · subst h2
      cases pu
      · by_cases h7 : st = 76
        · subst h7
          have A : v = true := by rw [HV.out]; simp
          subst A
          clear HV
          go_wp2_with fail
          go_ret
          exact ⟨by first | rfl | simp, (Kept.refl _ _).alloc _⟩
        · have q7 : (st == 76) = false := by simp [h7]
          cases t1
          · have A : v = false := by rw [HV.out]; simp [h, h7]
            subst A
            clear HV
            go_wp2_with fail
            go_ret
            exact ⟨by first | rfl | simp, (Kept.refl _ _).alloc _⟩
          · have A : v = t2 := by rw [HV.out]; simp [h, h7]
            subst A
            clear HV
            go_wp2_with fail
            go_ret
            exact ⟨by first | rfl | simp, (Kept.refl _ _).alloc _⟩
      · obtain ⟨t4, e4⟩ : ∃ t, (st == 42) = t := ⟨_, rfl⟩
        have A : v = t4 := by
          rw [HV.out, ← e4]
          simp [h]
          rfl
        subst A
        clear HV
        go_wp2_with fail
        go_ret
        exact ⟨by first | rfl | simp, (Kept.refl _ _).alloc _⟩
    · have q2 : (ki == 2) = false := by simp [h2]
      have A : v = false := by rw [HV.out]; simp [h, h2]
      subst A
      clear HV
      go_wp2_with fail
      go_ret
      exact ⟨by first | rfl | simp, (Kept.refl _ _).alloc _⟩
end Go.Proofs.YtbangbobfeflcaaGreatDoor
