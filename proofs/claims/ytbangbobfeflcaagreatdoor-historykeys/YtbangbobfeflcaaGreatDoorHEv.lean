import Derived.Test.YtbangbobfeflcaaGreatDoorLMap
namespace Go.Proofs.YtbangbobfeflcaaGreatDoor
open Go.RowKit 

/-- An event, with the bytes that it leads to. -/
structure Ev where
  kind : Int
  client : Int
  op : Int
  put : Bool
  key : ByteArray
  va : Option Addr
  vn : Nat
  vc : Nat
  st : Int
  tx : Int
  ty : Int
  val : List Nat
def Ev.cs (e : Ev) : Array Value := #[.int .i64 e.kind, .int .i64 e.client, .int .i64 e.op, .bool e.put, .string e.key, .slice e.va e.vn e.vc, .int .i64 e.st, .int .i64 e.tx, .int .i64 e.ty]
def Ev.agg (e : Ev) : Value := .agg #[.int .i64 e.kind, .int .i64 e.client, .int .i64 e.op, .bool e.put, .string e.key, .slice e.va e.vn e.vc, .int .i64 e.st, .int .i64 e.tx, .int .i64 e.ty]
/-- A list of events reads so. -/
structure ERd (w : World) (p : Option Addr) (n c : Nat) (es : List Ev) : Prop where
  len : es.length = n
  room : n ≤ c
  small : c ≤ maxLen
  cells : 0 < n → ∃ b off, p = some ⟨b, off, none⟩ ∧ ∀ i (h : i < es.length) k v, es[i].cs[k]? = some v → w.cell? ⟨b, off + i * 9 + k, none⟩ = some v
  rd : ∀ e ∈ es, Reads w e.va e.vn e.vc e.val
theorem ERd.at {w : World} {p : Option Addr} {n c : Nat} {es : List Ev} (h : ERd w p n c es) {i : Nat} (hi : i < n) : ∃ b off e, p = some ⟨b, off, none⟩ ∧ es[i]? = some e ∧ w.cell? ⟨b, off + i * 9, none⟩ = some (.int .i64 e.kind) ∧ w.cell? ⟨b, off + i * 9 + 1, none⟩ = some (.int .i64 e.client) ∧ w.cell? ⟨b, off + i * 9 + 2, none⟩ = some (.int .i64 e.op) ∧ w.cell? ⟨b, off + i * 9 + 3, none⟩ = some (.bool e.put) ∧ w.cell? ⟨b, off + i * 9 + 4, none⟩ = some (.string e.key) ∧ w.cell? ⟨b, off + i * 9 + 5, none⟩ = some (.slice e.va e.vn e.vc) ∧ w.cell? ⟨b, off + i * 9 + 6, none⟩ = some (.int .i64 e.st) ∧ w.cell? ⟨b, off + i * 9 + 7, none⟩ = some (.int .i64 e.tx) ∧ w.cell? ⟨b, off + i * 9 + 8, none⟩ = some (.int .i64 e.ty) ∧ Reads w e.va e.vn e.vc e.val := by
  obtain ⟨b, off, e, hc⟩ := h.cells (by omega)
  have hi2 : i < es.length := by rw [h.len]; exact hi
  exact ⟨b, off, es[i], e, List.getElem?_eq_getElem hi2, hc i hi2 0 _ rfl, hc i hi2 1 _ rfl, hc i hi2 2 _ rfl, hc i hi2 3 _ rfl, hc i hi2 4 _ rfl, hc i hi2 5 _ rfl, hc i hi2 6 _ rfl, hc i hi2 7 _ rfl, hc i hi2 8 _ rfl, h.rd _ (List.getElem_mem hi2)⟩
theorem ERd.k0 {w w' : World} {p : Option Addr} {n c : Nat} {es : List Ev} (h : ERd w p n c es) (K : Kept (fun _ => False) w w') : ERd w' p n c es := by
  refine ⟨h.len, h.room, h.small, fun h0 => ?_, fun e he => Reads.kept K (h.rd e he) (fun _ _ z => z)⟩
  obtain ⟨b, off, e, hc⟩ := h.cells h0
  exact ⟨b, off, e, fun i hi k v hv => K.cell (hc i hi k v hv) (fun z => z)⟩
def kIsProper (a b : Int) : Bool := decide (1 ≤ a ∧ a ≤ 4611686018427387903 ∧ 1 ≤ b ∧ b ≤ 65535)
def kIsZero (a b : Int) : Bool := decide (a = 0 ∧ b = 0)
/-- What stands behind the key in an event's line: nothing 0, a value 1, a tag 2, both 3, a status and a tag 4. -/
def formR (st : Int) (pu : Bool) : Int := if st = 0 then (if pu = true then 2 else 3) else if st = 76 ∨ st = 42 then 0 else 4
def formE (e : Ev) : Int := if e.kind = 1 then (if e.put = true then 1 else 0) else if e.kind = 3 then (if e.put = true then 2 else 0) else if e.kind = 2 then formR e.st e.put else 0
def valueE (e : Ev) : Bool := if formE e = 1 ∨ formE e = 3 then decide (e.vn ≤ 65536) else decide (e.vn = 0)
def tagE (e : Ev) : Bool := if formE e = 0 ∨ formE e = 1 then kIsZero e.tx e.ty else (kIsZero e.tx e.ty || kIsProper e.tx e.ty) && !(decide (e.kind = 2) && decide (e.st = 0) && kIsZero e.tx e.ty)
def statusE (e : Ev) : Bool := if e.st = 0 then true else if e.kind ≠ 2 then false else if e.put = true then decide (e.st = 42) else (decide (e.st = 76) || (decide (20 ≤ e.st) && decide (e.st ≤ 26)))
/-- What is wrong with an event by itself. -/
def faultE (e : Ev) : Int :=
  if ¬ (e.kind = 1 ∨ e.kind = 2 ∨ e.kind = 3) then 32
  else if e.client < 1 ∨ 65535 < e.client then 51
  else if e.key.size < 1 ∨ 64 < e.key.size then 74
  else if valueE e = false then 75
  else if tagE e = false then 41
  else if e.op < 1 ∨ 4611686018427387903 < e.op ∨ statusE e = false then 80 else 0
/-- May it stand behind its client's last one? -/
def mayF (l : Option Ev) (e : Ev) : Bool :=
  let busy := match l with | some x => decide (x.kind = 1) | none => false
  let lop := match l with | some x => x.op | none => 0
  if e.kind = 1 then !busy && decide (e.op = lop + 1)
  else match l with | some x => busy && decide (e.op = x.op) && decide (e.put = x.put) && decide (e.key = x.key) | none => false
/-- The first event that can't stand where it stands. -/
def chkE : List Ev → (Int → Option Ev) → Nat → Int × Int
  | [], _, _ => (-1, 0)
  | e :: es, M, i => if faultE e ≠ 0 then ((i : Int), faultE e) else if mayF (M e.client) e = false then ((i : Int), 80) else chkE es (upd M e.client e) (i + 1)
theorem chk_cons (e : Ev) (es : List Ev) (M : Int → Option Ev) (i : Nat) : chkE (e :: es) M i = if faultE e ≠ 0 then ((i : Int), faultE e) else if mayF (M e.client) e = false then ((i : Int), 80) else chkE es (upd M e.client e) (i + 1) := rfl
theorem chk_no {i : Nat} {v : Int} (h : ((i : Int), v) = (-1, 0)) : False := by
  injection h with h1 _
  omega
/-- The last ones by client. -/
def lastM : List Ev → (Int → Option Ev) → Int → Option Ev
  | [], M => M
  | e :: es, M => lastM es (upd M e.client e)
theorem lastM_app : ∀ (a b : List Ev) (M : Int → Option Ev), lastM (a ++ b) M = lastM b (lastM a M)
  | [], _, _ => rfl
  | _ :: a, b, _ => lastM_app a b _
theorem chk_app : ∀ (a b : List Ev) (M : Int → Option Ev) (i : Nat), chkE a M i = (-1, 0) → chkE (a ++ b) M i = chkE b (lastM a M) (i + a.length)
  | [], _, _, _, _ => rfl
  | e :: a, b, M, i, h => by
    rw [chk_cons] at h
    rw [List.cons_append, chk_cons]
    by_cases h1 : faultE e ≠ 0
    · rw [if_pos h1] at h
      exact (chk_no h).elim
    · rw [if_neg h1] at h ⊢
      by_cases h2 : mayF (M e.client) e = false
      · rw [if_pos h2] at h
        exact (chk_no h).elim
      · rw [if_neg h2] at h ⊢
        rw [chk_app a b _ _ h, List.length_cons, show i + 1 + a.length = i + (a.length + 1) by omega]
        rfl
theorem chk_pre : ∀ (a b : List Ev) (M : Int → Option Ev) (i : Nat), chkE (a ++ b) M i = (-1, 0) → chkE a M i = (-1, 0)
  | [], _, _, _, _ => rfl
  | e :: a, b, M, i, h => by
    rw [List.cons_append] at h
    rw [chk_cons] at h ⊢
    by_cases h1 : faultE e ≠ 0
    · rw [if_pos h1] at h
      exact (chk_no h).elim
    · rw [if_neg h1] at h ⊢
      by_cases h2 : mayF (M e.client) e = false
      · rw [if_pos h2] at h
        exact (chk_no h).elim
      · rw [if_neg h2] at h ⊢
        exact chk_pre a b _ _ h
theorem chk_any : ∀ (es : List Ev) (M : Int → Option Ev) (i : Nat), (∀ e ∈ es, faultE e = 0) → chkE es M i = (-1, 0) ∨ ∃ j : Nat, i ≤ j ∧ chkE es M i = ((j : Int), 80)
  | [], _, _, _ => .inl rfl
  | e :: es, M, i, h => by
    rw [chk_cons, if_neg (by rw [h e (by simp)]; simp)]
    by_cases h2 : mayF (M e.client) e = false
    · rw [if_pos h2]
      exact .inr ⟨i, Nat.le_refl _, rfl⟩
    · rw [if_neg h2]
      rcases chk_any es (upd M e.client e) (i + 1) (fun x hx => h x (List.mem_cons_of_mem _ hx)) with z | ⟨j, h1, z⟩
      · exact .inl z
      · exact .inr ⟨j, by omega, z⟩
theorem mayF_twice (M : Int → Option Ev) (e : Ev) : mayF (upd M e.client e e.client) e = false := by
  unfold upd
  rw [if_pos rfl]
  unfold mayF
  by_cases h : e.kind = 1 <;> simp [h]
theorem upd_twice (M : Int → Option Ev) (e : Ev) : upd (upd M e.client e) e.client e = upd M e.client e := by
  funext j
  unfold upd
  by_cases h : j = e.client <;> simp [h]
/-- An event that stands twice: its second standing is told. -/
theorem chk_twice {a b : List Ev} {e : Ev} (h : chkE (a ++ e :: b) (fun _ => none) 0 = (-1, 0)) : chkE (a ++ e :: e :: b) (fun _ => none) 0 = (((a.length + 1 : Nat) : Int), 80) := by
  have ha := chk_pre a (e :: b) _ _ h
  rw [chk_app a (e :: b) _ _ ha] at h
  rw [chk_app a (e :: e :: b) _ _ ha]
  rw [chk_cons] at h ⊢
  by_cases h1 : faultE e ≠ 0
  · rw [if_pos h1] at h
    exact (chk_no h).elim
  · rw [if_neg h1] at h ⊢
    by_cases h2 : mayF (lastM a (fun _ => none) e.client) e = false
    · rw [if_pos h2] at h
      exact (chk_no h).elim
    · rw [if_neg h2]
      rw [chk_cons, if_neg h1, if_pos (mayF_twice _ e)]
      simp
/-- An event that is left out: what can't stand comes behind it. -/
theorem chk_less {a b : List Ev} {e : Ev} (h : chkE (a ++ e :: b) (fun _ => none) 0 = (-1, 0)) (hf : ∀ x ∈ b, faultE x = 0) : chkE (a ++ b) (fun _ => none) 0 = (-1, 0) ∨ ∃ j : Nat, a.length ≤ j ∧ chkE (a ++ b) (fun _ => none) 0 = ((j : Int), 80) := by
  have ha := chk_pre a (e :: b) _ _ h
  rw [chk_app a b _ _ ha]
  rcases chk_any b (lastM a fun _ => none) (0 + a.length) hf with z | ⟨j, h1, z⟩
  · exact .inl z
  · exact .inr ⟨j, by omega, z⟩
theorem chk_fault : ∀ (es : List Ev) (M : Int → Option Ev) (i : Nat), chkE es M i = (-1, 0) → ∀ e ∈ es, faultE e = 0
  | [], _, _, _, e, he => by cases he
  | x :: es, M, i, h, e, he => by
    rw [chk_cons] at h
    by_cases h1 : faultE x ≠ 0
    · rw [if_pos h1] at h
      exact (chk_no h).elim
    · rw [if_neg h1] at h
      by_cases h2 : mayF (M x.client) x = false
      · rw [if_pos h2] at h
        exact (chk_no h).elim
      · rw [if_neg h2] at h
        rcases List.mem_cons.1 he with z | z
        · rw [z]
          exact Classical.not_not.1 h1
        · exact chk_fault es _ _ h e z
def noM : Int → Option Ev := fun _ => none
end Go.Proofs.YtbangbobfeflcaaGreatDoor
