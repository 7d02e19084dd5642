import Derived.Test.YtbangbobfeflcaaGreatDoorLL0J
import Derived.Test.YtbangbobfeflcaaGreatDoorLL2J
import Derived.Test.YtbangbobfeflcaaGreatDoorLL4J
import Derived.Test.YtbangbobfeflcaaGreatDoorLL5
import Derived.Test.YtbangbobfeflcaaGreatDoorLL7J
import Derived.Lib.AtoiAllCases
import Derived.Lib.ParseIntBTie
import Derived.Lib.ItoaMem
import Derived.Lib.Bytealg
import Derived.Lib.IndexMore
namespace Go.Proofs.YtbangbobfeflcaaGreatDoor
open Go.RowKit 

/-- What an event that may be is like. -/
theorem fault_all {e : Ev} (h : faultE e = 0) : (e.kind = 1 ∨ e.kind = 2 ∨ e.kind = 3) ∧ (1 ≤ e.client ∧ e.client ≤ 65535) ∧ (1 ≤ e.key.size ∧ e.key.size ≤ 64) ∧ valueE e = true ∧ tagE e = true ∧ (1 ≤ e.op ∧ e.op ≤ 4611686018427387903) ∧ statusE e = true := by
  unfold faultE at h
  split at h
  · cases h
  rename_i h1
  split at h
  · cases h
  rename_i h2
  split at h
  · cases h
  rename_i h3
  split at h
  · cases h
  rename_i h4
  split at h
  · cases h
  rename_i h5
  split at h
  · cases h
  rename_i h6
  refine ⟨by omega, by omega, by omega, ?_, ?_, by omega, ?_⟩
  · cases q : valueE e with
    | true => rfl
    | false => exact absurd q h4
  · cases q : tagE e with
    | true => rfl
    | false => exact absurd q h5
  · cases q : statusE e with
    | true => rfl
    | false => exact absurd (Or.inr (Or.inr q)) h6
/-- The words of an event's line. -/
def lineW (e : Ev) : List ByteArray := [kwB e.kind.toNat, itB e.client, itB e.op, if e.put = true then ⟨#[112, 117, 116]⟩ else ⟨#[103, 101, 116]⟩, quoB e.key] ++ (if e.kind = 2 then [endB e.st] else []) ++ (if formE e = 4 then [itB e.st, tagB e.tx e.ty] else if formE e = 2 then [tagB e.tx e.ty] else if formE e = 3 then [tagB e.tx e.ty, quoB (str e.val)] else if formE e = 1 then [quoB (str e.val)] else [])
def lineB (e : Ev) : ByteArray := joinB (lineW e)
theorem tag_ok {e : Ev} (h : tagE e = true) (hf : ¬ (formE e = 0 ∨ formE e = 1)) : (kIsZero e.tx e.ty || kIsProper e.tx e.ty) = true := by
  unfold tagE at h
  rw [if_neg hf] at h
  simp only [Bool.and_eq_true] at h
  exact h.1
theorem val_le {e : Ev} (h : valueE e = true) : e.vn ≤ 65536 := by
  unfold valueE at h
  split at h
  · simpa using h
  · have : e.vn = 0 := by simpa using h
    omega
theorem hLineG {w : World} (e : Ev) (hf : faultE e = 0) (V : Tab w) (kw : KWs w) (rv : Reads w e.va e.vn e.vc e.val) : Calls Tryz.prog 32 #[e.agg] w fun o w' => o = .returned (.string (lineB e)) ∧ Kept (fun _ => False) w w' := by
  obtain ⟨h1, h2, h3, h4, h5, h6, h7⟩ := fault_all hf
  have hc : KI e.client := ⟨by omega, by omega⟩
  have ho : KI e.op := ⟨by omega, by omega⟩
  have hv := val_le h4
  have tg := tag_ok h5
  unfold lineB lineW
  obtain ⟨kind, client, op, put, key, va, vn, vc, st, tx, ty, val⟩ := e
  simp only at h1 h2 h3 h6 hc ho hv tg rv ⊢
  have hst : KI st := by
    unfold statusE at h7
    simp only at h7
    split at h7
    · rename_i z; rw [z]; exact ⟨by omega, by omega⟩
    · split at h7
      · cases h7
      · split at h7
        · have : st = 42 := by simpa using h7
          rw [this]; exact ⟨by omega, by omega⟩
        · simp at h7
          unfold KI
          omega
  rcases h1 with rfl | rfl | rfl
  · cases put with
    | true =>
      have q := hLnP1 (kd := 1) (st := st) (tx := tx) (ty := ty) V kw (by omega) (by omega) hc ho h3.2 rv hv (by omega) rfl
      exact q
    | false =>
      have q := hLnG0 (kd := 1) (st := st) (tx := tx) (ty := ty) (va := va) (vn := vn) (vc := vc) (val := val) V kw (by omega) (by omega) hc ho h3.2 (by omega) rfl
      exact q
  · cases put with
    | true =>
      by_cases z : st = 0
      · have ff : formE ⟨2, client, op, true, key, va, vn, vc, st, tx, ty, val⟩ = 2 := by rw [z]; rfl
        have q := hLnPR2 V kw hc ho h3.2 (tg (by rw [ff]; decide)) ff
        rw [ff]
        exact q
      · have z2 : st = 42 := by
          unfold statusE at h7
          simp only at h7
          rw [if_neg z] at h7
          simpa using h7
        have ff : formE ⟨2, client, op, true, key, va, vn, vc, st, tx, ty, val⟩ = 0 := by rw [z2]; rfl
        have q := hLnPR0 V kw hc ho h3.2 ff
        rw [ff]
        exact q
    | false =>
      by_cases z : st = 0
      · have ff : formE ⟨2, client, op, false, key, va, vn, vc, st, tx, ty, val⟩ = 3 := by rw [z]; rfl
        have q := hLnGR3 V kw hc ho h3.2 rv hv (tg (by rw [ff]; decide)) ff
        rw [ff]
        exact q
      · by_cases z2 : st = 76 ∨ st = 42
        · have ff : formE ⟨2, client, op, false, key, va, vn, vc, st, tx, ty, val⟩ = 0 := by rcases z2 with z2 | z2 <;> rw [z2] <;> rfl
          have q := hLnGR0 V kw hc ho h3.2 ff
          rw [ff]
          exact q
        · have ff : formE ⟨2, client, op, false, key, va, vn, vc, st, tx, ty, val⟩ = 4 := by
            show formR st false = 4
            unfold formR
            rw [if_neg z, if_neg z2]
          have q := hLnGR4 V kw hc ho h3.2 (tg (by rw [ff]; decide)) hst ff
          rw [ff]
          exact q
  · cases put with
    | true =>
      have ff : formE ⟨3, client, op, true, key, va, vn, vc, st, tx, ty, val⟩ = 2 := rfl
      have q := hLnP3 (kd := 3) (st := st) (va := va) (vn := vn) (vc := vc) (val := val) V kw (by omega) (by omega) hc ho h3.2 (tg (by rw [ff]; decide)) (by omega) ff
      exact q
    | false =>
      have q := hLnG0 (kd := 3) (st := st) (tx := tx) (ty := ty) (va := va) (vn := vn) (vc := vc) (val := val) V kw (by omega) (by omega) hc ho h3.2 (by omega) rfl
      exact q
end Go.Proofs.YtbangbobfeflcaaGreatDoor

namespace Go.Proofs.YtbangbobfeflcaaGreatDoor
open Go.RowKit 

/-- A history's text, line by line; the first event's fault that isn't none. -/
def txtF (es : List Ev) : List UInt8 := es.flatMap fun e => (lineB e).data.toList ++ [10]
theorem txtF_take {es : List Ev} {i : Nat} {e : Ev} (h : es[i]? = some e) : txtF (es.take (i + 1)) = txtF (es.take i) ++ ((lineB e).data.toList ++ [10]) := by
  have et : es.take (i + 1) = es.take i ++ [e] := by rw [List.take_add_one, h]; rfl
  rw [et]
  unfold txtF
  rw [List.flatMap_append]
  simp
/-- Where Text is: the builder, in the block that the call made first. -/
structure TB (w wr : World) (l : List UInt8) : Prop where
  bd : Lib.IsBuilder 84 5 w.heap.size w.heap.size (Lib.byteCells l) wr
  kept : Kept (fun _ => False) w wr
theorem bat_k0 {w wr W : World} {p : Value} {bs : List Value} (h : Lib.BuilderAt 84 5 w.heap.size w.heap.size p bs wr) (K : Kept (fun _ => False) wr W) : Lib.BuilderAt 84 5 w.heap.size w.heap.size p bs W := by
  obtain ⟨h1, v, h2, h3, h4⟩ := h
  exact ⟨h1, v, K.get h2 (fun z => z), K.owns h3 (fun _ _ z => z), h4⟩
theorem TB.k0 {w wr W : World} {l : List UInt8} (h : TB w wr l) (K : Kept (fun _ => False) wr W) : TB w W l := ⟨by
  rcases h.bd with z | z
  · exact .inl (bat_k0 z K)
  · exact .inr (bat_k0 z K), h.kept.trans K (fun _ _ z => z)⟩
theorem TB.lt {w wr : World} {l : List UInt8} (h : TB w wr l) : w.heap.size < wr.heap.size := by
  rcases h.bd with z | z
  · exact z.lt
  · exact z.lt
end Go.Proofs.YtbangbobfeflcaaGreatDoor

namespace Go.Proofs.YtbangbobfeflcaaGreatDoor
open Go.RowKit 

open Go.RowKit in
theorem Tryz.strconv_Atoi_syntax_var (s : ByteArray) (hlim : s.size ≤ 281474976710656) (h : Lib.atoiAll s.data.toList = .«syntax») (tp : TypeId) (p : Value) (w : World) (hvar : w.var? Tryz.prog "strconv.ErrSyntax" = some #[.iface tp p]) :
    Calls Tryz.prog 86 #[.string s] w fun e w' => ∃ N, e = .returned (.tuple #[.int .i64 0, .iface 154 (.pointer (some ⟨N, 0, none⟩))]) ∧ w.heap.size ≤ N ∧ w'.heap[N]? = some (.cells #[.string ⟨#[65, 116, 111, 105]⟩, .string s, .iface tp p] 170 (0, 0)) ∧ Below w.heap.size w w' := Any.strconv_Atoi_syntax_var Tryz.laysC172 s hlim h tp p w hvar
open Go.RowKit in
theorem Tryz.strconv_Atoi_range_var (s : ByteArray) (hlim : s.size ≤ 281474976710656) (h : Lib.atoiAll s.data.toList = .range) (tp : TypeId) (p : Value) (w : World) (hvar : w.var? Tryz.prog "strconv.ErrRange" = some #[.iface tp p]) :
    Calls Tryz.prog 86 #[.string s] w fun e w' => ∃ N, e = .returned (.tuple #[.int .i64 (Lib.atoiSat s.data.toList), .iface 154 (.pointer (some ⟨N, 0, none⟩))]) ∧ w.heap.size ≤ N ∧ w'.heap[N]? = some (.cells #[.string ⟨#[65, 116, 111, 105]⟩, .string s, .iface tp p] 170 (0, 0)) ∧ Below w.heap.size w w' := Any.strconv_Atoi_range_var Tryz.laysC172 s hlim h tp p w hvar
open Go.RowKit in
theorem Tryz.strconv_ParseInt_10_at64_syntax_var (s : ByteArray) (hlim : s.size ≤ 281474976710656) (h : Lib.parseIntB 64 s.data.toList = .«syntax») (tp : TypeId) (p : Value) (w : World) (hvar : w.var? Tryz.prog "strconv.ErrSyntax" = some #[.iface tp p]) :
    Calls Tryz.prog 83 #[.string s, .int .i64 10, .int .i64 64] w fun e w' => ∃ N, e = .returned (.tuple #[.int .i64 (0), .iface 154 (.pointer (some ⟨N, 0, none⟩))]) ∧ w.heap.size ≤ N ∧ w'.heap[N]? = some (.cells #[.string ⟨#[80, 97, 114, 115, 101, 73, 110, 116]⟩, .string s, .iface tp p] 170 (0, 0)) ∧ Below w.heap.size w w' := Any.strconv_ParseInt_10_at64_syntax_var Tryz.laysC174 s hlim h tp p w hvar
open Go.RowKit in
theorem Tryz.strconv_ParseInt_10_at64_range_var (s : ByteArray) (hlim : s.size ≤ 281474976710656) (h : Lib.parseIntB 64 s.data.toList = .range) (tp : TypeId) (p : Value) (w : World) (hvar : w.var? Tryz.prog "strconv.ErrRange" = some #[.iface tp p]) :
    Calls Tryz.prog 83 #[.string s, .int .i64 10, .int .i64 64] w fun e w' => ∃ N, e = .returned (.tuple #[.int .i64 (Lib.intSat 64 s.data.toList), .iface 154 (.pointer (some ⟨N, 0, none⟩))]) ∧ w.heap.size ≤ N ∧ w'.heap[N]? = some (.cells #[.string ⟨#[80, 97, 114, 115, 101, 73, 110, 116]⟩, .string s, .iface tp p] 170 (0, 0)) ∧ Below w.heap.size w w' := Any.strconv_ParseInt_10_at64_range_var Tryz.laysC174 s hlim h tp p w hvar
/-- The library's two errors. -/
structure EVs (w : World) : Prop where
  syn : ∃ tp p, w.var? Tryz.prog "strconv.ErrSyntax" = some #[.iface tp p]
  rng : ∃ tp p, w.var? Tryz.prog "strconv.ErrRange" = some #[.iface tp p]
theorem EVs.by {w w' : World} (h : EVs w) (B : Below w.heap.size w w') : EVs w' := ⟨by obtain ⟨a, b, q⟩ := h.syn; exact ⟨a, b, var_by B q⟩, by obtain ⟨a, b, q⟩ := h.rng; exact ⟨a, b, var_by B q⟩⟩
/-- A number's end. -/
def NumIs (l : List UInt8) (v : Int) (i : Value) : Prop := (∃ u, Lib.atoiAll l = .ok u ∧ u = v ∧ i = .nilIface) ∨ ((∀ u, Lib.atoiAll l ≠ .ok u) ∧ ∃ t q, i = .iface t (.pointer (some q)))
theorem bytes_below (w : World) (t : TypeId) (s : ByteArray) : Below w.heap.size w (Lib.bytesWorld w t s) := Lib.bytesWorld_below _ _ _
theorem atoiAny (s : ByteArray) (w : World) (hs : s.size ≤ 281474976710656) (V : EVs w) :
    Calls Tryz.prog 86 #[.string s] w fun x w' => ∃ v i, x = .returned (.tuple #[.int .i64 v, i]) ∧ NumIs s.data.toList v i ∧ Below w.heap.size w w' := by
  cases h : Lib.atoiAll s.data.toList with
  | ok u =>
    refine (Tryz.strconv_Atoi_ok s (by omega) u h w).mono ?_
    rintro x w1 ⟨rfl, hw⟩
    refine ⟨u, .nilIface, rfl, .inl ⟨u, h, rfl, rfl⟩, ?_⟩
    rcases hw with rfl | ⟨t, rfl⟩
    · exact Below.refl _ _
    · exact bytes_below _ _ _
  | «syntax» =>
    obtain ⟨tp, p, hv⟩ := V.syn
    refine (Tryz.strconv_Atoi_syntax_var s hs h tp p w hv).mono ?_
    rintro x w1 ⟨N, rfl, -, -, hb⟩
    exact ⟨0, _, rfl, .inr ⟨(fun u q => by rw [h] at q; exact absurd q (by simp)), 154, _, rfl⟩, hb⟩
  | range =>
    obtain ⟨tp, p, hv⟩ := V.rng
    refine (Tryz.strconv_Atoi_range_var s hs h tp p w hv).mono ?_
    rintro x w1 ⟨N, rfl, -, -, hb⟩
    exact ⟨_, _, rfl, .inr ⟨(fun u q => by rw [h] at q; exact absurd q (by simp)), 154, _, rfl⟩, hb⟩
theorem parseAny (s : ByteArray) (w : World) (hs : s.size ≤ 281474976710656) (V : EVs w) :
    Calls Tryz.prog 83 #[.string s, .int .i64 10, .int .i64 64] w fun x w' => ∃ v i, x = .returned (.tuple #[.int .i64 v, i]) ∧ NumIs s.data.toList v i ∧ Below w.heap.size w w' := by
  have P := Lib.parseIntB_64 s.data.toList
  cases h : Lib.atoiAll s.data.toList with
  | ok u =>
    refine (Tryz.strconv_ParseInt_10_at64_ok s (by omega) u (P.trans h) w).mono ?_
    rintro x w1 ⟨rfl, hw⟩
    refine ⟨u, .nilIface, rfl, .inl ⟨u, h, rfl, rfl⟩, ?_⟩
    rcases hw with rfl | ⟨t, rfl⟩
    · exact Below.refl _ _
    · exact bytes_below _ _ _
  | «syntax» =>
    obtain ⟨tp, p, hv⟩ := V.syn
    refine (Tryz.strconv_ParseInt_10_at64_syntax_var s hs (P.trans h) tp p w hv).mono ?_
    rintro x w1 ⟨N, rfl, -, -, hb⟩
    exact ⟨0, _, rfl, .inr ⟨(fun u q => by rw [h] at q; exact absurd q (by simp)), 154, _, rfl⟩, hb⟩
  | range =>
    obtain ⟨tp, p, hv⟩ := V.rng
    refine (Tryz.strconv_ParseInt_10_at64_range_var s hs (P.trans h) tp p w hv).mono ?_
    rintro x w1 ⟨N, rfl, -, -, hb⟩
    exact ⟨_, _, rfl, .inr ⟨(fun u q => by rw [h] at q; exact absurd q (by simp)), 154, _, rfl⟩, hb⟩
end Go.Proofs.YtbangbobfeflcaaGreatDoor

namespace Go.Proofs.YtbangbobfeflcaaGreatDoor
open Go.Lib

def Digit (c : UInt8) : Prop := 48 ≤ c.toNat ∧ c.toNat ≤ 57
theorem ofNat_digit (u : Nat) (h : u < 10) : (UInt8.ofNat (48 + u)).toNat = 48 + u := by
  simp [UInt8.toNat_ofNat']
  omega
/-- What digits spell, from acc on. -/
def dv (acc : Nat) (l : List UInt8) : Nat := l.foldl (fun a c => a * 10 + (c.toNat - 48)) acc
theorem dv_append (l m : List UInt8) (acc : Nat) : dv acc (l ++ m) = dv (dv acc l) m := by simp [dv]
theorem dv_ge (l : List UInt8) : ∀ acc, acc ≤ dv acc l := by
  induction l with
  | nil => intro acc; exact Nat.le_refl _
  | cons c r ih => intro acc; exact Nat.le_trans (by omega) (ih (acc * 10 + (c.toNat - 48)))
/-- digits, by fuel. -/
theorem digs (f : Nat) : ∀ u : Nat, u < f → (∀ c ∈ decDigits u, Digit c) ∧ dv 0 (decDigits u) = u ∧ decDigits u ≠ [] := by
  induction f with
  | zero => intro u h; omega
  | succ f ih =>
    intro u hu
    rw [decDigits]
    by_cases h : u < 10
    · rw [dif_pos h]
      refine ⟨fun c hc => ?_, ?_, by simp⟩
      · rw [List.mem_singleton] at hc
        subst hc
        have := ofNat_digit u h
        exact ⟨by omega, by omega⟩
      · have e := ofNat_digit u h
        show 0 * 10 + ((UInt8.ofNat (48 + u)).toNat - 48) = u
        omega
    · rw [dif_neg h]
      obtain ⟨h1, h2, h3⟩ := ih (u / 10) (by omega)
      refine ⟨fun c hc => ?_, ?_, by simp⟩
      · rcases List.mem_append.1 hc with q | q
        · exact h1 c q
        · rw [List.mem_singleton] at q
          subst q
          have := ofNat_digit (u % 10) (by omega)
          exact ⟨by omega, by omega⟩
      · rw [dv_append, h2]
        have e := ofNat_digit (u % 10) (by omega)
        show u / 10 * 10 + ((UInt8.ofNat (48 + u % 10)).toNat - 48) = u
        omega
theorem digs_digit (u : Nat) : ∀ c ∈ decDigits u, Digit c := (digs (u + 1) u (by omega)).1
theorem digs_dv (u : Nat) : dv 0 (decDigits u) = u := (digs (u + 1) u (by omega)).2.1
theorem digs_ne (u : Nat) : decDigits u ≠ [] := (digs (u + 1) u (by omega)).2.2
theorem parse_digits (l : List UInt8) : ∀ acc, (∀ c ∈ l, Digit c) → dv acc l < 9223372036854775808 → parseUint10 acc l = .ok (dv acc l) := by
  induction l with
  | nil => intro acc _ _; rfl
  | cons c r ih =>
    intro acc hd hs
    have hc : 48 ≤ c.toNat ∧ c.toNat ≤ 57 := hd c (by simp)
    have ge := dv_ge r (acc * 10 + (c.toNat - 48))
    have hs' : dv (acc * 10 + (c.toNat - 48)) r < 9223372036854775808 := hs
    unfold parseUint10
    rw [if_pos hc, if_neg (by omega), if_neg (by omega)]
    exact ih _ (fun x hx => hd x (by simp [hx])) hs'
theorem atoi_digs (u : Nat) (h : u < 9223372036854775808) : atoiAll (decDigits u) = .ok (u : Int) := by
  have h1 := digs_digit u
  have h2 := digs_dv u
  have h3 := digs_ne u
  cases e : decDigits u with
  | nil => exact absurd e h3
  | cons c r =>
    rw [e] at h1 h2
    have hc : 48 ≤ c.toNat ∧ c.toNat ≤ 57 := h1 c (by simp)
    have p := parse_digits (c :: r) 0 h1 (by omega)
    rw [h2] at p
    unfold atoiAll
    simp only []
    rw [if_neg (by omega)]
    unfold parseMag
    rw [if_neg (by simp), p]
    simp only []
    rw [if_neg (by omega), if_neg (by omega), if_neg (by omega)]
end Go.Proofs.YtbangbobfeflcaaGreatDoor

namespace Go.Proofs.YtbangbobfeflcaaGreatDoor
open Go.RowKit 

theorem parse_big (l : List UInt8) : ∀ acc, (∀ c ∈ l, Digit c) → dv acc l < 18446744073709551616 → Lib.parseUint10 acc l = .ok (dv acc l) := by
  induction l with
  | nil => intro acc _ _; rfl
  | cons c r ih =>
    intro acc hd hs
    have hc : 48 ≤ c.toNat ∧ c.toNat ≤ 57 := hd c (by simp)
    have ge := dv_ge r (acc * 10 + (c.toNat - 48))
    have hs' : dv (acc * 10 + (c.toNat - 48)) r < 18446744073709551616 := hs
    unfold Lib.parseUint10
    rw [if_pos hc, if_neg (by omega), if_neg (by omega)]
    exact ih _ (fun x hx => hd x (by simp [hx])) hs'
theorem atoi_back (n : Int) (h : KI n) : Lib.atoiAll (Lib.itoa n) = .ok n := by
  obtain ⟨h1, h2⟩ := h
  unfold Lib.itoa
  by_cases h : n < 0
  · rw [if_pos h, Lib.atoiAll_minus]
    have p := parse_big (Lib.decDigits n.natAbs) 0 (digs_digit _) (by rw [digs_dv]; omega)
    rw [digs_dv] at p
    unfold Lib.parseMag
    rw [if_neg (digs_ne _), p]
    unfold Lib.signed
    simp only []
    rw [if_neg (by omega)]
    congr 1
    omega
  · rw [if_neg h, atoi_digs n.toNat (by omega)]
    congr 1
    omega
theorem itoa_chars (n : Int) : ∀ c ∈ Lib.itoa n, c = 45 ∨ (48 ≤ c.toNat ∧ c.toNat ≤ 57) := fun c hc => by
  unfold Lib.itoa at hc
  split at hc
  · rcases List.mem_cons.1 hc with z | z
    · exact .inl z
    · exact .inr (digs_digit _ c z)
  · exact .inr (digs_digit _ c hc)
theorem itoa_no (n : Int) (m : UInt8) (h : m.toNat < 45 ∨ 57 < m.toNat ∨ m.toNat = 46 ∨ m.toNat = 47) : m ∉ Lib.itoa n := fun z => by
  rcases itoa_chars n m z with q | q
  · rw [q] at h
    simp at h
  · omega
/-- strings.Cut at one byte. -/
theorem index_hit (m : UInt8) (y : List UInt8) : ∀ x : List UInt8, m ∉ x → Lib.index (x ++ m :: y) [m] = (x.length : Int)
  | [], _ => by
    show Lib.index (m :: y) [m] = 0
    unfold Lib.index
    simp
  | a :: r, h => by
    have ha : a ≠ m := fun z => h (by rw [z]; exact List.mem_cons_self)
    have q := index_hit m y r (fun z => h (List.mem_cons_of_mem _ z))
    show Lib.index (a :: (r ++ m :: y)) [m] = _
    unfold Lib.index
    rw [q]
    have e1 : [m].isPrefixOf (a :: (r ++ m :: y)) = false := by simp [List.isPrefixOf]; exact fun z => ha z.symm
    rw [e1]
    have e2 : (((r.length : Int)) == -1) = false := by simp
    rw [e2]
    simp
theorem index_miss (m : UInt8) : ∀ x : List UInt8, m ∉ x → Lib.index x [m] = -1
  | [], _ => by unfold Lib.index; simp
  | a :: r, h => by
    have ha : a ≠ m := fun z => h (by rw [z]; exact List.mem_cons_self)
    have q := index_miss m r (fun z => h (List.mem_cons_of_mem _ z))
    unfold Lib.index
    rw [q]
    have e1 : [m].isPrefixOf (a :: r) = false := by simp [List.isPrefixOf]; exact fun z => ha z.symm
    rw [e1]
    simp
theorem cut_hit (x y : List UInt8) (m : UInt8) (h : m ∉ x) : Lib.cut (x ++ m :: y) [m] = (x, y, true) := by
  unfold Lib.cut
  rw [index_hit m y x h, if_pos (by omega)]
  simp
theorem cut_miss (x : List UInt8) (m : UInt8) (h : m ∉ x) : Lib.cut x [m] = (x, [], false) := by
  unfold Lib.cut
  rw [index_miss m x h, if_neg (by omega)]
theorem split_at (m : UInt8) : ∀ l : List UInt8, m ∉ l ∨ ∃ x y, l = x ++ m :: y ∧ m ∉ x
  | [] => .inl (by simp)
  | a :: r => by
    by_cases ha : a = m
    · exact .inr ⟨[], r, by rw [ha]; rfl, by simp⟩
    · rcases split_at m r with h | ⟨x, y, h1, h2⟩
      · exact .inl (fun z => by rcases List.mem_cons.1 z with q | q; exact ha q.symm; exact h q)
      · exact .inr ⟨a :: x, y, by rw [h1]; rfl, fun z => by rcases List.mem_cons.1 z with q | q; exact ha q.symm; exact h2 q⟩
theorem cut_len (l : List UInt8) (m : UInt8) : (Lib.cut l [m]).1.length ≤ l.length ∧ (Lib.cut l [m]).2.1.length ≤ l.length := by
  rcases split_at m l with h | ⟨x, y, rfl, h⟩
  · rw [cut_miss l m h]
    exact ⟨Nat.le_refl _, Nat.zero_le _⟩
  · rw [cut_hit x y m h, List.length_append, List.length_cons]
    exact ⟨by show x.length ≤ _; omega, by show y.length ≤ _; omega⟩
/-- What is ahead of a mark, what is behind it. -/
def preB (s : ByteArray) (m : UInt8) : ByteArray := ⟨(Lib.cut s.data.toList [m]).1.toArray⟩
def sufB (s : ByteArray) (m : UInt8) : ByteArray := ⟨(Lib.cut s.data.toList [m]).2.1.toArray⟩
theorem cutAtG (s : ByteArray) (m : UInt8) (hs : s.size < 4294967281) : CutAt s ⟨#[m]⟩ (preB s m) (sufB s m) (Lib.cut s.data.toList [m]).2.2 := ⟨hs, rfl⟩
theorem preB_size (s : ByteArray) (m : UInt8) : (preB s m).size ≤ s.size := by
  have q := (cut_len s.data.toList m).1
  have e : s.data.toList.length = s.size := Array.length_toList
  show (Lib.cut s.data.toList [m]).1.toArray.size ≤ s.size
  rw [List.size_toArray]
  omega
theorem sufB_size (s : ByteArray) (m : UInt8) : (sufB s m).size ≤ s.size := by
  have q := (cut_len s.data.toList m).2
  have e : s.data.toList.length = s.size := Array.length_toList
  show (Lib.cut s.data.toList [m]).2.1.toArray.size ≤ s.size
  rw [List.size_toArray]
  omega
end Go.Proofs.YtbangbobfeflcaaGreatDoor
