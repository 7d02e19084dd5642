import Derived.Test.YtbangbobfeflcaaDoorLTxJ
import Derived.Lib.AtoiAllCases
import Derived.Lib.ParseIntBTie
import Derived.Lib.ItoaMem
import Derived.Lib.Bytealg
import Derived.Lib.IndexMore
namespace Go.Proofs.YtbangbobfeflcaaDoor
open Go.RowKit 

open Go.RowKit in
theorem Tryd.strconv_Atoi_syntax_var (s : ByteArray) (hlim : s.size ≤ 281474976710656) (h : Lib.atoiAll s.data.toList = .«syntax») (tp : TypeId) (p : Value) (w : World) (hvar : w.var? Tryd.prog "strconv.ErrSyntax" = some #[.iface tp p]) :
    Calls Tryd.prog 56 #[.string s] w fun e w' => ∃ N, e = .returned (.tuple #[.int .i64 0, .iface 131 (.pointer (some ⟨N, 0, none⟩))]) ∧ w.heap.size ≤ N ∧ w'.heap[N]? = some (.cells #[.string ⟨#[65, 116, 111, 105]⟩, .string s, .iface tp p] 138 (0, 0)) ∧ Below w.heap.size w w' := Any.strconv_Atoi_syntax_var Tryd.laysC172 s hlim h tp p w hvar
open Go.RowKit in
theorem Tryd.strconv_Atoi_range_var (s : ByteArray) (hlim : s.size ≤ 281474976710656) (h : Lib.atoiAll s.data.toList = .range) (tp : TypeId) (p : Value) (w : World) (hvar : w.var? Tryd.prog "strconv.ErrRange" = some #[.iface tp p]) :
    Calls Tryd.prog 56 #[.string s] w fun e w' => ∃ N, e = .returned (.tuple #[.int .i64 (Lib.atoiSat s.data.toList), .iface 131 (.pointer (some ⟨N, 0, none⟩))]) ∧ w.heap.size ≤ N ∧ w'.heap[N]? = some (.cells #[.string ⟨#[65, 116, 111, 105]⟩, .string s, .iface tp p] 138 (0, 0)) ∧ Below w.heap.size w w' := Any.strconv_Atoi_range_var Tryd.laysC172 s hlim h tp p w hvar
open Go.RowKit in
theorem Tryd.strconv_ParseInt_10_at64_syntax_var (s : ByteArray) (hlim : s.size ≤ 281474976710656) (h : Lib.parseIntB 64 s.data.toList = .«syntax») (tp : TypeId) (p : Value) (w : World) (hvar : w.var? Tryd.prog "strconv.ErrSyntax" = some #[.iface tp p]) :
    Calls Tryd.prog 54 #[.string s, .int .i64 10, .int .i64 64] w fun e w' => ∃ N, e = .returned (.tuple #[.int .i64 (0), .iface 131 (.pointer (some ⟨N, 0, none⟩))]) ∧ w.heap.size ≤ N ∧ w'.heap[N]? = some (.cells #[.string ⟨#[80, 97, 114, 115, 101, 73, 110, 116]⟩, .string s, .iface tp p] 138 (0, 0)) ∧ Below w.heap.size w w' := Any.strconv_ParseInt_10_at64_syntax_var Tryd.laysC174 s hlim h tp p w hvar
open Go.RowKit in
theorem Tryd.strconv_ParseInt_10_at64_range_var (s : ByteArray) (hlim : s.size ≤ 281474976710656) (h : Lib.parseIntB 64 s.data.toList = .range) (tp : TypeId) (p : Value) (w : World) (hvar : w.var? Tryd.prog "strconv.ErrRange" = some #[.iface tp p]) :
    Calls Tryd.prog 54 #[.string s, .int .i64 10, .int .i64 64] w fun e w' => ∃ N, e = .returned (.tuple #[.int .i64 (Lib.intSat 64 s.data.toList), .iface 131 (.pointer (some ⟨N, 0, none⟩))]) ∧ w.heap.size ≤ N ∧ w'.heap[N]? = some (.cells #[.string ⟨#[80, 97, 114, 115, 101, 73, 110, 116]⟩, .string s, .iface tp p] 138 (0, 0)) ∧ Below w.heap.size w w' := Any.strconv_ParseInt_10_at64_range_var Tryd.laysC174 s hlim h tp p w hvar
/-- The library's two errors. -/
structure EVs (w : World) : Prop where
  syn : ∃ tp p, w.var? Tryd.prog "strconv.ErrSyntax" = some #[.iface tp p]
  rng : ∃ tp p, w.var? Tryd.prog "strconv.ErrRange" = some #[.iface tp p]
theorem EVs.by {w w' : World} (h : EVs w) (B : Below w.heap.size w w') : EVs w' := ⟨by obtain ⟨a, b, q⟩ := h.syn; exact ⟨a, b, var_by B q⟩, by obtain ⟨a, b, q⟩ := h.rng; exact ⟨a, b, var_by B q⟩⟩
/-- A number's end. -/
def NumIs (l : List UInt8) (v : Int) (i : Value) : Prop := (∃ u, Lib.atoiAll l = .ok u ∧ u = v ∧ i = .nilIface) ∨ ((∀ u, Lib.atoiAll l ≠ .ok u) ∧ ∃ t q, i = .iface t (.pointer (some q)))
theorem bytes_below (w : World) (t : TypeId) (s : ByteArray) : Below w.heap.size w (Lib.bytesWorld w t s) := Lib.bytesWorld_below _ _ _
theorem atoiAny (s : ByteArray) (w : World) (hs : s.size ≤ 281474976710656) (V : EVs w) :
    Calls Tryd.prog 56 #[.string s] w fun x w' => ∃ v i, x = .returned (.tuple #[.int .i64 v, i]) ∧ NumIs s.data.toList v i ∧ Below w.heap.size w w' := by
  cases h : Lib.atoiAll s.data.toList with
  | ok u =>
    refine (Tryd.strconv_Atoi_ok s (by omega) u h w).mono ?_
    rintro x w1 ⟨rfl, hw⟩
    refine ⟨u, .nilIface, rfl, .inl ⟨u, h, rfl, rfl⟩, ?_⟩
    rcases hw with rfl | ⟨t, rfl⟩
    · exact Below.refl _ _
    · exact bytes_below _ _ _
  | «syntax» =>
    obtain ⟨tp, p, hv⟩ := V.syn
    refine (Tryd.strconv_Atoi_syntax_var s hs h tp p w hv).mono ?_
    rintro x w1 ⟨N, rfl, -, -, hb⟩
    exact ⟨0, _, rfl, .inr ⟨(fun u q => by rw [h] at q; exact absurd q (by simp)), 131, _, rfl⟩, hb⟩
  | range =>
    obtain ⟨tp, p, hv⟩ := V.rng
    refine (Tryd.strconv_Atoi_range_var s hs h tp p w hv).mono ?_
    rintro x w1 ⟨N, rfl, -, -, hb⟩
    exact ⟨_, _, rfl, .inr ⟨(fun u q => by rw [h] at q; exact absurd q (by simp)), 131, _, rfl⟩, hb⟩
theorem parseAny (s : ByteArray) (w : World) (hs : s.size ≤ 281474976710656) (V : EVs w) :
    Calls Tryd.prog 54 #[.string s, .int .i64 10, .int .i64 64] w fun x w' => ∃ v i, x = .returned (.tuple #[.int .i64 v, i]) ∧ NumIs s.data.toList v i ∧ Below w.heap.size w w' := by
  have P := Lib.parseIntB_64 s.data.toList
  cases h : Lib.atoiAll s.data.toList with
  | ok u =>
    refine (Tryd.strconv_ParseInt_10_at64_ok s (by omega) u (P.trans h) w).mono ?_
    rintro x w1 ⟨rfl, hw⟩
    refine ⟨u, .nilIface, rfl, .inl ⟨u, h, rfl, rfl⟩, ?_⟩
    rcases hw with rfl | ⟨t, rfl⟩
    · exact Below.refl _ _
    · exact bytes_below _ _ _
  | «syntax» =>
    obtain ⟨tp, p, hv⟩ := V.syn
    refine (Tryd.strconv_ParseInt_10_at64_syntax_var s hs (P.trans h) tp p w hv).mono ?_
    rintro x w1 ⟨N, rfl, -, -, hb⟩
    exact ⟨0, _, rfl, .inr ⟨(fun u q => by rw [h] at q; exact absurd q (by simp)), 131, _, rfl⟩, hb⟩
  | range =>
    obtain ⟨tp, p, hv⟩ := V.rng
    refine (Tryd.strconv_ParseInt_10_at64_range_var s hs (P.trans h) tp p w hv).mono ?_
    rintro x w1 ⟨N, rfl, -, -, hb⟩
    exact ⟨_, _, rfl, .inr ⟨(fun u q => by rw [h] at q; exact absurd q (by simp)), 131, _, rfl⟩, hb⟩
end Go.Proofs.YtbangbobfeflcaaDoor

namespace Go.Proofs.YtbangbobfeflcaaDoor
open Go.Lib

def Digit (c : UInt8) : Prop := 48 ≤ c.toNat ∧ c.toNat ≤ 57
theorem ofNat_digit (u : Nat) (h : u < 10) : (UInt8.ofNat (48 + u)).toNat = 48 + u := by
  simp [UInt8.toNat_ofNat']
  omega
/-- What digits spell, from acc on. -/
def dv (acc : Nat) (l : List UInt8) : Nat := l.foldl (fun a c => a * 10 + (c.toNat - 48)) acc
theorem dv_append (l m : List UInt8) (acc : Nat) : dv acc (l ++ m) = dv (dv acc l) m := by simp [dv]
theorem dv_ge (l : List UInt8) : ∀ acc, acc ≤ dv acc l := by
  induction l with
  | nil => intro acc; exact Nat.le_refl _
  | cons c r ih => intro acc; exact Nat.le_trans (by omega) (ih (acc * 10 + (c.toNat - 48)))
/-- digits, by fuel. -/
theorem digs (f : Nat) : ∀ u : Nat, u < f → (∀ c ∈ decDigits u, Digit c) ∧ dv 0 (decDigits u) = u ∧ decDigits u ≠ [] := by
  induction f with
  | zero => intro u h; omega
  | succ f ih =>
    intro u hu
    rw [decDigits]
    by_cases h : u < 10
    · rw [dif_pos h]
      refine ⟨fun c hc => ?_, ?_, by simp⟩
      · rw [List.mem_singleton] at hc
        subst hc
        have := ofNat_digit u h
        exact ⟨by omega, by omega⟩
      · have e := ofNat_digit u h
        show 0 * 10 + ((UInt8.ofNat (48 + u)).toNat - 48) = u
        omega
    · rw [dif_neg h]
      obtain ⟨h1, h2, h3⟩ := ih (u / 10) (by omega)
      refine ⟨fun c hc => ?_, ?_, by simp⟩
      · rcases List.mem_append.1 hc with q | q
        · exact h1 c q
        · rw [List.mem_singleton] at q
          subst q
          have := ofNat_digit (u % 10) (by omega)
          exact ⟨by omega, by omega⟩
      · rw [dv_append, h2]
        have e := ofNat_digit (u % 10) (by omega)
        show u / 10 * 10 + ((UInt8.ofNat (48 + u % 10)).toNat - 48) = u
        omega
theorem digs_digit (u : Nat) : ∀ c ∈ decDigits u, Digit c := (digs (u + 1) u (by omega)).1
theorem digs_dv (u : Nat) : dv 0 (decDigits u) = u := (digs (u + 1) u (by omega)).2.1
theorem digs_ne (u : Nat) : decDigits u ≠ [] := (digs (u + 1) u (by omega)).2.2
theorem parse_digits (l : List UInt8) : ∀ acc, (∀ c ∈ l, Digit c) → dv acc l < 9223372036854775808 → parseUint10 acc l = .ok (dv acc l) := by
  induction l with
  | nil => intro acc _ _; rfl
  | cons c r ih =>
    intro acc hd hs
    have hc : 48 ≤ c.toNat ∧ c.toNat ≤ 57 := hd c (by simp)
    have ge := dv_ge r (acc * 10 + (c.toNat - 48))
    have hs' : dv (acc * 10 + (c.toNat - 48)) r < 9223372036854775808 := hs
    unfold parseUint10
    rw [if_pos hc, if_neg (by omega), if_neg (by omega)]
    exact ih _ (fun x hx => hd x (by simp [hx])) hs'
theorem atoi_digs (u : Nat) (h : u < 9223372036854775808) : atoiAll (decDigits u) = .ok (u : Int) := by
  have h1 := digs_digit u
  have h2 := digs_dv u
  have h3 := digs_ne u
  cases e : decDigits u with
  | nil => exact absurd e h3
  | cons c r =>
    rw [e] at h1 h2
    have hc : 48 ≤ c.toNat ∧ c.toNat ≤ 57 := h1 c (by simp)
    have p := parse_digits (c :: r) 0 h1 (by omega)
    rw [h2] at p
    unfold atoiAll
    simp only []
    rw [if_neg (by omega)]
    unfold parseMag
    rw [if_neg (by simp), p]
    simp only []
    rw [if_neg (by omega), if_neg (by omega), if_neg (by omega)]
end Go.Proofs.YtbangbobfeflcaaDoor

namespace Go.Proofs.YtbangbobfeflcaaDoor
open Go.RowKit 

theorem parse_big (l : List UInt8) : ∀ acc, (∀ c ∈ l, Digit c) → dv acc l < 18446744073709551616 → Lib.parseUint10 acc l = .ok (dv acc l) := by
  induction l with
  | nil => intro acc _ _; rfl
  | cons c r ih =>
    intro acc hd hs
    have hc : 48 ≤ c.toNat ∧ c.toNat ≤ 57 := hd c (by simp)
    have ge := dv_ge r (acc * 10 + (c.toNat - 48))
    have hs' : dv (acc * 10 + (c.toNat - 48)) r < 18446744073709551616 := hs
    unfold Lib.parseUint10
    rw [if_pos hc, if_neg (by omega), if_neg (by omega)]
    exact ih _ (fun x hx => hd x (by simp [hx])) hs'
theorem atoi_back (n : Int) (h : KI n) : Lib.atoiAll (Lib.itoa n) = .ok n := by
  obtain ⟨h1, h2⟩ := h
  unfold Lib.itoa
  by_cases h : n < 0
  · rw [if_pos h, Lib.atoiAll_minus]
    have p := parse_big (Lib.decDigits n.natAbs) 0 (digs_digit _) (by rw [digs_dv]; omega)
    rw [digs_dv] at p
    unfold Lib.parseMag
    rw [if_neg (digs_ne _), p]
    unfold Lib.signed
    simp only []
    rw [if_neg (by omega)]
    congr 1
    omega
  · rw [if_neg h, atoi_digs n.toNat (by omega)]
    congr 1
    omega
theorem itoa_chars (n : Int) : ∀ c ∈ Lib.itoa n, c = 45 ∨ (48 ≤ c.toNat ∧ c.toNat ≤ 57) := fun c hc => by
  unfold Lib.itoa at hc
  split at hc
  · rcases List.mem_cons.1 hc with z | z
    · exact .inl z
    · exact .inr (digs_digit _ c z)
  · exact .inr (digs_digit _ c hc)
theorem itoa_no (n : Int) (m : UInt8) (h : m.toNat < 45 ∨ 57 < m.toNat ∨ m.toNat = 46 ∨ m.toNat = 47) : m ∉ Lib.itoa n := fun z => by
  rcases itoa_chars n m z with q | q
  · rw [q] at h
    simp at h
  · omega
/-- strings.Cut at one byte. -/
theorem index_hit (m : UInt8) (y : List UInt8) : ∀ x : List UInt8, m ∉ x → Lib.index (x ++ m :: y) [m] = (x.length : Int)
  | [], _ => by
    show Lib.index (m :: y) [m] = 0
    unfold Lib.index
    simp
  | a :: r, h => by
    have ha : a ≠ m := fun z => h (by rw [z]; exact List.mem_cons_self)
    have q := index_hit m y r (fun z => h (List.mem_cons_of_mem _ z))
    show Lib.index (a :: (r ++ m :: y)) [m] = _
    unfold Lib.index
    rw [q]
    have e1 : [m].isPrefixOf (a :: (r ++ m :: y)) = false := by simp [List.isPrefixOf]; exact fun z => ha z.symm
    rw [e1]
    have e2 : (((r.length : Int)) == -1) = false := by simp
    rw [e2]
    simp
theorem index_miss (m : UInt8) : ∀ x : List UInt8, m ∉ x → Lib.index x [m] = -1
  | [], _ => by unfold Lib.index; simp
  | a :: r, h => by
    have ha : a ≠ m := fun z => h (by rw [z]; exact List.mem_cons_self)
    have q := index_miss m r (fun z => h (List.mem_cons_of_mem _ z))
    unfold Lib.index
    rw [q]
    have e1 : [m].isPrefixOf (a :: r) = false := by simp [List.isPrefixOf]; exact fun z => ha z.symm
    rw [e1]
    simp
theorem cut_hit (x y : List UInt8) (m : UInt8) (h : m ∉ x) : Lib.cut (x ++ m :: y) [m] = (x, y, true) := by
  unfold Lib.cut
  rw [index_hit m y x h, if_pos (by omega)]
  simp
theorem cut_miss (x : List UInt8) (m : UInt8) (h : m ∉ x) : Lib.cut x [m] = (x, [], false) := by
  unfold Lib.cut
  rw [index_miss m x h, if_neg (by omega)]
theorem split_at (m : UInt8) : ∀ l : List UInt8, m ∉ l ∨ ∃ x y, l = x ++ m :: y ∧ m ∉ x
  | [] => .inl (by simp)
  | a :: r => by
    by_cases ha : a = m
    · exact .inr ⟨[], r, by rw [ha]; rfl, by simp⟩
    · rcases split_at m r with h | ⟨x, y, h1, h2⟩
      · exact .inl (fun z => by rcases List.mem_cons.1 z with q | q; exact ha q.symm; exact h q)
      · exact .inr ⟨a :: x, y, by rw [h1]; rfl, fun z => by rcases List.mem_cons.1 z with q | q; exact ha q.symm; exact h2 q⟩
theorem cut_len (l : List UInt8) (m : UInt8) : (Lib.cut l [m]).1.length ≤ l.length ∧ (Lib.cut l [m]).2.1.length ≤ l.length := by
  rcases split_at m l with h | ⟨x, y, rfl, h⟩
  · rw [cut_miss l m h]
    exact ⟨Nat.le_refl _, Nat.zero_le _⟩
  · rw [cut_hit x y m h, List.length_append, List.length_cons]
    exact ⟨by show x.length ≤ _; omega, by show y.length ≤ _; omega⟩
/-- What is ahead of a mark, what is behind it. -/
def preB (s : ByteArray) (m : UInt8) : ByteArray := ⟨(Lib.cut s.data.toList [m]).1.toArray⟩
def sufB (s : ByteArray) (m : UInt8) : ByteArray := ⟨(Lib.cut s.data.toList [m]).2.1.toArray⟩
theorem cutAtG (s : ByteArray) (m : UInt8) (hs : s.size < 4294967281) : CutAt s ⟨#[m]⟩ (preB s m) (sufB s m) (Lib.cut s.data.toList [m]).2.2 := ⟨hs, rfl⟩
theorem preB_size (s : ByteArray) (m : UInt8) : (preB s m).size ≤ s.size := by
  have q := (cut_len s.data.toList m).1
  have e : s.data.toList.length = s.size := Array.length_toList
  show (Lib.cut s.data.toList [m]).1.toArray.size ≤ s.size
  rw [List.size_toArray]
  omega
theorem sufB_size (s : ByteArray) (m : UInt8) : (sufB s m).size ≤ s.size := by
  have q := (cut_len s.data.toList m).2
  have e : s.data.toList.length = s.size := Array.length_toList
  show (Lib.cut s.data.toList [m]).2.1.toArray.size ≤ s.size
  rw [List.size_toArray]
  omega
end Go.Proofs.YtbangbobfeflcaaDoor
