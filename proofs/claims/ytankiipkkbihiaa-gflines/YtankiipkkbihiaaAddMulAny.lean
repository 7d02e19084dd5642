import Derived.Test.YtankiipkkbihiaaAddMul
namespace Go.Proofs.Ytankiipkkbihiaa
open Go.RowKit

/-- dst + c src. -/
def am (P c : Nat) (ld ls : List Nat) : List Nat := List.zipWith (fun d s => d ^^^ Gf.mul P c s) ld ls
theorem am_length (P c : Nat) (ld ls : List Nat) (n : Nat) (h1 : ld.length = n) (h2 : ls.length = n) : (am P c ld ls).length = n := by
  unfold am; rw [List.length_zipWith]; omega
theorem am_getD (P c : Nat) (ld ls : List Nat) (i : Nat) (h1 : i < ld.length) (h2 : i < ls.length) : (am P c ld ls).getD i 0 = ld.getD i 0 ^^^ Gf.mul P c (ls.getD i 0) := by
  have hl : i < (am P c ld ls).length := by unfold am; rw [List.length_zipWith]; omega
  rw [List.getD_eq_getElem?_getD, List.getD_eq_getElem?_getD, List.getD_eq_getElem?_getD, List.getElem?_eq_getElem hl, List.getElem?_eq_getElem h1, List.getElem?_eq_getElem h2]
  simp [am]
theorem am_bytes {P : Nat} (g : Gf.Good P) (c : Nat) (ld ls : List Nat) (h : ∀ x ∈ ld, x < 256) : ∀ x ∈ am P c ld ls, x < 256 := fun x hx => by
  obtain ⟨i, hi, e⟩ := List.getElem_of_mem hx
  unfold am at hi e
  rw [List.getElem_zipWith] at e
  rw [← e]
  exact Gf.xor_lt _ _ (h _ (List.getElem_mem _)) (g.mul_lt _ _)

/-- What is read may be written: none of it is frozen. -/
def Soft (w : World) (a : Option Addr) (n : Nat) : Prop := ∀ b off, a = some ⟨b, off, none⟩ → ∀ i, i < n → w.frozen? ⟨b, off + i, none⟩ = false
def rowOf (a : Option Addr) : Option Nat := a.map (fun x => x.block)

theorem grown_below {w w' : World} (h : Below w.heap.size w w') (row : Option Nat) : w.grownBy w' row := ⟨h.os, h.tape, h.output, h.size, fun k hk _ => h.block k hk⟩
theorem Upd.grown {w w' : World} {bd od k : Nat} {f : Nat → Nat} (u : Upd w w' bd od k f) : w.grownBy w' (some bd) := ⟨u.os, u.tape, u.output, u.size, fun k hk hne => u.block k hk (fun e => hne (by rw [e]))⟩

theorem addMul_any (P B c n capd caps : Nat) (ad sa : Option Addr) (ld ls : List Nat) (w : World) (g : Gf.Good P) (f : IsF P B w) (hc : c < 256) (hm : n ≤ 140737488355328)
    (rd : Reads w ad n capd ld) (sd : Soft w ad n) (rs : Reads w sa n caps ls) :
    Calls Try.prog 12 #[.pointer (some ⟨B, 0, none⟩), .slice ad n capd, .int .u8 (c : Int), .slice sa n caps] w fun e w' => e = .returned (.int .i64 0) ∧ w.grownBy w' (rowOf ad) ∧ Reads w' ad n capd (am P c ld ls) ∧ Soft w' ad n := by
  by_cases h : 0 < n
  · obtain ⟨bd, od, rfl, cd⟩ := rd.cells h
    obtain ⟨bs, os, rfl, cs⟩ := rs.cells h
    refine (addMul_some P B bd od capd c bs os caps n _ _ w g f (getD_lt ld rd.bytes) (getD_lt ls rs.bytes) hc hm cd (sd bd od rfl) cs h).mono ?_
    rintro e w' ⟨rfl, u⟩
    refine ⟨rfl, u.grown, ⟨am_length P c ld ls n rd.length rs.length, rd.room, rd.small, am_bytes g c ld ls rd.bytes, fun _ => ⟨bd, od, rfl, fun i hi => ?_⟩⟩, fun b off e i hi => ?_⟩
    · rw [u.cells, if_pos (by omega), show od + i - od = i by omega, am_getD P c ld ls i (by rw [rd.length]; exact hi) (by rw [rs.length]; exact hi)]
    · simp only [Option.some.injEq, Addr.mk.injEq] at e
      obtain ⟨rfl, rfl, _⟩ := e
      rw [u.soft]; exact sd _ _ rfl i hi
  · have h0 : n = 0 := by omega
    subst h0
    refine (addMul_none B c capd caps ad sa w).mono ?_
    rintro e w' ⟨rfl, bl⟩
    refine ⟨rfl, grown_below bl _, ⟨am_length P c ld ls 0 rd.length rs.length, rd.room, rd.small, am_bytes g c ld ls rd.bytes, fun h => absurd h (by omega)⟩, fun _ _ _ i hi => absurd hi (by omega)⟩

theorem IsF.grown {P B : Nat} {w w' : World} {row : Option Nat} (f : IsF P B w) (h : w.grownBy w' row) (hne : some B ≠ row) : IsF P B w' :=
  ⟨h.cell f.poly hne, fun i hi => h.cell (f.exp i hi) hne, fun i hi => h.cell (f.log i hi) hne⟩
theorem Reads.grown {w w' : World} {row : Option Nat} {a : Option Addr} {len cap : Nat} {l : List Nat} (r : Reads w a len cap l) (h : w.grownBy w' row) (hne : 0 < len → rowOf a ≠ row) : Reads w' a len cap l := by
  refine ⟨r.length, r.room, r.small, r.bytes, fun h0 => ?_⟩
  obtain ⟨b, off, rfl, hc⟩ := r.cells h0
  exact ⟨b, off, rfl, fun i hi => h.cell (hc i hi) (hne h0)⟩
theorem owns_soft {w : World} {base k cap : Nat} {a : Option Addr} {xs : List Value} (h : w.ownsRow base 5 1 (.slice a k cap) k xs) : Soft w a k := fun b off e i hi => by
  rcases h.2 with ⟨e', h0⟩ | ⟨g, cap', cur, e', _, hg, _⟩
  · omega
  · simp only [Value.slice.injEq] at e'
    rw [e] at e'
    simp only [Option.some.injEq, Addr.mk.injEq] at e'
    obtain ⟨⟨rfl, rfl, _⟩, _⟩ := e'
    simp [World.frozen?, hg]
theorem owns_row {w : World} {base k cap : Nat} {a : Option Addr} {xs : List Value} (h : w.ownsRow base 5 1 (.slice a k cap) k xs) (g : Nat) (e : rowOf a = some g) : base ≤ g ∧ g < w.heap.size := by
  refine h.lt g ?_
  cases a with
  | none => simp [rowOf] at e
  | some x => simpa [rowOf, Value.ownBlock] using e
theorem reads_row {w : World} {a : Option Addr} {len cap : Nat} {l : List Nat} (r : Reads w a len cap l) (h : 0 < len) : ∃ g, rowOf a = some g ∧ g < w.heap.size := by
  obtain ⟨b, off, rfl, hc⟩ := r.cells h
  exact ⟨b, rfl, World.block_lt_of_cell? w _ (hc 0 h)⟩
end Go.Proofs.Ytankiipkkbihiaa
