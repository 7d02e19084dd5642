import Derived.Test.YtbangbobfeflcaaGreatDoorHScJ
import Derived.Deep.Cut
import Derived.Shelf.LaysM
import Derived.Shelf.LaysC
import Derived.Shelf.Strconv.Itoa4
import Derived.Shelf.Strings.Cut
import Derived.Shelf.Strings.OnBuilder
import Derived.Shelf.Strconv.ErrVarAll
import Derived.Shelf.Strconv.ErrVarParseInt
import Derived.Test.YtbangbobfeflcaaGreatDoorProg
namespace Go.Proofs.YtbangbobfeflcaaGreatDoor
open Go.RowKit 

theorem kcs_get : ∀ (L : List Ca) (i : Nat) (h : i < L.length) (k : Nat), k < 11 → (kcs L)[i * 11 + k]? = L[i].cs[k]?
  | [], i, h, _, _ => absurd h (by simp)
  | a :: L, 0, _, k, hk => by
    have e : kcs (a :: L) = a.cs.toList ++ kcs L := by unfold kcs; simp
    have el : a.cs.toList.length = 11 := rfl
    rw [e, Nat.zero_mul, Nat.zero_add, List.getElem?_append_left (by rw [el]; exact hk), Array.getElem?_toList]
    rfl
  | a :: L, i + 1, h, k, hk => by
    have e : kcs (a :: L) = a.cs.toList ++ kcs L := by unfold kcs; simp
    have el : a.cs.toList.length = 11 := rfl
    rw [e, List.getElem?_append_right (by rw [el]; omega), el, show (i + 1) * 11 + k - 11 = i * 11 + k by omega]
    exact kcs_get L i (by simpa using h) k hk
theorem KaR.crd {b0 : Nat} {w : World} {p : Option Addr} {k c : Nat} {L : List Ca} (h : KaR b0 w p k c L) (hb : ∀ x ∈ L, ∀ y ∈ x.val, y < 256) : CaRd w p k c L := by
  obtain ⟨r1, r2⟩ := own_room h.row
  refine ⟨h.len, r1, r2, fun h0 => ?_, fun x hx => reads_own (h.val x hx) (hb x hx)⟩
  rcases h.row.2 with ⟨_, hn⟩ | ⟨g, cap, cur, z, _⟩
  · omega
  · have z : Value.slice p k c = .slice (some ⟨g, 0, none⟩) k cap := z
    injection z with z1 _ z3
    subst z1
    subst z3
    have hc := h.row.cells (g := g) rfl
    refine ⟨g, 0, rfl, fun i hi j v hv => ?_⟩
    have hj : j < 11 := by
      obtain ⟨h1, _⟩ := Array.getElem?_eq_some_iff.1 hv
      have : L[i].cs.size = 11 := rfl
      omega
    have := hc (i * 11 + j) v (by rw [kcs_get L i hi j hj]; exact hv)
    rw [Addr.add_none, Nat.zero_add] at this
    rw [Nat.zero_add]
    exact this
theorem callP_val {es : List Ev} : ∀ {pl : List Nat} {c : Cc}, callP es pl = some c → ∃ e ∈ es, c.val = e.val
  | [], c, h => by cases h
  | [p], c, h => by
    have h : (es[p]?).map (fun b => beginC b p) = some c := h
    obtain ⟨e, he, rfl⟩ := Option.map_eq_some_iff.1 h
    exact ⟨e, List.mem_of_getElem? he, rfl⟩
  | p :: q :: r, c, h => by
    have h : (match es[p]?, es[q]? with | some b, some x => some (endC (beginC b p) x q) | _, _ => none) = some c := h
    cases hp : es[p]? with
    | none => rw [hp] at h; cases h
    | some b =>
      cases hq : es[q]? with
      | none => rw [hp, hq] at h; cases h
      | some x =>
        rw [hp, hq] at h
        have h := Option.some.inj h
        rw [← h]
        unfold endC
        split
        · exact ⟨b, List.mem_of_getElem? hp, rfl⟩
        · split
          · exact ⟨x, List.mem_of_getElem? hq, rfl⟩
          · split
            · exact ⟨b, List.mem_of_getElem? hp, rfl⟩
            · exact ⟨b, List.mem_of_getElem? hp, rfl⟩
theorem told_bytes {w : World} {p0 : Option Addr} {n c0 : Nat} {es : List Ev} (er : ERd w p0 n c0 es) {L : List Ca} (h : L.map (fun x => some x.cc) = callsE es) : ∀ x ∈ L, ∀ y ∈ x.val, y < 256 := by
  intro x hx y hy
  have hm : some x.cc ∈ callsE es := by rw [← h]; exact List.mem_map.2 ⟨x, hx, rfl⟩
  unfold callsE at hm
  obtain ⟨i, _, hi⟩ := List.mem_map.1 hm
  obtain ⟨e, he, ev⟩ := callP_val hi
  have ev : x.val = e.val := ev
  rw [ev] at hy
  exact (er.rd e he).bytes y hy
def endB (st : Int) : ByteArray := if st = 0 then ⟨#[111, 107]⟩ else if st = 42 then ⟨#[102, 117, 108, 108]⟩ else if st = 76 then ⟨#[97, 98, 115, 101, 110, 116]⟩ else ⟨#[119, 114, 111, 110, 103]⟩
theorem hEndWord (st : Int) (w : World) : Calls Tryz.prog 63 #[.int .i64 st] w fun o w' => o = .returned (.string (endB st)) ∧ w' = w := by
  obtain ⟨v, hv⟩ : ∃ v, v = endB st := ⟨_, rfl⟩
  have HV : Hid (v = endB st) := hv
  rw [← hv]
  clear hv
  unfold endB at HV
  go_enter Tryz.func63, Tryz.ntmps63
  by_cases h0 : st = 0
  · subst h0
    have A : v = ⟨#[111, 107]⟩ := by rw [HV.out]; rfl
    subst A
    clear HV
    go_wp2_with fail
    go_ret
    exact ⟨by first | rfl | simp, rfl⟩
  · have q0 : (st == 0) = false := by simp [h0]
    by_cases h1 : st = 42
    · subst h1
      have A : v = ⟨#[102, 117, 108, 108]⟩ := by rw [HV.out]; rfl
      subst A
      clear HV
      go_wp2_with fail
      go_ret
      exact ⟨by first | rfl | simp, rfl⟩
    · have q1 : (st == 42) = false := by simp [h1]
      by_cases h2 : st = 76
      · subst h2
        have A : v = ⟨#[97, 98, 115, 101, 110, 116]⟩ := by rw [HV.out]; rfl
        subst A
        clear HV
        go_wp2_with fail
        go_ret
        exact ⟨by first | rfl | simp, rfl⟩
      · have q2 : (st == 76) = false := by simp [h2]
        have A : v = ⟨#[119, 114, 111, 110, 103]⟩ := by rw [HV.out, if_neg h0, if_neg h1, if_neg h2]
        subst A
        clear HV
        go_wp2_with fail
        go_ret
        exact ⟨by first | rfl | simp, rfl⟩
end Go.Proofs.YtbangbobfeflcaaGreatDoor

namespace Go.Proofs.YtbangbobfeflcaaGreatDoor
open Go.RowKit 

def plainB (c : Int) : Bool := decide (32 ≤ c) && decide (c ≤ 126) && (c != 34) && (c != 92)
theorem hPlain (c : Int) (w : World) : Calls Tryz.prog 91 #[.int .u8 c] w fun o w' => o = .returned (.bool (plainB c)) ∧ w' = w := by
  unfold plainB
  obtain ⟨t1, e1⟩ : ∃ t, decide (32 ≤ c) = t := ⟨_, rfl⟩
  obtain ⟨t2, e2⟩ : ∃ t, decide (c ≤ 126) = t := ⟨_, rfl⟩
  rw [e1, e2]
  go_enter Tryz.func91, Tryz.ntmps91
  cases t1
  · go_wp2_with fail
    go_ret
    exact ⟨by first | rfl | simp, rfl⟩
  · cases t2
    · go_wp2_with fail
      go_ret
      exact ⟨by first | rfl | simp, rfl⟩
    · by_cases h3 : c = 34
      · subst h3
        go_wp2_with fail
        go_ret
        exact ⟨by first | rfl | simp, rfl⟩
      · go_wp2_with fail
        go_ret
        exact ⟨by first | rfl | simp, rfl⟩
end Go.Proofs.YtbangbobfeflcaaGreatDoor

namespace Go.Proofs.YtbangbobfeflcaaGreatDoor
open Go.RowKit 

theorem wpList_append_text {ops : Array Oper} {rest : List Oper} {o : Oper} {a : Act} {Q : Exit → Act → World → Prop} (w : World) (hgd : o.guard = none) (s x : Operand)
    (ho : o.op = .call { callee := .builtin .append, args := #[s, x], argTypes := #[34, 9] })
    (base : Nat) (v : Value) (n : Nat) (l : List Nat) (hs : a.eval s = v) (hown : w.ownsRow base 5 1 v n (cellsOf l))
    (y : ByteArray) (k : List Nat) (hx : a.eval x = .string y) (hk : byteCells y = cellsOf k)
    (hbytes : n + y.size ≤ 140737488355328) (hbase : base ≤ w.heap.size)
    (h : ∀ p c w', Hid (w'.ownsRow base 5 1 (.slice p (n + y.size) c) (n + y.size) (cellsOf (l ++ k))) → Hid (w.grownBy w' v.ownBlock) → wpList Tryz.prog ops Q rest (a.put o.dst (.slice p (n + y.size) c)) w') : wpList Tryz.prog ops Q (o :: rest) a w := by
  have r : Src Tryz.prog 1 9 (.string y) y.size (byteCells y) w := Src.ofString w Tryz.underlying9 y
  rw [hk] at r
  refine wpList_append_all w hgd s x 34 5 9 (.int .u8 0) 1 1 ho Tryz.underlying34 Tryz.info5 rfl base v n (cellsOf l) hs hown _ _ (cellsOf k) hx r (by unfold maxLen; omega) (by omega) hbase fun p c w' h1 h2 _ => h p c w' ?_ h2
  rw [cellsOf_append]
  exact h1
structure QS (w : World) (l : List Nat) (p : Option Addr) (n c : Nat) (w' : World) : Prop where
  row : w'.ownsRow w.heap.size 5 1 (.slice p n c) n (cellsOf l)
  kept : Kept (fun _ => False) w w'
theorem QS.on {w w1 w2 : World} {l : List Nat} {p : Option Addr} {n c : Nat} (h : QS w l p n c w1) (K : Kept (fun _ => False) w1 w2) : QS w l p n c w2 := ⟨K.owns h.row (fun _ _ z => z), h.kept.trans K (fun _ _ z => z)⟩
theorem QS.grow {w w1 w2 : World} {l : List Nat} {p : Option Addr} {n c : Nat} (h : QS w l p n c w1) (hg : w1.grownBy w2 (Value.slice p n c).ownBlock) : Kept (fun _ => False) w w2 := by
  refine h.kept.own ((Kept.refl (fun j => blockOf p = some j) w1).grown hg (fun j _ z => by rw [blockOf_own] at z; exact z)) (fun b z => ?_)
  exact (own_lt h.row b z).1
end Go.Proofs.YtbangbobfeflcaaGreatDoor

/-
  The contracts of the library that HistoryCalls comes to, laid at its dump.
-/
namespace Go.Proofs
open Go.Shelf
def Tryz.lays156_ren : Go.Shelf.Ren := ⟨fun | 156 => 65 | 165 => 92 | 166 => 47 | 169 => 48 | 240 => 81 | 241 => 114 | 276 => 100 | 277 => 140 | n => n, fun | 31 => 44 | 9 => 9 | 3 => 3 | 4 => 4 | 0 => 0 | 20 => 20 | 72 => 84 | 76 => 87 | 70 => 82 | 37 => 34 | 75 => 86 | 127 => 114 | 164 => 127 | 5 => 5 | 80 => 89 | n => n, fun | n => n⟩
theorem Tryz.lays156 : Go.Proofs.Lays.n156 Tryz.prog Tryz.lays156_ren := {
  mixed := by kernel_rfl
  f156 := Tryz.func65.trans (congrArg some (by kernel_rfl))
  f165 := Tryz.func92.trans (congrArg some (by kernel_rfl))
  f166 := Tryz.func47.trans (congrArg some (by kernel_rfl))
  f169 := Tryz.func48.trans (congrArg some (by kernel_rfl))
  f240 := Tryz.func81.trans (congrArg some (by kernel_rfl))
  f241 := Tryz.func114.trans (congrArg some (by kernel_rfl))
  f276 := Tryz.func100.trans (congrArg some (by kernel_rfl))
  f277 := Tryz.func140.trans (congrArg some (by kernel_rfl))
  t0 := Tryz.underlying0
  a0 := Tryz.isAgg0
  z0 := Tryz.sizeOf0
  v0 := Tryz.zeroValue0
  t3 := Tryz.underlying3
  a3 := Tryz.isAgg3
  z3 := Tryz.sizeOf3
  v3 := Tryz.zeroValue3
  t4 := Tryz.underlying4
  a4 := Tryz.isAgg4
  z4 := Tryz.sizeOf4
  v4 := Tryz.zeroValue4
  t9 := Tryz.underlying9
  a9 := Tryz.isAgg9
  z9 := Tryz.sizeOf9
  v9 := Tryz.zeroValue9
  t20 := Tryz.underlying20
  a20 := Tryz.isAgg20
  z20 := Tryz.sizeOf20
  v20 := Tryz.zeroValue20
  t31 := Tryz.underlying44
  a31 := Tryz.isAgg44
  z31 := Tryz.sizeOf44
  v31 := Tryz.zeroValue44
  t37 := Tryz.underlying34
  a37 := Tryz.isAgg34
  z37 := Tryz.sizeOf34
  v37 := Tryz.zeroValue34
  t70 := Tryz.underlying82
  a70 := Tryz.isAgg82
  z70 := Tryz.sizeOf82
  v70 := Tryz.zeroValue82
  t72 := Tryz.underlying84
  a72 := Tryz.isAgg84
  z72 := Tryz.sizeOf84
  v72 := Tryz.zeroValue84
  t75 := Tryz.underlying86
  a75 := Tryz.isAgg86
  z75 := Tryz.sizeOf86
  v75 := Tryz.zeroValue86
  t76 := Tryz.underlying87
  a76 := Tryz.isAgg87
  z76 := Tryz.sizeOf87
  v76 := Tryz.zeroValue87
  t127 := Tryz.underlying114
  a127 := Tryz.isAgg114
  z127 := Tryz.sizeOf114
  v127 := Tryz.zeroValue114
  t164 := Tryz.underlying127
  a164 := Tryz.isAgg127
  z164 := Tryz.sizeOf127
  v164 := Tryz.zeroValue127 }
theorem Tryz.Builder_Extra_156 : Builder.Extra Tryz.prog Tryz.lays156_ren := {
  sizeBuilder := by kernel_rfl
  liesBuilder := by kernel_rfl
  t5 := Tryz.underlying5
  a5 := Tryz.isAgg5
  z5 := Tryz.sizeOf5
  v5 := Tryz.zeroValue5
  infoByte := by kernel_rfl
  cellsByte := by kernel_rfl
  sizeByte := by kernel_rfl
  neB5 := by decide }
open Go.RowKit in
theorem Tryz.strings_Join (bk o c : Nat) (xs : List ByteArray) (sep : ByteArray) (w : World) (hcells : ∀ (j : Nat) x, xs[j]? = some x → w.cell? ⟨bk, o + j, none⟩ = some (.string x)) (hbk : bk < w.heap.size) (hN : xs.length ≤ 140737488355328) (hcap : xs.length ≤ c) (hlen : (Lib.join (xs.map (·.data.toList)) sep.data.toList).length ≤ 140737488355328) :
    Calls Tryz.prog 65 #[.slice (some ⟨bk, o, none⟩) xs.length c, .string sep] w fun e w' => e = .returned (.string ⟨(Lib.join (xs.map (·.data.toList)) sep.data.toList).toArray⟩) ∧ Below w.heap.size w w' := Any.strings_Join Tryz.lays156 Tryz.Builder_Extra_156 bk o c xs sep w hcells hbk hN hcap hlen
def Tryz.laysM171_ren : Go.Shelf.Ren := ⟨fun | 171 => 60 | 243 => 89 | 246 => 90 | 283 => 110 | 284 => 111 | 285 => 112 | 286 => 113 | 129 => 127 | 317 => 136 | 318 => 137 | 319 => 138 | 320 => 139 | 337 => 151 | 338 => 152 | n => n, fun | 3 => 3 | 9 => 9 | 2 => 2 | 4 => 4 | 171 => 135 | 0 => 0 | 53 => 132 | 37 => 34 | 5 => 5 | 173 => 138 | 212 => 159 | 51 => 150 | 20 => 20 | 213 => 160 | 46 => 126 | 232 => 178 | 233 => 179 | n => n, fun | 17 => 2 | 18 => 5 | 19 => 6 | n => n⟩
theorem Tryz.laysM171 : Go.Proofs.LaysM.n171 Tryz.prog Tryz.laysM171_ren := {
  mixed := by kernel_rfl
  f129 := Tryz.func127.trans (congrArg some (by kernel_rfl))
  f171 := Tryz.func60.trans (congrArg some (by kernel_rfl))
  f243 := Tryz.func89.trans (congrArg some (by kernel_rfl))
  f246 := Tryz.func90.trans (congrArg some (by kernel_rfl))
  f283 := Tryz.func110.trans (congrArg some (by kernel_rfl))
  f284 := Tryz.func111.trans (congrArg some (by kernel_rfl))
  f285 := Tryz.func112.trans (congrArg some (by kernel_rfl))
  f286 := Tryz.func113.trans (congrArg some (by kernel_rfl))
  f317 := Tryz.func136.trans (congrArg some (by kernel_rfl))
  f318 := Tryz.func137.trans (congrArg some (by kernel_rfl))
  f319 := Tryz.func138.trans (congrArg some (by kernel_rfl))
  f320 := Tryz.func139.trans (congrArg some (by kernel_rfl))
  f337 := Tryz.func151.trans (congrArg some (by kernel_rfl))
  f338 := Tryz.func152.trans (congrArg some (by kernel_rfl))
  t0 := Tryz.underlying0
  a0 := Tryz.isAgg0
  z0 := Tryz.sizeOf0
  v0 := Tryz.zeroValue0
  t2 := Tryz.underlying2
  a2 := Tryz.isAgg2
  z2 := Tryz.sizeOf2
  v2 := Tryz.zeroValue2
  t3 := Tryz.underlying3
  a3 := Tryz.isAgg3
  z3 := Tryz.sizeOf3
  v3 := Tryz.zeroValue3
  t4 := Tryz.underlying4
  a4 := Tryz.isAgg4
  z4 := Tryz.sizeOf4
  v4 := Tryz.zeroValue4
  t5 := Tryz.underlying5
  a5 := Tryz.isAgg5
  z5 := Tryz.sizeOf5
  v5 := Tryz.zeroValue5
  t9 := Tryz.underlying9
  a9 := Tryz.isAgg9
  z9 := Tryz.sizeOf9
  v9 := Tryz.zeroValue9
  t20 := Tryz.underlying20
  a20 := Tryz.isAgg20
  z20 := Tryz.sizeOf20
  v20 := Tryz.zeroValue20
  t37 := Tryz.underlying34
  a37 := Tryz.isAgg34
  z37 := Tryz.sizeOf34
  v37 := Tryz.zeroValue34
  t46 := Tryz.underlying126
  a46 := Tryz.isAgg126
  z46 := Tryz.sizeOf126
  v46 := Tryz.zeroValue126
  t51 := Tryz.underlying150
  a51 := Tryz.isAgg150
  z51 := Tryz.sizeOf150
  v51 := Tryz.zeroValue150
  t53 := Tryz.underlying132
  a53 := Tryz.isAgg132
  z53 := Tryz.sizeOf132
  v53 := Tryz.zeroValue132
  t171 := Tryz.underlying135
  a171 := Tryz.isAgg135
  z171 := Tryz.sizeOf135
  v171 := Tryz.zeroValue135
  t173 := Tryz.underlying138
  a173 := Tryz.isAgg138
  z173 := Tryz.sizeOf138
  v173 := Tryz.zeroValue138
  t212 := Tryz.underlying159
  a212 := Tryz.isAgg159
  z212 := Tryz.sizeOf159
  v212 := Tryz.zeroValue159
  t213 := Tryz.underlying160
  a213 := Tryz.isAgg160
  z213 := Tryz.sizeOf160
  t232 := Tryz.underlying178
  a232 := Tryz.isAgg178
  z232 := Tryz.sizeOf178
  v232 := Tryz.zeroValue178
  t233 := Tryz.underlying179
  a233 := Tryz.isAgg179
  z233 := Tryz.sizeOf179
  v233 := Tryz.zeroValue179
  g17 := by kernel_rfl
  g18 := by kernel_rfl
  g19 := by kernel_rfl
  i0 := by kernel_rfl
  i2 := by kernel_rfl
  i3 := by kernel_rfl
  i4 := by kernel_rfl
  i5 := by kernel_rfl
  i9 := by kernel_rfl
  i20 := by kernel_rfl
  i37 := by kernel_rfl
  i46 := by kernel_rfl
  i51 := by kernel_rfl
  i53 := by kernel_rfl
  i171 := by kernel_rfl
  i173 := by kernel_rfl
  i212 := by kernel_rfl
  i232 := by kernel_rfl
  i233 := by kernel_rfl
  m17 := by kernel_rfl
  m18 := by kernel_rfl
  m19 := by kernel_rfl }
open Go.RowKit Go.Sort Go.Lib in
theorem Tryz.strconv_Itoa (n : Int) (h0 : -9223372036854775808 ≤ n) (h1 : n ≤ 9223372036854775807) (w : World) (htab : Lib.TabIs Tryz.prog w "internal/strconv.uint64pow10" .u64 Lib.pow10Tab) :
    Calls Tryz.prog 60 #[.int .i64 n] w fun e w' => e = .returned (.string ⟨(Lib.itoa n).toArray⟩) ∧ ∃ k os, w' = grow (w.drewN k) os := Any.strconv_Itoa Tryz.laysM171 n h0 h1 w htab
def Tryz.laysM173_ren : Go.Shelf.Ren := ⟨fun | 173 => 61 | 246 => 90 | 283 => 110 | 284 => 111 | 285 => 112 | 286 => 113 | 129 => 127 | 317 => 136 | 318 => 137 | 319 => 138 | 320 => 139 | 337 => 151 | 338 => 152 | n => n, fun | 2 => 2 | 3 => 3 | 9 => 9 | 4 => 4 | 171 => 135 | 0 => 0 | 53 => 132 | 37 => 34 | 5 => 5 | 173 => 138 | 212 => 159 | 51 => 150 | 20 => 20 | 213 => 160 | 46 => 126 | 232 => 178 | 233 => 179 | n => n, fun | 17 => 2 | 18 => 5 | 19 => 6 | n => n⟩
theorem Tryz.laysM173 : Go.Proofs.LaysM.n173 Tryz.prog Tryz.laysM173_ren := {
  mixed := by kernel_rfl
  f129 := Tryz.func127.trans (congrArg some (by kernel_rfl))
  f173 := Tryz.func61.trans (congrArg some (by kernel_rfl))
  f246 := Tryz.func90.trans (congrArg some (by kernel_rfl))
  f283 := Tryz.func110.trans (congrArg some (by kernel_rfl))
  f284 := Tryz.func111.trans (congrArg some (by kernel_rfl))
  f285 := Tryz.func112.trans (congrArg some (by kernel_rfl))
  f286 := Tryz.func113.trans (congrArg some (by kernel_rfl))
  f317 := Tryz.func136.trans (congrArg some (by kernel_rfl))
  f318 := Tryz.func137.trans (congrArg some (by kernel_rfl))
  f319 := Tryz.func138.trans (congrArg some (by kernel_rfl))
  f320 := Tryz.func139.trans (congrArg some (by kernel_rfl))
  f337 := Tryz.func151.trans (congrArg some (by kernel_rfl))
  f338 := Tryz.func152.trans (congrArg some (by kernel_rfl))
  t0 := Tryz.underlying0
  a0 := Tryz.isAgg0
  z0 := Tryz.sizeOf0
  v0 := Tryz.zeroValue0
  t2 := Tryz.underlying2
  a2 := Tryz.isAgg2
  z2 := Tryz.sizeOf2
  v2 := Tryz.zeroValue2
  t3 := Tryz.underlying3
  a3 := Tryz.isAgg3
  z3 := Tryz.sizeOf3
  v3 := Tryz.zeroValue3
  t4 := Tryz.underlying4
  a4 := Tryz.isAgg4
  z4 := Tryz.sizeOf4
  v4 := Tryz.zeroValue4
  t5 := Tryz.underlying5
  a5 := Tryz.isAgg5
  z5 := Tryz.sizeOf5
  v5 := Tryz.zeroValue5
  t9 := Tryz.underlying9
  a9 := Tryz.isAgg9
  z9 := Tryz.sizeOf9
  v9 := Tryz.zeroValue9
  t20 := Tryz.underlying20
  a20 := Tryz.isAgg20
  z20 := Tryz.sizeOf20
  v20 := Tryz.zeroValue20
  t37 := Tryz.underlying34
  a37 := Tryz.isAgg34
  z37 := Tryz.sizeOf34
  v37 := Tryz.zeroValue34
  t46 := Tryz.underlying126
  a46 := Tryz.isAgg126
  z46 := Tryz.sizeOf126
  v46 := Tryz.zeroValue126
  t51 := Tryz.underlying150
  a51 := Tryz.isAgg150
  z51 := Tryz.sizeOf150
  v51 := Tryz.zeroValue150
  t53 := Tryz.underlying132
  a53 := Tryz.isAgg132
  z53 := Tryz.sizeOf132
  v53 := Tryz.zeroValue132
  t171 := Tryz.underlying135
  a171 := Tryz.isAgg135
  z171 := Tryz.sizeOf135
  v171 := Tryz.zeroValue135
  t173 := Tryz.underlying138
  a173 := Tryz.isAgg138
  z173 := Tryz.sizeOf138
  v173 := Tryz.zeroValue138
  t212 := Tryz.underlying159
  a212 := Tryz.isAgg159
  z212 := Tryz.sizeOf159
  v212 := Tryz.zeroValue159
  t213 := Tryz.underlying160
  a213 := Tryz.isAgg160
  z213 := Tryz.sizeOf160
  t232 := Tryz.underlying178
  a232 := Tryz.isAgg178
  z232 := Tryz.sizeOf178
  v232 := Tryz.zeroValue178
  t233 := Tryz.underlying179
  a233 := Tryz.isAgg179
  z233 := Tryz.sizeOf179
  v233 := Tryz.zeroValue179
  g17 := by kernel_rfl
  g18 := by kernel_rfl
  g19 := by kernel_rfl
  i0 := by kernel_rfl
  i2 := by kernel_rfl
  i3 := by kernel_rfl
  i4 := by kernel_rfl
  i5 := by kernel_rfl
  i9 := by kernel_rfl
  i20 := by kernel_rfl
  i37 := by kernel_rfl
  i46 := by kernel_rfl
  i51 := by kernel_rfl
  i53 := by kernel_rfl
  i171 := by kernel_rfl
  i173 := by kernel_rfl
  i212 := by kernel_rfl
  i232 := by kernel_rfl
  i233 := by kernel_rfl
  m17 := by kernel_rfl
  m18 := by kernel_rfl
  m19 := by kernel_rfl }
open Go.RowKit Go.Sort Go.Lib in
theorem Tryz.strconv_FormatInt_10 (n : Int) (h0 : -9223372036854775808 ≤ n) (h1 : n ≤ 9223372036854775807) (w : World) (htab : Lib.TabIs Tryz.prog w "internal/strconv.uint64pow10" .u64 Lib.pow10Tab) :
    Calls Tryz.prog 61 #[.int .i64 n, .int .i64 10] w fun e w' => e = .returned (.string ⟨(Lib.itoa n).toArray⟩) ∧ ∃ k os, w' = grow (w.drewN k) os := Any.strconv_FormatInt_10 Tryz.laysM173 n h0 h1 w htab
end Go.Proofs
