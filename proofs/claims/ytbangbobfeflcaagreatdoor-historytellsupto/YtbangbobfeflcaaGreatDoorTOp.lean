import Derived.Test.YtbangbobfeflcaaGreatDoorTLw
import Derived.Test.YtbangbobfeflcaaGreatDoorRows
import Derived.Test.YtbangbobfeflcaaGreatDoorTie
import Derived.Test.YtbangbobfeflcaaGreatDoorCards
import Derived.SizedLaws
import Derived.ChangeSame
import Derived.ChangeVars
import Derived.ChangeMaps5
import Derived.JoinedOf
import Derived.JoinedAt
import Derived.RowKit
import Derived.RowKit3
import Derived.RowKitTokens
import Derived.LaidLaws
import Derived.Lib.LaidTab
import Derived.Stop.LaidErr
import Derived.ProofKit
import Derived.OpenShut
import Derived.ShutString
import Derived.ChangeOld
import Derived.Below
import Derived.Deep.Slices
import Derived.Deep.Fields
import Derived.Deep.DeepHandedRow
import Derived.Deep.DeepWitnessRowRef
import Derived.Shelf.Vars
namespace Go.Proofs.YtbangbobfeflcaaGreatDoor
open Go.RowKit Go.ChangeShapes Go.WideShapes Go.ChangeAt Go.Deep

theorem Tryz.own : ownKnob Tryz.prog.godebug = none := by kernel_rfl
theorem Tryz.laidOut : laidOutB Tryz.prog = true := by kernel_rfl
theorem Tryz.cells3 : Tryz.prog.cellsOf 3 = 1 := by kernel_rfl
theorem Tryz.cells4 : Tryz.prog.cellsOf 4 = 1 := by kernel_rfl
theorem Tryz.cells5 : Tryz.prog.cellsOf 5 = 1 := by kernel_rfl
theorem Tryz.cells9 : Tryz.prog.cellsOf 9 = 1 := by kernel_rfl
theorem Tryz.cells34 : Tryz.prog.cellsOf 34 = 1 := by kernel_rfl
theorem Tryz.cells100 : Tryz.prog.cellsOf 100 = 4 := by kernel_rfl
theorem Tryz.cells132 : Tryz.prog.cellsOf 132 = 1 := by kernel_rfl
theorem Tryz.cells159 : Tryz.prog.cellsOf 159 = 20 := by kernel_rfl
theorem Tryz.cells2 : Tryz.prog.cellsOf 2 = 1 := by kernel_rfl
theorem Tryz.cells35 : Tryz.prog.cellsOf 35 = 1 := by kernel_rfl
theorem Tryz.cells37 : Tryz.prog.cellsOf 37 = 2 := by kernel_rfl
theorem Tryz.cells39 : Tryz.prog.cellsOf 39 = 9 := by kernel_rfl
/-- A slice of bytes that came in: what it reads as. -/
theorem open_bytes {H : Type} {enc : TypeId × Value → H} {W : World} {a : Option Addr} {len cap fuel : Nat} {x : DataW H × List MemPlace}
    (h : DataW.trod enc Tryz.prog W 0 (fun _ => true) true fuel 34 [.slice a len cap] = some x) : ∃ l, Reads W a len cap l := by
  rcases open_ints Tryz.underlying34 Tryz.underlying5 Tryz.cells5 h with ⟨hcs, _⟩ | ⟨ad, l', c', zs, hcs, _, hl, hm, hz, hx, hcell, hwz⟩
  · simp at hcs
    obtain ⟨rfl, rfl, rfl⟩ := hcs
    exact ⟨[], ⟨rfl, Nat.le_refl _, by unfold maxLen; omega, fun _ h => absurd h (by simp), fun h => absurd h (by omega)⟩⟩
  · simp at hcs
    obtain ⟨rfl, rfl, rfl⟩ := hcs
    have hz' : zs.length = cap := by simpa using hz
    refine ⟨(zs.take len).map Int.toNat, ⟨by rw [List.length_map, List.length_take]; omega, hl, hm, fun c hc => ?_, fun h0 => ?_⟩⟩
    · obtain ⟨z, hz1, rfl⟩ := List.mem_map.1 hc
      have := bounds_u8 (hwz z (List.mem_of_mem_take hz1))
      omega
    · obtain ⟨b, off, spot⟩ := ad
      have c0 := hcell 0 (by omega)
      have hs : spot = none := by simpa [Addr.add] using World.cell?_spot c0
      subst hs
      refine ⟨b, off, rfl, fun i hi => ?_⟩
      have ci := hcell i (by omega)
      rw [Addr.add_none] at ci
      rw [ci]
      have e1 : zs.getD i 0 = zs[i]'(by omega) := by rw [List.getD_eq_getElem?_getD, List.getElem?_eq_getElem (by omega)]; rfl
      have e2 : ((zs.take len).map Int.toNat).getD i 0 = (zs[i]'(by omega)).toNat := by
        rw [List.getD_eq_getElem?_getD, List.getElem?_map, List.getElem?_take_of_lt hi, List.getElem?_eq_getElem (by omega)]; rfl
      have bd := bounds_u8 (hwz (zs[i]'(by omega)) (List.getElem_mem _))
      rw [e1, e2, Int.toNat_of_nonneg bd.1]
theorem slice_form {H : Type} {enc : TypeId × Value → H} {P : Program} {w : World} {base : Nat} {spare : Nat → Bool} {held : Bool} {t e : TypeId} {fuel : Nat} {v : Value} {x : DataW H × List MemPlace} (ht : P.underlying t = some (.slice e)) (h : DataW.trod enc P w base spare held fuel t [v] = some x) :
    ∃ a len cap, v = .slice a len cap := by
  rcases DataW.trod_slice ht h with ⟨q, _⟩ | ⟨a, len, cap, _, _, _, _, q, _⟩
  · simp at q; exact ⟨none, 0, 0, q⟩
  · simp at q; exact ⟨some a, len, cap, q⟩
theorem bulk_pos {H : Type} (d : DataW H) : 1 ≤ Rows.uptoBulk d := by
  cases d with
  | lit l => cases l <;> simp [Rows.uptoBulk]
  | nil => simp [Rows.uptoBulk]
  | ptr d => simp [Rows.uptoBulk]
  | slice elems spare => simp [Rows.uptoBulk]
  | agg parts => simp [Rows.uptoBulk]
  | iface t d => simp [Rows.uptoBulk]
  | map entries => simp [Rows.uptoBulk]
  | held h => simp [Rows.uptoBulk]
theorem bulk_length {H : Type} : ∀ l : List (DataW H), l.length ≤ Rows.uptoBulkAll l
  | [] => by simp
  | d :: r => by have := bulk_length r; have := bulk_pos d; simp only [Rows.uptoBulkAll, List.length_cons]; omega
theorem open_wide {H : Type} {enc : TypeId × Value → H} {W : World} {a : Option Addr} {len cap fuel : Nat} {x : DataW H × List MemPlace}
    (h : DataW.trod enc Tryz.prog W 0 (fun _ => true) true fuel 34 [.slice a len cap] = some x) : len ≤ Rows.uptoBulk x.1 := by
  rcases open_ints Tryz.underlying34 Tryz.underlying5 Tryz.cells5 h with ⟨hcs, _⟩ | ⟨ad, l', c', zs, hcs, _, hl, hm, hz, hx, hcell, hwz⟩
  · simp at hcs
    rw [hcs.2.1]
    exact Nat.zero_le _
  · simp at hcs
    obtain ⟨rfl, rfl, rfl⟩ := hcs
    have hz' : zs.length = cap := by simpa using hz
    rw [hx]
    simp only [Rows.uptoBulk]
    refine Nat.le_trans ?_ (Nat.le_trans (Nat.le_add_right _ _) (Nat.le_succ _))
    refine Nat.le_trans ?_ (bulk_length _)
    simp [lits]
    omega
theorem open_tag {H : Type} {enc : TypeId × Value → H} {W : World} {n : Nat} {c0 c1 : Value} {x : DataW H × List MemPlace} (h : DataW.trod enc Tryz.prog W 0 (fun _ => true) true n 37 [c0, c1] = some x) : ∃ a b : Int, c0 = .int .i64 a ∧ c1 = .int .i64 b ∧ KI a ∧ KI b := by
  obtain ⟨xs, m, _, hx, _, hxs, g⟩ := DataW.trod_struct Tryz.underlying37 h
  match xs, hxs with
  | [y0, y1], _ =>
    have g0 : DataW.trod enc Tryz.prog W 0 (fun _ => true) true m 2 [c0] = some y0 := by have := g 0 _ rfl; simpa [Tryz.cells2] using this
    have g1 : DataW.trod enc Tryz.prog W 0 (fun _ => true) true m 3 [c1] = some y1 := by have := g 1 _ rfl; simpa [Tryz.cells3] using this
    obtain ⟨a, e0, _, wa⟩ := DataW.trod_int Tryz.underlying2 g0
    obtain ⟨b, e1, _, wb⟩ := DataW.trod_int Tryz.underlying3 g1
    simp at e0 e1
    exact ⟨a, b, e0, e1, (wf_i64 a).1 wa, (wf_i64 b).1 wb⟩
/-- What an event that came in is like. -/
structure InE (m : Ev) (B : Nat) : Prop where
  cl : KI m.client
  op : KI m.op
  st : KI m.st
  tx : KI m.tx
  ty : KI m.ty
  wt : m.key.size + m.vn + 1 ≤ B
set_option maxRecDepth 100000 in
/-- An event that came in. -/
theorem open_event {H : Type} {enc : TypeId × Value → H} {W : World} {n : Nat} {c0 c1 c2 c3 c4 c5 c6 c7 c8 : Value} {x : DataW H × List MemPlace} (h : DataW.trod enc Tryz.prog W 0 (fun _ => true) true n 39 [c0, c1, c2, c3, c4, c5, c6, c7, c8] = some x) :
    ∃ m : Ev, #[c0, c1, c2, c3, c4, c5, c6, c7, c8] = m.cs ∧ Reads W m.va m.vn m.vc m.val ∧ InE m (Rows.uptoBulk x.1) := by
  obtain ⟨xs, m, _, hx, _, hxs, g⟩ := DataW.trod_struct Tryz.underlying39 h
  match xs, hxs with
  | [y0, y1, y2, y3, y4, y5, y6, y7], _ =>
    have g0 : DataW.trod enc Tryz.prog W 0 (fun _ => true) true m 3 [c0] = some y0 := by have := g 0 _ rfl; simpa [Tryz.cells3] using this
    have g1 : DataW.trod enc Tryz.prog W 0 (fun _ => true) true m 3 [c1] = some y1 := by have := g 1 _ rfl; simpa [Tryz.cells3] using this
    have g2 : DataW.trod enc Tryz.prog W 0 (fun _ => true) true m 2 [c2] = some y2 := by have := g 2 _ rfl; simpa [Tryz.cells2] using this
    have g3 : DataW.trod enc Tryz.prog W 0 (fun _ => true) true m 4 [c3] = some y3 := by have := g 3 _ rfl; simpa [Tryz.cells4] using this
    have g4 : DataW.trod enc Tryz.prog W 0 (fun _ => true) true m 9 [c4] = some y4 := by have := g 4 _ rfl; simpa [Tryz.cells9] using this
    have g5 : DataW.trod enc Tryz.prog W 0 (fun _ => true) true m 34 [c5] = some y5 := by have := g 5 _ rfl; simpa [Tryz.cells34] using this
    have g6 : DataW.trod enc Tryz.prog W 0 (fun _ => true) true m 35 [c6] = some y6 := by have := g 6 _ rfl; simpa [Tryz.cells35] using this
    have g7 : DataW.trod enc Tryz.prog W 0 (fun _ => true) true m 37 [c7, c8] = some y7 := by have := g 7 _ rfl; simpa [Tryz.cells37] using this
    obtain ⟨z0, e0, _, _⟩ := DataW.trod_int Tryz.underlying3 g0
    obtain ⟨z1, e1, _, w1⟩ := DataW.trod_int Tryz.underlying3 g1
    obtain ⟨z2, e2, _, w2⟩ := DataW.trod_int Tryz.underlying2 g2
    obtain ⟨b3, e3, _⟩ := DataW.trod_bool Tryz.underlying4 g3
    obtain ⟨s, e4, hy4, hs⟩ := DataW.trod_string Tryz.underlying9 g4
    obtain ⟨a, dl, dc, rfl⟩ := slice_form Tryz.underlying34 g5
    obtain ⟨z6, e6, _, w6⟩ := DataW.trod_int Tryz.underlying35 g6
    obtain ⟨tx, ty, rfl, rfl, k1, k2⟩ := open_tag g7
    simp at e0 e1 e2 e3 e4 e6
    subst e0 e1 e2 e3 e4 e6
    obtain ⟨l, rd⟩ := open_bytes g5
    refine ⟨⟨z0, z1, z2, b3, s, a, dl, dc, z6, tx, ty, l⟩, rfl, rd, (wf_i64 _).1 w1, (wf_i64 _).1 w2, (wf_i64 _).1 w6, k1, k2, ?_⟩
    have b5 := open_wide g5
    show s.size + dl + 1 ≤ _
    rw [hx]
    simp only [List.map_cons, List.map_nil, Rows.uptoBulk, Rows.uptoBulkAll]
    rw [hy4]
    simp only [Rows.uptoBulk]
    have e : s.data.toList.length = s.size := Array.length_toList
    omega
theorem lenW_cons (a : ByteArray) (r : List ByteArray) : lenW (a :: r) = a.size + lenW r := by unfold lenW; simp
theorem lenW_app (a b : List ByteArray) : lenW (a ++ b) = lenW a + lenW b := by unfold lenW; simp
theorem line_size {W : World} {e : Ev} {B : Nat} (rd : Reads W e.va e.vn e.vc e.val) (h : InE e B) : (lineB e).data.toList.length + 1 ≤ 150 * B := by
  have z1 := itB_size e.client h.cl
  have z2 := itB_size e.op h.op
  have z3 := itB_size e.st h.st
  have z4 := tagB_size h.tx h.ty
  have z5 := quoB_size e.key
  have z6 := quoB_size (str e.val)
  rw [str_size, rd.length] at z6
  have z7 := endB_size e.st
  have z8 := kwB_size e.kind.toNat
  have wt := h.wt
  have q := join_W (ws := lineW e) (by unfold lineW; simp)
  have e1 : (lineB e).data.toList.length = (Lib.join ((lineW e).map (·.data.toList)) [32]).length := by unfold lineB joinB; simp
  rw [e1]
  have p1 : lenW [kwB e.kind.toNat, itB e.client, itB e.op, if e.put = true then ⟨#[112, 117, 116]⟩ else ⟨#[103, 101, 116]⟩, quoB e.key] ≤ 54 + 4 * e.key.size := by
    have y : (if e.put = true then (⟨#[112, 117, 116]⟩ : ByteArray) else ⟨#[103, 101, 116]⟩).size = 3 := by split <;> rfl
    simp only [lenW_cons, y]
    have : lenW [] = 0 := rfl
    omega
  have p2 : lenW (if e.kind = 2 then [endB e.st] else []) ≤ 6 ∧ (if e.kind = 2 then [endB e.st] else []).length ≤ 1 := by
    have : lenW [] = 0 := rfl
    split
    · rw [lenW_cons]; exact ⟨by omega, Nat.le_refl _⟩
    · exact ⟨by omega, Nat.zero_le _⟩
  have p3 : lenW (if formE e = 4 then [itB e.st, tagB e.tx e.ty] else if formE e = 2 then [tagB e.tx e.ty] else if formE e = 3 then [tagB e.tx e.ty, quoB (str e.val)] else if formE e = 1 then [quoB (str e.val)] else []) ≤ 66 + 4 * e.vn ∧ (if formE e = 4 then [itB e.st, tagB e.tx e.ty] else if formE e = 2 then [tagB e.tx e.ty] else if formE e = 3 then [tagB e.tx e.ty, quoB (str e.val)] else if formE e = 1 then [quoB (str e.val)] else []).length ≤ 2 := by
    have : lenW [] = 0 := rfl
    split
    · rw [lenW_cons, lenW_cons]; exact ⟨by omega, Nat.le_refl _⟩
    · split
      · rw [lenW_cons]; exact ⟨by omega, by simp⟩
      · split
        · rw [lenW_cons, lenW_cons]; exact ⟨by omega, Nat.le_refl _⟩
        · split
          · rw [lenW_cons]; exact ⟨by omega, by simp⟩
          · exact ⟨by omega, Nat.zero_le _⟩
  unfold lineW at q
  rw [lenW_app, lenW_app, List.length_append, List.length_append] at q
  have p4 : ([kwB e.kind.toNat, itB e.client, itB e.op, if e.put = true then ⟨#[112, 117, 116]⟩ else ⟨#[103, 101, 116]⟩, quoB e.key] : List ByteArray).length = 5 := rfl
  rw [p4] at q
  have q' := q
  unfold lineW
  omega
theorem txt_bulk {H : Type} {W : World} (D : Nat → DataW H) (O : Nat → Ev) : ∀ l : List Nat, (∀ i ∈ l, Reads W (O i).va (O i).vn (O i).vc (O i).val ∧ InE (O i) (Rows.uptoBulk (D i))) → (txtF (l.map O)).length ≤ 150 * Rows.uptoBulkAll (l.map D)
  | [], _ => Nat.zero_le _
  | i :: l, h => by
    have ih := txt_bulk D O l (fun j hj => h j (List.mem_cons_of_mem _ hj))
    have q := line_size (h i List.mem_cons_self).1 (h i List.mem_cons_self).2
    rw [List.map_cons, List.map_cons, txtF_cons, List.length_append, List.length_cons]
    simp only [Rows.uptoBulkAll]
    omega
theorem InE.tur {W : World} {e : Ev} {B : Nat} (h : InE e B) : Reads W (tur e).va (tur e).vn (tur e).vc (tur e).val ∧ InE (tur e) (B + 1) := by
  refine ⟨Reads.nil W, h.cl, h.op, h.st, h.tx, h.ty, ?_⟩
  have wt := h.wt
  show (e.key ++ ⟨#[43]⟩ : ByteArray).size + 0 + 1 ≤ B + 1
  rw [ByteArray.size_append]
  have : (⟨#[43]⟩ : ByteArray).size = 1 := rfl
  omega
theorem txt_bulk2 {H : Type} {W : World} (D : Nat → DataW H) (O : Nat → Ev) : ∀ l : List Nat, (∀ i ∈ l, Reads W (O i).va (O i).vn (O i).vc (O i).val ∧ InE (O i) (Rows.uptoBulk (D i))) → (txtF ((l.map O).map tur)).length ≤ 300 * Rows.uptoBulkAll (l.map D)
  | [], _ => Nat.zero_le _
  | i :: l, h => by
    have ih := txt_bulk2 D O l (fun j hj => h j (List.mem_cons_of_mem _ hj))
    have q1 := InE.tur (W := W) (h i List.mem_cons_self).2
    have q := line_size q1.1 q1.2
    have wt := (h i List.mem_cons_self).2.wt
    rw [List.map_cons, List.map_cons, List.map_cons, txtF_cons, List.length_append, List.length_cons]
    simp only [Rows.uptoBulkAll]
    omega
theorem bulk_le {H : Type} : ∀ (l : List (DataW H)) (d : DataW H), d ∈ l → Rows.uptoBulk d ≤ Rows.uptoBulkAll l
  | a :: r, d, h => by
    simp only [Rows.uptoBulkAll]
    rcases List.mem_cons.1 h with z | z
    · rw [z]; omega
    · have := bulk_le r d z; omega
set_option maxRecDepth 100000 in
/-- A list of events, opened. -/
theorem open_events {H : Type} {enc : TypeId × Value → H} {W : World} {a : Option Addr} {len cap fuel : Nat} {x : DataW H × List MemPlace}
    (h : DataW.trod enc Tryz.prog W 0 (fun _ => true) true fuel 22 [.slice a len cap] = some x) : ∃ ms, ERd W a len cap ms ∧ (txtF ms).length ≤ 150 * Rows.uptoBulk x.1 ∧ (txtF (ms.map tur)).length ≤ 300 * Rows.uptoBulk x.1 ∧ (∀ m ∈ ms, InE m (Rows.uptoBulk x.1)) ∧ len ≤ Rows.uptoBulk x.1 := by
  rcases open_slice Tryz.underlying22 h with ⟨hcs, _⟩ | ⟨ad, l', c', m, n, D, Pl, hcs, _, hl, hm, hmm, hx, hel⟩
  · simp at hcs
    obtain ⟨rfl, rfl, rfl⟩ := hcs
    exact ⟨[], ⟨rfl, Nat.le_refl _, by unfold maxLen; omega, fun q => absurd q (by omega), fun _ h => absurd h (by simp)⟩, Nat.zero_le _, Nat.zero_le _, fun _ h => absurd h (by simp), Nat.zero_le _⟩
  · simp at hcs
    obtain ⟨rfl, rfl, rfl⟩ := hcs
    have hmm : m = cap := by simpa using hmm
    rw [Tryz.cells39] at hel
    haveI : Inhabited Ev := ⟨⟨0, 0, 0, false, ⟨#[]⟩, none, 0, 0, 0, 0, 0, []⟩⟩
    obtain ⟨O, hO⟩ := choose_lt (n := len) (p := fun i (o : Ev) => (∀ c v, (o.cs)[c]? = some v → W.cell? ((ad.add (i * 9)).add c) = some v) ∧ Reads W o.va o.vn o.vc o.val ∧ InE o (Rows.uptoBulk (D i))) (fun i hi => by
      obtain ⟨cs', h1, h2⟩ := hel i (by omega)
      obtain ⟨_, hlen, hc⟩ := World.cells?_some h1
      match cs', hlen, hc, h2 with
      | [c0, c1, c2, c3, c4, c5, c6, c7, c8], hlen, hc, h2 =>
        obtain ⟨o, eo, rd, ine⟩ := open_event h2
        refine ⟨o, fun c v hv => ?_, rd, ine⟩
        rw [← eo] at hv
        have hv : ([c0, c1, c2, c3, c4, c5, c6, c7, c8] : List Value)[c]? = some v := by
          rw [← hv, ← Array.getElem?_toList]
        obtain ⟨hlt, _⟩ := List.getElem?_eq_some_iff.1 hv
        exact (hc c (by simpa using hlt)).trans hv)
    refine ⟨(List.range len).map O, ⟨by simp, hl, hm, fun h0 => ?_, fun s hs => ?_⟩, ?_, ?_, fun s hs => ?_, ?_⟩
    · obtain ⟨b, off, spot⟩ := ad
      have h1 := (hO 0 h0).1 0 _ rfl
      have hs : spot = none := by
        have := World.cell?_spot h1
        simpa [Addr.add] using this
      subst hs
      refine ⟨b, off, rfl, fun i hi c v hv => ?_⟩
      have := (hO i (by simpa using hi)).1 c v (by simpa using hv)
      rw [Addr.add_none, Addr.add_none] at this
      exact this
    · obtain ⟨i, hi, rfl⟩ := List.mem_map.1 hs
      exact (hO i (by simpa using hi)).2.1
    · have q := txt_bulk (W := W) D O (List.range len) (fun i hi => (hO i (by simpa using hi)).2)
      rw [hx]
      simp only [Rows.uptoBulk]
      omega
    · have q := txt_bulk2 (W := W) D O (List.range len) (fun i hi => (hO i (by simpa using hi)).2)
      rw [hx]
      simp only [Rows.uptoBulk]
      omega
    · obtain ⟨i, hi, rfl⟩ := List.mem_map.1 hs
      have q := (hO i (by simpa using hi)).2.2
      have q2 := bulk_le ((List.range len).map D) (D i) (List.mem_map_of_mem (f := D) hi)
      refine ⟨q.cl, q.op, q.st, q.tx, q.ty, ?_⟩
      have wt := q.wt
      rw [hx]
      simp only [Rows.uptoBulk]
      omega
    · have q := bulk_length ((List.range len).map D)
      rw [List.length_map, List.length_range] at q
      rw [hx]
      simp only [Rows.uptoBulk]
      omega
/-- An array of texts that reads as a list of texts has just these. -/
theorem cells_of_texts {H : Type} {enc : TypeId × Value → H} {P : Program} {w : World} {base : Nat} {sp : Nat → Bool} {held : Bool} {fuel : Nat} {t e : TypeId} {n : Nat} {cs : List Value} {ts : List (List UInt8)} {p : List MemPlace}
    (ht : P.underlying t = some (.array n e)) (he : P.underlying e = some .string) (hce : P.cellsOf e = 1) (hct : P.cellsOf t = n)
    (h : DataW.trod enc P w base sp held fuel t cs = some (DataW.agg (ts.map fun z => DataW.lit (Lit.string z)), p)) : ∀ (i : Nat) (z : List UInt8), ts[i]? = some z → cs[i]? = some (Value.string ⟨z.toArray⟩) := by
  cases fuel with
  | zero => simp [DataW.trod] at h
  | succ fuel =>
    simp only [DataW.trod, ht, hce, hct, Nat.mul_one] at h
    split at h
    · obtain ⟨xs, hm, hx⟩ := Option.map_eq_some_iff.1 h
      have hxs : xs.map (·.1) = ts.map fun z => (DataW.lit (Lit.string z) : DataW H) := by
        have := congrArg Prod.fst hx
        simpa using this
      have hxl : xs.length = n := by simpa using Lib.mapM_length hm
      intro i z hz
      have hi : i < n := by
        have := congrArg List.length hxs
        simp at this
        have := (List.getElem?_eq_some_iff.1 hz).1
        omega
      obtain ⟨b, hb, hf⟩ := Lib.mapM_at hm i i (by simp [hi])
      obtain ⟨s, hc, rfl, _⟩ := DataW.trod_string he hf
      have h1 : cs[i]? = some (.string s) := by
        have := congrArg (·[0]?) hc
        simpa [List.getElem?_take, List.getElem?_drop] using this
      have h2 : (xs.map (·.1))[i]? = some (DataW.lit (Lit.string s.data.toList) : DataW H) := by simp [hb]
      rw [hxs, List.getElem?_map, hz] at h2
      simp at h2
      rw [h1, h2]
    · cases h
theorem Tryz.gKw : Tryz.prog.globalNamed "sherd/history.kindWords" = some 0 := by kernel_rfl
theorem Tryz.gKwType : (Tryz.prog.globals[0]?).map (·.type) = some 100 := by kernel_rfl
theorem Tryz.gPow : Tryz.prog.globalNamed "internal/strconv.uint64pow10" = some 2 := by kernel_rfl
theorem Tryz.gPowType : (Tryz.prog.globals[2]?).map (·.type) = some 159 := by kernel_rfl
/-- The variables as the rows list them. -/
abbrev laidAll : List (String × DataW Unit) := [("math/bits.deBruijn32tab", Rows.laid_math_bits_deBruijn32tab), ("math/bits.deBruijn64tab", Rows.laid_math_bits_deBruijn64tab), ("internal/strconv.uint64pow10", Rows.laid_internal_strconv_uint64pow10), ("sherd/history.kindWords", Rows.laid_sherd_history_kindWords)]
theorem kws_of {W : World} (h : laidMet Tryz.prog [("sherd/history.kindWords", Rows.laid_sherd_history_kindWords)] W) : KWs W := by
  obtain ⟨ps, ⟨g', t', cs, fuel, p, q, hg', ht', hvar, hd, _, _⟩, _⟩ := h
  obtain rfl := Option.some.inj (Tryz.gKw.symm.trans hg')
  obtain rfl := Option.some.inj (Tryz.gKwType.symm.trans ht')
  have k := cells_of_texts (ts := [[], [105, 110, 118, 111, 107, 101], [114, 101, 116, 117, 114, 110], [99, 97, 110, 99, 101, 108]]) Tryz.underlying100 Tryz.underlying9 Tryz.cells9 Tryz.cells100 hd
  have c : ∀ i v, cs.toList[i]? = some v → W.cell? ⟨0, i, none⟩ = some v := fun i v hv => by
    have := World.var?_cell Tryz.gKw hvar i
    rw [this, ← Array.getElem?_toList]
    exact hv
  exact ⟨c 0 _ (k 0 _ rfl), c 1 _ (k 1 _ rfl), c 2 _ (k 2 _ rfl), c 3 _ (k 3 _ rfl)⟩
theorem glob_of {W : World} (hL : laidMetH Tryz.prog laidAll W) : Tab W ∧ KWs W := by
  have hL : laidMet Tryz.prog laidAll W := hL
  have h2 := hL.tail.tail
  exact ⟨Lib.tabIs_of_head Tryz.gPow Tryz.gPowType Tryz.underlying159 Tryz.underlying132 Tryz.cells132 Tryz.cells159 (rest := _) h2, kws_of h2.tail⟩
end Go.Proofs.YtbangbobfeflcaaGreatDoor
