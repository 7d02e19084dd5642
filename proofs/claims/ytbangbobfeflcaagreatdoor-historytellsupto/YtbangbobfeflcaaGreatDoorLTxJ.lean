import Derived.Test.YtbangbobfeflcaaGreatDoorLL0J
import Derived.Test.YtbangbobfeflcaaGreatDoorLL2J
import Derived.Test.YtbangbobfeflcaaGreatDoorLL4J
import Derived.Test.YtbangbobfeflcaaGreatDoorLL5
import Derived.Test.YtbangbobfeflcaaGreatDoorLL6
import Derived.Test.YtbangbobfeflcaaGreatDoorLL7
namespace Go.Proofs.YtbangbobfeflcaaGreatDoor
open Go.RowKit 

/-- What an event that may be is like. -/
theorem fault_all {e : Ev} (h : faultE e = 0) : (e.kind = 1 ∨ e.kind = 2 ∨ e.kind = 3) ∧ (1 ≤ e.client ∧ e.client ≤ 65535) ∧ (1 ≤ e.key.size ∧ e.key.size ≤ 64) ∧ valueE e = true ∧ tagE e = true ∧ (1 ≤ e.op ∧ e.op ≤ 4611686018427387903) ∧ statusE e = true := by
  unfold faultE at h
  split at h
  · cases h
  rename_i h1
  split at h
  · cases h
  rename_i h2
  split at h
  · cases h
  rename_i h3
  split at h
  · cases h
  rename_i h4
  split at h
  · cases h
  rename_i h5
  split at h
  · cases h
  rename_i h6
  refine ⟨by omega, by omega, by omega, ?_, ?_, by omega, ?_⟩
  · cases q : valueE e with
    | true => rfl
    | false => exact absurd q h4
  · cases q : tagE e with
    | true => rfl
    | false => exact absurd q h5
  · cases q : statusE e with
    | true => rfl
    | false => exact absurd (Or.inr (Or.inr q)) h6
/-- The words of an event's line. -/
def lineW (e : Ev) : List ByteArray := [kwB e.kind.toNat, itB e.client, itB e.op, if e.put = true then ⟨#[112, 117, 116]⟩ else ⟨#[103, 101, 116]⟩, quoB e.key] ++ (if e.kind = 2 then [endB e.st] else []) ++ (if formE e = 4 then [itB e.st, tagB e.tx e.ty] else if formE e = 2 then [tagB e.tx e.ty] else if formE e = 3 then [tagB e.tx e.ty, quoB (str e.val)] else if formE e = 1 then [quoB (str e.val)] else [])
def lineB (e : Ev) : ByteArray := joinB (lineW e)
theorem tag_ok {e : Ev} (h : tagE e = true) (hf : ¬ (formE e = 0 ∨ formE e = 1)) : (kIsZero e.tx e.ty || kIsProper e.tx e.ty) = true := by
  unfold tagE at h
  rw [if_neg hf] at h
  simp only [Bool.and_eq_true] at h
  exact h.1
theorem val_le {e : Ev} (h : valueE e = true) : e.vn ≤ 65536 := by
  unfold valueE at h
  split at h
  · simpa using h
  · have : e.vn = 0 := by simpa using h
    omega
theorem hLineG {w : World} (e : Ev) (hf : faultE e = 0) (V : Tab w) (kw : KWs w) (rv : Reads w e.va e.vn e.vc e.val) : Calls Tryz.prog 32 #[e.agg] w fun o w' => o = .returned (.string (lineB e)) ∧ Kept (fun _ => False) w w' := by
  obtain ⟨h1, h2, h3, h4, h5, h6, h7⟩ := fault_all hf
  have hc : KI e.client := ⟨by omega, by omega⟩
  have ho : KI e.op := ⟨by omega, by omega⟩
  have hv := val_le h4
  have tg := tag_ok h5
  unfold lineB lineW
  obtain ⟨kind, client, op, put, key, va, vn, vc, st, tx, ty, val⟩ := e
  simp only at h1 h2 h3 h6 hc ho hv tg rv ⊢
  have hst : KI st := by
    unfold statusE at h7
    simp only at h7
    split at h7
    · rename_i z; rw [z]; exact ⟨by omega, by omega⟩
    · split at h7
      · cases h7
      · split at h7
        · have : st = 42 := by simpa using h7
          rw [this]; exact ⟨by omega, by omega⟩
        · simp at h7
          unfold KI
          omega
  rcases h1 with rfl | rfl | rfl
  · cases put with
    | true =>
      have q := hLnP1 (kd := 1) (st := st) (tx := tx) (ty := ty) V kw (by omega) (by omega) hc ho h3.2 rv hv (by omega) rfl
      exact q
    | false =>
      have q := hLnG0 (kd := 1) (st := st) (tx := tx) (ty := ty) (va := va) (vn := vn) (vc := vc) (val := val) V kw (by omega) (by omega) hc ho h3.2 (by omega) rfl
      exact q
  · cases put with
    | true =>
      by_cases z : st = 0
      · have ff : formE ⟨2, client, op, true, key, va, vn, vc, st, tx, ty, val⟩ = 2 := by rw [z]; rfl
        have q := hLnPR2 V kw hc ho h3.2 (tg (by rw [ff]; decide)) ff
        rw [ff]
        exact q
      · have z2 : st = 42 := by
          unfold statusE at h7
          simp only at h7
          rw [if_neg z] at h7
          simpa using h7
        have ff : formE ⟨2, client, op, true, key, va, vn, vc, st, tx, ty, val⟩ = 0 := by rw [z2]; rfl
        have q := hLnPR0 V kw hc ho h3.2 ff
        rw [ff]
        exact q
    | false =>
      by_cases z : st = 0
      · have ff : formE ⟨2, client, op, false, key, va, vn, vc, st, tx, ty, val⟩ = 3 := by rw [z]; rfl
        have q := hLnGR3 V kw hc ho h3.2 rv hv (tg (by rw [ff]; decide)) ff
        rw [ff]
        exact q
      · by_cases z2 : st = 76 ∨ st = 42
        · have ff : formE ⟨2, client, op, false, key, va, vn, vc, st, tx, ty, val⟩ = 0 := by rcases z2 with z2 | z2 <;> rw [z2] <;> rfl
          have q := hLnGR0 V kw hc ho h3.2 ff
          rw [ff]
          exact q
        · have ff : formE ⟨2, client, op, false, key, va, vn, vc, st, tx, ty, val⟩ = 4 := by
            show formR st false = 4
            unfold formR
            rw [if_neg z, if_neg z2]
          have q := hLnGR4 V kw hc ho h3.2 (tg (by rw [ff]; decide)) hst ff
          rw [ff]
          exact q
  · cases put with
    | true =>
      have ff : formE ⟨3, client, op, true, key, va, vn, vc, st, tx, ty, val⟩ = 2 := rfl
      have q := hLnP3 (kd := 3) (st := st) (va := va) (vn := vn) (vc := vc) (val := val) V kw (by omega) (by omega) hc ho h3.2 (tg (by rw [ff]; decide)) (by omega) ff
      exact q
    | false =>
      have q := hLnG0 (kd := 3) (st := st) (tx := tx) (ty := ty) (va := va) (vn := vn) (vc := vc) (val := val) V kw (by omega) (by omega) hc ho h3.2 (by omega) rfl
      exact q
end Go.Proofs.YtbangbobfeflcaaGreatDoor

namespace Go.Proofs.YtbangbobfeflcaaGreatDoor
open Go.RowKit 

/-- A history's text, line by line; the first event's fault that isn't none. -/
def txtF (es : List Ev) : List UInt8 := es.flatMap fun e => (lineB e).data.toList ++ [10]
def fstF : List Ev → Int
  | [] => 0
  | e :: r => if faultE e = 0 then fstF r else faultE e
def txtE (es : List Ev) : ByteArray × Int := if fstF es = 0 then (⟨(txtF es).toArray⟩, 0) else (⟨#[]⟩, fstF es)
theorem txtF_take {es : List Ev} {i : Nat} {e : Ev} (h : es[i]? = some e) : txtF (es.take (i + 1)) = txtF (es.take i) ++ ((lineB e).data.toList ++ [10]) := by
  have et : es.take (i + 1) = es.take i ++ [e] := by rw [List.take_add_one, h]; rfl
  rw [et]
  unfold txtF
  rw [List.flatMap_append]
  simp
theorem txtF_len (es : List Ev) (i : Nat) : (txtF (es.take i)).length ≤ (txtF es).length := by
  conv => rhs; rw [← List.take_append_drop i es]
  unfold txtF
  rw [List.flatMap_append, List.length_append]
  omega
theorem fstF_app : ∀ (a b : List Ev), (∀ e ∈ a, faultE e = 0) → fstF (a ++ b) = fstF b
  | [], b, _ => rfl
  | e :: r, b, h => by
    show (if faultE e = 0 then fstF (r ++ b) else faultE e) = _
    rw [if_pos (h e List.mem_cons_self)]
    exact fstF_app r b (fun x hx => h x (List.mem_cons_of_mem _ hx))
theorem fstF_at {es : List Ev} {i : Nat} {e : Ev} (h : es[i]? = some e) (ha : ∀ x ∈ es.take i, faultE x = 0) (hf : faultE e ≠ 0) : fstF es = faultE e := by
  have q := fstF_app (es.take i) (es.drop i) ha
  rw [List.take_append_drop] at q
  have hl := (List.getElem?_eq_some_iff.1 h).1
  have e2 : es.drop i = e :: es.drop (i + 1) := by
    rw [List.drop_eq_getElem_cons hl]
    congr 1
    exact (List.getElem?_eq_some_iff.1 h).2
  rw [q, e2]
  show (if faultE e = 0 then _ else faultE e) = _
  rw [if_neg hf]
theorem fstF_all {es : List Ev} (h : ∀ e ∈ es, faultE e = 0) : fstF es = 0 := by
  have q := fstF_app es [] h
  rw [List.append_nil] at q
  exact q
/-- Where Text is: the builder, in the block that the call made first. -/
structure TB (w wr : World) (l : List UInt8) : Prop where
  bd : Lib.IsBuilder 84 5 w.heap.size w.heap.size (Lib.byteCells l) wr
  kept : Kept (fun _ => False) w wr
theorem bat_k0 {w wr W : World} {p : Value} {bs : List Value} (h : Lib.BuilderAt 84 5 w.heap.size w.heap.size p bs wr) (K : Kept (fun _ => False) wr W) : Lib.BuilderAt 84 5 w.heap.size w.heap.size p bs W := by
  obtain ⟨h1, v, h2, h3, h4⟩ := h
  exact ⟨h1, v, K.get h2 (fun z => z), K.owns h3 (fun _ _ z => z), h4⟩
theorem TB.k0 {w wr W : World} {l : List UInt8} (h : TB w wr l) (K : Kept (fun _ => False) wr W) : TB w W l := ⟨by
  rcases h.bd with z | z
  · exact .inl (bat_k0 z K)
  · exact .inr (bat_k0 z K), h.kept.trans K (fun _ _ z => z)⟩
theorem TB.lt {w wr : World} {l : List UInt8} (h : TB w wr l) : w.heap.size < wr.heap.size := by
  rcases h.bd with z | z
  · exact z.lt
  · exact z.lt
theorem strCells_eq (s : ByteArray) : Lib.strCells s = Lib.byteCells s.data.toList := rfl
theorem hWriteS {w wr : World} {l : List UInt8} (h : TB w wr l) (s : ByteArray) (hl : l.length + s.size ≤ 140737488355328) : Calls Tryz.prog 47 #[.pointer (some ⟨w.heap.size, 0, none⟩), .string s] wr fun o w' => o = .returned (.tuple #[.int .i64 s.size, .nilIface]) ∧ TB w w' (l ++ s.data.toList) := by
  have q := Any.Builder_WriteString (ρ := Tryz.lays156_ren) { Tryz.lays156 with } Tryz.Builder_Extra_156 w.heap.size w.heap.size (Lib.byteCells l) s wr h.bd (by rw [show (Lib.byteCells l).length = l.length by unfold Lib.byteCells; rw [List.length_map]]; exact hl) (Nat.le_of_lt h.lt)
  refine Calls.mono q ?_
  rintro o w' ⟨rfl, b, B⟩
  refine ⟨rfl, ⟨.inr ?_, h.kept.trans (Kept.of_below B) (fun j hj z => by omega)⟩⟩
  rw [strCells_eq, ← Lib.byteCells_append] at b
  exact b
theorem hStringS {w wr : World} {l : List UInt8} (h : TB w wr l) : Calls Tryz.prog 48 #[.pointer (some ⟨w.heap.size, 0, none⟩)] wr fun o w' => o = .returned (.string ⟨l.toArray⟩) ∧ Kept (fun _ => False) w w' := by
  have q := Any.Builder_String_any (ρ := Tryz.lays156_ren) { Tryz.lays156 with } Tryz.Builder_Extra_156 w.heap.size w.heap.size l wr h.bd (Nat.le_of_lt h.lt)
  refine Calls.mono q ?_
  rintro o w' ⟨rfl, B⟩
  exact ⟨rfl, h.kept.trans (Kept.of_below B) (fun j hj z => by omega)⟩
set_option maxRecDepth 100000 in
set_option maxHeartbeats 4000000 in
theorem hTextG {w : World} {p : Option Addr} {n c : Nat} {es : List Ev} (er : ERd w p n c es) (hz : (txtF es).length ≤ 140737488355328) (V : Tab w) (kw : KWs w) : Calls Tryz.prog 23 #[.slice p n c] w fun o w' => o = .returned (.tuple #[.string (txtE es).1, .int .i64 (txtE es).2]) ∧ Kept (fun _ => False) w w' := by
  have hn : n ≤ 9223372036854775807 := by have h1 := er.room; have h2 := er.small; unfold maxLen at h2; omega
  have H : Hid (ERd w p n c es ∧ (txtF es).length ≤ 140737488355328 ∧ Tab w ∧ KWs w) := ⟨er, hz, V, kw⟩
  have S0 : Hid (TB w (w.alloc (.cells #[.pointer none, .slice none 0 0] 84)) (txtF (es.take 0))) := ⟨Lib.fresh_isBuilder 84 5 w, (Kept.refl _ _).alloc _⟩
  have C47 : Hid (∀ (V : World) (l : List UInt8) (s : ByteArray), TB w V l → l.length + s.size ≤ 140737488355328 → Calls Tryz.prog 47 #[.pointer (some ⟨w.heap.size, 0, none⟩), .string s] V fun o w' => o = .returned (.tuple #[.int .i64 s.size, .nilIface]) ∧ Hid (TB w w' (l ++ s.data.toList))) := fun V l s h hl => hWriteS h s hl
  have C48 : Hid (∀ (V : World) (l : List UInt8), TB w V l → Calls Tryz.prog 48 #[.pointer (some ⟨w.heap.size, 0, none⟩)] V fun o w' => o = .returned (.string ⟨l.toArray⟩) ∧ Kept (fun _ => False) w w') := fun V l h => hStringS h
  clear er hz V kw
  go_enter Tryz.func23, Tryz.ntmps23
  go_upto_region 3 with fail
  go_loopw [6, 7, 10] (fun _ _ u10 wr => ∃ i : Nat, u10 = .int .i64 (i : Int) ∧ i ≤ n ∧ Hid (TB w wr (txtF (es.take i)) ∧ ∀ x ∈ es.take i, faultE x = 0)) (fun _ _ u10 _ => n - (intOf u10).toNat)
  case atStart => exact ⟨0, rfl, Nat.zero_le _, S0.out, fun x hx => by simp at hx⟩
  case round =>
    clear S0
    obtain ⟨i, rfl, hi, S⟩ := hrel
    obtain ⟨wo, hwo⟩ : ∃ wo, wo = wr := ⟨_, rfl⟩
    rw [← hwo] at S ⊢
    clear hwo
    by_cases hlt : i < n
    · have lti : (i : Int) < (n : Int) := by omega
      obtain ⟨b, off, e, rfl, he, c0', c1, c2, c3, c4, c5, c6, c7, c8, rd⟩ := (H.out.1.k0 S.out.1.kept).at hlt
      obtain ⟨W, hW⟩ : ∃ W, W = wo.alloc (.cells #[.int .i64 e.kind, .int .i64 e.client, .int .i64 e.op, .bool e.put, .string e.key, .slice e.va e.vn e.vc, .int .i64 e.st, .int .i64 e.tx, .int .i64 e.ty] 39) := ⟨_, rfl⟩
      obtain ⟨B, hB⟩ : ∃ B, B = wo.heap.size := ⟨_, rfl⟩
      have J : Hid (W.heap[B]? = some (.cells #[.int .i64 e.kind, .int .i64 e.client, .int .i64 e.op, .bool e.put, .string e.key, .slice e.va e.vn e.vc, .int .i64 e.st, .int .i64 e.tx, .int .i64 e.ty] 39 (0, 0)) ∧ Kept (fun _ => False) wo W) := ⟨by rw [hW, hB]; exact alloc_new _ _, by rw [hW]; exact (Kept.refl _ _).alloc _⟩
      have EW : Hid (W = wo.alloc (.cells #[.int .i64 e.kind, .int .i64 e.client, .int .i64 e.op, .bool e.put, .string e.key, .slice e.va e.vn e.vc, .int .i64 e.st, .int .i64 e.tx, .int .i64 e.ty] 39) ∧ B = wo.heap.size) := ⟨hW, hB⟩
      obtain ⟨fe, hfe⟩ : ∃ fe, faultE e = fe := ⟨_, rfl⟩
      have HE : Hid (es[i]? = some e ∧ Reads wo e.va e.vn e.vc e.val ∧ faultE e = fe) := ⟨he, rd, hfe⟩
      have C31 : Hid (∀ V, Calls Tryz.prog 31 #[.agg #[.int .i64 e.kind, .int .i64 e.client, .int .i64 e.op, .bool e.put, .string e.key, .slice e.va e.vn e.vc, .int .i64 e.st, .int .i64 e.tx, .int .i64 e.ty]] V fun o w' => o = .returned (.int .i64 fe) ∧ Kept (fun _ => False) V w') := fun V => by
        rw [← hfe]
        exact hFault e (by have h1 := rd.room; have h2 := rd.small; unfold maxLen at h2; omega) V
      clear hW hB he rd hfe
      go_upto_region 5 with fail
      rw [← EW.out.1, ← EW.out.2]
      clear c0' c1 c2 c3 c4 c5 c6 c7 c8 EW
      have c0 := cell_blk J.out.1 0 (v := .int .i64 e.kind) rfl
      have c1 := cell_blk J.out.1 1 (v := .int .i64 e.client) rfl
      have c2 := cell_blk J.out.1 2 (v := .int .i64 e.op) rfl
      have c3 := cell_blk J.out.1 3 (v := .bool e.put) rfl
      have c4 := cell_blk J.out.1 4 (v := .string e.key) rfl
      have c5 := cell_blk J.out.1 5 (v := .slice e.va e.vn e.vc) rfl
      have c6 := cell_blk J.out.1 6 (v := .int .i64 e.st) rfl
      have c7 := cell_blk J.out.1 7 (v := .int .i64 e.tx) rfl
      have c8 := cell_blk J.out.1 8 (v := .int .i64 e.ty) rfl
      go_wp2_with fail
      refine (C31.out _).mono ?_
      rintro o w5 ⟨rfl, K5⟩
      have N5 : Hid (w5.heap[B]? = some (.cells #[.int .i64 e.kind, .int .i64 e.client, .int .i64 e.op, .bool e.put, .string e.key, .slice e.va e.vn e.vc, .int .i64 e.st, .int .i64 e.tx, .int .i64 e.ty] 39 (0, 0)) ∧ Kept (fun _ => False) wo w5) := ⟨K5.get J.out.1 (fun z => z), J.out.2.trans K5 (fun _ _ z => z)⟩
      clear c0 c1 c2 c3 c4 c5 c6 c7 c8 J K5 C31
      by_cases hf : fe = 0
      · have fz : (fe != 0) = false := by rw [hf]; rfl
        have fz2 : (fe == 0) = true := by rw [hf]; rfl
        have HF : Hid (fe = 0) := hf
        have C32 : Hid (Calls Tryz.prog 32 #[.agg #[.int .i64 e.kind, .int .i64 e.client, .int .i64 e.op, .bool e.put, .string e.key, .slice e.va e.vn e.vc, .int .i64 e.st, .int .i64 e.tx, .int .i64 e.ty]] w5 fun o w' => o = .returned (.string (lineB e)) ∧ Kept (fun _ => False) w5 w') := hLineG e (by rw [HE.out.2.2]; exact hf) (H.out.2.2.1.kept (S.out.1.kept.trans N5.out.2 (fun _ _ z => z))) (H.out.2.2.2.kept (S.out.1.kept.trans N5.out.2 (fun _ _ z => z)) (fun z => z)) (Reads.kept N5.out.2 HE.out.2.1 (fun _ _ z => z))
        obtain ⟨LB, hLB⟩ : ∃ LB, lineB e = LB := ⟨_, rfl⟩
        rw [hLB] at C32
        have HLB : Hid (lineB e = LB) := hLB
        have LN : Hid ((txtF (es.take i)).length + LB.size + 1 ≤ 140737488355328) := by
          have q1 := txtF_len es (i + 1)
          rw [txtF_take HE.out.1, List.length_append, List.length_append, List.length_singleton, hLB] at q1
          have q2 := H.out.2.1
          have q3 : LB.data.toList.length = LB.size := Array.length_toList
          show _ ≤ _
          omega
        clear hLB hf
        have d0 := cell_blk N5.out.1 0 (v := .int .i64 e.kind) rfl
        have d1 := cell_blk N5.out.1 1 (v := .int .i64 e.client) rfl
        have d2 := cell_blk N5.out.1 2 (v := .int .i64 e.op) rfl
        have d3 := cell_blk N5.out.1 3 (v := .bool e.put) rfl
        have d4 := cell_blk N5.out.1 4 (v := .string e.key) rfl
        have d5 := cell_blk N5.out.1 5 (v := .slice e.va e.vn e.vc) rfl
        have d6 := cell_blk N5.out.1 6 (v := .int .i64 e.st) rfl
        have d7 := cell_blk N5.out.1 7 (v := .int .i64 e.tx) rfl
        have d8 := cell_blk N5.out.1 8 (v := .int .i64 e.ty) rfl
        go_wp2_with fail
        refine C32.out.mono ?_
        rintro o w6 ⟨rfl, K6⟩
        have T6 : Hid (TB w w6 (txtF (es.take i))) := S.out.1.k0 (N5.out.2.trans K6 (fun _ _ z => z))
        clear d0 d1 d2 d3 d4 d5 d6 d7 d8 K6 C32 N5
        go_wp2_with fail
        refine (C47.out _ _ LB T6.out (by have := LN.out; omega)).mono ?_
        rintro o w7 ⟨rfl, T7⟩
        clear T6
        go_wp2_with fail
        refine (C47.out _ _ ⟨#[10]⟩ T7.out (by have q := LN.out; have q3 : LB.data.toList.length = LB.size := Array.length_toList; rw [List.length_append]; show _ + 1 ≤ _; omega)).mono ?_
        rintro o w8 ⟨rfl, T8⟩
        have N : Hid (TB w w8 (txtF (es.take (i + 1))) ∧ ∀ x ∈ es.take (i + 1), faultE x = 0) := by
          refine ⟨?_, fun x hx => ?_⟩
          · rw [txtF_take HE.out.1, HLB.out, ← List.append_assoc]
            exact T8.out
          · rw [List.take_add_one, HE.out.1] at hx
            rcases List.mem_append.1 hx with z | z
            · exact S.out.2 x z
            · have z : x = e := by simpa using z
              rw [z, HE.out.2.2]
              exact HF.out
        clear T7 T8 S LN
        go_wp2_with fail
        go_roundw
        case rel => exact ⟨i + 1, by go_num, by omega, N⟩
        case measure => simp [intOf] <;> omega
      · have fz : (fe != 0) = true := by simpa using hf
        have fz2 : ¬ fe = 0 := hf
        have AN : Hid (txtE es = (⟨#[]⟩, fe) ∧ Kept (fun _ => False) w w5) := ⟨by
          have q : fstF es = fe := by rw [← HE.out.2.2]; exact fstF_at HE.out.1 S.out.2 (by rw [HE.out.2.2]; exact hf)
          unfold txtE
          rw [q, if_neg hf], S.out.1.kept.trans N5.out.2 (fun _ _ z => z)⟩
        clear S N5 hf
        go_wp2_with fail
        go_ret2
        exact ⟨by simp [AN.out.1], AN.out.2⟩
    · have lti : ¬ (i : Int) < (n : Int) := by omega
      obtain rfl : i = n := by omega
      have eL : es.take i = es := List.take_of_length_le (by rw [H.out.1.len]; exact Nat.le_refl _)
      rw [eL] at S
      have AN : Hid (txtE es = (⟨(txtF es).toArray⟩, 0)) := by
        show txtE es = _
        unfold txtE
        rw [if_pos (fstF_all S.out.2)]
      clear eL
      go_wp2_with fail
      refine (C48.out _ _ S.out.1).mono ?_
      rintro o w9 ⟨rfl, K9⟩
      have F : Hid (Kept (fun _ => False) w w9) := K9
      clear K9 S
      go_wp2_with fail
      go_ret2
      exact ⟨by simp [AN.out], F.out⟩
end Go.Proofs.YtbangbobfeflcaaGreatDoor
