import Derived.Test.YtbangbobfeflcaaGreatDoorREw
namespace Go.Proofs.YtbangbobfeflcaaGreatDoor
open Go.RowKit 

/-- A segment of a text: what stands in it, and where it ends. -/
theorem seg_at {P t q : List UInt8} {d : Nat} {x : UInt8} (h : t[d]? = some x) : (bl ⟨(P ++ (t ++ q)).toArray⟩)[P.length + d]? = some x.toNat := by
  have hd := (List.getElem?_eq_some_iff.1 h).1
  unfold bl
  rw [List.getElem?_map]
  have e : ((P ++ (t ++ q)).toArray).toList[P.length + d]? = some x := by
    rw [show ((P ++ (t ++ q)).toArray).toList = P ++ (t ++ q) by simp, List.getElem?_append_right (by omega), show P.length + d - P.length = d by omega, List.getElem?_append_left hd]
    exact h
  rw [show (⟨(P ++ (t ++ q)).toArray⟩ : ByteArray).data = (P ++ (t ++ q)).toArray from rfl, e]
  rfl
theorem seg_end {P t q : List UInt8} : (bl ⟨(P ++ (t ++ 10 :: q)).toArray⟩)[P.length + t.length]? = some 10 := by
  unfold bl
  rw [List.getElem?_map]
  have e : ((P ++ (t ++ 10 :: q)).toArray).toList[P.length + t.length]? = some 10 := by
    rw [show ((P ++ (t ++ 10 :: q)).toArray).toList = P ++ (t ++ 10 :: q) by simp, List.getElem?_append_right (by omega), show P.length + t.length - P.length = t.length by omega, List.getElem?_append_right (by omega)]
    simp
  rw [show (⟨(P ++ (t ++ 10 :: q)).toArray⟩ : ByteArray).data = (P ++ (t ++ 10 :: q)).toArray from rfl, e]
  rfl
theorem seg_cut {P t q : List UInt8} : (⟨(P ++ (t ++ q)).toArray⟩ : ByteArray).extract P.length (P.length + t.length) = ⟨t.toArray⟩ := by
  apply ba_eq
  rw [ByteArray.data_extract]
  simp
theorem slice_str {S : ByteArray} {f e : Nat} (h1 : f ≤ e) (h2 : e ≤ S.size) (U : World) : (Instr.slice 9 (.string S) (some (.int .i64 (f : Int))) (some (.int .i64 (e : Int))) none).run Tryz.prog U = .ok (.string (S.extract f e)) U := by
  rw [run_slice_string_if (P := Tryz.prog) U 9 S .i64 .i64 (f : Int) (e : Int) Tryz.underlying9, if_pos ⟨by omega, by omega⟩, if_pos ⟨by omega, by omega⟩]
  rfl
/-- Where the document's Parse is, behind j lines. -/
def offN (es : List Ev) (j : Nat) : Nat := (txtF (es.take j)).length
theorem off_next {es : List Ev} {j : Nat} {e : Ev} (h : es[j]? = some e) : offN es (j + 1) = offN es j + (lineB e).data.toList.length + 1 := by
  unfold offN
  rw [txtF_take h, List.length_append, List.length_append]
  simp
  omega
theorem txt_split {es : List Ev} {r : List UInt8} {j : Nat} {e : Ev} (h : es[j]? = some e) : txtF es ++ r = txtF (es.take j) ++ ((lineB e).data.toList ++ 10 :: (txtF (es.drop (j + 1)) ++ r)) := by
  have hl := (List.getElem?_eq_some_iff.1 h).1
  have e2 : es.drop j = e :: es.drop (j + 1) := by
    rw [List.drop_eq_getElem_cons hl]
    congr 1
    exact (List.getElem?_eq_some_iff.1 h).2
  conv => lhs; rw [← List.take_append_drop j es, txtF_append, e2, txtF_cons]
  simp [List.append_assoc]
theorem bad_seg {r : List UInt8} (h : BadR r) : ∃ t q, r = t ++ q ∧ (10 : UInt8) ∉ t ∧ ((q = [] ∧ True) ∨ (∃ q', q = 10 :: q' ∧ ¬ LineOf t)) := by
  rcases h with h | ⟨t, q, e, h1, h2⟩
  · exact ⟨r, [], by simp, h, .inl ⟨rfl, trivial⟩⟩
  · exact ⟨t, 10 :: q, e, h1, .inr ⟨q, rfl, h2⟩⟩
set_option maxRecDepth 100000 in
set_option maxHeartbeats 2000000 in
theorem hRefParse (es : List Ev) (r : List UInt8) (w : World) (hg : ∀ e ∈ es, GoodE e) (hr : r = [] ∨ (r ≠ [] ∧ BadR r)) (hz : (txtF es ++ r).length ≤ 1000000000) : Calls Tryz.prog 14 #[.string ⟨(txtF es ++ r).toArray⟩] w (PaQ w es r) := by
  obtain ⟨N, hN⟩ : ∃ N, es.length = N := ⟨_, rfl⟩
  have nz : N ≤ 1000000000 := by
    have q := es_len es
    rw [List.length_append] at hz
    omega
  obtain ⟨S, hS⟩ : ∃ S : ByteArray, (⟨(txtF es ++ r).toArray⟩ : ByteArray) = S := ⟨_, rfl⟩
  obtain ⟨Z, hZ⟩ : ∃ Z, (txtF es ++ r).length = Z := ⟨_, rfl⟩
  have sZ : (S.size : Int) = (Z : Int) := by
    rw [← hS, ← hZ]
    simp [ByteArray.size]
  have zb : Z ≤ 1000000000 := by rw [← hZ]; exact hz
  have HG : Hid ((∀ e ∈ es, GoodE e) ∧ (r = [] ∨ (r ≠ [] ∧ BadR r)) ∧ (txtF es ++ r).length = Z ∧ es.length = N ∧ (⟨(txtF es ++ r).toArray⟩ : ByteArray) = S ∧ S.size = Z) := ⟨hg, hr, hZ, hN, hS, by omega⟩
  have S0 : Hid (PJ w w es none 0 0) := ⟨[], ⟨EaR.nil _ _, fun e h => (by cases h), Kept.refl _ _⟩, rfl⟩
  rw [hS]
  clear hg hr hz hN hS hZ
  go_enter Tryz.func14, Tryz.ntmps14
  go_wp2_with fail
  go_loopw [5, 6, 7, 8, 9, 10] (fun u5 u6 u7 _ _ _ wr => ∃ (j F : Nat) (p : Option Addr) (c : Nat), u5 = .slice p j c ∧ u6 = .int .i64 (F : Int) ∧ u7 = .int .i64 ((j + 1 : Nat) : Int) ∧ j ≤ N ∧ Hid (PJ w wr es p j c ∧ F = offN es j)) (fun u5 _ _ _ _ _ _ => N - lenOf u5)
  case atStart => exact ⟨0, 0, none, 0, rfl, rfl, rfl, by omega, S0.out, rfl⟩
  case round =>
    obtain ⟨j, F, p0, c0, rfl, rfl, rfl, hj, SP⟩ := hrel
    clear S0
    obtain ⟨wo, hwo⟩ : ∃ wo, wo = wr := ⟨_, rfl⟩
    rw [← hwo] at SP ⊢
    clear hwo
    obtain ⟨⟨L, S1, S2⟩, FO'⟩ := SP.out
    have SL : Hid (PS w wo p0 j c0 L ∧ L.map Ev.core = (es.take j).map Ev.core) := ⟨S1, S2⟩
    have FO : Hid (F = offN es j) := FO'
    clear SP S1 S2 FO'
    by_cases hlt : j < N
    · obtain ⟨e0, he⟩ : ∃ e, es[j]? = some e := ⟨_, List.getElem?_eq_getElem (by rw [HG.out.2.2.2.1]; exact hlt)⟩
      have g0 := HG.out.1 e0 (List.mem_of_getElem? he)
      have sp := txt_split (r := r) he
      obtain ⟨T, hT⟩ : ∃ T, (lineB e0).data.toList.length = T := ⟨_, rfl⟩
      obtain ⟨E, hE⟩ : ∃ E, F + T = E := ⟨_, rfl⟩
      have SEG : Hid ((∀ d, d < T → ∃ y, y ≠ 10 ∧ (bl S)[F + d]? = some y) ∧ (bl S)[E]? = some 10 ∧ E < Z ∧ S.extract F E = lineB e0 ∧ (lineB e0).size ≤ 1000000000) := by
        have fl : (txtF (es.take j)).length = F := FO.out.symm
        refine ⟨fun d hd => ?_, ?_, ?_, ?_, ?_⟩
        · obtain ⟨x, hx⟩ : ∃ x, (lineB e0).data.toList[d]? = some x := ⟨_, List.getElem?_eq_getElem (by omega)⟩
          refine ⟨x.toNat, fun z => ?_, ?_⟩
          · have q := (line_pl e0 x (List.mem_of_getElem? hx)).1
            omega
          · have q := seg_at (P := txtF (es.take j)) (q := 10 :: (txtF (es.drop (j + 1)) ++ r)) hx
            rw [← sp, fl] at q
            rw [← HG.out.2.2.2.2.1]
            exact q
        · have q := seg_end (P := txtF (es.take j)) (t := (lineB e0).data.toList) (q := txtF (es.drop (j + 1)) ++ r)
          rw [← sp, fl, hT, hE] at q
          rw [← HG.out.2.2.2.2.1]
          exact q
        · have q := congrArg List.length sp
          rw [HG.out.2.2.1, List.length_append, List.length_append, List.length_cons, fl] at q
          omega
        · have q := seg_cut (P := txtF (es.take j)) (t := (lineB e0).data.toList) (q := 10 :: (txtF (es.drop (j + 1)) ++ r))
          rw [← sp, fl, hT, hE, HG.out.2.2.2.2.1] at q
          rw [q]
        · have q := congrArg List.length sp
          rw [HG.out.2.2.1, List.length_append, List.length_append, List.length_cons, fl] at q
          have e : (lineB e0).size = (lineB e0).data.toList.length := Array.length_toList.symm
          omega
      have eZ : E < Z := SEG.out.2.2.1
      have ltF : (F : Int) < (Z : Int) := by omega
      have HE : Hid (es[j]? = some e0 ∧ offN es (j + 1) = E + 1) := ⟨he, by
        rw [off_next he, ← FO.out, hT, hE]⟩
      have GQ : Hid (∀ U, Calls Tryz.prog 33 #[.string (lineB e0)] U fun o w' => Same U w' e0 o) := fun U => hEventG e0 g0 SEG.out.2.2.2.2
      have VL : Hid (e0.val.length = e0.vn ∧ (∀ c ∈ e0.val, c < 256) ∧ faultE e0 = 0) := by
        obtain ⟨w0, rv⟩ := g0.2
        exact ⟨rv.length, rv.bytes, g0.1⟩
      have LQ : Hid (∀ (p : Option Addr) (c : Nat) U, Reads U p e0.vn c e0.val → Calls Tryz.prog 35 #[.agg #[.int .i64 e0.kind, .int .i64 e0.client, .int .i64 e0.op, .bool e0.put, .string e0.key, .slice p e0.vn c, .int .i64 e0.st, .int .i64 e0.tx, .int .i64 e0.ty]] U fun o w' => o = .returned (.string (lineB e0)) ∧ Kept (fun _ => False) U w') := fun p c U h3 => hRLine ⟨e0.kind, e0.client, e0.op, e0.put, e0.key, p, e0.vn, c, e0.st, e0.tx, e0.ty, e0.val⟩ g0.1 h3
      have FQ : Hid (∀ (p : Option Addr) (c : Nat) U, Calls Tryz.prog 34 #[.agg #[.int .i64 e0.kind, .int .i64 e0.client, .int .i64 e0.op, .bool e0.put, .string e0.key, .slice p e0.vn c, .int .i64 e0.st, .int .i64 e0.tx, .int .i64 e0.ty]] U fun o w' => o = .returned (.int .i64 0) ∧ Kept (fun _ => False) U w') := fun p c U => by
        have q := hRForm ⟨e0.kind, e0.client, e0.op, e0.put, e0.key, p, e0.vn, c, e0.st, e0.tx, e0.ty, e0.val⟩ (by
          have := val_le (fault_all g0.1).2.2.2.1
          show e0.vn ≤ _
          omega) U
        rw [show faultE ⟨e0.kind, e0.client, e0.op, e0.put, e0.key, p, e0.vn, c, e0.st, e0.tx, e0.ty, e0.val⟩ = 0 from g0.1] at q
        exact q
      have sl : ∀ U, (Instr.slice 9 (.string S) (some (.int .i64 (F : Int))) (some (.int .i64 (E : Int))) none).run Tryz.prog U = .ok (.string (lineB e0)) U := fun U => by
        have q := slice_str (S := S) (f := F) (e := E) (by omega) (by rw [HG.out.2.2.2.2.2]; omega) U
        rw [SEG.out.2.2.2.1] at q
        exact q
      obtain ⟨t, ht⟩ : ∃ t, lineB e0 = t := ⟨_, rfl⟩
      rw [ht] at GQ LQ
      simp only [ht] at sl
      have SG : Hid ((∀ d, d < T → ∃ y, y ≠ 10 ∧ (bl S)[F + d]? = some y) ∧ (bl S)[E]? = some 10) := ⟨SEG.out.1, SEG.out.2.1⟩
      have tb : T ≤ 1000000000 := by omega
      have fb : F ≤ 1000000000 := by omega
      have HTE : Hid (F + T = E) := hE
      clear g0 he ht hT sp SEG
      obtain ⟨kd, cl, op, pt, ky, va, vn, vc, st, tx, ty, val⟩ := e0
      simp only [Same] at GQ LQ FQ VL
      go_upto_region 7 with fail
      go_loopw [8] (fun u8 wr => ∃ d : Nat, u8 = .int .i64 ((F + d : Nat) : Int) ∧ d ≤ T ∧ wr = wo) (fun u8 _ => E - (intOf u8).toNat)
      case atStart => exact ⟨0, rfl, Nat.zero_le _, by first | rfl | trivial⟩
      case round =>
        obtain ⟨d, rfl, hd, rfl⟩ := hrel
        by_cases hdT : d < T
        · obtain ⟨y, y10, hy⟩ := SG.out.1 d hdT
          have ix := run_at hy wr
          have i1 : ((F + d : Nat) : Int) < (Z : Int) := by omega
          have f10 : ((y : Int) != 10) = true := by
            have : ¬ (y : Int) = 10 := by omega
            simpa using this
          have f10b : ((y : Int) == 10) = false := by
            have : ¬ (y : Int) = 10 := by omega
            simpa using this
          obtain ⟨G, hG⟩ : ∃ G, F + d = G := ⟨_, rfl⟩
          rw [hG] at ix i1 ⊢
          have HGd : Hid (F + d = G) := hG
          have gb : G ≤ 1000000000 := by omega
          have gE : G < E := by omega
          clear hy hG
          go_wp2_with fail
          go_roundw
          case rel => exact ⟨d + 1, by rw [← Nat.add_assoc, HGd.out]; go_num, by omega, by trivial⟩
          case measure => simp [intOf] <;> omega
        · obtain rfl : d = T := by omega
          rw [hE]
          have ix := run_at SG.out.2 wr
          have i1 : (E : Int) < (Z : Int) := by omega
          have eqz : ((E : Int) == (Z : Int)) = false := by
            have : ¬ (E : Int) = (Z : Int) := by omega
            simpa using this
          clear hE
          go_wp2_with fail
          refine (GQ.out _).mono ?_
          rintro o w3 ⟨p, k, c, rfl, ro3, K3⟩
          have kv : k = vn := by rw [← own_len5 ro3]; exact VL.out.1
          subst kv
          have S3 : Hid (PS w w3 p0 j c0 L) := SL.out.1.k0 K3
          have R3 : Hid (w3.ownsRow w.heap.size 5 1 (.slice p k c) k (cellsOf val)) := owns_mono ro3 SL.out.1.kept.size
          clear ro3 ix GQ
          obtain ⟨W, hW⟩ : ∃ W, W = w3.alloc (.cells #[.int .i64 kd, .int .i64 cl, .int .i64 op, .bool pt, .string ky, .slice p k c, .int .i64 st, .int .i64 tx, .int .i64 ty] 39) := ⟨_, rfl⟩
          obtain ⟨B, hB⟩ : ∃ B, B = w3.heap.size := ⟨_, rfl⟩
          have J : Hid (W.heap[B]? = some (.cells #[.int .i64 kd, .int .i64 cl, .int .i64 op, .bool pt, .string ky, .slice p k c, .int .i64 st, .int .i64 tx, .int .i64 ty] 39 (0, 0)) ∧ Kept (fun _ => False) w3 W) := ⟨by rw [hW, hB]; exact alloc_new _ _, by rw [hW]; exact (Kept.refl _ _).alloc _⟩
          have EW : Hid (W = w3.alloc (.cells #[.int .i64 kd, .int .i64 cl, .int .i64 op, .bool pt, .string ky, .slice p k c, .int .i64 st, .int .i64 tx, .int .i64 ty] 39) ∧ B = w3.heap.size) := ⟨hW, hB⟩
          clear hW hB K3
          go_upto_region 11 with fail
          rw [← EW.out.1, ← EW.out.2]
          clear EW
          have a0 := cell_blk J.out.1 0 (v := .int .i64 kd) rfl
          have a1 := cell_blk J.out.1 1 (v := .int .i64 cl) rfl
          have a2 := cell_blk J.out.1 2 (v := .int .i64 op) rfl
          have a3 := cell_blk J.out.1 3 (v := .bool pt) rfl
          have a4 := cell_blk J.out.1 4 (v := .string ky) rfl
          have a5 := cell_blk J.out.1 5 (v := .slice p k c) rfl
          have a6 := cell_blk J.out.1 6 (v := .int .i64 st) rfl
          have a7 := cell_blk J.out.1 7 (v := .int .i64 tx) rfl
          have a8 := cell_blk J.out.1 8 (v := .int .i64 ty) rfl
          go_wp2_with fail
          refine (FQ.out p c _).mono ?_
          rintro o w4 ⟨rfl, K4⟩
          have J4 : Hid (w4.heap[B]? = some (.cells #[.int .i64 kd, .int .i64 cl, .int .i64 op, .bool pt, .string ky, .slice p k c, .int .i64 st, .int .i64 tx, .int .i64 ty] 39 (0, 0)) ∧ Kept (fun _ => False) w3 w4) := ⟨K4.get J.out.1 (fun z => z), J.out.2.trans K4 (fun _ _ z => z)⟩
          clear K4 FQ J a0 a1 a2 a3 a4 a5 a6 a7 a8
          have d0 := cell_blk J4.out.1 0 (v := .int .i64 kd) rfl
          have d1 := cell_blk J4.out.1 1 (v := .int .i64 cl) rfl
          have d2 := cell_blk J4.out.1 2 (v := .int .i64 op) rfl
          have d3 := cell_blk J4.out.1 3 (v := .bool pt) rfl
          have d4 := cell_blk J4.out.1 4 (v := .string ky) rfl
          have d5 := cell_blk J4.out.1 5 (v := .slice p k c) rfl
          have d6 := cell_blk J4.out.1 6 (v := .int .i64 st) rfl
          have d7 := cell_blk J4.out.1 7 (v := .int .i64 tx) rfl
          have d8 := cell_blk J4.out.1 8 (v := .int .i64 ty) rfl
          have CL : Hid (Calls Tryz.prog 35 #[.agg #[.int .i64 kd, .int .i64 cl, .int .i64 op, .bool pt, .string ky, .slice p k c, .int .i64 st, .int .i64 tx, .int .i64 ty]] w4 fun o w' => o = .returned (.string t) ∧ Kept (fun _ => False) w4 w') := LQ.out p c w4 (reads_own (J4.out.2.owns R3.out (fun _ _ z => z)) VL.out.2.1)
          go_wp2_with fail
          refine CL.out.mono ?_
          rintro o w5 ⟨rfl, K5⟩
          have J5 : Hid (w5.heap[B]? = some (.cells #[.int .i64 kd, .int .i64 cl, .int .i64 op, .bool pt, .string ky, .slice p k c, .int .i64 st, .int .i64 tx, .int .i64 ty] 39 (0, 0)) ∧ Kept (fun _ => False) w3 w5) := ⟨K5.get J4.out.1 (fun z => z), J4.out.2.trans K5 (fun _ _ z => z)⟩
          clear K5 CL J4 LQ d0 d1 d2 d3 d4 d5 d6 d7 d8
          have f0 := cell_blk J5.out.1 0 (v := .int .i64 kd) rfl
          have f1 := cell_blk J5.out.1 1 (v := .int .i64 cl) rfl
          have f2 := cell_blk J5.out.1 2 (v := .int .i64 op) rfl
          have f3 := cell_blk J5.out.1 3 (v := .bool pt) rfl
          have f4 := cell_blk J5.out.1 4 (v := .string ky) rfl
          have f5 := cell_blk J5.out.1 5 (v := .slice p k c) rfl
          have f6 := cell_blk J5.out.1 6 (v := .int .i64 st) rfl
          have f7 := cell_blk J5.out.1 7 (v := .int .i64 tx) rfl
          have f8 := cell_blk J5.out.1 8 (v := .int .i64 ty) rfl
          have KA : Hid (Kept (fun _ => False) w5 (w5.alloc (.cells #[.int .i64 kd, .int .i64 cl, .int .i64 op, .bool pt, .string ky, .slice p k c, .int .i64 st, .int .i64 tx, .int .i64 ty] 39))) := (Kept.refl _ _).alloc _
          have S5 : Hid (PS w (w5.alloc (.cells #[.int .i64 kd, .int .i64 cl, .int .i64 op, .bool pt, .string ky, .slice p k c, .int .i64 st, .int .i64 tx, .int .i64 ty] 39)) p0 j c0 L) := S3.out.k0 (J5.out.2.trans KA.out (fun _ _ z => z))
          have R5 : Hid ((w5.alloc (.cells #[.int .i64 kd, .int .i64 cl, .int .i64 op, .bool pt, .string ky, .slice p k c, .int .i64 st, .int .i64 tx, .int .i64 ty] 39)).ownsRow w.heap.size 5 1 (.slice p k c) k (cellsOf val)) := (J5.out.2.trans KA.out (fun _ _ z => z)).owns R3.out (fun _ _ z => z)
          have SR : Hid (Src Tryz.prog 9 22 (.slice (some ⟨w5.heap.size, 0, none⟩) 1 1) 1 (ecs [⟨kd, cl, op, pt, ky, p, k, c, st, tx, ty, val⟩]) (w5.alloc (.cells #[.int .i64 kd, .int .i64 cl, .int .i64 op, .bool pt, .string ky, .slice p k c, .int .i64 st, .int .i64 tx, .int .i64 ty] 39))) := src_ev (alloc_new _ _)
          go_upto_region 14 with
            (first
              | (at_builtin; refine wpList_append_all _ rfl (.tmp 52) (.tmp 54) 22 39 22 _ 9 96 rfl Tryz.underlying22 Tryz.info39c rfl w.heap.size (.slice p0 j c0) j (ecs L) rfl S5.out.row.row _ 1 (ecs [⟨kd, cl, op, pt, ky, p, k, c, st, tx, ty, val⟩]) rfl SR.out (by unfold maxLen; omega) (by omega) S5.out.kept.size ?_; intro p9 c9 w9 ho hg hn9)
              | fail)
          have N9 : Hid (PS w w9 p9 (j + 1) c9 (L ++ [⟨kd, cl, op, pt, ky, p, k, c, st, tx, ty, val⟩])) := S5.out.more (x := ⟨kd, cl, op, pt, ky, p, k, c, st, tx, ty, val⟩) R5.out ho.out hg.out
          have NX : Hid (PJ w w9 es p9 (j + 1) c9 ∧ E + 1 = offN es (j + 1)) := ⟨⟨_, N9.out, core_snoc SL.out.2 HE.out.1 rfl⟩, HE.out.2.symm⟩
          clear ho hg hn9 N9 S5 R5 SR KA J5 f0 f1 f2 f3 f4 f5 f6 f7 f8
          go_wp2_with fail
          go_roundw
          case rel => exact ⟨j + 1, E + 1, p9, c9, rfl, by go_num, by go_num, by omega, NX⟩
          case measure => simp [lenOf]; omega
    · have jN : j = N := by omega
      have FZ : Hid (offN es j = (txtF es).length) := by
        show offN es j = _
        unfold offN
        rw [List.take_of_length_le (by rw [HG.out.2.2.2.1]; omega)]
      rcases HG.out.2.1 with r0 | ⟨r0, rb⟩
      · have ltF : ¬ (F : Int) < (Z : Int) := by
          have q := HG.out.2.2.1
          rw [r0, List.append_nil] at q
          have q2 := FO.out
          have q3 := FZ.out
          omega
        go_wp2_with fail
        go_ret3
        refine .inl ⟨by first | exact r0 | rfl | trivial, p0, c0, L, ?_, ?_, ?_⟩
        · rw [HG.out.2.2.2.1, ← jN]; first | rfl | simp
        · rw [HG.out.2.2.2.1, ← jN]; exact SL.out.1
        · have q := SL.out.2
          rw [List.take_of_length_le (by rw [HG.out.2.2.2.1]; omega)] at q
          exact q
      · have R0 : Hid (r ≠ []) := r0
        obtain ⟨t, q, er, h10, hq⟩ := bad_seg rb
        obtain ⟨T, hT⟩ : ∃ T, t.length = T := ⟨_, rfl⟩
        obtain ⟨E, hE⟩ : ∃ E, F + T = E := ⟨_, rfl⟩
        have fl : (txtF es).length = F := by rw [FO.out, FZ.out]
        have zl : F + (T + q.length) = Z := by
          have := HG.out.2.2.1
          rw [er, List.length_append, List.length_append, fl, hT] at this
          exact this
        have rl : 0 < T + q.length := by
          have : r.length = T + q.length := by rw [er, List.length_append, hT]
          have : r.length ≠ 0 := fun z => r0 (List.length_eq_zero_iff.1 z)
          omega
        obtain ⟨A, hA⟩ : ∃ A : ByteArray, (⟨t.toArray⟩ : ByteArray) = A := ⟨_, rfl⟩
        have SEG : Hid ((∀ d, d < T → ∃ y, y ≠ 10 ∧ (bl S)[F + d]? = some y) ∧ S.extract F E = A ∧ A.size ≤ 1000000000 ∧ A.data.toList = t) := by
          refine ⟨fun d hd => ?_, ?_, ?_, by rw [← hA]⟩
          · obtain ⟨x, hx⟩ : ∃ x, t[d]? = some x := ⟨_, List.getElem?_eq_getElem (by omega)⟩
            refine ⟨x.toNat, fun z => ?_, ?_⟩
            · have e10 : x = 10 := UInt8.toNat_inj.1 (by rw [z]; rfl)
              rw [e10] at hx
              exact h10 (List.mem_of_getElem? hx)
            · have q1 := seg_at (P := txtF es) (q := q) hx
              rw [← er, HG.out.2.2.2.2.1, fl] at q1
              exact q1
          · have q1 := seg_cut (P := txtF es) (t := t) (q := q)
            rw [← er, HG.out.2.2.2.2.1, fl, hT, hE, hA] at q1
            exact q1
          · rw [← hA]
            show t.toArray.size ≤ _
            rw [List.size_toArray]
            omega
        have sl : ∀ U, (Instr.slice 9 (.string S) (some (.int .i64 (F : Int))) (some (.int .i64 (E : Int))) none).run Tryz.prog U = .ok (.string A) U := fun U => by
          have q1 := slice_str (S := S) (f := F) (e := E) (by omega) (by rw [HG.out.2.2.2.2.2]; omega) U
          rw [SEG.out.2.1] at q1
          exact q1
        have HL : Hid ((E = Z) ∨ (E < Z ∧ (bl S)[E]? = some 10 ∧ ¬ LineOf A.data.toList)) := by
          rcases hq with ⟨q0, -⟩ | ⟨q', q0, hl⟩
          · refine .inl ?_
            rw [q0] at zl
            simp at zl
            omega
          · refine .inr ⟨?_, ?_, by rw [SEG.out.2.2.2]; exact hl⟩
            · rw [q0] at zl
              simp at zl
              omega
            · have q1 := seg_end (P := txtF es) (t := t) (q := q')
              rw [← q0, ← er, HG.out.2.2.2.2.1, fl, hT, hE] at q1
              exact q1
        have ltF : (F : Int) < (Z : Int) := by omega
        have CG : Hid (∀ U, Calls Tryz.prog 33 #[.string A] U (GuP U)) := fun U => hEventA A SEG.out.2.2.1 U
        have tb : T ≤ 1000000000 := by omega
        have fb : F ≤ 1000000000 := by omega
        have SG : Hid (∀ d, d < T → ∃ y, y ≠ 10 ∧ (bl S)[F + d]? = some y) := SEG.out.1
        have eZ : E ≤ Z := by omega
        have HTE : Hid (F + T = E) := hE
        clear er h10 hq hT fl zl rl hA SEG r0 rb FZ
        go_upto_region 7 with fail
        go_loopw [8] (fun u8 wr => ∃ d : Nat, u8 = .int .i64 ((F + d : Nat) : Int) ∧ d ≤ T ∧ wr = wo) (fun u8 _ => E - (intOf u8).toNat)
        case atStart => exact ⟨0, rfl, Nat.zero_le _, by first | rfl | trivial⟩
        case round =>
          obtain ⟨d, rfl, hd, rfl⟩ := hrel
          by_cases hdT : d < T
          · obtain ⟨y, y10, hy⟩ := SG.out d hdT
            have ix := run_at hy wr
            have i1 : ((F + d : Nat) : Int) < (Z : Int) := by omega
            have f10 : ((y : Int) != 10) = true := by
              have : ¬ (y : Int) = 10 := by omega
              simpa using this
            have f10b : ((y : Int) == 10) = false := by
              have : ¬ (y : Int) = 10 := by omega
              simpa using this
            obtain ⟨G, hG⟩ : ∃ G, F + d = G := ⟨_, rfl⟩
            rw [hG] at ix i1 ⊢
            have HGd : Hid (F + d = G) := hG
            have gb : G ≤ 1000000000 := by omega
            have gE : G < E := by omega
            clear hy hG
            go_wp2_with fail
            go_roundw
            case rel => exact ⟨d + 1, by rw [← Nat.add_assoc, HGd.out]; go_num, by omega, by trivial⟩
            case measure => simp [intOf] <;> omega
          · obtain rfl : d = T := by omega
            rw [hE]
            rcases HL.out with hEZ | ⟨hlz, h10, hnl⟩
            · have i1 : ¬ (E : Int) < (Z : Int) := by omega
              have eqz : ((E : Int) == (Z : Int)) = true := by rw [hEZ]; simp
              clear hE hEZ HL
              go_wp2_with fail
              refine (CG.out _).mono ?_
              rintro o w3 ⟨⟨kd, cl, op, pt, ky, p, k, c, st, tx, ty, val⟩, rfl, ro3, hb3, K3⟩
              simp only [Ev.agg]
              have KW : Hid (Kept (fun _ => False) w w3) := SL.out.1.kept.trans K3 (fun _ _ z => z)
              have R3 : Hid (w3.ownsRow w.heap.size 5 1 (.slice p k c) k (cellsOf val) ∧ (∀ c ∈ val, c < 256)) := ⟨owns_mono ro3 SL.out.1.kept.size, hb3⟩
              clear ro3 hb3 CG
              obtain ⟨W, hW⟩ : ∃ W, W = w3.alloc (.cells #[.int .i64 kd, .int .i64 cl, .int .i64 op, .bool pt, .string ky, .slice p k c, .int .i64 st, .int .i64 tx, .int .i64 ty] 39) := ⟨_, rfl⟩
              obtain ⟨B, hB⟩ : ∃ B, B = w3.heap.size := ⟨_, rfl⟩
              have J : Hid (W.heap[B]? = some (.cells #[.int .i64 kd, .int .i64 cl, .int .i64 op, .bool pt, .string ky, .slice p k c, .int .i64 st, .int .i64 tx, .int .i64 ty] 39 (0, 0)) ∧ Kept (fun _ => False) w3 W) := ⟨by rw [hW, hB]; exact alloc_new _ _, by rw [hW]; exact (Kept.refl _ _).alloc _⟩
              have EW : Hid (W = w3.alloc (.cells #[.int .i64 kd, .int .i64 cl, .int .i64 op, .bool pt, .string ky, .slice p k c, .int .i64 st, .int .i64 tx, .int .i64 ty] 39) ∧ B = w3.heap.size) := ⟨hW, hB⟩
              clear hW hB K3
              go_upto_region 11 with fail
              rw [← EW.out.1, ← EW.out.2]
              clear EW
              go_wp2_with fail
              go_ret3
              refine .inr ⟨R0.out, ?_, KW.out.trans J.out.2 (fun _ _ z => z)⟩
              rw [HG.out.2.2.2.1, ← jN]
              first | rfl | simp
            · have ix := run_at h10 wr
              have i1 : (E : Int) < (Z : Int) := by omega
              have eqz : ((E : Int) == (Z : Int)) = false := by
                have : ¬ (E : Int) = (Z : Int) := by omega
                simpa using this
              have HNL : Hid (¬ LineOf A.data.toList) := hnl
              clear hE h10 hnl HL
              go_wp2_with fail
              refine (CG.out _).mono ?_
              rintro o w3 ⟨⟨kd, cl, op, pt, ky, p, k, c, st, tx, ty, val⟩, rfl, ro3, hb3, K3⟩
              simp only [Ev.agg]
              have KW : Hid (Kept (fun _ => False) w w3) := SL.out.1.kept.trans K3 (fun _ _ z => z)
              have R3 : Hid (w3.ownsRow w.heap.size 5 1 (.slice p k c) k (cellsOf val) ∧ (∀ c ∈ val, c < 256)) := ⟨owns_mono ro3 SL.out.1.kept.size, hb3⟩
              clear ro3 hb3 CG
              obtain ⟨W, hW⟩ : ∃ W, W = w3.alloc (.cells #[.int .i64 kd, .int .i64 cl, .int .i64 op, .bool pt, .string ky, .slice p k c, .int .i64 st, .int .i64 tx, .int .i64 ty] 39) := ⟨_, rfl⟩
              obtain ⟨B, hB⟩ : ∃ B, B = w3.heap.size := ⟨_, rfl⟩
              have J : Hid (W.heap[B]? = some (.cells #[.int .i64 kd, .int .i64 cl, .int .i64 op, .bool pt, .string ky, .slice p k c, .int .i64 st, .int .i64 tx, .int .i64 ty] 39 (0, 0)) ∧ Kept (fun _ => False) w3 W) := ⟨by rw [hW, hB]; exact alloc_new _ _, by rw [hW]; exact (Kept.refl _ _).alloc _⟩
              have EW : Hid (W = w3.alloc (.cells #[.int .i64 kd, .int .i64 cl, .int .i64 op, .bool pt, .string ky, .slice p k c, .int .i64 st, .int .i64 tx, .int .i64 ty] 39) ∧ B = w3.heap.size) := ⟨hW, hB⟩
              clear hW hB K3
              go_upto_region 11 with fail
              rw [← EW.out.1, ← EW.out.2]
              clear EW
              clear ix
              have FQ : Hid (∀ U, Calls Tryz.prog 34 #[.agg #[.int .i64 kd, .int .i64 cl, .int .i64 op, .bool pt, .string ky, .slice p k c, .int .i64 st, .int .i64 tx, .int .i64 ty]] U fun o w' => o = .returned (.int .i64 (faultE ⟨kd, cl, op, pt, ky, p, k, c, st, tx, ty, val⟩)) ∧ Kept (fun _ => False) U w') := fun U => hRForm ⟨kd, cl, op, pt, ky, p, k, c, st, tx, ty, val⟩ (by
                show k ≤ _
                have q := (reads_own R3.out.1 R3.out.2)
                have q1 := q.room
                have q2 := q.small
                unfold maxLen at q2
                omega) U
              have a0 := cell_blk J.out.1 0 (v := .int .i64 kd) rfl
              have a1 := cell_blk J.out.1 1 (v := .int .i64 cl) rfl
              have a2 := cell_blk J.out.1 2 (v := .int .i64 op) rfl
              have a3 := cell_blk J.out.1 3 (v := .bool pt) rfl
              have a4 := cell_blk J.out.1 4 (v := .string ky) rfl
              have a5 := cell_blk J.out.1 5 (v := .slice p k c) rfl
              have a6 := cell_blk J.out.1 6 (v := .int .i64 st) rfl
              have a7 := cell_blk J.out.1 7 (v := .int .i64 tx) rfl
              have a8 := cell_blk J.out.1 8 (v := .int .i64 ty) rfl
              obtain ⟨ff, hff⟩ : ∃ ff, faultE ⟨kd, cl, op, pt, ky, p, k, c, st, tx, ty, val⟩ = ff := ⟨_, rfl⟩
              rw [hff] at FQ
              have HF : Hid (faultE ⟨kd, cl, op, pt, ky, p, k, c, st, tx, ty, val⟩ = ff) := hff
              clear hff
              go_wp2_with fail
              refine (FQ.out _).mono ?_
              rintro o w4 ⟨rfl, K4⟩
              have J4 : Hid (w4.heap[B]? = some (.cells #[.int .i64 kd, .int .i64 cl, .int .i64 op, .bool pt, .string ky, .slice p k c, .int .i64 st, .int .i64 tx, .int .i64 ty] 39 (0, 0)) ∧ Kept (fun _ => False) w3 w4) := ⟨K4.get J.out.1 (fun z => z), J.out.2.trans K4 (fun _ _ z => z)⟩
              clear K4 FQ J a0 a1 a2 a3 a4 a5 a6 a7 a8
              by_cases f0 : ff = 0
              · subst f0
                have d0 := cell_blk J4.out.1 0 (v := .int .i64 kd) rfl
                have d1 := cell_blk J4.out.1 1 (v := .int .i64 cl) rfl
                have d2 := cell_blk J4.out.1 2 (v := .int .i64 op) rfl
                have d3 := cell_blk J4.out.1 3 (v := .bool pt) rfl
                have d4 := cell_blk J4.out.1 4 (v := .string ky) rfl
                have d5 := cell_blk J4.out.1 5 (v := .slice p k c) rfl
                have d6 := cell_blk J4.out.1 6 (v := .int .i64 st) rfl
                have d7 := cell_blk J4.out.1 7 (v := .int .i64 tx) rfl
                have d8 := cell_blk J4.out.1 8 (v := .int .i64 ty) rfl
                have RV : Hid (Reads w4 p k c val) := reads_own (J4.out.2.owns R3.out.1 (fun _ _ z => z)) R3.out.2
                have LN : Hid (¬ lineB ⟨kd, cl, op, pt, ky, p, k, c, st, tx, ty, val⟩ = A) := fun z => HNL.out ⟨⟨kd, cl, op, pt, ky, p, k, c, st, tx, ty, val⟩, ⟨HF.out, w4, RV.out⟩, by rw [z]⟩
                obtain ⟨t2, ht2⟩ : ∃ t, lineB ⟨kd, cl, op, pt, ky, p, k, c, st, tx, ty, val⟩ = t := ⟨_, rfl⟩
                have CL : Hid (Calls Tryz.prog 35 #[.agg #[.int .i64 kd, .int .i64 cl, .int .i64 op, .bool pt, .string ky, .slice p k c, .int .i64 st, .int .i64 tx, .int .i64 ty]] w4 fun o w' => o = .returned (.string t2) ∧ Kept (fun _ => False) w4 w') := by
                  have q := hRLine ⟨kd, cl, op, pt, ky, p, k, c, st, tx, ty, val⟩ HF.out RV.out
                  rw [ht2] at q
                  exact q
                rw [ht2] at LN
                clear ht2
                have ne1 : ¬ t2 = A := LN.out
                have nt := tl_ne ne1
                rw [← Go.ByteArray.toList_eq] at nt
                have nt2 : ¬ t2.toList = A.toList := beq_eq_false_iff_ne.1 nt
                go_wp2_with fail
                refine CL.out.mono ?_
                rintro o w5 ⟨rfl, K5⟩
                have KZ : Hid (Kept (fun _ => False) w w5) := KW.out.trans (J4.out.2.trans K5 (fun _ _ z => z)) (fun _ _ z => z)
                clear K5 CL J4 d0 d1 d2 d3 d4 d5 d6 d7 d8
                go_wp2_with fail
                go_ret3
                refine .inr ⟨R0.out, ?_, KZ.out⟩
                rw [HG.out.2.2.2.1, ← jN]
                first | rfl | simp
              · have nf : (ff != 0) = true := by simpa using f0
                go_wp2_with fail
                go_ret3
                refine .inr ⟨R0.out, ?_, KW.out.trans J4.out.2 (fun _ _ z => z)⟩
                rw [HG.out.2.2.2.1, ← jN]
                first | rfl | simp
end Go.Proofs.YtbangbobfeflcaaGreatDoor
