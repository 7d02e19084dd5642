import Derived.Test.YtgfglbbfoadiaaaRefR
namespace Go.Proofs.Ytgfglbbfoadiaaa
open Go.RowKit

theorem slice_mid {w : World} {a : Option Addr} {len cap : Nat} {l : List Nat} (r : Reads w a len cap l) (f t : Nat) (hf : f ≤ t) (ht : t ≤ len) (h0 : 0 < len) :
    ∃ p c, (∀ W : World, (Instr.slice 28 (.slice a len cap) (some (.int .i64 (f : Int))) (some (.int .i64 (t : Int))) none).run Try.prog W = .ok (.slice p (t - f) c) W) ∧ Reads w p (t - f) c ((l.drop f).take (t - f)) ∧ ∀ q, p = some q → ∃ q0, a = some q0 ∧ q.block = q0.block := by
  have hr := r.room
  have hs := r.small
  have hlen := r.length
  unfold maxLen at hs
  have htc : t ≤ cap := by omega
  obtain ⟨b, off, rfl, _⟩ := r.cells h0
  by_cases hc : cap = f
  · refine ⟨some ⟨b, off, none⟩, 0, fun W => ?_, ⟨by rw [List.length_take, List.length_drop]; omega, by omega, by unfold maxLen; omega, fun d hd => r.bytes d (List.mem_of_mem_drop (List.mem_of_mem_take hd)), fun q => absurd q (by omega)⟩, fun q hq => ⟨_, rfl, by cases hq; rfl⟩⟩
    simp [Instr.slice, Instr.sliceBounds, Instr.sliceBound, asIntOf, run_underlying Try.underlying28, hf, hc]
    intro q
    omega
  · have rd := (r.drop f (by omega)).take (t - f) (by omega)
    refine ⟨some ⟨b, off + f, none⟩, cap - f, fun W => ?_, rd, fun q hq => ⟨_, rfl, by cases hq; rfl⟩⟩
    simp [Instr.slice, Instr.sliceBounds, Instr.sliceBound, asIntOf, run_underlying Try.underlying28, htc, hf, hc, Addr.add_none]
theorem reads_of_own {w : World} {base k c : Nat} {p : Option Addr} {l : List Nat} (h : w.ownsRow base 5 1 (.slice p k c) k (cellsOf l)) (hb : ∀ d ∈ l, d < 256) : Reads w p k c l := by
  obtain ⟨a2, c2, e2, r2, _⟩ := owns_reads h hb
  simp at e2
  obtain ⟨rfl, rfl⟩ := e2
  exact r2
/-- append of bytes, at a step of a region that draws. -/
theorem step_append_bytes {ops : Array Oper} {o : Oper} {a : Act} {K : Act → World → Prop} {Q : Exit → Act → World → Prop} {E : Prop} (w : World) (hgd : o.guard = none) (s x : Operand) (tx : TypeId)
    (ho : o.op = .call { callee := .builtin .append, args := #[s, x], argTypes := #[28, tx] })
    (base : Nat) (v : Value) (n : Nat) (l : List Nat) (hs : a.eval s = v) (hown : w.ownsRow base 5 1 v n (cellsOf l))
    (y : Value) (m : Nat) (k : List Nat) (hx : a.eval x = y) (r : Src Try.prog 1 tx y m (cellsOf k) w)
    (hbytes : n + m ≤ 140737488355328) (hbase : base ≤ w.heap.size)
    (h : ∀ p c w', Hid (w'.ownsRow base 5 1 (.slice p (n + m) c) (n + m) (cellsOf (l ++ k))) → Hid (w.grownBy w' v.ownBlock) → K (a.put o.dst (.slice p (n + m) c)) w') : if Region.wanted o (yielded ops a.tmps) = true then Oper.wp Try.prog o a w K Q else E := by
  have hw : Region.wanted o (yielded ops a.tmps) = true := by simp [Region.wanted, hgd]
  rw [if_pos hw]
  obtain ⟨i, hi, hz, hsize, hby⟩ := info_parts Try.info5
  obtain ⟨v', w', hr, h2, h3, h4, h5⟩ := append_any (P := Try.prog) w base 28 tx o.type 5 i (.int .u8 0) 1 Try.underlying28 hi hz hsize hby rfl v n (cellsOf l) hown y m (cellsOf k) r (by unfold maxLen; omega) (by omega) hbase
  unfold Oper.wp execOp
  simp only [ho, resolve, invoke, builtin, Sem.run_bind, Sem.run_pure, Result.andThen_ok, List.map_toArray, List.map_cons, List.map_nil, hs, hx, hr]
  obtain ⟨p, c, rfl⟩ : ∃ p c, v' = .slice p (n + m) c := by
    rcases h2.2 with ⟨rfl, e⟩ | ⟨g, cap, cur, rfl, _⟩
    · exact ⟨none, 0, by rw [e]⟩
    · exact ⟨_, _, rfl⟩
  exact h p c w' (by rw [cellsOf_append]; exact h2) h3

theorem qBytes_err (Q : Nat) (D : Option Nat) (e most : Int) (k : Nat) (L : List Nat) (w : World) (h : IsQ w Q D e k L) (he : e ≠ 0) : Calls Try.prog 58 #[.pointer (some ⟨Q, 0, none⟩), .int .i64 most] w fun x w' => x = .returned (.slice none 0 0) ∧ w' = w := by
  obtain ⟨a, cap, hb, r, hd⟩ := h.ex
  have c0 := cell_blk hb 2 (v := .int .i64 e) rfl
  have he' : (e != 0) = true := by simpa using he
  clear h hb r hd
  go_enter Try.func58, Try.ntmps58
  go_wp2_with fail
  go_ret
  exact ⟨rfl, rfl⟩
set_option maxRecDepth 100000 in
set_option maxHeartbeats 1000000 in
theorem qBytes_bad (Q : Nat) (D : Option Nat) (most x : Int) (k n s : Nat) (L : List Nat) (w : World) (h : IsQ w Q D 0 k L) (hv : Pk.parse most (L.drop k) = (n, s, x)) (hx : x ≠ 0) :
    Calls Try.prog 58 #[.pointer (some ⟨Q, 0, none⟩), .int .i64 most] w fun y w' => y = .returned (.slice none 0 0) ∧ TookQ w Q D w' x k L := by
  have HH : Hid (IsQ w Q D 0 k L) := h
  obtain ⟨a, cap, hb, r, hd⟩ := h.ex
  have hle := h.le
  obtain ⟨p, c, sl, rs, _⟩ := slice_from r k h.le
  have BH : Hid (w.heap[Q]? = some (.cells #[.slice a L.length cap, .int .i64 (k : Int), .int .i64 0] 83 (0, 0))) := hb
  have RH : Hid (Reads w a L.length cap L) := r
  have DH : Hid (∀ p, a = some p → D = some p.block) := hd
  obtain ⟨len, hlen⟩ : ∃ m, L.length = m := ⟨_, rfl⟩
  have LH : Hid (L.length = len) := hlen
  have N : Hid (∀ m, Calls Try.prog 65 #[.slice p (L.length - k) c, .int .i64 most] (w.drewN m) fun y w' => y = .returned (.tuple #[.int .i64 (n : Int), .int .i64 (s : Int), .int .i64 x]) ∧ w' = w.drewN m) := fun m =>
    refNum p (L.length - k) c most (L.drop k) (w.drewN m) n s x (rs.kept ((Kept.refl (fun _ => False) w).drewN m) (fun _ _ f => f)) hv
  have c0 := cell_blk hb 0 (v := .slice a L.length cap) rfl
  have c1 := cell_blk hb 1 (v := .int .i64 (k : Int)) rfl
  have c2 := cell_blk hb 2 (v := .int .i64 0) rfl
  have z1 := soft_blk hb 1
  have z2 := soft_blk hb 2
  rw [hlen] at sl N c0 hle
  have hx' : (x != 0) = true := by simpa using hx
  clear h hb r hd rs hv hlen
  go_enter Try.func58, Try.ntmps58
  go_wp2_with fail
  go_quiet (first | (go_at_call 65; exact Calls.quiet_of_same (N.out _)) | fail)
  go_wp2_with fail
  go_ret
  exact ⟨rfl, IsQ.set HH.out RH.out DH.out (((Kept.refl (fun j => j = Q) w).drewN _).setCell (p := ⟨Q, 2, none⟩) (fun _ => rfl) _) (heap_set (w := w.drewN _) BH.out 2 (.int .i64 x)) (by rw [LH.out]; omega)⟩
set_option maxRecDepth 100000 in
set_option maxHeartbeats 1000000 in
theorem qBytes_short (Q : Nat) (D : Option Nat) (most : Int) (k n s : Nat) (L : List Nat) (w : World) (h : IsQ w Q D 0 k L) (hv : Pk.parse most (L.drop k) = (n, s, 0)) (hs : k + s ≤ L.length) (hn : L.length < k + s + n) (hn2 : n < 9223372036854775808) (hL : L.length ≤ 140737488355328) :
    Calls Try.prog 58 #[.pointer (some ⟨Q, 0, none⟩), .int .i64 most] w fun y w' => y = .returned (.slice none 0 0) ∧ TookQ w Q D w' 30 k L := by
  have HH : Hid (IsQ w Q D 0 k L) := h
  obtain ⟨a, cap, hb, r, hd⟩ := h.ex
  have hle := h.le
  obtain ⟨p, c, sl, rs, _⟩ := slice_from r k h.le
  have BH : Hid (w.heap[Q]? = some (.cells #[.slice a L.length cap, .int .i64 (k : Int), .int .i64 0] 83 (0, 0))) := hb
  have RH : Hid (Reads w a L.length cap L) := r
  have DH : Hid (∀ p, a = some p → D = some p.block) := hd
  obtain ⟨len, hlen⟩ : ∃ m, L.length = m := ⟨_, rfl⟩
  have LH : Hid (L.length = len) := hlen
  have N : Hid (∀ m, Calls Try.prog 65 #[.slice p (L.length - k) c, .int .i64 most] (w.drewN m) fun y w' => y = .returned (.tuple #[.int .i64 (n : Int), .int .i64 (s : Int), .int .i64 0]) ∧ w' = w.drewN m) := fun m =>
    refNum p (L.length - k) c most (L.drop k) (w.drewN m) n s 0 (rs.kept ((Kept.refl (fun _ => False) w).drewN m) (fun _ _ f => f)) hv
  have c0 := cell_blk hb 0 (v := .slice a L.length cap) rfl
  have c1 := cell_blk hb 1 (v := .int .i64 (k : Int)) rfl
  have c2 := cell_blk hb 2 (v := .int .i64 0) rfl
  have z1 := soft_blk hb 1
  have z2 := soft_blk hb 2
  rw [hlen] at sl N c0 hle hL hs hn
  obtain ⟨t, ht⟩ : ∃ t, k + s = t := ⟨_, rfl⟩
  have e1 : (k : Int) + (s : Int) = (t : Int) := by omega
  have e2 : (len : Int) - (t : Int) < (n : Int) := by omega
  clear h hb r hd rs hv hlen
  go_enter Try.func58, Try.ntmps58
  go_wp2_with fail
  go_quiet (first | (go_at_call 65; exact Calls.quiet_of_same (N.out _)) | fail)
  go_wp2_with fail
  go_ret
  exact ⟨rfl, IsQ.set HH.out RH.out DH.out (((Kept.refl (fun j => j = Q) w).drewN _).setCell (p := ⟨Q, 2, none⟩) (fun _ => rfl) _) (heap_set (w := w.drewN _) BH.out 2 (.int .i64 30)) (by rw [LH.out]; omega)⟩
set_option maxRecDepth 100000 in
set_option maxHeartbeats 2000000 in
theorem qBytes_ok (Q : Nat) (D : Option Nat) (most : Int) (k n s : Nat) (L : List Nat) (w : World) (h : IsQ w Q D 0 k L) (hv : Pk.parse most (L.drop k) = (n, s, 0)) (hn : k + s + n ≤ L.length) (hs0 : 0 < s) (hL : L.length ≤ 140737488355328) :
    Calls Try.prog 58 #[.pointer (some ⟨Q, 0, none⟩), .int .i64 most] w fun y w' => ∃ p c, y = .returned (.slice p n c) ∧ Reads w' p n c ((L.drop (k + s)).take n) ∧ TookQ w Q D w' 0 (k + (s + n)) L := by
  have HH : Hid (IsQ w Q D 0 k L) := h
  obtain ⟨a, cap, hb, r, hd⟩ := h.ex
  have hle := h.le
  obtain ⟨p, c, sl, rs, _⟩ := slice_from r k h.le
  have BH : Hid (w.heap[Q]? = some (.cells #[.slice a L.length cap, .int .i64 (k : Int), .int .i64 0] 83 (0, 0))) := hb
  have RH : Hid (Reads w a L.length cap L) := r
  have DH : Hid (∀ p, a = some p → D = some p.block) := hd
  obtain ⟨len, hlen⟩ : ∃ m, L.length = m := ⟨_, rfl⟩
  have LH : Hid (L.length = len) := hlen
  have N : Hid (∀ m, Calls Try.prog 65 #[.slice p (L.length - k) c, .int .i64 most] (w.drewN m) fun y w' => y = .returned (.tuple #[.int .i64 (n : Int), .int .i64 (s : Int), .int .i64 0]) ∧ w' = w.drewN m) := fun m =>
    refNum p (L.length - k) c most (L.drop k) (w.drewN m) n s 0 (rs.kept ((Kept.refl (fun _ => False) w).drewN m) (fun _ _ f => f)) hv
  have c0 := cell_blk hb 0 (v := .slice a L.length cap) rfl
  have c1 := cell_blk hb 1 (v := .int .i64 (k : Int)) rfl
  have c2 := cell_blk hb 2 (v := .int .i64 0) rfl
  have z1 := soft_blk hb 1
  have z2 := soft_blk hb 2
  obtain ⟨t, ht⟩ : ∃ t, k + s = t := ⟨_, rfl⟩
  obtain ⟨z, hzz⟩ : ∃ z, t + n = z := ⟨_, rfl⟩
  have e1 : (k : Int) + (s : Int) = (t : Int) := by omega
  have e3 : (t : Int) + (n : Int) = (z : Int) := by omega
  obtain ⟨p2, c2', sl2, rs2, pb2⟩ := slice_mid r t z (by omega) (by omega) (by omega)
  have ezn : z - t = n := by omega
  rw [ezn] at sl2 rs2
  have R2 : Hid (Reads w p2 n c2' ((L.drop t).take n)) := rs2
  have P2 : Hid (∀ q, p2 = some q → q.block ≠ Q) := fun q hq f => by
    obtain ⟨q0, h1, h2⟩ := pb2 q hq
    exact h.ne (by rw [hd q0 h1, ← f, h2])
  have BY : Hid (∀ d ∈ (L.drop t).take n, d < 256) := fun d hd => r.bytes d (List.mem_of_mem_drop (List.mem_of_mem_take hd))
  have QL : Hid (Q < w.heap.size) := h.lt
  rw [hlen] at sl N c0 hle hL hn sl2
  have KZ : Hid (k + (s + n) = z) := by show _ = z; omega
  have ZL : Hid (z ≤ len) := by show z ≤ len; omega
  have TH : Hid (k + s = t) := ht
  have e2 : ¬ ((len : Int) - (t : Int) < (n : Int)) := by omega
  have nb : n ≤ len := by omega
  clear h hb r hd rs hv hlen pb2 rs2 ht hzz
  go_enter Try.func58, Try.ntmps58
  go_wp2_with fail
  go_quiet (first | (go_at_call 65; exact Calls.quiet_of_same (N.out _)) | fail)
  go_wp2_with fail
  have b0 : (w.drewN nq).heap[Q]? = some (.cells #[.slice a L.length cap, .int .i64 (k : Int), .int .i64 0] 83 (0, 0)) := BH.out
  have kq : Kept (fun j => j = Q) w ((w.drewN nq).setCell ⟨Q, 1, none⟩ (.int .i64 (z : Int))) := ((Kept.refl (fun j => j = Q) w).drewN nq).setCell (p := ⟨Q, 1, none⟩) (fun _ => rfl) _
  have b1 := heap_set b0 1 (.int .i64 (z : Int))
  have T : Hid (TookQ w Q D ((w.drewN nq).setCell ⟨Q, 1, none⟩ (.int .i64 (z : Int))) 0 z L) := IsQ.set HH.out RH.out DH.out kq b1 (by rw [LH.out]; exact ZL.out)
  have d0 := cell_blk b1 0 (v := .slice a L.length cap) rfl
  have d1 := cell_blk b1 1 (v := .int .i64 (z : Int)) rfl
  have R3 : Hid (Reads ((w.drewN nq).setCell ⟨Q, 1, none⟩ (.int .i64 (z : Int))) p2 n c2' ((L.drop t).take n)) := R2.out.kept kq (fun q hq f => P2.out q hq f)
  rw [LH.out] at d0
  obtain ⟨W1, hW⟩ : ∃ W1, (w.drewN nq).setCell ⟨Q, 1, none⟩ (.int .i64 (z : Int)) = W1 := ⟨_, rfl⟩
  rw [hW] at T d0 d1 R3 ⊢
  have QW : Hid (Q < W1.heap.size) := T.out.isQ.lt
  have K4 : Hid (Kept (fun _ => False) W1 (W1.drew.alloc (.cells #[] 5))) := ((Kept.refl _ W1).drew).alloc _
  have R4 : Hid (Reads (W1.drew.alloc (.cells #[] 5)) p2 n c2' ((L.drop t).take n)) := R3.out.kept K4.out (fun _ _ f => f)
  clear b0 kq b1 hW c0 c1 c2 z1 z2
  go_region_held3 (fun w' => w'.cell? ⟨Q, 0, none⟩ = some (.slice a len cap) ∧ w'.cell? ⟨Q, 1, none⟩ = some (.int .i64 (z : Int)))
    (first
      | go_keep
      | (go_split_ands
         refine ⟨?_, ?_⟩
         · exact hg.out.cell (by assumption) (by have := QW.out; simp [Value.ownBlock]; omega)
         · exact hg.out.cell (by assumption) (by have := QW.out; simp [Value.ownBlock]; omega)))
    (first
      | (refine step_append_bytes _ (by rfl) (.tmp 59) (.tmp 69) 28 (by rfl) W1.heap.size (.slice (some ⟨W1.heap.size, 0, none⟩) 0 0) 0 [] (by rfl) (World.ownsRow_made W1.drew #[] 0 (Nat.le_refl _) (by unfold maxLen; omega) rfl) (.slice p2 n c2') n ((L.drop t).take n) (by rfl) R4.out.src (by omega) (by simp) ?_; intro p5 c5 w5 ho hg)
      | fail)
  all_goals (go_wp2_with fail; go_ret)
  have ho2 := ho.out
  rw [Nat.zero_add, List.nil_append] at ho2
  rw [TH.out, KZ.out]
  have k5 : Kept (fun _ => False) W1 w5 := K4.out.grown hg.out (fun j hj q => by simp [Value.ownBlock] at q; omega)
  exact ⟨p5, c5, by simp, reads_of_own ho2 BY.out, ⟨T.out.isQ.kept k5 (fun f => f) (fun _ _ f => f), T.out.kept.trans k5 (fun _ _ f => f.elim)⟩⟩
theorem qText_err (Q : Nat) (D : Option Nat) (e most : Int) (k : Nat) (L : List Nat) (w : World) (h : IsQ w Q D e k L) (he : e ≠ 0) : Calls Try.prog 59 #[.pointer (some ⟨Q, 0, none⟩), .int .i64 most] w fun x w' => x = .returned (.string (str [])) ∧ w' = w := by
  go_enter Try.func59, Try.ntmps59
  go_wp2_with fail
  refine (qBytes_err Q D e most k L w h he).mono ?_
  rintro y w1 ⟨rfl, rfl⟩
  have S := (Reads.nil w1).string
  go_wp2_with fail
  go_ret
  exact ⟨rfl, rfl⟩
theorem qText_bad (Q : Nat) (D : Option Nat) (most x : Int) (k n s : Nat) (L : List Nat) (w : World) (h : IsQ w Q D 0 k L) (hv : Pk.parse most (L.drop k) = (n, s, x)) (hx : x ≠ 0) :
    Calls Try.prog 59 #[.pointer (some ⟨Q, 0, none⟩), .int .i64 most] w fun y w' => y = .returned (.string (str [])) ∧ TookQ w Q D w' x k L := by
  go_enter Try.func59, Try.ntmps59
  go_wp2_with fail
  refine (qBytes_bad Q D most x k n s L w h hv hx).mono ?_
  rintro y w1 ⟨rfl, T⟩
  have TH : Hid (TookQ w Q D w1 x k L) := T
  have S := (Reads.nil w1).string
  clear T
  go_wp2_with fail
  go_ret
  exact ⟨rfl, TH.out⟩
theorem qText_short (Q : Nat) (D : Option Nat) (most : Int) (k n s : Nat) (L : List Nat) (w : World) (h : IsQ w Q D 0 k L) (hv : Pk.parse most (L.drop k) = (n, s, 0)) (hs : k + s ≤ L.length) (hn : L.length < k + s + n) (hn2 : n < 9223372036854775808) (hL : L.length ≤ 140737488355328) :
    Calls Try.prog 59 #[.pointer (some ⟨Q, 0, none⟩), .int .i64 most] w fun y w' => y = .returned (.string (str [])) ∧ TookQ w Q D w' 30 k L := by
  go_enter Try.func59, Try.ntmps59
  go_wp2_with fail
  refine (qBytes_short Q D most k n s L w h hv hs hn hn2 hL).mono ?_
  rintro y w1 ⟨rfl, T⟩
  have TH : Hid (TookQ w Q D w1 30 k L) := T
  have S := (Reads.nil w1).string
  clear T
  go_wp2_with fail
  go_ret
  exact ⟨rfl, TH.out⟩
theorem qText_ok (Q : Nat) (D : Option Nat) (most : Int) (k n s : Nat) (L : List Nat) (w : World) (h : IsQ w Q D 0 k L) (hv : Pk.parse most (L.drop k) = (n, s, 0)) (hn : k + s + n ≤ L.length) (hs0 : 0 < s) (hL : L.length ≤ 140737488355328) :
    Calls Try.prog 59 #[.pointer (some ⟨Q, 0, none⟩), .int .i64 most] w fun y w' => y = .returned (.string (str ((L.drop (k + s)).take n))) ∧ TookQ w Q D w' 0 (k + (s + n)) L := by
  go_enter Try.func59, Try.ntmps59
  go_wp2_with fail
  refine (qBytes_ok Q D most k n s L w h hv hn hs0 hL).mono ?_
  rintro y w1 ⟨p, c, rfl, r, T⟩
  have TH : Hid (TookQ w Q D w1 0 (k + (s + n)) L) := T
  have S := r.string
  clear T r
  go_wp2_with fail
  go_ret
  exact ⟨rfl, TH.out⟩
/-- A block of bytes. -/
def ByteBlk (w : World) (D : Option Nat) : Prop := ∀ j, D = some j → ∃ cs, w.heap[j]? = some (.cells cs 5 (0, 0))
theorem own_blk {w : World} {base n : Nat} {v : Value} {xs : List Value} (h : w.ownsRow base 5 1 v n xs) : ByteBlk w v.ownBlock := fun j hj => by
  rcases h.2 with ⟨rfl, _⟩ | ⟨g, cap, cur, rfl, _, hg, _⟩
  · simp [Value.ownBlock] at hj
  · simp [Value.ownBlock] at hj
    subst hj
    exact ⟨cur, hg⟩
theorem ByteBlk.kept {S : Nat → Prop} {w w' : World} {D : Option Nat} (h : ByteBlk w D) (q : Kept S w w') (hn : ∀ j, D = some j → ¬ S j) : ByteBlk w' D := fun j hj => by
  obtain ⟨cs, hb⟩ := h j hj
  exact ⟨cs, q.get hb (hn j hj)⟩
set_option maxRecDepth 100000 in
theorem newQ (a : Option Addr) (len cap : Nat) (l : List Nat) (w : World) (r : Reads w a len cap l) (hs : len ≤ 140737488355328) :
    Calls Try.prog 28 #[.slice a len cap] w fun x w' => ∃ Q D, x = .returned (.pointer (some ⟨Q, 0, none⟩)) ∧ w.heap.size ≤ Q ∧ (∀ j, D = some j → w.heap.size ≤ j) ∧ ByteBlk w' D ∧ IsQ w' Q D 0 0 l ∧ Kept (fun _ => False) w w' := by
  have K0 : Hid (Kept (fun _ => False) w (w.alloc (.cells #[] 5))) := (Kept.refl _ w).alloc _
  have R0 : Hid (Reads (w.alloc (.cells #[] 5)) a len cap l) := r.kept K0.out (fun _ _ f => f)
  have hl : Hid (l.length = len) := r.length
  have hb : Hid (∀ d ∈ l, d < 256) := r.bytes
  clear r
  go_enter Try.func28, Try.ntmps28
  go_wp2_with (first | (at_builtin; refine wpList_append_bytes _ rfl (.tmp 3) (.tmp 4) 28 rfl w.heap.size (.slice (some ⟨w.heap.size, 0, none⟩) 0 0) 0 [] rfl (World.ownsRow_made w #[] 0 (Nat.le_refl _) (by unfold maxLen; omega) rfl) (.slice a len cap) len l rfl R0.out.src (by omega) (by simp) ?_; intro p2 k2 w2 ho hg _ nr; rw [Nat.zero_add, List.nil_append] at ho; rw [Nat.zero_add]) | fail)
  go_ret
  have k1 : Kept (fun _ => False) w w2 := K0.out.grown hg.out (fun k hk q => by simp [Value.ownBlock] at q; omega)
  have kk : Kept (fun _ => False) w2 (w2.alloc (.cells #[.slice p2 len k2, .int .i64 0, .int .i64 0] 83)) := (Kept.refl _ w2).alloc _
  obtain ⟨a2, c2, e2, r2, o2⟩ := owns_reads ho.out hb.out
  simp at e2
  obtain ⟨rfl, rfl⟩ := e2
  refine ⟨w2.heap.size, (Value.slice p2 len k2).ownBlock, rfl, k1.size, fun j hj => (ho.out.lt j hj).1, (own_blk ho.out).kept kk (fun _ _ f => f), ⟨⟨p2, k2, ?_, ?_, fun q hq => o2 q hq⟩, fun q => ?_, Nat.zero_le _⟩, k1.trans kk (fun _ _ f => f)⟩
  · rw [hl.out]; exact heap_alloc_new w2 _
  · rw [hl.out]; exact r2.kept kk (fun _ _ f => f)
  · have := (ho.out.lt _ q).2; omega
/-- The program's reader, with the kind of its block. -/
theorem newReaderB (a : Option Addr) (len cap : Nat) (l : List Nat) (w : World) (r : Reads w a len cap l) (hs : len ≤ 140737488355328) :
    Calls Try.prog 12 #[.slice a len cap] w fun x w' => ∃ R D, x = .returned (.pointer (some ⟨R, 0, none⟩)) ∧ w.heap.size ≤ R ∧ (∀ j, D = some j → w.heap.size ≤ j) ∧ ByteBlk w' D ∧ IsR w' R D 0 0 l ∧ Kept (fun _ => False) w w' := by
  have R : Hid (Reads w a len cap l) := r
  have hl := r.length
  have hb := r.bytes
  clear r
  go_enter Try.func12, Try.ntmps12
  go_wp2_with fail
  refine (clone a len cap l w R.out hs).mono ?_
  rintro x w1 ⟨p, c, rfl, ho, k⟩
  have OH : Hid (w1.ownsRow w.heap.size 5 1 (.slice p len c) len (cellsOf l)) := ho
  have KH : Hid (Kept (fun _ => False) w w1) := k
  clear ho k
  go_wp2_with fail
  go_ret
  obtain ⟨a2, c2, e2, r2, o2⟩ := owns_reads OH.out hb
  simp at e2
  obtain ⟨rfl, rfl⟩ := e2
  have k2 : Kept (fun _ => False) w1 (w1.alloc (.cells #[.int .i64 0, .slice p len c, .int .i64 0] 71)) := (Kept.refl _ w1).alloc _
  have hlt : ∀ j, (Value.slice p len c).ownBlock = some j → w.heap.size ≤ j ∧ j < w1.heap.size := fun j hj => OH.out.lt j hj
  refine ⟨w1.heap.size, (Value.slice p len c).ownBlock, rfl, KH.out.size, fun j hj => (hlt j hj).1, (own_blk OH.out).kept k2 (fun _ _ f => f), ⟨⟨p, c, ?_, ?_, fun q hq => o2 q hq⟩, fun q => by have := (hlt _ q).2; omega, ?_, fun q => absurd rfl q⟩, KH.out.trans k2 (fun _ _ f => f)⟩
  · rw [hl]
    exact heap_alloc_new w1 _
  · rw [hl]
    exact r2.kept k2 (fun _ _ f => f)
  · unfold maxLen; omega
end Go.Proofs.Ytgfglbbfoadiaaa
