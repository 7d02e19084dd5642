import Derived.Test.YtbnnmelkbjkkjaaAny
namespace Go.Proofs.Ytbnnmelkbjkkjaa
open Go.RowKit

structure Script (w : World) (q : Option Addr) (n cap : Nat) (O : List Opv) : Prop where
  length : O.length = n
  room : n ≤ cap
  small : cap ≤ maxLen
  cells : 0 < n → ∃ b off, q = some ⟨b, off, none⟩ ∧ ∀ i o, O[i]? = some o → ∀ j v, o.cs[j]? = some v → w.cell? ⟨b, off + i * 9 + j, none⟩ = some v
  reads : ∀ o ∈ O, Reads w o.a o.n o.c o.l
def sumN (O : List Opv) : Nat := (O.map Opv.n).sum
theorem sumN_take {O : List Opv} {i : Nat} {o : Opv} (h : O[i]? = some o) : sumN (O.take (i + 1)) = sumN (O.take i) + o.n := by
  obtain ⟨hl, e⟩ := List.getElem?_eq_some_iff.1 h
  unfold sumN
  rw [List.take_succ_eq_append_getElem hl, e]
  simp
theorem sumN_le (O : List Opv) (i : Nat) : sumN (O.take i) ≤ sumN O := by
  have : sumN O = sumN (O.take i) + sumN (O.drop i) := by
    unfold sumN
    rw [← List.sum_append, ← List.map_append, List.take_append_drop]
  omega
theorem wide_reads {w' : World} {p : Option Addr} {n k base : Nat} {l : List Nat} (hl : l.length = n) (hb : ∀ c ∈ l, c < 256) (o : w'.ownsRow base 5 1 (.slice p (n + 2) k) (n + 2) (cellsOf (l ++ [193, 194]))) : Reads w' p n k l := by
  obtain ⟨a, c, e, r, _⟩ := owns_reads o (fun c hc => by
    rcases List.mem_append.1 hc with z | z
    · exact hb c z
    · simp at z; rcases z with z | z <;> omega)
  simp at e
  obtain ⟨rfl, rfl⟩ := e
  have := r.take n (by omega)
  rw [List.take_append_of_le_length (by omega), List.take_of_length_le (by omega)] at this
  exact this
set_option maxRecDepth 100000 in
set_option maxHeartbeats 2000000 in
theorem begun (q : Option Addr) (n cap : Nat) (O : List Opv) (w : World) (hO : Script w q n cap O) (hn : n + 1 ≤ Few) (hs : sumN O ≤ Few) :
    Calls Try.prog 17 #[.slice q n cap] w fun x w' => ∃ A, x = .returned (.pointer (some ⟨w.heap.size, 0, none⟩)) ∧ HD w w' w.heap.size A ∧ Small A (sumN O) n := by
  have H : Hid (Script w q n cap O ∧ n + 1 ≤ Few ∧ sumN O ≤ Few) := ⟨hO, hn, hs⟩
  have hol := hO.length
  have hr := hO.room
  have hsm := hO.small
  unfold maxLen at hsm
  clear hO hn hs
  go_enter Try.func17, Try.ntmps17
  go_wp2_with fail
  refine (hNew w).mono ?_
  rintro x w1 ⟨rfl, h1⟩
  have X1 : Hid (HD w w1 w.heap.size A1) := h1
  clear h1
  go_wp2_with fail
  go_loopw [4] (fun x wr => ∃ (i : Nat) (A : AB), x = .int .i64 (i : Int) ∧ i ≤ n ∧ Hid (HD w wr w.heap.size A ∧ Small A (sumN (O.take i)) i)) (fun x _ => n - (intOf x).toNat)
  case atStart => exact ⟨0, A1, rfl, Nat.zero_le _, X1.out, ⟨Nat.zero_le _, Nat.zero_le _, Nat.zero_le _, Nat.zero_le _, rfl, rfl⟩⟩
  case round =>
    obtain ⟨i, A, rfl, hi, S⟩ := hrel
    by_cases hlt : i < n
    · have i1 : (i : Int) < (n : Int) := by omega
      obtain ⟨o, ho⟩ : ∃ o, O[i]? = some o := ⟨_, List.getElem?_eq_getElem (by omega)⟩
      obtain ⟨b, off, rfl, hc⟩ := H.out.1.cells (by omega)
      have f : ∀ j v, o.cs[j]? = some v → wr.cell? ⟨b, off + i * 9 + j, none⟩ = some v := fun j v hv => S.out.1.kept.cell (hc i o ho j v hv) (fun z => z)
      have f0 : wr.cell? ⟨b, off + i * 9, none⟩ = some (.int .i64 o.kind) := f 0 _ rfl
      have SN : Hid (sumN (O.take (i + 1)) = sumN (O.take i) + o.n ∧ sumN (O.take i) ≤ Few ∧ i ≤ Few ∧ o.n ≤ Few ∧ o.n ≤ Lim ∧ Reads wr o.a o.n o.c o.l) := by
        have q1 := sumN_take ho
        have q2 := sumN_le O i
        have q3 := sumN_le O (i + 1)
        have q4 := H.out.2
        refine ⟨q1, by omega, by omega, by omega, by unfold Lim; unfold Few at q4; omega, (H.out.1.reads o (List.mem_of_getElem? ho)).kept' S.out.1.kept (fun _ _ z => z)⟩
      by_cases hk : 1 ≤ o.kind ∧ o.kind ≤ 4
      · have k1 : (1 : Int) ≤ o.kind := hk.1
        have k2 : o.kind ≤ 4 := hk.2
        have f1 : wr.cell? ⟨b, off + i * 9 + 1, none⟩ = some (.int .i64 o.D) := f 1 _ rfl
        have f2 : wr.cell? ⟨b, off + i * 9 + 2, none⟩ = some (.int .i64 o.slot) := f 2 _ rfl
        have f3 : wr.cell? ⟨b, off + i * 9 + 3, none⟩ = some (.slice o.a o.n o.c) := f 3 _ rfl
        have f4 : wr.cell? ⟨b, off + i * 9 + 4, none⟩ = some (.int .i64 o.N) := f 4 _ rfl
        have f5 : wr.cell? ⟨b, off + i * 9 + 5, none⟩ = some (.bool o.done) := f 5 _ rfl
        have f6 : wr.cell? ⟨b, off + i * 9 + 6, none⟩ = some o.v0 := f 6 _ rfl
        have f7 : wr.cell? ⟨b, off + i * 9 + 7, none⟩ = some o.v1 := f 7 _ rfl
        have f8 : wr.cell? ⟨b, off + i * 9 + 8, none⟩ = some o.v2 := f 8 _ rfl
        have HK : Hid (1 ≤ o.kind ∧ o.kind ≤ 4) := hk
        have GG : Hid (∀ V : World, Kept (fun _ => False) w V → V.cell? ⟨b, off + i * 9, none⟩ = some (.int .i64 o.kind) ∧ V.cell? ⟨b, off + i * 9 + 1, none⟩ = some (.int .i64 o.D) ∧ V.cell? ⟨b, off + i * 9 + 2, none⟩ = some (.int .i64 o.slot) ∧ V.cell? ⟨b, off + i * 9 + 3, none⟩ = some (.slice o.a o.n o.c) ∧ V.cell? ⟨b, off + i * 9 + 4, none⟩ = some (.int .i64 o.N) ∧ V.cell? ⟨b, off + i * 9 + 5, none⟩ = some (.bool o.done) ∧ V.cell? ⟨b, off + i * 9 + 6, none⟩ = some o.v0 ∧ V.cell? ⟨b, off + i * 9 + 7, none⟩ = some o.v1 ∧ V.cell? ⟨b, off + i * 9 + 8, none⟩ = some o.v2) := fun V KV => by
          have g : ∀ j v, o.cs[j]? = some v → V.cell? ⟨b, off + i * 9 + j, none⟩ = some v := fun j v hv => KV.cell (hc i o ho j v hv) (fun z => z)
          exact ⟨g 0 _ rfl, g 1 _ rfl, g 2 _ rfl, g 3 _ rfl, g 4 _ rfl, g 5 _ rfl, g 6 _ rfl, g 7 _ rfl, g 8 _ rfl⟩
        have KD : Hid (Kept (fun _ => False) wr wr.drew) := (Kept.refl (fun _ => False) wr).drew
        clear f hc ho hk
        go_wp2_with fail
        go_region_held3 (fun w' => w'.cell? ⟨b, off + i * 9, none⟩ = some (.int .i64 o.kind) ∧ w'.cell? ⟨b, off + i * 9 + 1, none⟩ = some (.int .i64 o.D) ∧ w'.cell? ⟨b, off + i * 9 + 2, none⟩ = some (.int .i64 o.slot) ∧ w'.cell? ⟨b, off + i * 9 + 3, none⟩ = some (.slice o.a o.n o.c) ∧ w'.cell? ⟨b, off + i * 9 + 4, none⟩ = some (.int .i64 o.N) ∧ w'.cell? ⟨b, off + i * 9 + 5, none⟩ = some (.bool o.done) ∧ w'.cell? ⟨b, off + i * 9 + 6, none⟩ = some o.v0 ∧ w'.cell? ⟨b, off + i * 9 + 7, none⟩ = some o.v1 ∧ w'.cell? ⟨b, off + i * 9 + 8, none⟩ = some o.v2) (first | go_keep)
          (first
            | (go_at_call 23; refine (act23 w w2 w.heap.size A (sumN (O.take i)) i o HK.out p2 o.n k2' o.l X2.out.1 S.out.2 SN.out.2.1 SN.out.2.2.1 X2.out.2.1 SN.out.2.2.2.1 X2.out.2.2).mono ?_; rintro x w3 ⟨v3, A3', rfl, q1, q2⟩
               have X3 : Hid (HD w w3 w.heap.size A3' ∧ Small A3' (sumN (O.take (i + 1))) (i + 1)) := ⟨q1, by rw [SN.out.1]; exact q2⟩
               obtain ⟨z0, z1, z2, z3, z4, z5, z6, z7, z8⟩ := GG.out w3 X3.out.1.kept
               clear q1 q2)
            | (go_at_call 10; refine (wide o.a o.n o.c o.l wr.drew (SN.out.2.2.2.2.2.kept' KD.out (fun _ _ z => z)) SN.out.2.2.2.2.1).mono ?_; rintro x w2 ⟨p2, k2', rfl, o2, K2⟩
               have X2 : Hid (HD w w2 w.heap.size A ∧ Reads w2 p2 o.n k2' o.l ∧ ∀ k, blockOf p2 = some k → k ≠ w.heap.size) := by
                 have K := KD.out.trans K2 (fun _ _ z => z)
                 refine ⟨S.out.1.quiet K, wide_reads SN.out.2.2.2.2.2.length SN.out.2.2.2.2.2.bytes o2, fun k hk z => ?_⟩
                 have q1 := (own_lt o2 k hk).1
                 rw [drew_size] at q1
                 obtain ⟨d, i1, _⟩ := S.out.1.ex
                 have := block_lt i1.blk
                 omega
               obtain ⟨y0, y1, y2, y3, y4, y5, y6, y7, y8⟩ := GG.out w2 X2.out.1.kept
               clear o2 K2)
            | fail)
        go_wp2_with fail
        go_roundw
        case rel => exact ⟨i + 1, A3', by go_num, by omega, X3.out⟩
        case measure => simp [intOf]; omega
      · clear f hc ho
        have S2 : Hid (HD w wr w.heap.size A ∧ Small A (sumN (O.take (i + 1))) (i + 1)) := ⟨S.out.1, S.out.2.mono (by rw [SN.out.1]; omega) (by omega)⟩
        by_cases k1 : (1 : Int) ≤ o.kind
        · have k2 : ¬ o.kind ≤ 4 := fun z => hk ⟨k1, z⟩
          clear hk
          go_wp2_with fail
          go_roundw
          case rel => exact ⟨i + 1, A, by go_num, by omega, S2.out⟩
          case measure => simp [intOf]; omega
        · clear hk
          go_wp2_with fail
          go_roundw
          case rel => exact ⟨i + 1, A, by go_num, by omega, S2.out⟩
          case measure => simp [intOf]; omega
    · have he : i = n := by omega
      have i1 : ¬ (i : Int) < (n : Int) := by omega
      go_wp2_with fail
      go_ret
      have := S.out.2
      rw [he, List.take_of_length_le (by omega)] at this
      exact ⟨rfl, A, S.out.1, this⟩
end Go.Proofs.Ytbnnmelkbjkkjaa

namespace Go.Proofs.Ytbnnmelkbjkkjaa
open Go.RowKit

theorem hPending (w wr : World) (B : Nat) (A : AB) (h : HD w wr B A) (ok : A.Ok) : Calls Try.prog 13 #[.pointer (some ⟨B, 0, none⟩)] wr fun x w' => x = .returned (.int .i64 ((A.X0.length + A.X1.length : Nat) : Int)) ∧ Kept (fun _ => False) wr w' := by
  obtain ⟨d, h1, rfl⟩ := h.ex
  exact dPending w.heap.size B d wr h1 ok
theorem leftL_nil (l : List Nat) (cs : List Int) : (leftL l [] cs).1 = l := by simp [leftL, redoL]
/-- A slot that was synced is behind a crash what it was. -/
theorem synced_now (A : AB) (j : Nat) (hj : j < 2) (cs : List Int) : (((A.sync j).counted).crash cs).now j = ((A.sync j).counted).now j := by
  match j, hj with
  | 0, _ =>
    show redoL (leftL (redoL A.l0 A.X0) [] cs).1 [] = redoL (redoL A.l0 A.X0) []
    rw [leftL_nil]
  | 1, _ =>
    show redoL (leftL (redoL A.l1 A.X1) [] _).1 [] = redoL (redoL A.l1 A.X1) []
    rw [leftL_nil]
theorem nextC_le (cs : List Int) (m : Nat) : (nextC cs (m + 1)).1 ≤ m := by have := nextC_lt cs (m + 1) (by omega); omega
theorem leftL_length (l : List Nat) (xs : List (Option (List Nat))) (cs : List Int) : (leftL l xs cs).1.length ≤ l.length + weigh xs + weigh xs := by
  have h1 := redoL_length (xs.take (nextC cs (xs.length + 1)).1) l
  have h2 := weigh_take xs (nextC cs (xs.length + 1)).1
  unfold leftL
  split
  · rename_i x he
    have h3 := weigh_mem (List.mem_of_getElem? he)
    simp only [List.length_append, List.length_take]
    omega
  · simp only
    omega
theorem crash_ok {A : AB} {s t : Nat} (h : Small A s t) (hs : s ≤ Few) (cs : List Int) : (A.crash cs).Ok := by
  have h1 := h.wt
  have h2 := leftL_length A.l0 A.X0 cs
  have h3 := leftL_length A.l1 A.X1 (leftL A.l0 A.X0 cs).2
  unfold Few at hs
  have wn : weigh [] = 0 := rfl
  refine ⟨?_, ?_, by show 0 + 1 ≤ Lim; decide, by show 0 + 1 ≤ Lim; decide, by show 0 + 1 ≤ Lim; decide, by show (0 : Int) ≤ 0 ∧ (0 : Int) < 9223372036854775808; decide⟩
  · show (leftL A.l0 A.X0 cs).1.length + weigh [] ≤ Lim
    unfold Lim; omega
  · show (leftL A.l1 A.X1 (leftL A.l0 A.X0 cs).2).1.length + weigh [] ≤ Lim
    unfold Lim; omega
theorem now_bytes {w wr : World} {B : Nat} {A : AB} (h : HD w wr B A) (j : Nat) : ∀ c ∈ A.now j, c < 256 := by
  obtain ⟨d, h1, rfl⟩ := h.ex
  unfold AB.now
  split
  · exact redoL_bytes _ _ h1.z0.bytes (good_bytes h1.z0.good)
  · exact redoL_bytes _ _ h1.z1.bytes (good_bytes h1.z1.good)
theorem own_string {w : World} {base : Nat} {a : Option Addr} {n c : Nat} {l : List Nat} (h : w.ownsRow base 5 1 (.slice a n c) n (cellsOf l)) (hb : ∀ c ∈ l, c < 256) {w' : World} (K : Kept (fun _ => False) w w') : (convert 22 9 (.slice a n c)).run Try.prog w' = .ok (.string (str l)) w' := by
  obtain ⟨a', c', e, r, _⟩ := owns_reads h hb
  simp at e
  obtain ⟨rfl, rfl⟩ := e
  exact (r.kept' K (fun _ _ z => z)).string
theorem IRd.lt {w : World} {q : Option Addr} {n c : Nat} {cs : List Int} (r : IRd w q n c cs) (h0 : 0 < n) : ∀ k, blockOf q = some k → k < w.heap.size := fun k hk => by
  obtain ⟨b, off, e, hc⟩ := r.cells h0
  rw [e] at hk
  simp [blockOf] at hk
  subst hk
  have hx : b < w.heap.size := World.block_lt_of_cell? w _ (hc 0 (cs[0]'(by rw [r.length]; exact h0)) (List.getElem?_eq_getElem _))
  exact hx
theorem two_mod (x : Int) : ∃ j : Nat, j < 2 ∧ x % 2 = (j : Int) := ⟨(x % 2).toNat, by omega, by omega⟩
set_option maxRecDepth 100000 in
set_option maxHeartbeats 2000000 in
theorem diskLasts (q : Option Addr) (n cap : Nat) (O : List Opv) (slot : Int) (qc : Option Addr) (nc cc : Nat) (cs : List Int) (w : World) (hO : Script w q n cap O) (hn : n + 2 ≤ Few) (hs : sumN O ≤ Few) (rc : IRd w qc nc cc cs) :
    Calls Try.prog 4 #[.slice q n cap, .int .i64 slot, .slice qc nc cc] w fun x w' => x = .returned (.bool true) ∧ Kept (fun _ => False) w w' := by
  have H : Hid (Script w q n cap O ∧ n + 2 ≤ Few ∧ sumN O ≤ Few ∧ IRd w qc nc cc cs) := ⟨hO, hn, hs, rc⟩
  obtain ⟨j, hj, ej⟩ := two_mod slot
  have EJ : Hid (slot % ((2 : Nat) : Int) = (j : Int)) := ej
  clear hO hn hs rc ej
  go_enter Try.func4, Try.ntmps4
  go_wp2_with fail
  refine (begun q n cap O w H.out.1 (by have := H.out.2.1; omega) H.out.2.2.1).mono ?_
  rintro x w1 ⟨A, rfl, h1, s1⟩
  have X1 : Hid (HD w w1 w.heap.size A ∧ Small A (sumN O) n) := ⟨h1, s1⟩
  clear h1 s1
  go_wp2_with fail
  refine (head w1).mono ?_
  rintro x w2 ⟨rfl, K2⟩
  have X2 : Hid (HD w w2 w.heap.size A ∧ Small A (sumN O) n) := ⟨X1.out.1.quiet K2, X1.out.2⟩
  clear K2 X1
  go_wp2_with fail
  refine (mod slot 2 w2 (by omega) (by omega)).mono ?_
  rintro x w3 ⟨rfl, rfl⟩
  rw [EJ.out]
  go_wp2_with fail
  refine (hCurrent w w3 w.heap.size A X2.out.1).mono ?_
  rintro x w4 ⟨rfl, rfl⟩
  rw [if_neg (show ¬ A.dead = true by rw [X2.out.2.live]; decide)]
  go_wp2_with fail
  refine (hSync w w4 w.heap.size A j hj X2.out.1 X2.out.2.live (by rw [X2.out.2.free]; decide) (X2.out.2.ok H.out.2.2.1 (by have := H.out.2.1; omega))).mono ?_
  rintro x w5 ⟨rfl, h5⟩
  obtain ⟨A5, hA5⟩ : ∃ A5, A5 = (A.tick.sync j).counted := ⟨_, rfl⟩
  rw [← hA5] at h5
  have X5 : Hid (HD w w5 w.heap.size A5 ∧ Small A5 (sumN O) (n + 1) ∧ A5 = (A.sync j).counted ∧ A5.cur = A.cur) := by
    have e : A5 = (A.sync j).counted := by rw [hA5, tick_free X2.out.2.free]
    refine ⟨h5, by rw [hA5]; exact X2.out.2.sync j, e, ?_⟩
    rw [e]
    unfold AB.sync
    split <;> rfl
  clear h5 hA5 X2
  go_wp2_with fail
  refine (hRead w w5 w.heap.size A5 j hj X5.out.1 X5.out.2.1.live (X5.out.2.1.ok H.out.2.2.1 (by have := H.out.2.1; omega))).mono ?_
  rintro x w6 ⟨a6, n6, c6, rfl, o6, K6⟩
  have X6 : Hid (HD w w6 w.heap.size A5 ∧ w6.ownsRow w5.heap.size 5 1 (.slice a6 n6 c6) n6 (cellsOf (A5.now j)) ∧ w.heap.size < w5.heap.size) := by
    obtain ⟨d, i1, _⟩ := X5.out.1.ex
    exact ⟨X5.out.1.quiet K6, o6, block_lt i1.blk⟩
  clear o6 K6
  go_wp2_with fail
  refine (hCrash w w6 w.heap.size A5 qc nc cc cs X6.out.1 (X5.out.2.1.ok H.out.2.2.1 (by have := H.out.2.1; omega)) (H.out.2.2.2.kept0 X6.out.1.kept) (fun h0 k hk z => by have := H.out.2.2.2.lt h0 k hk; omega)).mono ?_
  rintro x w7 ⟨F, rfl, _, h7, _, K7⟩
  have X7 : Hid (HD w w7 F (A5.crash cs) ∧ w7.ownsRow w5.heap.size 5 1 (.slice a6 n6 c6) n6 (cellsOf (A5.now j)) ∧ (A5.crash cs).Ok ∧ (A5.crash cs).now j = A5.now j ∧ ∀ c ∈ A5.now j, c < 256) := by
    refine ⟨h7, K7.owns X6.out.2.1 (fun k hk z => ?_), crash_ok X5.out.2.1 H.out.2.2.1 cs, by rw [X5.out.2.2.1]; exact synced_now A j hj cs, now_bytes X6.out.1 j⟩
    have z : k = w.heap.size := z
    have := (own_lt X6.out.2.1 k (by rw [← hk]; exact (blockOf_own ..).symm)).1
    have := X6.out.2.2
    omega
  clear h7 K7
  go_wp2_with fail
  refine (hRead w w7 F (A5.crash cs) j hj X7.out.1 rfl X7.out.2.2.1).mono ?_
  rintro x w8 ⟨a8, n8, c8, rfl, o8, K8⟩
  have X8 : Hid (HD w w8 F (A5.crash cs)) := X7.out.1.quiet K8
  obtain ⟨ts, hts⟩ : ∃ ts, ts = str (A5.now j) := ⟨_, rfl⟩
  have st8 : (convert 22 9 (.slice a8 n8 c8)).run Try.prog w8 = .ok (.string ts) w8 := by
    rw [X7.out.2.2.2.1] at o8
    rw [hts]
    exact own_string o8 X7.out.2.2.2.2 (Kept.refl _ _)
  have st6 : (convert 22 9 (.slice a6 n6 c6)).run Try.prog w8 = .ok (.string ts) w8 := by
    rw [hts]
    exact own_string X7.out.2.1 X7.out.2.2.2.2 K8
  clear o8 K8 hts
  go_wp2_with fail
  refine (hCurrent w w8 F (A5.crash cs) X8.out).mono ?_
  rintro x w9 ⟨rfl, rfl⟩
  rw [show (if (A5.crash cs).dead = true then (0 : Int) else ((A5.crash cs).cur : Int)) = (A.cur : Int) from by rw [if_neg (show ¬ (A5.crash cs).dead = true from by show ¬ false = true; decide)]; exact congrArg _ X5.out.2.2.2]
  go_wp2_with fail
  refine (hPending w w9 F (A5.crash cs) X8.out X7.out.2.2.1).mono ?_
  rintro x w10 ⟨rfl, K10⟩
  rw [show ((((A5.crash cs).X0.length + (A5.crash cs).X1.length : Nat)) : Int) = 0 from rfl]
  have X10 : Hid (HD w w10 F (A5.crash cs)) := X8.out.quiet K10
  clear K10
  go_wp2_with fail
  refine (hDead w w10 F (A5.crash cs) X10.out).mono ?_
  rintro x w11 ⟨rfl, rfl⟩
  rw [show (A5.crash cs).dead = false from rfl]
  go_wp2_with fail
  go_ret
  exact ⟨by first | rfl | simp, X10.out.kept⟩
end Go.Proofs.Ytbnnmelkbjkkjaa
