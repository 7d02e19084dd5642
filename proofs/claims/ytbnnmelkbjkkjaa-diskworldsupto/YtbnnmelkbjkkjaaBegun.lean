import Derived.Test.YtbnnmelkbjkkjaaAny
namespace Go.Proofs.Ytbnnmelkbjkkjaa
open Go.RowKit

structure Script (w : World) (q : Option Addr) (n cap : Nat) (O : List Opv) : Prop where
  length : O.length = n
  room : n ≤ cap
  small : cap ≤ maxLen
  cells : 0 < n → ∃ b off, q = some ⟨b, off, none⟩ ∧ ∀ i o, O[i]? = some o → ∀ j v, o.cs[j]? = some v → w.cell? ⟨b, off + i * 9 + j, none⟩ = some v
  reads : ∀ o ∈ O, Reads w o.a o.n o.c o.l
def sumN (O : List Opv) : Nat := (O.map Opv.n).sum
theorem sumN_take {O : List Opv} {i : Nat} {o : Opv} (h : O[i]? = some o) : sumN (O.take (i + 1)) = sumN (O.take i) + o.n := by
  obtain ⟨hl, e⟩ := List.getElem?_eq_some_iff.1 h
  unfold sumN
  rw [List.take_succ_eq_append_getElem hl, e]
  simp
theorem sumN_le (O : List Opv) (i : Nat) : sumN (O.take i) ≤ sumN O := by
  have : sumN O = sumN (O.take i) + sumN (O.drop i) := by
    unfold sumN
    rw [← List.sum_append, ← List.map_append, List.take_append_drop]
  omega
theorem wide_reads {w' : World} {p : Option Addr} {n k base : Nat} {l : List Nat} (hl : l.length = n) (hb : ∀ c ∈ l, c < 256) (o : w'.ownsRow base 5 1 (.slice p (n + 2) k) (n + 2) (cellsOf (l ++ [193, 194]))) : Reads w' p n k l := by
  obtain ⟨a, c, e, r, _⟩ := owns_reads o (fun c hc => by
    rcases List.mem_append.1 hc with z | z
    · exact hb c z
    · simp at z; rcases z with z | z <;> omega)
  simp at e
  obtain ⟨rfl, rfl⟩ := e
  have := r.take n (by omega)
  rw [List.take_append_of_le_length (by omega), List.take_of_length_le (by omega)] at this
  exact this
set_option maxRecDepth 100000 in
set_option maxHeartbeats 2000000 in
theorem begun (q : Option Addr) (n cap : Nat) (O : List Opv) (w : World) (hO : Script w q n cap O) (hn : n + 1 ≤ Few) (hs : sumN O ≤ Few) :
    Calls Try.prog 17 #[.slice q n cap] w fun x w' => ∃ A, x = .returned (.pointer (some ⟨w.heap.size, 0, none⟩)) ∧ HD w w' w.heap.size A ∧ Small A (sumN O) n := by
  have H : Hid (Script w q n cap O ∧ n + 1 ≤ Few ∧ sumN O ≤ Few) := ⟨hO, hn, hs⟩
  have hol := hO.length
  have hr := hO.room
  have hsm := hO.small
  unfold maxLen at hsm
  clear hO hn hs
  go_enter Try.func17, Try.ntmps17
  go_wp2_with fail
  refine (hNew w).mono ?_
  rintro x w1 ⟨rfl, h1⟩
  have X1 : Hid (HD w w1 w.heap.size A1) := h1
  clear h1
  go_wp2_with fail
  go_loopw [4] (fun x wr => ∃ (i : Nat) (A : AB), x = .int .i64 (i : Int) ∧ i ≤ n ∧ Hid (HD w wr w.heap.size A ∧ Small A (sumN (O.take i)) i)) (fun x _ => n - (intOf x).toNat)
  case atStart => exact ⟨0, A1, rfl, Nat.zero_le _, X1.out, ⟨Nat.zero_le _, Nat.zero_le _, Nat.zero_le _, Nat.zero_le _, rfl, rfl⟩⟩
  case round =>
    obtain ⟨i, A, rfl, hi, S⟩ := hrel
    by_cases hlt : i < n
    · have i1 : (i : Int) < (n : Int) := by omega
      obtain ⟨o, ho⟩ : ∃ o, O[i]? = some o := ⟨_, List.getElem?_eq_getElem (by omega)⟩
      obtain ⟨b, off, rfl, hc⟩ := H.out.1.cells (by omega)
      have f : ∀ j v, o.cs[j]? = some v → wr.cell? ⟨b, off + i * 9 + j, none⟩ = some v := fun j v hv => S.out.1.kept.cell (hc i o ho j v hv) (fun z => z)
      have f0 : wr.cell? ⟨b, off + i * 9, none⟩ = some (.int .i64 o.kind) := f 0 _ rfl
      have SN : Hid (sumN (O.take (i + 1)) = sumN (O.take i) + o.n ∧ sumN (O.take i) ≤ Few ∧ i ≤ Few ∧ o.n ≤ Few ∧ o.n ≤ Lim ∧ Reads wr o.a o.n o.c o.l) := by
        have q1 := sumN_take ho
        have q2 := sumN_le O i
        have q3 := sumN_le O (i + 1)
        have q4 := H.out.2
        refine ⟨q1, by omega, by omega, by omega, by unfold Lim; unfold Few at q4; omega, (H.out.1.reads o (List.mem_of_getElem? ho)).kept' S.out.1.kept (fun _ _ z => z)⟩
      by_cases hk : 1 ≤ o.kind ∧ o.kind ≤ 4
      · have k1 : (1 : Int) ≤ o.kind := hk.1
        have k2 : o.kind ≤ 4 := hk.2
        have f1 : wr.cell? ⟨b, off + i * 9 + 1, none⟩ = some (.int .i64 o.D) := f 1 _ rfl
        have f2 : wr.cell? ⟨b, off + i * 9 + 2, none⟩ = some (.int .i64 o.slot) := f 2 _ rfl
        have f3 : wr.cell? ⟨b, off + i * 9 + 3, none⟩ = some (.slice o.a o.n o.c) := f 3 _ rfl
        have f4 : wr.cell? ⟨b, off + i * 9 + 4, none⟩ = some (.int .i64 o.N) := f 4 _ rfl
        have f5 : wr.cell? ⟨b, off + i * 9 + 5, none⟩ = some (.bool o.done) := f 5 _ rfl
        have f6 : wr.cell? ⟨b, off + i * 9 + 6, none⟩ = some o.v0 := f 6 _ rfl
        have f7 : wr.cell? ⟨b, off + i * 9 + 7, none⟩ = some o.v1 := f 7 _ rfl
        have f8 : wr.cell? ⟨b, off + i * 9 + 8, none⟩ = some o.v2 := f 8 _ rfl
        have HK : Hid (1 ≤ o.kind ∧ o.kind ≤ 4) := hk
        have GG : Hid (∀ V : World, Kept (fun _ => False) w V → V.cell? ⟨b, off + i * 9, none⟩ = some (.int .i64 o.kind) ∧ V.cell? ⟨b, off + i * 9 + 1, none⟩ = some (.int .i64 o.D) ∧ V.cell? ⟨b, off + i * 9 + 2, none⟩ = some (.int .i64 o.slot) ∧ V.cell? ⟨b, off + i * 9 + 3, none⟩ = some (.slice o.a o.n o.c) ∧ V.cell? ⟨b, off + i * 9 + 4, none⟩ = some (.int .i64 o.N) ∧ V.cell? ⟨b, off + i * 9 + 5, none⟩ = some (.bool o.done) ∧ V.cell? ⟨b, off + i * 9 + 6, none⟩ = some o.v0 ∧ V.cell? ⟨b, off + i * 9 + 7, none⟩ = some o.v1 ∧ V.cell? ⟨b, off + i * 9 + 8, none⟩ = some o.v2) := fun V KV => by
          have g : ∀ j v, o.cs[j]? = some v → V.cell? ⟨b, off + i * 9 + j, none⟩ = some v := fun j v hv => KV.cell (hc i o ho j v hv) (fun z => z)
          exact ⟨g 0 _ rfl, g 1 _ rfl, g 2 _ rfl, g 3 _ rfl, g 4 _ rfl, g 5 _ rfl, g 6 _ rfl, g 7 _ rfl, g 8 _ rfl⟩
        have KD : Hid (Kept (fun _ => False) wr wr.drew) := (Kept.refl (fun _ => False) wr).drew
        clear f hc ho hk
        go_wp2_with fail
        go_region_held3 (fun w' => w'.cell? ⟨b, off + i * 9, none⟩ = some (.int .i64 o.kind) ∧ w'.cell? ⟨b, off + i * 9 + 1, none⟩ = some (.int .i64 o.D) ∧ w'.cell? ⟨b, off + i * 9 + 2, none⟩ = some (.int .i64 o.slot) ∧ w'.cell? ⟨b, off + i * 9 + 3, none⟩ = some (.slice o.a o.n o.c) ∧ w'.cell? ⟨b, off + i * 9 + 4, none⟩ = some (.int .i64 o.N) ∧ w'.cell? ⟨b, off + i * 9 + 5, none⟩ = some (.bool o.done) ∧ w'.cell? ⟨b, off + i * 9 + 6, none⟩ = some o.v0 ∧ w'.cell? ⟨b, off + i * 9 + 7, none⟩ = some o.v1 ∧ w'.cell? ⟨b, off + i * 9 + 8, none⟩ = some o.v2) (first | go_keep)
          (first
            | (go_at_call 23; refine (act23 w w2 w.heap.size A (sumN (O.take i)) i o HK.out p2 o.n k2' o.l X2.out.1 S.out.2 SN.out.2.1 SN.out.2.2.1 X2.out.2.1 SN.out.2.2.2.1 X2.out.2.2).mono ?_; rintro x w3 ⟨v3, A3', rfl, q1, q2⟩
               have X3 : Hid (HD w w3 w.heap.size A3' ∧ Small A3' (sumN (O.take (i + 1))) (i + 1)) := ⟨q1, by rw [SN.out.1]; exact q2⟩
               obtain ⟨z0, z1, z2, z3, z4, z5, z6, z7, z8⟩ := GG.out w3 X3.out.1.kept
               clear q1 q2)
            | (go_at_call 10; refine (wide o.a o.n o.c o.l wr.drew (SN.out.2.2.2.2.2.kept' KD.out (fun _ _ z => z)) SN.out.2.2.2.2.1).mono ?_; rintro x w2 ⟨p2, k2', rfl, o2, K2⟩
               have X2 : Hid (HD w w2 w.heap.size A ∧ Reads w2 p2 o.n k2' o.l ∧ ∀ k, blockOf p2 = some k → k ≠ w.heap.size) := by
                 have K := KD.out.trans K2 (fun _ _ z => z)
                 refine ⟨S.out.1.quiet K, wide_reads SN.out.2.2.2.2.2.length SN.out.2.2.2.2.2.bytes o2, fun k hk z => ?_⟩
                 have q1 := (own_lt o2 k hk).1
                 rw [drew_size] at q1
                 obtain ⟨d, i1, _⟩ := S.out.1.ex
                 have := block_lt i1.blk
                 omega
               obtain ⟨y0, y1, y2, y3, y4, y5, y6, y7, y8⟩ := GG.out w2 X2.out.1.kept
               clear o2 K2)
            | fail)
        go_wp2_with fail
        go_roundw
        case rel => exact ⟨i + 1, A3', by go_num, by omega, X3.out⟩
        case measure => simp [intOf]; omega
      · clear f hc ho
        have S2 : Hid (HD w wr w.heap.size A ∧ Small A (sumN (O.take (i + 1))) (i + 1)) := ⟨S.out.1, S.out.2.mono (by rw [SN.out.1]; omega) (by omega)⟩
        by_cases k1 : (1 : Int) ≤ o.kind
        · have k2 : ¬ o.kind ≤ 4 := fun z => hk ⟨k1, z⟩
          clear hk
          go_wp2_with fail
          go_roundw
          case rel => exact ⟨i + 1, A, by go_num, by omega, S2.out⟩
          case measure => simp [intOf]; omega
        · clear hk
          go_wp2_with fail
          go_roundw
          case rel => exact ⟨i + 1, A, by go_num, by omega, S2.out⟩
          case measure => simp [intOf]; omega
    · have he : i = n := by omega
      have i1 : ¬ (i : Int) < (n : Int) := by omega
      go_wp2_with fail
      go_ret
      have := S.out.2
      rw [he, List.take_of_length_le (by omega)] at this
      exact ⟨rfl, A, S.out.1, this⟩
end Go.Proofs.Ytbnnmelkbjkkjaa
