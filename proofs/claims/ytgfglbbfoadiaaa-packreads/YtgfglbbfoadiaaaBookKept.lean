import Derived.Test.YtgfglbbfoadiaaaHold
namespace Go.Proofs.Ytgfglbbfoadiaaa
open Go.RowKit

/-- What kept reads of one list: it is nil, or all of it is the mark. -/
structure RowK (w : World) (a : Option Addr) (H k : Nat) (p : Option Addr) (n c m : Nat) : Prop where
  row : ∃ g, a = some ⟨g, 0, none⟩ ∧ w.cell? ⟨g, k, none⟩ = some (.slice p n c)
  lt : k < H
  cells : ∀ i, i < n → ∃ g, p = some ⟨g, 0, none⟩ ∧ w.cell? ⟨g, i, none⟩ = some (.int .u8 (m : Int))
  big : n ≤ 9223372036854775807
theorem RowK.of {base : Nat} {w : World} {a : Option Addr} {H k cL : Nat} {vs : List Value} {p : Option Addr} {n c m : Nat} (hr : w.ownsRow base 28 1 (.slice a H cL) H vs) (hk : k < H) (hv : vs[k]? = some (.slice p n c)) (ho : w.ownsRow base 5 1 (.slice p n c) n (reps n m)) : RowK w a H k p n c m := by
  refine ⟨?_, hk, fun i hi => ?_, ?_⟩
  · obtain ⟨g, cur, rfl, _⟩ := owns_some hr (by omega)
    exact ⟨g, rfl, (owns_cell hr hk hv).1⟩
  · obtain ⟨g, cur, rfl, _⟩ := owns_some ho (by omega)
    refine ⟨g, rfl, (owns_cell ho hi ?_).1⟩
    unfold reps cellsOf
    rw [List.map_replicate, List.getElem?_replicate, if_pos hi]
  · rcases Nat.eq_zero_or_pos n with q | q
    · omega
    · obtain ⟨g, cur, _, _, _, _, _, h1, h2⟩ := owns_some ho q
      unfold maxLen at h2
      omega
set_option maxRecDepth 100000 in
set_option maxHeartbeats 2000000 in
theorem kept_any (base K : Nat) (hs : List Held) (w : World) (hB : IsB base w K hs) (h24 : hs.length * 24 ≤ 140737488355328) :
    Calls Try.prog 25 #[.pointer (some ⟨K, 0, none⟩)] w fun x w' => x = .returned (.bool true) ∧ w' = w := by
  obtain ⟨vL, vM, hb, hl, hm, hd⟩ := hB.ex
  obtain ⟨aL, cL, rfl⟩ := owns_form hl
  obtain ⟨aM, cM, rfl⟩ := owns_form hm
  obtain ⟨H, hH⟩ : ∃ H, hs.length = H := ⟨_, rfl⟩
  have rows : ∀ k, k < H → ∃ p n c q d, RowK w aL H k p n c (mark k) ∧ RowK w aM H k q (n + 70) d (mark k) := fun k hk => by
    have hk2 : k < hs.length := by omega
    have hh := hB.held k hk2
    obtain ⟨⟨p, n, c, q, d⟩, he⟩ : ∃ h, hs[k] = h := ⟨_, rfl⟩
    rw [he] at hh
    refine ⟨p, n, c, q, d, ?_, ?_⟩
    · rw [hH] at hl
      exact RowK.of hl hk (by rw [List.getElem?_map, List.getElem?_eq_getElem hk2, he]; rfl) hh.l
    · rw [hH] at hm
      exact RowK.of hm hk (by rw [List.getElem?_map, List.getElem?_eq_getElem hk2, he]; rfl) hh.x
  have RW : Hid (∀ k, k < H → ∃ p n c q d, RowK w aL H k p n c (mark k) ∧ RowK w aM H k q (n + 70) d (mark k)) := rows
  rw [hH] at hb h24
  have c0 := cell_blk hb 0 (v := .slice aL H cL) rfl
  have c1 := cell_blk hb 1 (v := .slice aM H cM) rfl
  clear hB hb hl hm hd hH rows
  go_enter Try.func25, Try.ntmps25
  go_wp2_with fail
  go_loop [3] (fun x => ∃ k : Nat, k ≤ H ∧ x = .int .i64 (k : Int)) (fun x => H - (intOf x).toNat)
  case atStart => exact ⟨0, by omega, rfl⟩
  case round =>
    obtain ⟨k, hk, rfl⟩ := hrel
    by_cases hlt : k < H
    · obtain ⟨p, n, c, q, d, A, M⟩ := RW.out k hlt
      obtain ⟨gL, rfl, r0⟩ := A.row
      obtain ⟨gM, rfl, r1⟩ := M.row
      have AH : Hid (∀ i, i < n → ∃ g, p = some ⟨g, 0, none⟩ ∧ w.cell? ⟨g, i, none⟩ = some (.int .u8 ((mark k : Nat) : Int))) := A.cells
      have MHH : Hid (∀ i, i < n + 70 → ∃ g, q = some ⟨g, 0, none⟩ ∧ w.cell? ⟨g, i, none⟩ = some (.int .u8 ((mark k : Nat) : Int))) := M.cells
      have nb := M.big
      have nb0 := A.big
      have k1 : (k : Int) < (H : Int) := by omega
      obtain ⟨m, hm⟩ : ∃ m, mark k = m := ⟨_, rfl⟩
      have mm : ((k : Int) * 5 + 3) % 256 = (m : Int) := by rw [← hm]; unfold mark; omega
      rw [hm] at AH MHH
      obtain ⟨N, hN⟩ : ∃ N, n + 70 = N := ⟨_, rfl⟩
      rw [hN] at r1 MHH nb
      clear A M hm hN
      go_wp2_with fail
      go_loop [5] (fun x => ∃ i : Nat, i ≤ n ∧ x = .int .i64 (i : Int)) (fun x => n - (intOf x).toNat)
      case atStart => exact ⟨0, by omega, rfl⟩
      case round =>
        obtain ⟨i, hi, rfl⟩ := hrel
        by_cases hli : i < n
        · obtain ⟨g, rfl, ci⟩ := AH.out i hli
          have i1 : (i : Int) < (n : Int) := by omega
          go_wp2_with fail
          go_round
          case rel => exact ⟨i + 1, by omega, by go_num⟩
          case measure => simp [intOf]; omega
        · have hn : n = i := by omega
          subst hn
          clear hli hi
          go_wp2_with fail
          go_loop [6] (fun x => ∃ i : Nat, i ≤ N ∧ x = .int .i64 (i : Int)) (fun x => N - (intOf x).toNat)
          case atStart => exact ⟨0, by omega, rfl⟩
          case round =>
            obtain ⟨i, hi, rfl⟩ := hrel
            by_cases hli : i < N
            · obtain ⟨g, rfl, ci⟩ := MHH.out i hli
              have i1 : (i : Int) < (N : Int) := by omega
              go_wp2_with fail
              go_round
              case rel => exact ⟨i + 1, by omega, by go_num⟩
              case measure => simp [intOf]; omega
            · have hn : N = i := by omega
              subst hn
              clear hli hi
              go_wp2_with fail
              go_round
              case rel => exact ⟨k + 1, by omega, by go_num⟩
              case measure => simp [intOf]; omega
    · have hk' : H = k := by omega
      subst hk'
      clear hlt hk
      go_wp2_with fail
      go_ret
      exact ⟨rfl, rfl⟩
end Go.Proofs.Ytgfglbbfoadiaaa
