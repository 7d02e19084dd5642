import Derived.Test.YtginpoofeliimabLHope
import Derived.Test.YtginpoofeliimabLPop
namespace Go.Proofs.Ytginpoofeliimab
open Go.RowKit 

theorem wait_pc (f : Fd) (i : Nat) {m : Nat} (h : f.n ≤ m) : f.wait i = pcN m (f.behindW i) := by
  have e : ((List.range f.n).filter fun j => f.ahd i j).length = pcN f.n (f.behindW i) := by
    unfold pcN Fd.behindW
    congr 1
    refine List.filter_congr fun j hj => ?_
    rw [wrd_bit, decide_eq_true (List.mem_range.1 hj), Bool.true_and]
  unfold Fd.wait
  rw [e]
  obtain ⟨k, rfl⟩ : ∃ k, m = f.n + k := ⟨m - f.n, by omega⟩
  rw [pcN_add, Nat.div_eq_of_lt (show f.behindW i < 2 ^ f.n from wrd_lt _ _)]
  unfold pcN
  have : (List.range k).filter (fun j => (0 : Nat).testBit j) = [] := by
    rw [List.filter_eq_nil_iff]
    intro j _
    simp
  rw [this]
  rfl
theorem ones {x : Nat} (hx : x < 16777216) (w : World) : Calls Try.prog 36 #[.int .u32 (x : Int)] w fun o w' => o = .returned (.int .i64 ((pcN 24 x : Nat) : Int)) ∧ Kept (fun _ => False) w w' := by
  refine (onesCount hx w).mono ?_
  rintro o w' ⟨rfl, h1, h2, h3, h4⟩
  exact ⟨rfl, h2, h4, h3, by rw [h1]; exact Nat.le_refl _, fun k _ _ => by rw [h1]⟩
set_option maxRecDepth 100000 in
theorem waitFor {w : World} {fb : Nat} {f : Fd} {ms : List Cm} {cp : Option Addr} {cc vb ab bb lb mb : Nat} (h : SF w fb f ms cp cc vb ab bb lb mb) (i : Nat) (hi : i < f.n) :
    Calls Try.prog 35 #[.pointer (some ⟨fb, 0, none⟩), .int .i64 (i : Int)] w fun o w' => o = .returned (.int .i64 ((f.wait i : Nat) : Int)) ∧ Kept (fun _ => False) w w' := by
  have n24 := h.n24
  have f4 := cell_blk h.blk 4 (v := .slice (some ⟨bb, 0, none⟩) f.n f.n) rfl
  have b1 := h.beh i hi
  have CO : Hid (Calls Try.prog 36 #[.int .u32 ((f.behindW i : Nat) : Int)] w fun o w' => o = .returned (.int .i64 ((f.wait i : Nat) : Int)) ∧ Kept (fun _ => False) w w') := by
    have := ones (x := f.behindW i) (lt32 (wrd_lt _ _) n24) w
    rw [← wait_pc f i n24] at this
    exact this
  obtain ⟨n, hn⟩ : ∃ n, n = f.n := ⟨_, rfl⟩
  rw [← hn] at f4 n24 hi
  obtain ⟨bw, hbw⟩ : ∃ bw, bw = f.behindW i := ⟨_, rfl⟩
  rw [← hbw] at b1 CO
  obtain ⟨wt, hwt⟩ : ∃ wt, wt = f.wait i := ⟨_, rfl⟩
  rw [← hwt] at CO ⊢
  have i1 : (i : Int) < (n : Int) := by omega
  clear h hn hbw hwt
  go_enter Try.func35, Try.ntmps35
  go_wp2_with fail
  refine CO.out.mono ?_
  rintro o w2 ⟨rfl, K2⟩
  have G : Hid (Kept (fun _ => False) w w2) := K2
  clear K2
  go_wp2_with fail
  go_ret
  exact ⟨rfl, G.out⟩
end Go.Proofs.Ytginpoofeliimab
