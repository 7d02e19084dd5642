import Derived.Test.YtbnnmelkbjkkjaaPicks
import Derived.Deep.Cut
namespace Go.Proofs.Ytbnnmelkbjkkjaa
open Go.RowKit

/-- A slot: the bytes that last and the loose acts, where they lie. -/
structure SL where
  a : Option Addr
  n : Nat
  c : Nat
  l : List Nat
  la : Option Addr
  ln : Nat
  lc : Nat
  L : List LA
def SL.Uses (s : SL) (k : Nat) : Prop := blockOf s.a = some k ∨ blockOf s.la = some k ∨ ∃ e ∈ s.L, e.Uses k
def SL.xs (s : SL) : List (Option (List Nat)) := s.L.map LA.x
structure IsS (base : Nat) (w : World) (s : SL) : Prop where
  own : w.ownsRow base 5 1 (.slice s.a s.n s.c) s.n (cellsOf s.l)
  bytes : ∀ c ∈ s.l, c < 256
  lown : w.ownsRow base 90 2 (.slice s.la s.ln s.lc) s.ln (lcells s.L)
  good : ∀ e ∈ s.L, e.Good w
  far : ∀ k, (blockOf s.a = some k ∨ blockOf s.la = some k) → ∀ e ∈ s.L, ¬ e.Uses k
theorem IsS.off {S : Nat → Prop} {base : Nat} {w w' : World} {s : SL} (h : IsS base w s) (K : Kept S w w') (hn : ∀ k, s.Uses k → ¬ S k) : IsS base w' s :=
  ⟨K.owns h.own (fun k hk => hn k (.inl (by rw [← hk]; exact (blockOf_own ..).symm))), h.bytes, K.owns h.lown (fun k hk => hn k (.inr (.inl (by rw [← hk]; exact (blockOf_own ..).symm)))), fun e he => (h.good e he).off K (fun k hk => hn k (.inr (.inr ⟨e, he, hk⟩))), h.far⟩
theorem IsS.kept0 {base : Nat} {w w' : World} {s : SL} (h : IsS base w s) (K : Kept (fun _ => False) w w') : IsS base w' s := h.off K (fun _ _ z => z)
theorem LA.Good.lt {w : World} {e : LA} (h : e.Good w) {k : Nat} (hk : e.Uses k) (hr : e.n ≠ 0 ∨ k = e.o) : k < w.heap.size := by
  obtain ⟨hx, hk⟩ := hk
  obtain ⟨l, hl⟩ := Option.ne_none_iff_exists'.1 hx
  obtain ⟨h0, h1, h2⟩ := h l hl
  rcases hk with z | z
  · rw [z]; exact block_lt h1
  · obtain ⟨b, off, e1, hc⟩ := h2.cells (by rw [← h2.length]; exact h0)
    rw [e1] at z
    simp [blockOf] at z
    subst z
    exact World.block_lt_of_cell? w ⟨b, off + 0, none⟩ (hc 0 (by rw [← h2.length]; exact h0))
theorem IsS.lt {base : Nat} {w : World} {s : SL} (h : IsS base w s) {k : Nat} (hk : s.Uses k) : k < w.heap.size := by
  rcases hk with z | z | ⟨e, he, z⟩
  · exact (own_lt h.own k z).2
  · exact (own_lt h.lown k z).2
  · refine (h.good e he).lt z (.inl fun z2 => ?_)
    obtain ⟨l, hl⟩ := Option.ne_none_iff_exists'.1 z.1
    obtain ⟨h0, _, h2⟩ := h.good e he l hl
    have := h2.length
    omega
theorem IsS.ne {base : Nat} {w : World} {s : SL} (h : IsS base w s) : ∀ k, blockOf s.a = some k → blockOf s.la ≠ some k := fun k h1 h2 => by
  obtain ⟨c1, e1⟩ := own_type h.own k h1
  obtain ⟨c2, e2⟩ := own_type h.lown k h2
  rw [e1] at e2
  simp at e2
theorem IsS.rd {base : Nat} {w : World} {s : SL} (h : IsS base w s) (hb : base ≤ w.heap.size) (hl : s.l.length + weigh s.xs ≤ Lim) : RD base w s.a s.n s.c s.l s.la s.ln s.lc s.L :=
  ⟨h.own, h.bytes, hb, owns_lrd h.lown, h.good, fun k hk => ⟨h.ne k hk, h.far k (.inl hk)⟩, hl⟩
theorem IsS.reads {base : Nat} {w : World} {s : SL} (h : IsS base w s) : Reads w s.a s.n s.c s.l := by
  obtain ⟨a, c, e, r, _⟩ := owns_reads h.own h.bytes
  simp at e
  obtain ⟨e1, e2⟩ := e
  rw [e1, e2]
  exact r
theorem enter60 (vs : Array Value) (w : World) : (callFunc 60 vs).run Try.prog w = .ok (.enter 60 vs) w := by kernel_rfl
theorem enter35 (vs : Array Value) (w : World) : (callFunc 35 vs).run Try.prog w = .ok (.enter 35 vs) w := by kernel_rfl
set_option maxRecDepth 100000 in
set_option maxHeartbeats 1000000 in
/-- A slot's bytes as they are now, as new memory. -/
theorem now (base B o : Nat) (s : SL) (w : World) (h : IsS base w s) (c0 : w.cell? ⟨B, o, none⟩ = some (.slice s.a s.n s.c)) (c1 : w.cell? ⟨B, o + 1, none⟩ = some (.slice s.la s.ln s.lc)) (hl : s.l.length + weigh s.xs ≤ Lim) :
    Calls Try.prog 41 #[.pointer (some ⟨B, o, none⟩)] w fun x w' => ∃ a n c, x = .returned (.slice a n c) ∧ w'.ownsRow w.heap.size 5 1 (.slice a n c) n (cellsOf (redoL s.l s.xs)) ∧ Kept (fun _ => False) w w' := by
  have H : Hid (IsS base w s ∧ s.l.length + weigh s.xs ≤ Lim ∧ s.n ≤ 140737488355328) := by
    refine ⟨h, hl, ?_⟩
    have := len_own h.own
    unfold Lim at hl
    omega
  clear h hl
  go_enter Try.func41, Try.ntmps41
  go_upto_region 1 with fail
  have KD : Hid (Kept (fun _ => False) w w.drew) := (Kept.refl (fun _ => False) w).drew
  go_region_held3 (fun w' => w'.cell? ⟨B, o, none⟩ = some (.slice s.a s.n s.c) ∧ w'.cell? ⟨B, o + 1, none⟩ = some (.slice s.la s.ln s.lc)) (first | go_keep)
    (first
      | (go_at_call 60; refine (redo w.drew.heap.size p1 s.n k1 s.l s.la s.ln s.lc s.L w1 X1.out).mono ?_; rintro x w2 ⟨a2, n2, c2, rfl, o2, K2, _⟩
         have X2 : Hid (w2.ownsRow w.heap.size 5 1 (.slice a2 n2 c2) n2 (cellsOf (redoL s.l s.xs)) ∧ Kept (fun _ => False) w w2) := ⟨o2, XK.out.trans K2 (fun k hk z => by have := (own_lt X1.out.own k z).1; rw [drew_size] at this; omega)⟩
         have d0 := X2.out.2.cell c0 (fun z => z)
         have d1 := X2.out.2.cell c1 (fun z => z)
         clear o2 K2)
      | (go_at_call 35; refine (clone s.a s.n s.c s.l w.drew (H.out.1.reads.kept' KD.out (fun _ _ z => z)) H.out.2.2).mono ?_; rintro x w1 ⟨p1, k1, rfl, o1, K1⟩
         have KW : Kept (fun _ => False) w w1 := KD.out.trans K1 (fun _ _ z => z)
         have XK : Hid (Kept (fun _ => False) w w1) := KW
         have X1 : Hid (RD w.drew.heap.size w1 p1 s.n k1 s.l s.la s.ln s.lc s.L) := by
           have h1 := H.out.1.kept0 KW
           refine ⟨o1, H.out.1.bytes, KW.size, owns_lrd h1.lown, h1.good, fun k hk => ?_, H.out.2.1⟩
           have hk2 := (own_lt o1 k hk).1
           rw [drew_size] at hk2
           exact ⟨fun z => by have := (own_lt H.out.1.lown k z).2; omega, fun e he z => by have := H.out.1.lt (k := k) (.inr (.inr ⟨e, he, z⟩)); omega⟩
         have e0 := KW.cell c0 (fun z => z)
         have e1 := KW.cell c1 (fun z => z)
         clear o1 K1 KW)
      | fail)
  go_wp2_with fail
  go_ret
  exact ⟨a2, n2, c2, rfl, X2.out⟩
end Go.Proofs.Ytbnnmelkbjkkjaa
