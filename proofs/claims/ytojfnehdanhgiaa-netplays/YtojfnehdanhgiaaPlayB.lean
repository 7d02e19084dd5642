import Derived.Test.YtojfnehdanhgiaaPlayA
namespace Go.Proofs.Ytojfnehdanhgiaa
open Go.RowKit

set_option maxRecDepth 100000 in
set_option maxHeartbeats 1000000 in
/-- roomy: the bytes, with one more in their spare room. -/
theorem roomy (a : Option Addr) (len cap : Nat) (l : List Nat) (w : World) (r : Reads w a len cap l) (hs : len + 1 ≤ 140737488355328) :
    Calls Try.prog 32 #[.slice a len cap] w fun x w' => ∃ g c, x = .returned (.slice (some ⟨g, 0, none⟩) len c) ∧ w'.ownsRow w.heap.size 5 1 (.slice (some ⟨g, 0, none⟩) (len + 1) c) (len + 1) (cellsOf (l ++ [90])) ∧ Kept (fun _ => False) w w' := by
  have SR : Hid (Src Try.prog 1 30 (.slice a len cap) len (cellsOf l) w ∧ len + 1 ≤ 140737488355328) := ⟨r.src, hs⟩
  clear r hs
  go_enter Try.func32, Try.ntmps32
  go_wp2_with (first
    | (at_builtin; refine wpList_append_bytes _ rfl (.tmp 4) (.tmp 5) rfl w.heap.size (.slice none 0 0) 0 [] rfl (World.ownsRow_nil _ _ _ _) (.slice a len cap) len l rfl SR.out.1 (by have := SR.out.2; omega) (Nat.le_refl _) ?_; intro p1 c1 w1 ho hg nr; rw [Nat.zero_add] at ho ⊢; rw [List.nil_append] at ho
       have K1 : Kept (fun _ => False) w w1 := (Kept.refl (fun _ => False) w).grown hg.out (fun k hk q => by simp [Value.ownBlock] at q)
       have H1 : Hid ((w1.alloc (.cells #[.int .u8 90] 5)).ownsRow w.heap.size 5 1 (.slice p1 len c1) len (cellsOf l) ∧ Kept (fun _ => False) w (w1.alloc (.cells #[.int .u8 90] 5)) ∧ Src Try.prog 1 30 (.slice (some ⟨w1.heap.size, 0, none⟩) 1 1) 1 (cellsOf [90]) (w1.alloc (.cells #[.int .u8 90] 5)) ∧ w.heap.size ≤ (w1.alloc (.cells #[.int .u8 90] 5)).heap.size) := by
         have k2 : Kept (fun _ => False) w (w1.alloc (.cells #[.int .u8 90] 5)) := K1.alloc _
         refine ⟨(alloc_kept0 w1 _).owns ho.out (fun _ _ q => q), k2, Src.ofSlice _ Try.underlying30 ⟨w1.heap.size, 0, none⟩ 1 1 _ rfl (fun j u hj => ?_) (cellsOf_one _), k2.size⟩
         rw [Addr.add_none, Nat.zero_add, cell_of_row _ _ j _ 5 (0, 0) (alloc_new _ _)]
         simpa [cellsOf] using hj
       clear ho hg nr K1)
    | (at_builtin; refine wpList_append_bytes _ rfl (.tmp 7) (.tmp 8) rfl w.heap.size (.slice p1 len c1) len l rfl H1.out.1 (.slice (some ⟨w1.heap.size, 0, none⟩) 1 1) 1 [90] rfl H1.out.2.2.1 SR.out.2 H1.out.2.2.2 ?_; intro p2 c2 w2 ho hg nr
       have K2 : Hid (Kept (fun _ => False) w w2) := H1.out.2.1.grown hg.out (fun k hk z => by have := (H1.out.1.lt k z).1; omega)
       have O2 : Hid (w2.ownsRow w.heap.size 5 1 (.slice p2 (len + 1) c2) (len + 1) (cellsOf (l ++ [90]))) := ho
       obtain ⟨r1, r2⟩ := own_room ho.out
       unfold maxLen at r2
       have g2 : ∃ g, p2 = some ⟨g, 0, none⟩ := by
         rcases O2.out.2 with ⟨e0, e1⟩ | ⟨g, cp, cur, e0, _⟩
         · omega
         · simp at e0; exact ⟨g, e0.1⟩
       obtain ⟨g, rfl⟩ := g2
       clear ho hg nr)
    | fail)
  go_ret
  exact ⟨g, c2, rfl, O2.out, K2.out⟩
set_option maxRecDepth 100000 in
set_option maxHeartbeats 1000000 in
theorem untouched (g len c : Nat) (l : List Nat) (a : Option Addr) (cap : Nat) (w : World) (ho : w.ownsRow 0 5 1 (.slice (some ⟨g, 0, none⟩) (len + 1) c) (len + 1) (cellsOf (l ++ [90]))) (r : Reads w a len cap l) :
    Calls Try.prog 33 #[.slice (some ⟨g, 0, none⟩) len c, .slice a len cap] w fun x w' => x = .returned (.bool true) ∧ Kept (fun _ => False) w w' := by
  obtain ⟨r1, r2⟩ := own_room ho
  have hl := r.length
  have hb : ∀ c ∈ l ++ [90], c < 256 := fun c hc => by
    rcases List.mem_append.1 hc with z | z
    · exact r.bytes c z
    · rw [List.mem_singleton.1 z]; omega
  obtain ⟨g', e, cur⟩ := own_byte ho hb (by omega)
  cases e
  have hr := r.room
  have hs := r.small
  have R1 : Reads w (some ⟨g, 0, none⟩) len c l := by
    refine ⟨hl, by omega, r2, r.bytes, fun _ => ⟨g, 0, rfl, fun i hi => ?_⟩⟩
    rw [Nat.zero_add, (cur i (by omega)).1]
    have : (l ++ [90]).getD i 0 = l.getD i 0 := by rw [List.getD_eq_getElem?_getD, List.getD_eq_getElem?_getD, List.getElem?_append_left (by omega)]
    rw [this]
  have s1 := R1.string
  have s2 := r.string
  have d0 : w.cell? ⟨g, len, none⟩ = some (.int .u8 90) := by
    rw [(cur len (by omega)).1]
    have : (l ++ [90]).getD len 0 = 90 := by rw [List.getD_eq_getElem?_getD, List.getElem?_append_right (by omega)]; simp [hl]
    rw [this]; rfl
  have w1 : IntKind.i64.wrap ((len : Int) + 1) = (len : Int) + 1 := by unfold maxLen at hs; rw [IntKind.wrap_i64]; unfold maxLen at r2; omega
  have i1 : len + 1 ≤ c := r1
  have i2 : (len : Int) < (len : Int) + 1 := by omega
  unfold maxLen at r2 hs
  clear ho r R1 cur hb
  go_enter Try.func33, Try.ntmps33
  go_wp2_with fail
  go_ret
  exact ⟨by simp, Kept.refl _ _⟩
/-- What Take tells of that number. -/
def zeroP : Pk := ⟨0, 0, 0, 0, [], false⟩
def aTake (s : Option (Nat × Option Nat)) (ps : List Pk) (i : Int) : Pk := if s.isSome = true ∧ hasI i ps.length = true then (ps[i.toNat]?).getD zeroP else zeroP
def STook (ty base : Nat) (w : World) (v : Value) (s : Option (Nat × Option Nat)) (ps : List Pk) (i : Int) (x : Ending) (w' : World) : Prop := ∃ (e : Ent) (s' : Option (Nat × Option Nat)), x = .returned (.tuple #[.agg #[.int .i64 e.p.fk, .int .i64 e.p.fi, .int .i64 e.p.tk, .int .i64 e.p.ti, .slice e.a e.len e.cap, .bool e.p.lost], .int .i64 (ansOf s (aDrop ps i))]) ∧ e.p = aTake s ps i ∧ Good 0 w' e ∧ NSide ty base w' v s' (psOf s (aDrop ps i) ps) ∧ SMv w w' s s'
theorem good_zero (w : World) : Good 0 w ⟨zeroP, none, 0, 0⟩ := ⟨World.ownsRow_nil _ _ _ _, fun _ h => by simp [zeroP] at h, Nat.zero_le _⟩
theorem side_take67 {base : Nat} {w : World} {v : Value} {s : Option (Nat × Option Nat)} {ps : List Pk} (i : Int) (h : NSide 67 base w v s ps) : Calls Try.prog 12 #[v, .int .i64 i] w (STook 67 base w v s ps i) := by
  rcases h with ⟨rfl, rfl⟩ | ⟨C, g, rfl, rfl, n⟩
  · refine (take_nil i w).mono ?_
    rintro x w' ⟨rfl, K⟩
    exact ⟨⟨zeroP, none, 0, 0⟩, none, rfl, rfl, good_zero _, .inl ⟨rfl, rfl⟩, SMv.of_kept K none⟩
  · cases hh : hasI i ps.length with
    | false =>
      refine (take_of_none base C g ps i hh w n).mono ?_
      rintro x w' ⟨rfl, K⟩
      have e1 : aDrop ps i = (ps, 50) := by rw [aDrop, if_neg (by simp [hh])]
      refine ⟨⟨zeroP, none, 0, 0⟩, some (C, g), by rw [e1]; rfl, by simp [aTake, hh], good_zero _, .inr ⟨C, g, rfl, rfl, ?_⟩, SMv.of_kept K _⟩
      rw [e1]
      exact n.kept0 K
    | true =>
      obtain ⟨k, rfl, hk⟩ := hasI_nat hh
      refine (take_of base C g ps k hk w n).mono ?_
      rintro x w' ⟨e, rfl, hp, ge, n', m⟩
      have e1 : aDrop ps (k : Int) = (ps.take k ++ ps.drop (k + 1), 0) := by rw [aDrop, if_pos hh, Int.toNat_natCast]
      refine ⟨e, some (C, g), by rw [e1]; rfl, by simp [aTake, hh, hp], ge.mono (Nat.zero_le _), .inr ⟨C, g, rfl, rfl, ?_⟩, m.smv⟩
      rw [e1]
      exact n'
theorem side_take71 {base : Nat} {w : World} {v : Value} {s : Option (Nat × Option Nat)} {ps : List Pk} (i : Int) (h : NSide 71 base w v s ps) (hbase : base ≤ w.heap.size) (hb : ps.length ≤ Big) : Calls Try.prog 34 #[v, .int .i64 i] w (STook 71 base w v s ps i) := by
  rcases h with ⟨rfl, rfl⟩ | ⟨C, g, rfl, rfl, n⟩
  · refine (rtake_nil i w).mono ?_
    rintro x w' ⟨rfl, K⟩
    exact ⟨⟨zeroP, none, 0, 0⟩, none, rfl, rfl, good_zero _, .inl ⟨rfl, rfl⟩, SMv.of_kept K none⟩
  · cases hh : hasI i ps.length with
    | false =>
      obtain ⟨q, cap, c0⟩ := n.cell
      refine (rtake_none C q ps.length cap i w c0 hh).mono ?_
      rintro x w' ⟨rfl, K⟩
      have e1 : aDrop ps i = (ps, 50) := by rw [aDrop, if_neg (by simp [hh])]
      refine ⟨⟨zeroP, none, 0, 0⟩, some (C, g), by rw [e1]; rfl, by simp [aTake, hh], good_zero _, .inr ⟨C, g, rfl, rfl, ?_⟩, SMv.of_kept K _⟩
      rw [e1]
      exact n.kept0 K
    | true =>
      obtain ⟨k, rfl, hk⟩ := hasI_nat hh
      refine (rtake_of base C g ps k hk w n hbase hb).mono ?_
      rintro x w' ⟨e, g', rfl, hp, ge, n', m⟩
      have e1 : aDrop ps (k : Int) = (ps.take k ++ ps.drop (k + 1), 0) := by rw [aDrop, if_pos hh, Int.toNat_natCast]
      refine ⟨e, some (C, g'), by rw [e1]; rfl, by simp [aTake, hh, hp], ge.mono (Nat.zero_le _), .inr ⟨C, g', rfl, rfl, ?_⟩, m.smv⟩
      rw [e1]
      exact n'
/-- How many it tells; what it tells. -/
def lenOf (s : Option (Nat × Option Nat)) (ps : List Pk) : Nat := if s.isSome then ps.length else 0
def flyOf (s : Option (Nat × Option Nat)) (ps : List Pk) : List Pk := if s.isSome then ps else []
theorem side_len67 {base : Nat} {w : World} {v : Value} {s : Option (Nat × Option Nat)} {ps : List Pk} (h : NSide 67 base w v s ps) : Calls Try.prog 19 #[v] w fun x w' => x = .returned (.int .i64 (lenOf s ps : Int)) ∧ w' = w := by
  rcases h with ⟨rfl, rfl⟩ | ⟨C, g, rfl, rfl, n⟩
  · exact nLen_nil w
  · exact len_of base C g ps w n
theorem side_len71 {base : Nat} {w : World} {v : Value} {s : Option (Nat × Option Nat)} {ps : List Pk} (h : NSide 71 base w v s ps) : Calls Try.prog 24 #[v] w fun x w' => x = .returned (.int .i64 (lenOf s ps : Int)) ∧ w' = w := by
  rcases h with ⟨rfl, rfl⟩ | ⟨C, g, rfl, rfl, n⟩
  · exact rLen_nil w
  · obtain ⟨q, cap, c⟩ := n.cell
    exact rLen C q ps.length cap w c
theorem side_fly67 {base : Nat} {w : World} {v : Value} {s : Option (Nat × Option Nat)} {ps : List Pk} (h : NSide 67 base w v s ps) (hb : ps.length ≤ Big) : Calls Try.prog 10 #[v] w fun x w' => ∃ p c R, x = .returned (.slice p (lenOf s ps) c) ∧ R.map Ent.p = flyOf s ps ∧ IsL w.heap.size w' p (lenOf s ps) c R ∧ Kept (fun _ => False) w w' := by
  rcases h with ⟨rfl, rfl⟩ | ⟨C, g, rfl, rfl, n⟩
  · refine (flight_nil w).mono ?_
    rintro x w' ⟨rfl, rfl⟩
    exact ⟨none, 0, [], rfl, rfl, ⟨World.ownsRow_nil _ _ _ _, fun _ h => by simp at h⟩, Kept.refl _ _⟩
  · refine (flight_of base C g ps w n hb).mono ?_
    rintro x w' ⟨p, c, R, rfl, hm, hL, _, K⟩
    exact ⟨p, c, R, rfl, hm, hL, K⟩
theorem side_fly71 {base : Nat} {w : World} {v : Value} {s : Option (Nat × Option Nat)} {ps : List Pk} (h : NSide 71 base w v s ps) (hb : ps.length ≤ Big) : Calls Try.prog 25 #[v] w fun x w' => ∃ p c R, x = .returned (.slice p (lenOf s ps) c) ∧ R.map Ent.p = flyOf s ps ∧ IsL w.heap.size w' p (lenOf s ps) c R ∧ Kept (fun _ => False) w w' := by
  rcases h with ⟨rfl, rfl⟩ | ⟨C, g, rfl, rfl, n⟩
  · refine (rflight_nil w).mono ?_
    rintro x w' ⟨rfl, rfl⟩
    exact ⟨none, 0, [], rfl, rfl, ⟨World.ownsRow_nil _ _ _ _, fun _ h => by simp at h⟩, Kept.refl _ _⟩
  · obtain ⟨q, len, cap, R0, n0, rfl, e⟩ := n
    have hl := len_eq n0.list.length e
    subst hl
    refine (rflight base C q ps.length cap R0 w n0 hb).mono ?_
    rintro x w' ⟨p, c, R, rfl, hm, hL, K⟩
    exact ⟨p, c, R, rfl, by rw [hm, e]; rfl, hL, K⟩
end Go.Proofs.Ytojfnehdanhgiaa
