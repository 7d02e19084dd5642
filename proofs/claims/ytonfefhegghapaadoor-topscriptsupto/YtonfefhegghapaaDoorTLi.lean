import Derived.Test.YtonfefhegghapaaDoorTStJ
import Derived.Test.YtonfefhegghapaaDoorTCk
namespace Go.Proofs.YtonfefhegghapaaDoor
open Go.RowKit 

def filS (s : St) : Nat := b2 (s.a ≠ 0) 1 + b2 (s.b ≠ 0) 2 + b2 (0 < s.key.length) 4 + b2 (0 < s.val.length) 8 + b2 (0 < s.l.length) 16
/-- What Check says of a step. -/
def chkS (s : St) : Int := chkN s.kind (filS s) (isPat s.l)
/-- What Line says of a step. -/
def lineS (s : St) : ByteArray := if chkS s = 0 then ofL (lineL s) else ⟨#[]⟩
theorem SRd.fil {w : World} {x : Sm} {s : St} (r : SRd w x s) : filN x = filS s := by
  unfold filN filS
  rw [r.a, r.b, r.key, ofL_sizeE, ← r.v.len, ← r.l.len]
theorem SRd.lens {w : World} {x : Sm} {s : St} (r : SRd w x s) (hk : KI s.kind) : SmL x := ⟨by rw [r.a]; exact r.ka, by rw [r.b]; exact r.kb, by rw [r.kind]; exact hk, by rw [r.key, ofL_sizeE]; have := r.sm; omega, by have := r.v.len; have := r.sm; omega, by have := r.l.len; have := r.sm; omega⟩
theorem hChk {w : World} {x : Sm} {s : St} (r : SRd w x s) (hk : KI s.kind) (F : FM w) : Calls Tryd.prog 13 #[.agg x.cs] w fun o w' => o = .returned (.int .i64 (chkS s)) ∧ Kept (fun _ => False) w w' := by
  have q := hCheck x (r.lens hk) F r.l
  rw [r.fil, r.kind] at q
  exact q
theorem chk_ok {s : St} (h : chkS s = 0) : 0 ≤ s.kind ∧ s.kind < 17 := by
  unfold chkS chkN at h
  by_cases z : s.kind < 1 ∨ 16 < s.kind
  · rw [if_pos z] at h
    omega
  · omega
set_option maxRecDepth 100000 in
set_option maxHeartbeats 2000000 in
theorem hLine {w : World} {x : Sm} {s : St} (r : SRd w x s) (hk : KI s.kind) (V : Vars w) (F : FM w) : Calls Tryd.prog 17 #[.agg x.cs] w fun o w' => o = .returned (.tuple #[.string (lineS s), .int .i64 (chkS s)]) ∧ Kept (fun _ => False) w w' := by
  have H : Hid (SRd w x s ∧ KI s.kind ∧ Vars w ∧ FM w) := ⟨r, hk, V, F⟩
  have C1 : Hid (∀ V, Kept (fun _ => False) w V → Calls Tryd.prog 13 #[.agg x.cs] V fun o w' => o = .returned (.int .i64 (chkS s)) ∧ Kept (fun _ => False) V w') := fun V K => hChk (H.out.1.kept K) H.out.2.1 (H.out.2.2.2.kept K)
  have C2 : Hid (∀ V, Kept (fun _ => False) w V → chkS s = 0 → Calls Tryd.prog 31 #[.slice none 0 0, .agg x.cs] V (RetT fun p' k' c' w' => TX V w' p' k' c' (lineL s))) := fun V K z => by
    have q := hStep (TX.nil V) (H.out.2.2.1.kept K).tab (H.out.2.2.2.kept K) (H.out.1.kept K) (chk_ok z) (Nat.zero_le _)
    rw [List.nil_append] at q
    exact q
  clear r hk V F H
  obtain ⟨kind, a, b, key, va, vn, vc, la, ln, lc⟩ := x
  have C1 : Hid (∀ V, Kept (fun _ => False) w V → Calls Tryd.prog 13 #[.agg #[.int .i64 kind, .int .i64 a, .int .i64 b, .string key, .slice va vn vc, .slice la ln lc]] V fun o w' => o = .returned (.int .i64 (chkS s)) ∧ Kept (fun _ => False) V w') := C1
  have C2 : Hid (∀ V, Kept (fun _ => False) w V → chkS s = 0 → Calls Tryd.prog 31 #[.slice none 0 0, .agg #[.int .i64 kind, .int .i64 a, .int .i64 b, .string key, .slice va vn vc, .slice la ln lc]] V (RetT fun p' k' c' w' => TX V w' p' k' c' (lineL s))) := C2
  show Calls Tryd.prog 17 #[.agg #[.int .i64 kind, .int .i64 a, .int .i64 b, .string key, .slice va vn vc, .slice la ln lc]] w _
  obtain ⟨W, hW⟩ : ∃ W, w.alloc (.cells #[.int .i64 kind, .int .i64 a, .int .i64 b, .string key, .slice va vn vc, .slice la ln lc] 38) = W := ⟨_, rfl⟩
  have S1 : Hid (Kept (fun _ => False) w W ∧ W.heap[w.heap.size]? = some (.cells #[.int .i64 kind, .int .i64 a, .int .i64 b, .string key, .slice va vn vc, .slice la ln lc] 38 (0, 0))) := by
    rw [← hW]
    exact ⟨(Kept.refl _ _).alloc _, alloc_new _ _⟩
  have HW : Hid (w.alloc (.cells #[.int .i64 kind, .int .i64 a, .int .i64 b, .string key, .slice va vn vc, .slice la ln lc] 38) = W) := hW
  obtain ⟨ck, hck⟩ : ∃ ck, chkS s = ck := ⟨_, rfl⟩
  obtain ⟨LS, hLS⟩ : ∃ LS, lineS s = LS := ⟨_, rfl⟩
  have HL : Hid (lineS s = LS ∧ chkS s = ck) := ⟨hLS, hck⟩
  rw [hck] at C1 C2
  rw [hLS, hck]
  clear hW hck hLS
  go_enter Tryd.func17, Tryd.ntmps17
  go_upto_region 1 with fail
  rw [HW.out]
  clear HW
  have b0 := cell_blk S1.out.2 0 (v := .int .i64 kind) rfl
  have b1 := cell_blk S1.out.2 1 (v := .int .i64 a) rfl
  have b2 := cell_blk S1.out.2 2 (v := .int .i64 b) rfl
  have b3 := cell_blk S1.out.2 3 (v := .string key) rfl
  have b4 := cell_blk S1.out.2 4 (v := .slice va vn vc) rfl
  have b5 := cell_blk S1.out.2 5 (v := .slice la ln lc) rfl
  go_wp2_with fail
  refine (C1.out _ S1.out.1).mono ?_
  rintro o w2 ⟨rfl, K2⟩
  clear b0 b1 b2 b3 b4 b5 C1
  have S2 : Hid (Kept (fun _ => False) w w2 ∧ w2.heap[w.heap.size]? = some (.cells #[.int .i64 kind, .int .i64 a, .int .i64 b, .string key, .slice va vn vc, .slice la ln lc] 38 (0, 0))) := ⟨S1.out.1.trans K2 (fun _ _ z => z), K2.get S1.out.2 (fun z => z)⟩
  clear K2 S1
  by_cases hc : ck = 0
  · subst hc
    have b0 := cell_blk S2.out.2 0 (v := .int .i64 kind) rfl
    have b1 := cell_blk S2.out.2 1 (v := .int .i64 a) rfl
    have b2 := cell_blk S2.out.2 2 (v := .int .i64 b) rfl
    have b3 := cell_blk S2.out.2 3 (v := .string key) rfl
    have b4 := cell_blk S2.out.2 4 (v := .slice va vn vc) rfl
    have b5 := cell_blk S2.out.2 5 (v := .slice la ln lc) rfl
    go_wp2_with fail
    refine (C2.out _ S2.out.1 (by simp)).mono ?_
    rintro o w3 ⟨p3, k3, c3, rfl, T3⟩
    clear b0 b1 b2 b3 b4 b5 C2
    have cs := T3.string
    have e : ofL (lineL s) = LS := by rw [← HL.out.1]; unfold lineS; rw [if_pos HL.out.2]
    rw [e] at cs
    have F3 : Hid (Kept (fun _ => False) w w3) := S2.out.1.trans T3.kept (fun _ _ z => z)
    clear T3 e
    go_wp2_with fail
    go_ret2
    exact ⟨by first | rfl | simp, F3.out⟩
  · have e : LS = ⟨#[]⟩ := by rw [← HL.out.1]; unfold lineS; rw [if_neg (by rw [HL.out.2]; exact hc)]
    subst e
    go_wp2_with fail
    go_ret2
    exact ⟨by first | rfl | simp, S2.out.1⟩
end Go.Proofs.YtonfefhegghapaaDoor
