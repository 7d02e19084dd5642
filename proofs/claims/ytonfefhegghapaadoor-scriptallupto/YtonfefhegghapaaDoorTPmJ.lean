import Derived.Test.YtonfefhegghapaaDoorTFiJ
import Derived.Test.YtonfefhegghapaaDoorTCk
namespace Go.Proofs.YtonfefhegghapaaDoor
open Go.RowKit 

def filS (s : St) : Nat := b2 (s.a ≠ 0) 1 + b2 (s.b ≠ 0) 2 + b2 (0 < s.key.length) 4 + b2 (0 < s.val.length) 8 + b2 (0 < s.l.length) 16
/-- What Check says of a step. -/
def chkS (s : St) : Int := chkN s.kind (filS s) (isPat s.l)
/-- What Line says of a step. -/
def lineS (s : St) : ByteArray := if chkS s = 0 then ofL (lineL s) else ⟨#[]⟩
theorem SRd.fil {w : World} {x : Sm} {s : St} (r : SRd w x s) : filN x = filS s := by
  unfold filN filS
  rw [r.a, r.b, r.key, ofL_sizeE, ← r.v.len, ← r.l.len]
theorem SRd.lens {w : World} {x : Sm} {s : St} (r : SRd w x s) (hk : KI s.kind) : SmL x := ⟨by rw [r.a]; exact r.ka, by rw [r.b]; exact r.kb, by rw [r.kind]; exact hk, by rw [r.key, ofL_sizeE]; have := r.sm; omega, by have := r.v.len; have := r.sm; omega, by have := r.l.len; have := r.sm; omega⟩
theorem hChk {w : World} {x : Sm} {s : St} (r : SRd w x s) (hk : KI s.kind) (F : FM w) : Calls Tryd.prog 13 #[.agg x.cs] w fun o w' => o = .returned (.int .i64 (chkS s)) ∧ Kept (fun _ => False) w w' := by
  have q := hCheck x (r.lens hk) F r.l
  rw [r.fil, r.kind] at q
  exact q
theorem chk_ok {s : St} (h : chkS s = 0) : 0 ≤ s.kind ∧ s.kind < 17 := by
  unfold chkS chkN at h
  by_cases z : s.kind < 1 ∨ 16 < s.kind
  · rw [if_pos z] at h
    omega
  · omega
set_option maxRecDepth 100000 in
set_option maxHeartbeats 2000000 in
theorem hLine {w : World} {x : Sm} {s : St} (r : SRd w x s) (hk : KI s.kind) (V : Vars w) (F : FM w) : Calls Tryd.prog 17 #[.agg x.cs] w fun o w' => o = .returned (.tuple #[.string (lineS s), .int .i64 (chkS s)]) ∧ Kept (fun _ => False) w w' := by
  have H : Hid (SRd w x s ∧ KI s.kind ∧ Vars w ∧ FM w) := ⟨r, hk, V, F⟩
  have C1 : Hid (∀ V, Kept (fun _ => False) w V → Calls Tryd.prog 13 #[.agg x.cs] V fun o w' => o = .returned (.int .i64 (chkS s)) ∧ Kept (fun _ => False) V w') := fun V K => hChk (H.out.1.kept K) H.out.2.1 (H.out.2.2.2.kept K)
  have C2 : Hid (∀ V, Kept (fun _ => False) w V → chkS s = 0 → Calls Tryd.prog 31 #[.slice none 0 0, .agg x.cs] V (RetT fun p' k' c' w' => TX V w' p' k' c' (lineL s))) := fun V K z => by
    have q := hStep (TX.nil V) (H.out.2.2.1.kept K).tab (H.out.2.2.2.kept K) (H.out.1.kept K) (chk_ok z) (Nat.zero_le _)
    rw [List.nil_append] at q
    exact q
  clear r hk V F H
  obtain ⟨kind, a, b, key, va, vn, vc, la, ln, lc⟩ := x
  have C1 : Hid (∀ V, Kept (fun _ => False) w V → Calls Tryd.prog 13 #[.agg #[.int .i64 kind, .int .i64 a, .int .i64 b, .string key, .slice va vn vc, .slice la ln lc]] V fun o w' => o = .returned (.int .i64 (chkS s)) ∧ Kept (fun _ => False) V w') := C1
  have C2 : Hid (∀ V, Kept (fun _ => False) w V → chkS s = 0 → Calls Tryd.prog 31 #[.slice none 0 0, .agg #[.int .i64 kind, .int .i64 a, .int .i64 b, .string key, .slice va vn vc, .slice la ln lc]] V (RetT fun p' k' c' w' => TX V w' p' k' c' (lineL s))) := C2
  show Calls Tryd.prog 17 #[.agg #[.int .i64 kind, .int .i64 a, .int .i64 b, .string key, .slice va vn vc, .slice la ln lc]] w _
  obtain ⟨W, hW⟩ : ∃ W, w.alloc (.cells #[.int .i64 kind, .int .i64 a, .int .i64 b, .string key, .slice va vn vc, .slice la ln lc] 38) = W := ⟨_, rfl⟩
  have S1 : Hid (Kept (fun _ => False) w W ∧ W.heap[w.heap.size]? = some (.cells #[.int .i64 kind, .int .i64 a, .int .i64 b, .string key, .slice va vn vc, .slice la ln lc] 38 (0, 0))) := by
    rw [← hW]
    exact ⟨(Kept.refl _ _).alloc _, alloc_new _ _⟩
  have HW : Hid (w.alloc (.cells #[.int .i64 kind, .int .i64 a, .int .i64 b, .string key, .slice va vn vc, .slice la ln lc] 38) = W) := hW
  obtain ⟨ck, hck⟩ : ∃ ck, chkS s = ck := ⟨_, rfl⟩
  obtain ⟨LS, hLS⟩ : ∃ LS, lineS s = LS := ⟨_, rfl⟩
  have HL : Hid (lineS s = LS ∧ chkS s = ck) := ⟨hLS, hck⟩
  rw [hck] at C1 C2
  rw [hLS, hck]
  clear hW hck hLS
  go_enter Tryd.func17, Tryd.ntmps17
  go_upto_region 1 with fail
  rw [HW.out]
  clear HW
  have b0 := cell_blk S1.out.2 0 (v := .int .i64 kind) rfl
  have b1 := cell_blk S1.out.2 1 (v := .int .i64 a) rfl
  have b2 := cell_blk S1.out.2 2 (v := .int .i64 b) rfl
  have b3 := cell_blk S1.out.2 3 (v := .string key) rfl
  have b4 := cell_blk S1.out.2 4 (v := .slice va vn vc) rfl
  have b5 := cell_blk S1.out.2 5 (v := .slice la ln lc) rfl
  go_wp2_with fail
  refine (C1.out _ S1.out.1).mono ?_
  rintro o w2 ⟨rfl, K2⟩
  clear b0 b1 b2 b3 b4 b5 C1
  have S2 : Hid (Kept (fun _ => False) w w2 ∧ w2.heap[w.heap.size]? = some (.cells #[.int .i64 kind, .int .i64 a, .int .i64 b, .string key, .slice va vn vc, .slice la ln lc] 38 (0, 0))) := ⟨S1.out.1.trans K2 (fun _ _ z => z), K2.get S1.out.2 (fun z => z)⟩
  clear K2 S1
  by_cases hc : ck = 0
  · subst hc
    have b0 := cell_blk S2.out.2 0 (v := .int .i64 kind) rfl
    have b1 := cell_blk S2.out.2 1 (v := .int .i64 a) rfl
    have b2 := cell_blk S2.out.2 2 (v := .int .i64 b) rfl
    have b3 := cell_blk S2.out.2 3 (v := .string key) rfl
    have b4 := cell_blk S2.out.2 4 (v := .slice va vn vc) rfl
    have b5 := cell_blk S2.out.2 5 (v := .slice la ln lc) rfl
    go_wp2_with fail
    refine (C2.out _ S2.out.1 (by simp)).mono ?_
    rintro o w3 ⟨p3, k3, c3, rfl, T3⟩
    clear b0 b1 b2 b3 b4 b5 C2
    have cs := T3.string
    have e : ofL (lineL s) = LS := by rw [← HL.out.1]; unfold lineS; rw [if_pos HL.out.2]
    rw [e] at cs
    have F3 : Hid (Kept (fun _ => False) w w3) := S2.out.1.trans T3.kept (fun _ _ z => z)
    clear T3 e
    go_wp2_with fail
    go_ret2
    exact ⟨by first | rfl | simp, F3.out⟩
  · have e : LS = ⟨#[]⟩ := by rw [← HL.out.1]; unfold lineS; rw [if_neg (by rw [HL.out.2]; exact hc)]
    subst e
    go_wp2_with fail
    go_ret2
    exact ⟨by first | rfl | simp, S2.out.1⟩
end Go.Proofs.YtonfefhegghapaaDoor

namespace Go.Proofs.YtonfefhegghapaaDoor
open Go.RowKit 

theorem hexF_len (s : ByteArray) : ∀ (f pos hi : Nat) (acc : List UInt8), (hexF s f pos hi acc).length ≤ acc.length + (s.size - pos)
  | 0, _, _, acc => by unfold hexF; omega
  | f + 1, pos, hi, acc => by
    unfold hexF
    by_cases h : pos < s.size
    · rw [if_pos h]
      have hw := width_pos s pos h
      split
      · have := hexF_len s f (pos + (Utf8.decode s pos).2) (valB (Utf8.decode s pos).1) acc
        omega
      · have := hexF_len s f (pos + (Utf8.decode s pos).2) hi (acc ++ [UInt8.ofNat ((hi * 16 % 256) ||| valB (Utf8.decode s pos).1)])
        rw [List.length_append, List.length_singleton] at this
        omega
    · rw [if_neg h]
      omega
theorem hexL_len (l : List UInt8) : (hexL (ofL l)).length ≤ l.length := by
  have := hexF_len (ofL l) (ofL l).size 0 0 []
  unfold hexL
  rw [ofL_sizeE] at this ⊢
  simpa using this
theorem numsF_len : ∀ (f : Nat) (l : List UInt8), (numsF f l).length ≤ l.length
  | 0, l => by unfold numsF; simp
  | f + 1, l => by
    unfold numsF
    by_cases h : l = []
    · rw [if_pos h]
      simp
    · rw [if_neg h, List.length_cons]
      have h1 := numsF_len f (cutE 32 l).2
      have h2 := (cutE_len 32 l).2.2 h
      omega
theorem numsF_ki : ∀ (f : Nat) (l : List UInt8), ∀ z ∈ numsF f l, KI z
  | 0, l => by unfold numsF; simp
  | f + 1, l => by
    unfold numsF
    by_cases h : l = []
    · rw [if_pos h]
      simp
    · rw [if_neg h]
      intro z hz
      rcases List.mem_cons.1 hz with rfl | hz
      · exact atoiV_ki _
      · exact numsF_ki f _ z hz
theorem ki0 : KI 0 := ⟨by omega, by omega⟩
/-- What guess gives is small. -/
structure GSm (n : Nat) (s : St) : Prop where
  kind : 0 ≤ s.kind ∧ s.kind < 17
  a : KI s.a
  b : KI s.b
  key : s.key.length ≤ n
  val : s.val.length ≤ n
  l : s.l.length ≤ n
  ki : ∀ z ∈ s.l, KI z
theorem gsU_small (u k : Nat) (hk : k < 17) (t : List UInt8) : GSm t.length (gsU u k t) := by
  unfold gsU
  dsimp only
  have c1 := cutE_len 32
  have hx := hexL_len
  generalize hp1 : (if u % 2 = 1 then (atoiV (cutE 32 t).1, (cutE 32 t).2) else (0, t)) = p1
  have h1 : KI p1.1 ∧ p1.2.length ≤ t.length := by
    rw [← hp1]
    split
    · exact ⟨atoiV_ki _, (c1 t).2.1⟩
    · exact ⟨ki0, Nat.le_refl _⟩
  clear hp1
  generalize hp2 : (if u / 2 % 2 = 1 then (atoiV (cutE 32 p1.2).1, (cutE 32 p1.2).2) else (0, p1.2)) = p2
  have h2 : KI p2.1 ∧ p2.2.length ≤ t.length := by
    rw [← hp2]
    split
    · exact ⟨atoiV_ki _, Nat.le_trans (c1 p1.2).2.1 h1.2⟩
    · exact ⟨ki0, h1.2⟩
  clear hp2
  generalize hp3 : (if u / 4 % 2 = 1 then (hexL (ofL (cutE 32 p2.2).1), (cutE 32 p2.2).2) else ([], p2.2)) = p3
  have h3 : p3.1.length ≤ t.length ∧ p3.2.length ≤ t.length := by
    rw [← hp3]
    split
    · exact ⟨Nat.le_trans (hx _) (Nat.le_trans (c1 p2.2).1 h2.2), Nat.le_trans (c1 p2.2).2.1 h2.2⟩
    · exact ⟨Nat.zero_le _, h2.2⟩
  clear hp3
  generalize hp4 : (if u / 8 % 2 = 1 then (hexL (ofL (cutE 32 p3.2).1), (cutE 32 p3.2).2) else ([], p3.2)) = p4
  have h4 : p4.1.length ≤ t.length ∧ p4.2.length ≤ t.length := by
    rw [← hp4]
    split
    · exact ⟨Nat.le_trans (hx _) (Nat.le_trans (c1 p3.2).1 h3.2), Nat.le_trans (c1 p3.2).2.1 h3.2⟩
    · exact ⟨Nat.zero_le _, h3.2⟩
  clear hp4
  refine ⟨⟨by show (0 : Int) ≤ (k : Int); omega, by show (k : Int) < 17; omega⟩, h1.1, h2.1, h3.1, h4.1, ?_, ?_⟩
  · show (if u / 16 % 2 = 1 then numsL p4.2 else []).length ≤ _
    split
    · exact Nat.le_trans (numsF_len _ _) h4.2
    · exact Nat.zero_le _
  · show ∀ z ∈ (if u / 16 % 2 = 1 then numsL p4.2 else []), KI z
    split
    · exact numsF_ki _ _
    · intro z hz
      cases hz
theorem gs_small (l : List UInt8) : GSm l.length (gs l) := by
  have h := gsU_small (useN (kindL (cutE 32 l).1)) (kindL (cutE 32 l).1) (kindL_lt _) (cutE 32 l).2
  have c := (cutE_len 32 l).2.1
  exact ⟨h.kind, h.a, h.b, Nat.le_trans h.key c, Nat.le_trans h.val c, Nat.le_trans h.l c, h.ki⟩
/-- Numbers of one's own can be read. -/
theorem owns_ints {w : World} {base n c : Nat} {p : Option Addr} {zs : List Int} (h : w.ownsRow base 3 1 (.slice p n c) n (intC zs)) (hl : n = zs.length) (ki : ∀ z ∈ zs, KI z) : IRd w p n c zs ∧ I3 w p n := by
  obtain ⟨r1, r2⟩ := own_room h
  refine ⟨⟨hl.symm, r1, r2, ki, fun h0 => ?_⟩, fun h0 b hb => own_type h b hb⟩
  rcases h.2 with ⟨_, hn⟩ | ⟨g, cap, cur, z, _⟩
  · omega
  · have z : Value.slice p n c = .slice (some ⟨g, 0, none⟩) n cap := z
    injection z with z1 _ z3
    subst z1
    subst z3
    have hc := h.cells (g := g) rfl
    refine ⟨g, 0, rfl, fun i y hy => ?_⟩
    have := hc i (.int .i64 y) (by unfold intC; rw [List.getElem?_map, hy]; rfl)
    rw [Addr.add_none] at this
    exact this
theorem owns_bytes {w : World} {base n c : Nat} {p : Option Addr} {l : List UInt8} (h : w.ownsRow base 5 1 (.slice p n c) n (Lib.byteCells l)) (hl : n = l.length) : BRd w p n c l ∧ ∀ b, blockOf p = some b → b < w.heap.size := by
  obtain ⟨r1, r2⟩ := own_room h
  refine ⟨⟨hl.symm, r1, r2, fun h0 => ?_⟩, fun b hb => (own_lt h b hb).2⟩
  rcases h.2 with ⟨_, hn⟩ | ⟨g, cap, cur, z, _⟩
  · omega
  · have z : Value.slice p n c = .slice (some ⟨g, 0, none⟩) n cap := z
    injection z with z1 _ z3
    subst z1
    subst z3
    have hc := h.cells (g := g) rfl
    refine ⟨g, 0, rfl, fun i y hy => ?_⟩
    have := hc i (.int .u8 (y.toNat : Int)) (by unfold Lib.byteCells; rw [List.getElem?_map, hy]; rfl)
    rw [Addr.add_none] at this
    exact this
theorem SO.srd {b0 n : Nat} {w : World} {x : Sm} {s : St} (h : SO b0 w x s) (g : GSm n s) (hn : n ≤ 33554432) : SRd w x s := by
  obtain ⟨i1, _⟩ := owns_ints h.lr h.ll g.ki
  obtain ⟨v1, _⟩ := owns_bytes h.vr h.vl
  have := g.key
  have := g.val
  have := g.l
  exact ⟨h.kind, h.a, h.b, h.key, g.a, g.b, v1, i1, by omega⟩
def scs (L : List Sm) : List Value := L.flatMap fun e => e.cs.toList
theorem scs_append (a b : List Sm) : scs (a ++ b) = scs a ++ scs b := by unfold scs; rw [List.flatMap_append]
theorem Tryd.info38c : (Tryd.prog.info? 38).map (fun i => (i.zero, i.size, i.bytes)) = some (some (.agg #[.int .i64 0, .int .i64 0, .int .i64 0, .string ⟨#[]⟩, .slice none 0 0, .slice none 0 0]), 6, 88) := by kernel_rfl
theorem scs_one (e : Sm) : scs [e] = e.cs.toList := by unfold scs; simp
theorem sm_one (e : Sm) : ∀ v ∈ e.cs.toList, v.oneCell' = true := fun v hv => by
  simp [Sm.cs] at hv
  rcases hv with rfl | rfl | rfl | rfl | rfl | rfl <;> rfl
theorem scs_len : ∀ L : List Sm, (scs L).length = L.length * 6
  | [] => rfl
  | a :: L => by
    have e : scs (a :: L) = a.cs.toList ++ scs L := by unfold scs; simp
    have el : a.cs.toList.length = 6 := rfl
    rw [e, List.length_append, el, scs_len L, List.length_cons]
    omega
theorem scs_get : ∀ (L : List Sm) (i : Nat) (h : i < L.length) (k : Nat), k < 6 → (scs L)[i * 6 + k]? = L[i].cs[k]?
  | [], i, h, _, _ => absurd h (by simp)
  | a :: L, 0, _, k, hk => by
    have e : scs (a :: L) = a.cs.toList ++ scs L := by unfold scs; simp
    have el : a.cs.toList.length = 6 := rfl
    rw [e, Nat.zero_mul, Nat.zero_add, List.getElem?_append_left (by rw [el]; exact hk), Array.getElem?_toList]
    rfl
  | a :: L, i + 1, h, k, hk => by
    have e : scs (a :: L) = a.cs.toList ++ scs L := by unfold scs; simp
    have el : a.cs.toList.length = 6 := rfl
    rw [e, List.getElem?_append_right (by rw [el]; omega), el, show (i + 1) * 6 + k - 6 = i * 6 + k by omega]
    exact scs_get L i (by simpa using h) k hk
theorem Tryd.underlying30c : Tryd.prog.underlying 30 = some (.slice 38) := by kernel_rfl
/-- What a step in a block of its own yields to an append. -/
theorem src_st {w : World} {b : Nat} {e : Sm} (h : w.heap[b]? = some (.cells e.cs 38 (0, 0))) : Src Tryd.prog 6 30 (.slice (some ⟨b, 0, none⟩) 1 1) 1 (scs [e]) w :=
  Src.ofSlice w Tryd.underlying30c ⟨b, 0, none⟩ 1 1 (scs [e]) rfl (fun j u hj => by
    rw [Addr.add_none, Nat.zero_add]
    refine cell_blk h j ?_
    rw [scs_one] at hj
    rw [← hj, Array.getElem?_toList]) (fun v hv => by
    rw [scs_one] at hv
    exact sm_one e v hv)
/-- Steps of one's own. -/
structure PX (w wr : World) (p : Option Addr) (k c : Nat) (L : List Sm) (ss : List St) : Prop where
  len : L.length = k
  slen : ss.length = k
  row : wr.ownsRow w.heap.size 38 6 (.slice p k c) k (scs L)
  so : ∀ (i : Nat) (x : Sm) (s : St), L[i]? = some x → ss[i]? = some s → SO w.heap.size wr x s
  kept : Kept (fun _ => False) w wr
theorem PX.nil (w : World) : PX w w none 0 0 [] [] := ⟨rfl, rfl, ⟨rfl, .inl ⟨rfl, rfl⟩⟩, fun i x s hx => (by cases hx), Kept.refl _ _⟩
theorem SO.k0 {b0 : Nat} {w w' : World} {x : Sm} {s : St} (h : SO b0 w x s) (K : Kept (fun _ => False) w w') : SO b0 w' x s := ⟨h.kind, h.a, h.b, h.key, h.vl, K.owns h.vr (fun _ _ z => z), h.ll, K.owns h.lr (fun _ _ z => z)⟩
theorem SO.mono {b0 b1 : Nat} {w : World} {x : Sm} {s : St} (h : SO b0 w x s) (hb : b1 ≤ b0) : SO b1 w x s := ⟨h.kind, h.a, h.b, h.key, h.vl, owns_mono h.vr hb, h.ll, owns_mono h.lr hb⟩
theorem PX.k0 {w wr W : World} {p : Option Addr} {k c : Nat} {L : List Sm} {ss : List St} (h : PX w wr p k c L ss) (K : Kept (fun _ => False) wr W) : PX w W p k c L ss := ⟨h.len, h.slen, K.owns h.row (fun _ _ z => z), fun i x s hx hs => (h.so i x s hx hs).k0 K, h.kept.trans K (fun _ _ z => z)⟩
theorem SO.grow {b0 b1 : Nat} {w w9 : World} {x : Sm} {s : St} {p : Option Addr} {k c : Nat} {xs : List Value} (h : SO b0 w x s) (ho : w.ownsRow b1 38 6 (.slice p k c) k xs) (KG : Kept (fun j => blockOf p = some j) w w9) : SO b0 w9 x s := by
  refine ⟨h.kind, h.a, h.b, h.key, h.vl, KG.owns h.vr (fun j z q => ?_), h.ll, KG.owns h.lr (fun j z q => ?_)⟩
  · rw [blockOf_own] at z
    obtain ⟨c1, e1⟩ := own_type h.vr j z
    obtain ⟨c2, e2⟩ := own_type ho j q
    rw [e1] at e2
    simp at e2
  · rw [blockOf_own] at z
    obtain ⟨c1, e1⟩ := own_type h.lr j z
    obtain ⟨c2, e2⟩ := own_type ho j q
    rw [e1] at e2
    simp at e2
theorem PX.more {w wr w9 : World} {p p9 : Option Addr} {k c c9 : Nat} {L : List Sm} {ss : List St} {x : Sm} {s : St} (h : PX w wr p k c L ss) (hx : SO w.heap.size wr x s) (ho : w9.ownsRow w.heap.size 38 6 (.slice p9 (k + 1) c9) (k + 1) (scs L ++ scs [x])) (hg : wr.grownBy w9 (Value.slice p k c).ownBlock) : PX w w9 p9 (k + 1) c9 (L ++ [x]) (ss ++ [s]) := by
  have KG : Kept (fun j => blockOf p = some j) wr w9 := (Kept.refl (fun j => blockOf p = some j) wr).grown hg (fun j _ z => by rw [blockOf_own] at z; exact z)
  refine ⟨by rw [List.length_append, h.len]; rfl, by rw [List.length_append, h.slen]; rfl, by rw [scs_append]; exact ho, fun i y t hy ht => ?_, h.kept.trans KG (fun j hj z => by have := (own_lt h.row j z).1; omega)⟩
  by_cases hi : i < k
  · rw [List.getElem?_append_left (by rw [h.len]; exact hi)] at hy
    rw [List.getElem?_append_left (by rw [h.slen]; exact hi)] at ht
    exact (h.so i y t hy ht).grow h.row KG
  · rw [List.getElem?_append_right (by rw [h.len]; omega), h.len] at hy
    rw [List.getElem?_append_right (by rw [h.slen]; omega), h.slen] at ht
    have e : i - k = 0 := by
      have := (List.getElem?_eq_some_iff.1 hy).1
      simp at this
      omega
    rw [e] at hy ht
    simp at hy ht
    subst hy
    subst ht
    exact hx.grow h.row KG
/-- Parse's loop, as a function. -/
def parF : Nat → List UInt8 → List St → List St × Nat × Int
  | 0, _, acc => (acc, 0, 0)
  | f + 1, l, acc => if l = [] then (acc, 0, 0) else if chkS (gs (cutE 10 l).1) = 0 ∧ lineL (gs (cutE 10 l).1) = (cutE 10 l).1 then parF f (cutE 10 l).2 (acc ++ [gs (cutE 10 l).1]) else ([], acc.length, 82)
/-- Parse, as a function. -/
def parL (l : List UInt8) : List St × Nat × Int := if 4096 < linesN l then ([], 0, 2) else parF l.length l []
theorem parF_more : ∀ (f g : Nat) (l : List UInt8) (acc : List St), l.length ≤ f → l.length ≤ g → parF f l acc = parF g l acc
  | 0, g, l, acc, h, _ => by
    have : l = [] := List.eq_nil_of_length_eq_zero (by omega)
    subst this
    cases g with
    | zero => rfl
    | succ g => unfold parF; rw [if_pos rfl]
  | f + 1, 0, l, acc, _, h => by
    have : l = [] := List.eq_nil_of_length_eq_zero (by omega)
    subst this
    unfold parF
    rw [if_pos rfl]
  | f + 1, g + 1, l, acc, h1, h2 => by
    unfold parF
    by_cases h : l = []
    · rw [if_pos h, if_pos h]
    · have := (cutE_len 10 l).2.2 h
      rw [if_neg h, if_neg h, parF_more f g (cutE 10 l).2 _ (by omega) (by omega)]
end Go.Proofs.YtonfefhegghapaaDoor
