import Derived.Test.YtonfefhegghapaaDoorTOqJ
import Derived.Test.YtonfefhegghapaaDoorUTqJ
import Derived.Test.YtonfefhegghapaaDoorALw
namespace Go.Proofs.YtonfefhegghapaaDoor
open Go.RowKit Go.ChangeShapes Go.WideShapes Go.ChangeAt Go.Deep

theorem Tryd.cells38 : Tryd.prog.cellsOf 38 = 6 := by kernel_rfl
theorem Tryd.cells3c : Tryd.prog.cellsOf 3 = 1 := by kernel_rfl
theorem Tryd.cells35 : Tryd.prog.cellsOf 35 = 1 := by kernel_rfl
theorem Tryd.cells36 : Tryd.prog.cellsOf 36 = 1 := by kernel_rfl
theorem lits_bulk {H : Type} (k : IntKind) : ∀ zs : List Int, Rows.uptoBulkAll (lits (H := H) k zs) = zs.length
  | [] => rfl
  | z :: r => by
    have ih := lits_bulk (H := H) k r
    show Rows.uptoBulk (DataW.lit (Lit.int k z) : DataW H) + Rows.uptoBulkAll (lits (H := H) k r) = _
    rw [ih, List.length_cons]
    simp only [Rows.uptoBulk]
    omega
theorem slice_form {H : Type} {enc : TypeId × Value → H} {P : Program} {w : World} {base : Nat} {spare : Nat → Bool} {held : Bool} {t e : TypeId} {fuel : Nat} {v : Value} {x : DataW H × List MemPlace} (ht : P.underlying t = some (.slice e)) (h : DataW.trod enc P w base spare held fuel t [v] = some x) :
    ∃ a len cap, v = .slice a len cap := by
  rcases DataW.trod_slice ht h with ⟨q, _⟩ | ⟨a, len, cap, _, _, _, _, q, _⟩
  · simp at q; exact ⟨none, 0, 0, q⟩
  · simp at q; exact ⟨some a, len, cap, q⟩
/-- Bytes that came in. -/
theorem open_byt {H : Type} {enc : TypeId × Value → H} {W : World} {a : Option Addr} {len cap fuel : Nat} {x : DataW H × List MemPlace}
    (h : DataW.trod enc Tryd.prog W 0 (fun _ => true) true fuel 35 [.slice a len cap] = some x) : ∃ l, BRd W a len cap l ∧ l.length + 1 ≤ Rows.uptoBulk x.1 := by
  rcases open_ints Tryd.underlying35 Tryd.underlying5 Tryd.cells5 h with ⟨hcs, hx⟩ | ⟨ad, l', c', zs, hcs, _, hl, hm, hz, hx, hcell, hwz⟩
  · simp at hcs
    obtain ⟨rfl, rfl, rfl⟩ := hcs
    exact ⟨[], ⟨rfl, Nat.le_refl _, by unfold maxLen; omega, fun h => absurd h (by omega)⟩, by rw [hx]; exact Nat.le_refl _⟩
  · simp at hcs
    obtain ⟨rfl, rfl, rfl⟩ := hcs
    have hz' : zs.length = cap := by simpa using hz
    refine ⟨(zs.take len).map fun z => UInt8.ofNat z.toNat, ⟨by rw [List.length_map, List.length_take]; omega, hl, hm, fun h0 => ?_⟩, ?_⟩
    · obtain ⟨b, off, spot⟩ := ad
      have c0 := hcell 0 (by omega)
      have hs : spot = none := by simpa [Addr.add] using World.cell?_spot c0
      subst hs
      refine ⟨b, off, rfl, fun i y hy => ?_⟩
      have hi : i < len := by
        have := (List.getElem?_eq_some_iff.1 hy).1
        rw [List.length_map, List.length_take] at this
        omega
      have ci := hcell i (by omega)
      rw [Addr.add_none] at ci
      rw [ci]
      have e1 : zs.getD i 0 = zs[i]'(by omega) := by rw [List.getD_eq_getElem?_getD, List.getElem?_eq_getElem (by omega)]; rfl
      have e2 : UInt8.ofNat (zs[i]'(by omega)).toNat = y := by
        rw [List.getElem?_map, List.getElem?_take_of_lt hi, List.getElem?_eq_getElem (by omega)] at hy
        simpa using hy
      have bd := bounds_u8 (hwz (zs[i]'(by omega)) (List.getElem_mem _))
      have e3 : y.toNat = (zs[i]'(by omega)).toNat := by
        rw [← e2, UInt8.toNat_ofNat']
        omega
      rw [e1, e3, Int.toNat_of_nonneg bd.1]
    · rw [hx]
      simp only [Rows.uptoBulk]
      rw [lits_bulk, lits_bulk, List.length_map]
      omega
/-- Numbers that came in. -/
theorem open_num {H : Type} {enc : TypeId × Value → H} {W : World} {a : Option Addr} {len cap fuel : Nat} {x : DataW H × List MemPlace}
    (h : DataW.trod enc Tryd.prog W 0 (fun _ => true) true fuel 36 [.slice a len cap] = some x) : ∃ l, IRd W a len cap l ∧ l.length + 1 ≤ Rows.uptoBulk x.1 := by
  rcases open_ints Tryd.underlying36 Tryd.underlying3 Tryd.cells3c h with ⟨hcs, hx⟩ | ⟨ad, l', c', zs, hcs, _, hl, hm, hz, hx, hcell, hwz⟩
  · simp at hcs
    obtain ⟨rfl, rfl, rfl⟩ := hcs
    exact ⟨[], ⟨rfl, Nat.le_refl _, by unfold maxLen; omega, fun z hz => (by cases hz), fun h => absurd h (by omega)⟩, by rw [hx]; exact Nat.le_refl _⟩
  · simp at hcs
    obtain ⟨rfl, rfl, rfl⟩ := hcs
    have hz' : zs.length = cap := by simpa using hz
    refine ⟨zs.take len, ⟨by rw [List.length_take]; omega, hl, hm, fun z hz1 => bounds_i64 (hwz z (List.mem_of_mem_take hz1)), fun h0 => ?_⟩, ?_⟩
    · obtain ⟨b, off, spot⟩ := ad
      have c0 := hcell 0 (by omega)
      have hs : spot = none := by simpa [Addr.add] using World.cell?_spot c0
      subst hs
      refine ⟨b, off, rfl, fun i y hy => ?_⟩
      have hi : i < len := by
        have := (List.getElem?_eq_some_iff.1 hy).1
        rw [List.length_take] at this
        omega
      have ci := hcell i (by omega)
      rw [Addr.add_none] at ci
      rw [ci]
      rw [List.getElem?_take_of_lt hi] at hy
      rw [List.getD_eq_getElem?_getD, hy]
      rfl
    · rw [hx]
      simp only [Rows.uptoBulk]
      rw [lits_bulk, lits_bulk]
      omega
theorem tail_len (u : Nat) {s : St} (K : KS s) : (tailU u s).length ≤ 48 + 2 * s.key.length + 2 * s.val.length + 22 * s.l.length := by
  have h1 := numL_one s.a K.a
  have h2 := numL_one s.b K.b
  have h3 := bytL_len s.key
  have h4 := bytL_len s.val
  have h5 := numL_len s.l K.l
  unfold tailU
  simp only [List.length_append]
  have i1 : (if u % 2 = 1 then numL [s.a] else []).length ≤ 22 := by split <;> (try rw [List.length_nil]) <;> omega
  have i2 : (if u / 2 % 2 = 1 then numL [s.b] else []).length ≤ 22 := by split <;> (try rw [List.length_nil]) <;> omega
  have i3 : (if u / 4 % 2 = 1 then bytL s.key else []).length ≤ 2 + 2 * s.key.length := by split <;> (try rw [List.length_nil]) <;> omega
  have i4 : (if u / 8 % 2 = 1 then bytL s.val else []).length ≤ 2 + 2 * s.val.length := by split <;> (try rw [List.length_nil]) <;> omega
  have i5 : (if u / 16 % 2 = 1 then numL s.l else []).length ≤ 22 * s.l.length := by split <;> (try rw [List.length_nil]) <;> omega
  omega
theorem kw_short (k : Nat) : (kw k).length ≤ 10 := by
  by_cases h : k < 17
  · exact kw_len h
  · unfold kw
    split <;> (try rw [List.length_nil]) <;> (try decide) <;> omega
theorem line_len {s : St} (K : KS s) : (lineL s).length + 1 ≤ 59 + 2 * s.key.length + 2 * s.val.length + 22 * s.l.length := by
  unfold lineL
  have h1 := kw_short s.kind.toNat
  have h2 := tail_len (useN s.kind.toNat) K
  rw [List.length_append]
  omega
set_option maxRecDepth 100000 in
/-- A step that came in. -/
theorem open_step {H : Type} {enc : TypeId × Value → H} {W : World} {n : Nat} {c0 c1 c2 c3 c4 c5 : Value} {x : DataW H × List MemPlace} (h : DataW.trod enc Tryd.prog W 0 (fun _ => true) true n 38 [c0, c1, c2, c3, c4, c5] = some x) (hb : Rows.uptoBulk x.1 ≤ 1048576) : ∃ m : Sm × St, [c0, c1, c2, c3, c4, c5] = m.1.cs.toList ∧ SRd W m.1 m.2 ∧ KI m.2.kind ∧ (lineL m.2).length + 1 ≤ 22 * Rows.uptoBulk x.1 := by
  obtain ⟨xs, m, _, hx, _, hxs, g⟩ := DataW.trod_struct Tryd.underlying38 h
  match xs, hxs with
  | [y0, y1, y2, y3, y4, y5], _ =>
    have g0 : DataW.trod enc Tryd.prog W 0 (fun _ => true) true m 3 [c0] = some y0 := by have := g 0 _ rfl; simpa [Tryd.cells3c] using this
    have g1 : DataW.trod enc Tryd.prog W 0 (fun _ => true) true m 3 [c1] = some y1 := by have := g 1 _ rfl; simpa [Tryd.cells3c] using this
    have g2 : DataW.trod enc Tryd.prog W 0 (fun _ => true) true m 3 [c2] = some y2 := by have := g 2 _ rfl; simpa [Tryd.cells3c] using this
    have g3 : DataW.trod enc Tryd.prog W 0 (fun _ => true) true m 9 [c3] = some y3 := by have := g 3 _ rfl; simpa [Tryd.cells9] using this
    have g4 : DataW.trod enc Tryd.prog W 0 (fun _ => true) true m 35 [c4] = some y4 := by have := g 4 _ rfl; simpa [Tryd.cells35] using this
    have g5 : DataW.trod enc Tryd.prog W 0 (fun _ => true) true m 36 [c5] = some y5 := by have := g 5 _ rfl; simpa [Tryd.cells36] using this
    obtain ⟨z0, e0, d0, w0⟩ := DataW.trod_int Tryd.underlying3 g0
    obtain ⟨z1, e1, d1, w1⟩ := DataW.trod_int Tryd.underlying3 g1
    obtain ⟨z2, e2, d2, w2⟩ := DataW.trod_int Tryd.underlying3 g2
    obtain ⟨s, e3, d3, _⟩ := DataW.trod_string Tryd.underlying9 g3
    obtain ⟨va, vn, vc, rfl⟩ := slice_form Tryd.underlying35 g4
    obtain ⟨la, ln, lc, rfl⟩ := slice_form Tryd.underlying36 g5
    obtain ⟨val, rv, bv⟩ := open_byt g4
    obtain ⟨l, rl, bl⟩ := open_num g5
    simp at e0 e1 e2 e3
    subst e0
    subst e1
    subst e2
    subst e3
    have hbk : Rows.uptoBulk x.1 = 3 + (s.data.toList.length + 1) + Rows.uptoBulk y4.1 + Rows.uptoBulk y5.1 + 1 := by
      rw [hx]
      simp only [List.map_cons, List.map_nil, Rows.uptoBulk, Rows.uptoBulkAll]
      rw [d0, d1, d2, d3]
      simp only [Rows.uptoBulk]
      omega
    have ks : KS ⟨z0, z1, z2, s.data.toList, val, l⟩ := ⟨bounds_i64 w1, bounds_i64 w2, rl.ki⟩
    have ll := line_len ks
    dsimp only at ll
    refine ⟨(⟨z0, z1, z2, s, va, vn, vc, la, ln, lc⟩, ⟨z0, z1, z2, s.data.toList, val, l⟩), rfl, ⟨rfl, rfl, rfl, (ofL_self s).symm, bounds_i64 w1, bounds_i64 w2, rv, rl, ?_⟩, bounds_i64 w0, ?_⟩
    · dsimp only
      omega
    · dsimp only
      omega
theorem bulk_mem {H : Type} : ∀ (l : List (DataW H)) (d : DataW H), d ∈ l → Rows.uptoBulk d ≤ Rows.uptoBulkAll l
  | [], d, h => by cases h
  | a :: r, d, h => by
    simp only [Rows.uptoBulkAll]
    rcases List.mem_cons.1 h with rfl | h
    · omega
    · have := bulk_mem r d h
      omega
theorem bulk_lines {H : Type} (D : Nat → DataW H) (g : Nat → St) : ∀ l : List Nat, (∀ i ∈ l, (lineL (g i)).length + 1 ≤ 22 * Rows.uptoBulk (D i)) → (lnsL (l.map g)).length ≤ 22 * Rows.uptoBulkAll (l.map D)
  | [], _ => by simp [lnsL]
  | i :: r, h => by
    have h1 := h i (by simp)
    have h2 := bulk_lines D g r (fun j hj => h j (by simp [hj]))
    rw [List.map_cons, List.map_cons, lnsL_cons, List.length_append, List.length_cons]
    simp only [Rows.uptoBulkAll]
    omega
set_option maxRecDepth 100000 in
/-- Steps that came in. -/
theorem open_steps {H : Type} {enc : TypeId × Value → H} {W : World} {a : Option Addr} {len cap fuel : Nat} {x : DataW H × List MemPlace}
    (h : DataW.trod enc Tryd.prog W 0 (fun _ => true) true fuel 30 [.slice a len cap] = some x) (hb : Rows.uptoBulk x.1 ≤ 1048576) : ∃ L ss, SLs W a len cap L ss ∧ (lnsL ss).length ≤ 22 * Rows.uptoBulk x.1 := by
  rcases open_slice Tryd.underlying30c h with ⟨hcs, _⟩ | ⟨ad, l', c', m, n, D, Pl, hcs, _, hl, hm, hmm, hx, hel⟩
  · simp at hcs
    obtain ⟨rfl, rfl, rfl⟩ := hcs
    exact ⟨[], [], ⟨rfl, rfl, Nat.le_refl _, by unfold maxLen; omega, fun q => absurd q (by omega), fun i x s hx => (by cases hx)⟩, Nat.zero_le _⟩
  · simp at hcs
    obtain ⟨rfl, rfl, rfl⟩ := hcs
    have hmm : m = cap := by simpa using hmm
    rw [Tryd.cells38] at hel
    have hbd : Rows.uptoBulkAll ((List.range len).map D) ≤ Rows.uptoBulk x.1 := by
      rw [hx]
      simp only [Rows.uptoBulk]
      omega
    haveI : Inhabited (Sm × St) := ⟨(⟨0, 0, 0, ⟨#[]⟩, none, 0, 0, none, 0, 0⟩, ⟨0, 0, 0, [], [], []⟩)⟩
    obtain ⟨O, hO⟩ := choose_lt (n := len) (p := fun i (o : Sm × St) => (∀ c v, (o.1.cs)[c]? = some v → W.cell? ((ad.add (i * 6)).add c) = some v) ∧ SRd W o.1 o.2 ∧ KI o.2.kind ∧ (lineL o.2).length + 1 ≤ 22 * Rows.uptoBulk (D i)) (fun i hi => by
      obtain ⟨cs', h1, h2⟩ := hel i (by omega)
      obtain ⟨_, hlen, hc⟩ := World.cells?_some h1
      match cs', hlen, hc, h2 with
      | [c0, c1, c2, c3, c4, c5], hlen, hc, h2 =>
        have hd : Rows.uptoBulk (D i) ≤ 1048576 := Nat.le_trans (bulk_mem _ _ (List.mem_map_of_mem (List.mem_range.2 hi))) (Nat.le_trans hbd hb)
        obtain ⟨t, e, r, ki, ll⟩ := open_step h2 hd
        refine ⟨t, fun c v hv => ?_, r, ki, ll⟩
        have hv : ([c0, c1, c2, c3, c4, c5] : List Value)[c]? = some v := by
          rw [e, Array.getElem?_toList]
          exact hv
        obtain ⟨hlt, _⟩ := List.getElem?_eq_some_iff.1 hv
        exact (hc c (by simpa using hlt)).trans hv)
    refine ⟨(List.range len).map fun i => (O i).1, (List.range len).map fun i => (O i).2, ⟨by simp, by simp, hl, hm, fun h0 => ?_, fun i y s hy hs => ?_⟩, ?_⟩
    · obtain ⟨b, off, spot⟩ := ad
      have h1 := (hO 0 h0).1 0 _ rfl
      have hs : spot = none := by
        have := World.cell?_spot h1
        simpa [Addr.add] using this
      subst hs
      refine ⟨b, off, rfl, fun i hi c v hv => ?_⟩
      have := (hO i (by simpa using hi)).1 c v (by simpa using hv)
      rw [Addr.add_none, Addr.add_none] at this
      exact this
    · have hi : i < len := by
        have := (List.getElem?_eq_some_iff.1 hy).1
        simpa using this
      rw [List.getElem?_map, List.getElem?_range hi] at hy hs
      have e1 : (O i).1 = y := by simpa using hy
      have e2 : (O i).2 = s := by simpa using hs
      rw [← e1, ← e2]
      exact ⟨(hO i hi).2.1, (hO i hi).2.2.1⟩
    · exact Nat.le_trans (bulk_lines D (fun i => (O i).2) (List.range len) (fun i hi => (hO i (List.mem_range.1 hi)).2.2.2)) (Nat.mul_le_mul_left _ hbd)
end Go.Proofs.YtonfefhegghapaaDoor

namespace Go.Proofs.YtonfefhegghapaaDoor
open Go.RowKit Go.ChangeShapes Go.WideShapes Go.ChangeAt Go.Deep

/-- An array of texts that reads as a list of texts has just these. -/
theorem cells_of_texts {H : Type} {enc : TypeId × Value → H} {P : Program} {w : World} {base : Nat} {sp : Nat → Bool} {held : Bool} {fuel : Nat} {t e : TypeId} {n : Nat} {cs : List Value} {ts : List (List UInt8)} {p : List MemPlace}
    (ht : P.underlying t = some (.array n e)) (he : P.underlying e = some .string) (hce : P.cellsOf e = 1) (hct : P.cellsOf t = n)
    (h : DataW.trod enc P w base sp held fuel t cs = some (DataW.agg (ts.map fun z => DataW.lit (Lit.string z)), p)) : ∀ (i : Nat) (z : List UInt8), ts[i]? = some z → cs[i]? = some (Value.string ⟨z.toArray⟩) := by
  cases fuel with
  | zero => simp [DataW.trod] at h
  | succ fuel =>
    simp only [DataW.trod, ht, hce, hct, Nat.mul_one] at h
    split at h
    · obtain ⟨xs, hm, hx⟩ := Option.map_eq_some_iff.1 h
      have hxs : xs.map (·.1) = ts.map fun z => (DataW.lit (Lit.string z) : DataW H) := by
        have := congrArg Prod.fst hx
        simpa using this
      have hxl : xs.length = n := by simpa using Lib.mapM_length hm
      intro i z hz
      have hi : i < n := by
        have := congrArg List.length hxs
        simp at this
        have := (List.getElem?_eq_some_iff.1 hz).1
        omega
      obtain ⟨b, hb, hf⟩ := Lib.mapM_at hm i i (by simp [hi])
      obtain ⟨s, hc, rfl, _⟩ := DataW.trod_string he hf
      have h1 : cs[i]? = some (.string s) := by
        have := congrArg (·[0]?) hc
        simpa [List.getElem?_take, List.getElem?_drop] using this
      have h2 : (xs.map (·.1))[i]? = some (DataW.lit (Lit.string s.data.toList) : DataW H) := by simp [hb]
      rw [hxs, List.getElem?_map, hz] at h2
      simp at h2
      rw [h1, h2]
    · cases h
theorem Tryd.gWords : Tryd.prog.globalNamed "sherd/sherdref24.words" = some 1 := by kernel_rfl
theorem Tryd.gWordsType : (Tryd.prog.globals[1]?).map (·.type) = some 65 := by kernel_rfl
theorem Tryd.underlying65w : Tryd.prog.underlying 65 = some (.array 17 9) := by kernel_rfl
theorem Tryd.cells65w : Tryd.prog.cellsOf 65 = 17 := by kernel_rfl
theorem Tryd.cells9w : Tryd.prog.cellsOf 9 = 1 := by kernel_rfl
theorem laidMet_one {P : Program} {x : String × DataW Unit} {r : List (String × DataW Unit)} {w : World} (h : laidMet P (x :: r) w) : laidMet P [x] w := by
  obtain ⟨ps, hv, hnd, hrows⟩ := h
  obtain ⟨n, d⟩ := x
  obtain ⟨g, t, cs, fuel, p, q, h1, h2, h3, h4, hq, rfl⟩ := hv
  exact ⟨(MemPlace.row ⟨g, 0, none⟩ cs.size ++ p) ++ [], ⟨g, t, cs, fuel, p, [], h1, h2, h3, h4, rfl, rfl⟩, by rw [List.append_nil]; exact List.Nodup.sublist (List.sublist_append_left _ _) hnd, fun b off hm => hrows b off (by rw [List.append_nil] at hm; exact List.mem_append_left _ hm)⟩
/-- The variables as ScriptAll's row lists them. -/
abbrev laidAll7 : List (String × DataW Unit) := [("math/bits.deBruijn32tab", Rows.laid_math_bits_deBruijn32tab), ("math/bits.deBruijn64tab", Rows.laid_math_bits_deBruijn64tab), ("internal/strconv.uint64pow10", Rows.laid_internal_strconv_uint64pow10), ("strconv.ErrRange", Rows.laid_strconv_ErrRange), ("strconv.ErrSyntax", Rows.laid_strconv_ErrSyntax), ("sherd/script.forms", Rows.laid_sherd_script_forms), ("sherd/sherdref24.words", Rows.laid_sherd_sherdref24_words)]
theorem vars_of_laid7 {W : World} (hL : laidMet Tryd.prog laidAll7 W) : Vars W := by
  have h2 := hL.tail.tail
  have h3 := h2.tail
  have h4 := h3.tail
  refine ⟨Lib.tabIs_of_head Tryd.gPow Tryd.gPowType Tryd.underlying119 Tryd.underlying82 Tryd.cellsE Tryd.cells119 (rest := _) h2, ?_, ?_⟩
  · obtain ⟨a, s, hv, -, -, -⟩ := laid_sentinel h4 Tryd.gSyn Tryd.gSynType Tryd.underlying86 Tryd.rowE Tryd.underlying114 Tryd.underlying116 rfl rfl Tryd.underlying9 Tryd.cells116 Tryd.cells9
    exact ⟨_, _, hv⟩
  · obtain ⟨a, s, hv, -, -, -⟩ := laid_sentinel h3 Tryd.gRng Tryd.gRngType Tryd.underlying86 Tryd.rowE Tryd.underlying114 Tryd.underlying116 rfl rfl Tryd.underlying9 Tryd.cells116 Tryd.cells9
    exact ⟨_, _, hv⟩
set_option maxRecDepth 100000 in
theorem wm_of {W : World} (h : laidMet Tryd.prog [("sherd/sherdref24.words", Rows.laid_sherd_sherdref24_words)] W) : WM W := by
  obtain ⟨ps, ⟨g', t', cs, fuel, p, q, hg', ht', hvar, hd, _, _⟩, _⟩ := h
  obtain rfl := Option.some.inj (Tryd.gWords.symm.trans hg')
  obtain rfl := Option.some.inj (Tryd.gWordsType.symm.trans ht')
  have k := cells_of_texts (ts := [[], [112, 117, 116], [103, 101, 116], [99, 97, 110, 99, 101, 108], [116, 105, 99, 107], [115, 116, 111, 112], [100, 101, 108, 105, 118, 101, 114], [100, 114, 111, 112], [100, 111, 117, 98, 108, 101], [98, 117, 114, 115, 116], [99, 117, 116], [108, 111, 115, 101], [99, 114, 97, 115, 104], [115, 116, 97, 114, 116], [100, 105, 101], [99, 111, 109, 112, 97, 99, 116], [114, 111, 117, 110, 100]]) Tryd.underlying65w Tryd.underlying9 Tryd.cells9w Tryd.cells65w hd
  have c : ∀ i v, cs.toList[i]? = some v → W.cell? ⟨1, i, none⟩ = some v := fun i v hv => by
    have := World.var?_cell Tryd.gWords hvar i
    rw [this, ← Array.getElem?_toList]
    exact hv
  intro i hi
  refine c i _ ?_
  obtain rfl | rfl | rfl | rfl | rfl | rfl | rfl | rfl | rfl | rfl | rfl | rfl | rfl | rfl | rfl | rfl | rfl : i = 0 ∨ i = 1 ∨ i = 2 ∨ i = 3 ∨ i = 4 ∨ i = 5 ∨ i = 6 ∨ i = 7 ∨ i = 8 ∨ i = 9 ∨ i = 10 ∨ i = 11 ∨ i = 12 ∨ i = 13 ∨ i = 14 ∨ i = 15 ∨ i = 16 := by omega
  · exact k 0 _ rfl
  · exact k 1 _ rfl
  · exact k 2 _ rfl
  · exact k 3 _ rfl
  · exact k 4 _ rfl
  · exact k 5 _ rfl
  · exact k 6 _ rfl
  · exact k 7 _ rfl
  · exact k 8 _ rfl
  · exact k 9 _ rfl
  · exact k 10 _ rfl
  · exact k 11 _ rfl
  · exact k 12 _ rfl
  · exact k 13 _ rfl
  · exact k 14 _ rfl
  · exact k 15 _ rfl
  · exact k 16 _ rfl
end Go.Proofs.YtonfefhegghapaaDoor
