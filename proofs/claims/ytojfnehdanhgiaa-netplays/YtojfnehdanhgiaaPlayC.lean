import Derived.Test.YtojfnehdanhgiaaPlayB
namespace Go.Proofs.Ytojfnehdanhgiaa
open Go.RowKit

/-- One step of a script. -/
structure Opv where
  kd : Int
  nt : Int
  fk : Int
  fi : Int
  tk : Int
  ti : Int
  a : Option Addr
  dl : Nat
  dc : Nat
  lost : Bool
  i : Int
  n : Int
  pat : Nat
  l : List Nat
def Opv.cs (o : Opv) : Array Value := #[.int .i64 o.kd, .int .i64 o.nt, .int .i64 o.fk, .int .i64 o.fi, .int .i64 o.tk, .int .i64 o.ti, .slice o.a o.dl o.dc, .bool o.lost, .int .i64 o.i, .int .i64 o.n, .int .u32 (o.pat : Int)]
/-- The numbers are of their kinds, the bytes lie. -/
structure OpOk (w : World) (o : Opv) : Prop where
  reads : Reads w o.a o.dl o.dc o.l
  room : o.dl + 1 ≤ 140737488355328
  n : o.n < 9223372036854775808
  pat : o.pat < 4294967296
theorem OpOk.kept {S : Nat → Prop} {w w' : World} {o : Opv} (h : OpOk w o) (K : Kept S w w') (hs : ∀ p, o.a = some p → ¬ S p.block) : OpOk w' o := ⟨h.reads.kept K hs, h.room, h.n, h.pat⟩
theorem OpOk.kept0 {w w' : World} {o : Opv} (h : OpOk w o) (K : Kept (fun _ => False) w w') : OpOk w' o := ⟨h.reads.kept' K (fun _ _ q => q), h.room, h.n, h.pat⟩
/-- Both sides at rest. -/
structure Pair (base : Nat) (w : World) (vn vr : Value) (sn sr : Option (Nat × Option Nat)) (ps : List Pk) : Prop where
  net : NSide 67 base w vn sn ps
  ref : NSide 71 base w vr sr ps
  disj : ∀ k, FP sn k → ¬ FP sr k
  low : base ≤ w.heap.size
  both : sn.isSome = sr.isSome
/-- What a step leaves. -/
def PDid (base : Nat) (w : World) (vn vr : Value) (sn sr : Option (Nat × Option Nat)) (ps : List Pk) (w' : World) : Prop := ∃ sn' sr' ps', Pair base w' vn vr sn' sr' ps' ∧ Kept (fun k => FP sn k ∨ FP sr k) w w' ∧ (∀ k, FP sn' k → FP sn k ∨ w.heap.size ≤ k) ∧ (∀ k, FP sr' k → FP sr k ∨ w.heap.size ≤ k) ∧ sn.isSome = sn'.isSome ∧ ps'.length ≤ ps.length + 1
theorem Pair.start {base : Nat} {w W : World} {vn vr : Value} {sn sr : Option (Nat × Option Nat)} {ps : List Pk} (h : Pair base w vn vr sn sr ps) (K : Kept (fun _ => False) w W) : ST base W W vn vr sn sr sn sr ps ps :=
  ⟨h.net.kept0 K, h.ref.kept0 K, h.disj, Kept.refl _ _, fun _ h => .inl h, fun _ h => .inl h, rfl, rfl, Nat.le_trans h.low K.size⟩
theorem Pair.done {base : Nat} {w W w' : World} {vn vr : Value} {sn sr sn' sr' : Option (Nat × Option Nat)} {ps psn psr : List Pk} (h : Pair base w vn vr sn sr ps) (K : Kept (fun _ => False) w W) (s : ST base W w' vn vr sn sr sn' sr' psn psr) (he : psn = psr) (hl : psn.length ≤ ps.length + 1) : PDid base w vn vr sn sr ps w' := by
  subst he
  refine ⟨sn', sr', psn, ⟨s.net, s.ref, s.disj, s.base, by rw [← s.someN, ← s.someR]; exact h.both⟩, (K.mono (fun _ _ q => q.elim)).trans s.kept (fun _ _ q => q), fun k hk => ?_, fun k hk => ?_, s.someN, hl⟩
  · rcases s.nearN k hk with y | y
    · exact .inl y
    · exact .inr (Nat.le_trans K.size y)
  · rcases s.nearR k hk with y | y
    · exact .inl y
    · exact .inr (Nat.le_trans K.size y)
theorem psOf_eq {sn sr : Option (Nat × Option Nat)} (h : sn.isSome = sr.isSome) (r : List Pk × Int) (ps : List Pk) : psOf sn r ps = psOf sr r ps := by unfold psOf; rw [h]
theorem ansOf_eq {sn sr : Option (Nat × Option Nat)} (h : sn.isSome = sr.isSome) (r : List Pk × Int) : ansOf sn r = ansOf sr r := by unfold ansOf; rw [h]
theorem psOf_len (s : Option (Nat × Option Nat)) (r : List Pk × Int) (ps : List Pk) (h : r.1.length ≤ ps.length + 1) : (psOf s r ps).length ≤ ps.length + 1 := by unfold psOf; split <;> omega
theorem aDrop_len (ps : List Pk) (i : Int) : (aDrop ps i).1.length ≤ ps.length + 1 := by
  unfold aDrop
  split
  · simp only [List.length_append, List.length_take, List.length_drop]; omega
  · exact Nat.le_succ _
theorem aDouble_len (ps : List Pk) (i : Int) : (aDouble ps i).1.length ≤ ps.length + 1 := by
  unfold aDouble
  split
  · simp only [List.length_append]
    have : (ps[i.toNat]?).toList.length ≤ 1 := by cases ps[i.toNat]? <;> simp
    omega
  · exact Nat.le_succ _
theorem aBurst_len (f : Nat → Nat → List Nat → List Nat) (ps : List Pk) (i bit : Int) (pat : Nat) : (aBurst f ps i bit pat).1.length ≤ ps.length + 1 := by
  unfold aBurst
  split
  · split
    · exact Nat.le_succ _
    · simp only [upd_length]; omega
  · exact Nat.le_succ _
theorem aCut_len (ps : List Pk) (i n : Int) : (aCut ps i n).1.length ≤ ps.length + 1 := by
  unfold aCut
  split
  · split
    · exact Nat.le_succ _
    · simp only [upd_length]; omega
  · exact Nat.le_succ _
theorem aLose_len (ps : List Pk) (i : Int) : (aLose ps i).1.length ≤ ps.length + 1 := by
  unfold aLose
  split
  · simp only [upd_length]; omega
  · exact Nat.le_succ _
/-- The box of a step stays as it is. -/
theorem box_stays {base : Nat} {w : World} {vn vr : Value} {sn sr : Option (Nat × Option Nat)} {ps : List Pk} (h : Pair base w vn vr sn sr ps) (o : Opv) : ∀ w', Kept (fun k => FP sn k ∨ FP sr k) (w.alloc (.cells o.cs 58)) w' → w'.heap[w.heap.size]? = some (.cells o.cs 58 (0, 0)) := fun w' K =>
  K.get (alloc_new w (.cells o.cs 58)) (fun z => by
    rcases z with z | z
    · have := (h.net.fp _ z).1; omega
    · have := (h.ref.fp _ z).1; omega)
set_option maxRecDepth 100000 in
set_option maxHeartbeats 1000000 in
theorem plays2 (base : Nat) (w : World) (vn vr : Value) (sn sr : Option (Nat × Option Nat)) (ps : List Pk) (o : Opv) (h : Pair base w vn vr sn sr ps) (ho : OpOk w o) (hb : ps.length + 1 ≤ Big) (hk : o.kd = 2) :
    Calls Try.prog 23 #[vn, vr, .agg #[.int .i64 o.kd, .int .i64 o.nt, .int .i64 o.fk, .int .i64 o.fi, .int .i64 o.tk, .int .i64 o.ti, .slice o.a o.dl o.dc, .bool o.lost, .int .i64 o.i, .int .i64 o.n, .int .u32 (o.pat : Int)]] w fun x w' => x = .returned (.bool true) ∧ PDid base w vn vr sn sr ps w' := by
  have HH : Hid (Pair base w vn vr sn sr ps ∧ OpOk w o ∧ ps.length + 1 ≤ Big) := ⟨h, ho, hb⟩
  have BX : Hid (∀ w', Kept (fun k => FP sn k ∨ FP sr k) (w.alloc (.cells o.cs 58)) w' → w'.cell? ⟨w.heap.size, 8, none⟩ = some (.int .i64 o.i) ∧ w'.cell? ⟨w.heap.size, 9, none⟩ = some (.int .i64 o.n) ∧ w'.cell? ⟨w.heap.size, 10, none⟩ = some (.int .u32 (o.pat : Int))) := fun w' K => by
    have b := box_stays h o w' K
    exact ⟨cell_blk b 8 rfl, cell_blk b 9 rfl, cell_blk b 10 rfl⟩
  obtain ⟨r, hr⟩ : ∃ r, r = aDrop ps o.i := ⟨_, rfl⟩
  obtain ⟨an, han⟩ : ∃ an, ansOf sn r = an := ⟨_, rfl⟩
  have han2 : ansOf sr r = an := by rw [← han]; exact (ansOf_eq h.both r).symm
  have HA : Hid (ansOf sn r = an ∧ ansOf sr r = an ∧ r = aDrop ps o.i ∧ psOf sn r ps = psOf sr r ps ∧ (psOf sn r ps).length ≤ ps.length + 1) := ⟨han, han2, hr, psOf_eq h.both r ps, by rw [hr]; exact psOf_len _ _ _ (aDrop_len _ _)⟩
  have ST0 : Hid (ST base (w.alloc (.cells o.cs 58)) (w.alloc (.cells o.cs 58)).drew vn vr sn sr sn sr ps ps) := (h.start (alloc_kept0 w _)).quiet ((Kept.refl (fun _ => False) (w.alloc (.cells o.cs 58))).drew)
  obtain ⟨d8, d9, d10⟩ := BX.out (w.alloc (.cells o.cs 58)) (Kept.refl _ _)
  obtain ⟨W, hW⟩ : ∃ W, W = w.alloc (.cells o.cs 58) := ⟨_, rfl⟩
  rw [← hW] at ST0 BX d8 d9 d10
  have EW : Hid (W = w.alloc (.cells #[.int .i64 2, .int .i64 o.nt, .int .i64 o.fk, .int .i64 o.fi, .int .i64 o.tk, .int .i64 o.ti, .slice o.a o.dl o.dc, .bool o.lost, .int .i64 o.i, .int .i64 o.n, .int .u32 (o.pat : Int)] 58)) := by show W = _; rw [hW, Opv.cs, hk]
  clear h ho hb hr han han2 hW
  go_enter Try.func23, Try.ntmps23
  go_upto_region 19 with fail
  rw [← EW.out]
  have ST : Hid (ST base W W.drew vn vr sn sr sn sr ps ps) := ST0
  go_region_held3 (fun w' => w'.cell? ⟨w.heap.size, 8, none⟩ = some (.int .i64 o.i) ∧ w'.cell? ⟨w.heap.size, 9, none⟩ = some (.int .i64 o.n) ∧ w'.cell? ⟨w.heap.size, 10, none⟩ = some (.int .u32 (o.pat : Int))) (first | go_keep)
    (first
      | (go_at_call 35; refine (ST.out.refDid (r := r) (by rw [HA.out.2.2.1]; exact side_did 35 (fun v => #[v, .int .i64 o.i]) _ ST.out.ref (rdrop_nil o.i _) (fun C g n => rDrop base C g ps o.i _ n ST.out.base (Nat.le_of_succ_le HH.out.2.2)))).mono ?_; rw [HA.out.2.1]; rintro x w2 ⟨s2, rfl, T2⟩
         obtain ⟨e8, e9, e10⟩ := BX.out w2 T2.kept
         have RD : Hid (psOf sr r ps = psOf sr r ps) := rfl
         have STr : Hid (_root_.Go.Proofs.Ytojfnehdanhgiaa.ST base W w2 vn vr sn sr _ s2 _ (psOf sr r ps)) := T2
         clear ST T2
         have ST := STr
         clear STr)
      | (go_at_call 18; refine (ST.out.netDid (r := r) (by rw [HA.out.2.2.1]; exact side_did 18 (fun v => #[v, .int .i64 o.i]) _ ST.out.net (drop_nil o.i _) (fun C g n => nDrop base C g ps o.i _ n))).mono ?_; rw [HA.out.1]; rintro x w2 ⟨s2, rfl, T2⟩
         obtain ⟨e8, e9, e10⟩ := BX.out w2 T2.kept
         have STn : Hid (_root_.Go.Proofs.Ytojfnehdanhgiaa.ST base W w2 vn vr sn sr s2 _ (psOf sn r ps) _) := T2
         clear ST T2
         have ST := STn
         clear STn)
      | fail)
  all_goals (go_wp2_with fail; go_ret)
  all_goals exact ⟨by simp, HH.out.1.done (W := W) (by rw [EW.out]; exact alloc_kept0 w _) ST.out HA.out.2.2.2.1 HA.out.2.2.2.2⟩
set_option maxRecDepth 100000 in
set_option maxHeartbeats 1000000 in
theorem plays3 (base : Nat) (w : World) (vn vr : Value) (sn sr : Option (Nat × Option Nat)) (ps : List Pk) (o : Opv) (h : Pair base w vn vr sn sr ps) (ho : OpOk w o) (hb : ps.length + 1 ≤ Big) (hk : o.kd = 3) :
    Calls Try.prog 23 #[vn, vr, .agg #[.int .i64 o.kd, .int .i64 o.nt, .int .i64 o.fk, .int .i64 o.fi, .int .i64 o.tk, .int .i64 o.ti, .slice o.a o.dl o.dc, .bool o.lost, .int .i64 o.i, .int .i64 o.n, .int .u32 (o.pat : Int)]] w fun x w' => x = .returned (.bool true) ∧ PDid base w vn vr sn sr ps w' := by
  have HH : Hid (Pair base w vn vr sn sr ps ∧ OpOk w o ∧ ps.length + 1 ≤ Big) := ⟨h, ho, hb⟩
  have BX : Hid (∀ w', Kept (fun k => FP sn k ∨ FP sr k) (w.alloc (.cells o.cs 58)) w' → w'.cell? ⟨w.heap.size, 8, none⟩ = some (.int .i64 o.i) ∧ w'.cell? ⟨w.heap.size, 9, none⟩ = some (.int .i64 o.n) ∧ w'.cell? ⟨w.heap.size, 10, none⟩ = some (.int .u32 (o.pat : Int))) := fun w' K => by
    have b := box_stays h o w' K
    exact ⟨cell_blk b 8 rfl, cell_blk b 9 rfl, cell_blk b 10 rfl⟩
  obtain ⟨r, hr⟩ : ∃ r, r = aDouble ps o.i := ⟨_, rfl⟩
  obtain ⟨an, han⟩ : ∃ an, ansOf sn r = an := ⟨_, rfl⟩
  have han2 : ansOf sr r = an := by rw [← han]; exact (ansOf_eq h.both r).symm
  have HA : Hid (ansOf sn r = an ∧ ansOf sr r = an ∧ r = aDouble ps o.i ∧ psOf sn r ps = psOf sr r ps ∧ (psOf sn r ps).length ≤ ps.length + 1) := ⟨han, han2, hr, psOf_eq h.both r ps, by rw [hr]; exact psOf_len _ _ _ (aDouble_len _ _)⟩
  have ST0 : Hid (ST base (w.alloc (.cells o.cs 58)) (w.alloc (.cells o.cs 58)).drew vn vr sn sr sn sr ps ps) := (h.start (alloc_kept0 w _)).quiet ((Kept.refl (fun _ => False) (w.alloc (.cells o.cs 58))).drew)
  obtain ⟨d8, d9, d10⟩ := BX.out (w.alloc (.cells o.cs 58)) (Kept.refl _ _)
  obtain ⟨W, hW⟩ : ∃ W, W = w.alloc (.cells o.cs 58) := ⟨_, rfl⟩
  rw [← hW] at ST0 BX d8 d9 d10
  have EW : Hid (W = w.alloc (.cells #[.int .i64 3, .int .i64 o.nt, .int .i64 o.fk, .int .i64 o.fi, .int .i64 o.tk, .int .i64 o.ti, .slice o.a o.dl o.dc, .bool o.lost, .int .i64 o.i, .int .i64 o.n, .int .u32 (o.pat : Int)] 58)) := by show W = _; rw [hW, Opv.cs, hk]
  clear h ho hb hr han han2 hW
  go_enter Try.func23, Try.ntmps23
  go_upto_region 21 with fail
  rw [← EW.out]
  have ST : Hid (ST base W W.drew vn vr sn sr sn sr ps ps) := ST0
  go_region_held3 (fun w' => w'.cell? ⟨w.heap.size, 8, none⟩ = some (.int .i64 o.i) ∧ w'.cell? ⟨w.heap.size, 9, none⟩ = some (.int .i64 o.n) ∧ w'.cell? ⟨w.heap.size, 10, none⟩ = some (.int .u32 (o.pat : Int))) (first | go_keep)
    (first
      | (go_at_call 36; refine (ST.out.refDid (r := r) (by rw [HA.out.2.2.1]; exact side_did 36 (fun v => #[v, .int .i64 o.i]) _ ST.out.ref (rdouble_nil o.i _) (fun C g n => rDouble base C g ps o.i _ n ST.out.base HH.out.2.2))).mono ?_; rw [HA.out.2.1]; rintro x w2 ⟨s2, rfl, T2⟩
         obtain ⟨e8, e9, e10⟩ := BX.out w2 T2.kept
         have RD : Hid (psOf sr r ps = psOf sr r ps) := rfl
         have STr : Hid (_root_.Go.Proofs.Ytojfnehdanhgiaa.ST base W w2 vn vr sn sr _ s2 _ (psOf sr r ps)) := T2
         clear ST T2
         have ST := STr
         clear STr)
      | (go_at_call 8; refine (ST.out.netDid (r := r) (by rw [HA.out.2.2.1]; exact side_did 8 (fun v => #[v, .int .i64 o.i]) _ ST.out.net (double_nil o.i _) (fun C g n => nDouble base C g ps o.i _ n ST.out.base HH.out.2.2))).mono ?_; rw [HA.out.1]; rintro x w2 ⟨s2, rfl, T2⟩
         obtain ⟨e8, e9, e10⟩ := BX.out w2 T2.kept
         have STn : Hid (_root_.Go.Proofs.Ytojfnehdanhgiaa.ST base W w2 vn vr sn sr s2 _ (psOf sn r ps) _) := T2
         clear ST T2
         have ST := STn
         clear STn)
      | fail)
  all_goals (go_wp2_with fail; go_ret)
  all_goals exact ⟨by simp, HH.out.1.done (W := W) (by rw [EW.out]; exact alloc_kept0 w _) ST.out HA.out.2.2.2.1 HA.out.2.2.2.2⟩
set_option maxRecDepth 100000 in
set_option maxHeartbeats 1000000 in
theorem plays4 (base : Nat) (w : World) (vn vr : Value) (sn sr : Option (Nat × Option Nat)) (ps : List Pk) (o : Opv) (h : Pair base w vn vr sn sr ps) (ho : OpOk w o) (hb : ps.length + 1 ≤ Big) (hk : o.kd = 4) :
    Calls Try.prog 23 #[vn, vr, .agg #[.int .i64 o.kd, .int .i64 o.nt, .int .i64 o.fk, .int .i64 o.fi, .int .i64 o.tk, .int .i64 o.ti, .slice o.a o.dl o.dc, .bool o.lost, .int .i64 o.i, .int .i64 o.n, .int .u32 (o.pat : Int)]] w fun x w' => x = .returned (.bool true) ∧ PDid base w vn vr sn sr ps w' := by
  have HH : Hid (Pair base w vn vr sn sr ps ∧ OpOk w o ∧ ps.length + 1 ≤ Big) := ⟨h, ho, hb⟩
  have BX : Hid (∀ w', Kept (fun k => FP sn k ∨ FP sr k) (w.alloc (.cells o.cs 58)) w' → w'.cell? ⟨w.heap.size, 8, none⟩ = some (.int .i64 o.i) ∧ w'.cell? ⟨w.heap.size, 9, none⟩ = some (.int .i64 o.n) ∧ w'.cell? ⟨w.heap.size, 10, none⟩ = some (.int .u32 (o.pat : Int))) := fun w' K => by
    have b := box_stays h o w' K
    exact ⟨cell_blk b 8 rfl, cell_blk b 9 rfl, cell_blk b 10 rfl⟩
  obtain ⟨r, hr⟩ : ∃ r, r = aBurst turned ps o.i o.n o.pat := ⟨_, rfl⟩
  obtain ⟨an, han⟩ : ∃ an, ansOf sn r = an := ⟨_, rfl⟩
  have han2 : ansOf sr r = an := by rw [← han]; exact (ansOf_eq h.both r).symm
  have HA : Hid (ansOf sn r = an ∧ ansOf sr r = an ∧ r = aBurst turned ps o.i o.n o.pat ∧ psOf sn r ps = psOf sr r ps ∧ (psOf sn r ps).length ≤ ps.length + 1) := ⟨han, han2, hr, psOf_eq h.both r ps, by rw [hr]; exact psOf_len _ _ _ (aBurst_len _ _ _ _ _)⟩
  have ST0 : Hid (ST base (w.alloc (.cells o.cs 58)) (w.alloc (.cells o.cs 58)).drew vn vr sn sr sn sr ps ps) := (h.start (alloc_kept0 w _)).quiet ((Kept.refl (fun _ => False) (w.alloc (.cells o.cs 58))).drew)
  obtain ⟨d8, d9, d10⟩ := BX.out (w.alloc (.cells o.cs 58)) (Kept.refl _ _)
  obtain ⟨W, hW⟩ : ∃ W, W = w.alloc (.cells o.cs 58) := ⟨_, rfl⟩
  rw [← hW] at ST0 BX d8 d9 d10
  have EW : Hid (W = w.alloc (.cells #[.int .i64 4, .int .i64 o.nt, .int .i64 o.fk, .int .i64 o.fi, .int .i64 o.tk, .int .i64 o.ti, .slice o.a o.dl o.dc, .bool o.lost, .int .i64 o.i, .int .i64 o.n, .int .u32 (o.pat : Int)] 58)) := by show W = _; rw [hW, Opv.cs, hk]
  clear h ho hb hr han han2 hW
  go_enter Try.func23, Try.ntmps23
  go_upto_region 23 with fail
  rw [← EW.out]
  have ST : Hid (ST base W W.drew vn vr sn sr sn sr ps ps) := ST0
  go_region_held3 (fun w' => w'.cell? ⟨w.heap.size, 8, none⟩ = some (.int .i64 o.i) ∧ w'.cell? ⟨w.heap.size, 9, none⟩ = some (.int .i64 o.n) ∧ w'.cell? ⟨w.heap.size, 10, none⟩ = some (.int .u32 (o.pat : Int))) (first | go_keep)
    (first
      | (go_at_call 37; refine (ST.out.refDid (r := r) (by rw [HA.out.2.2.1]; exact side_did 37 (fun v => #[v, .int .i64 o.i, .int .i64 o.n, .int .u32 (o.pat : Int)]) _ ST.out.ref (rburst_nil o.i o.n o.pat _) (fun C g n => rBurst base C g ps o.i o.n o.pat _ n ST.out.base HH.out.2.1.n))).mono ?_; rw [HA.out.2.1]; rintro x w2 ⟨s2, rfl, T2⟩
         obtain ⟨e8, e9, e10⟩ := BX.out w2 T2.kept
         have RD : Hid (psOf sr r ps = psOf sr r ps) := rfl
         have STr : Hid (_root_.Go.Proofs.Ytojfnehdanhgiaa.ST base W w2 vn vr sn sr _ s2 _ (psOf sr r ps)) := T2
         clear ST T2
         have ST := STr
         clear STr)
      | (go_at_call 9; refine (ST.out.netDid (r := r) (by rw [HA.out.2.2.1]; exact side_did 9 (fun v => #[v, .int .i64 o.i, .int .i64 o.n, .int .u32 (o.pat : Int)]) _ ST.out.net (burst_nil o.i o.n o.pat _) (fun C g n => nBurst base C g ps o.i o.n o.pat _ n ST.out.base HH.out.2.1.n HH.out.2.1.pat))).mono ?_; rw [HA.out.1]; rintro x w2 ⟨s2, rfl, T2⟩
         obtain ⟨e8, e9, e10⟩ := BX.out w2 T2.kept
         have STn : Hid (_root_.Go.Proofs.Ytojfnehdanhgiaa.ST base W w2 vn vr sn sr s2 _ (psOf sn r ps) _) := T2
         clear ST T2
         have ST := STn
         clear STn)
      | fail)
  all_goals (go_wp2_with fail; go_ret)
  all_goals exact ⟨by simp, HH.out.1.done (W := W) (by rw [EW.out]; exact alloc_kept0 w _) ST.out HA.out.2.2.2.1 HA.out.2.2.2.2⟩
set_option maxRecDepth 100000 in
set_option maxHeartbeats 1000000 in
theorem plays5 (base : Nat) (w : World) (vn vr : Value) (sn sr : Option (Nat × Option Nat)) (ps : List Pk) (o : Opv) (h : Pair base w vn vr sn sr ps) (ho : OpOk w o) (hb : ps.length + 1 ≤ Big) (hk : o.kd = 5) :
    Calls Try.prog 23 #[vn, vr, .agg #[.int .i64 o.kd, .int .i64 o.nt, .int .i64 o.fk, .int .i64 o.fi, .int .i64 o.tk, .int .i64 o.ti, .slice o.a o.dl o.dc, .bool o.lost, .int .i64 o.i, .int .i64 o.n, .int .u32 (o.pat : Int)]] w fun x w' => x = .returned (.bool true) ∧ PDid base w vn vr sn sr ps w' := by
  have HH : Hid (Pair base w vn vr sn sr ps ∧ OpOk w o ∧ ps.length + 1 ≤ Big) := ⟨h, ho, hb⟩
  have BX : Hid (∀ w', Kept (fun k => FP sn k ∨ FP sr k) (w.alloc (.cells o.cs 58)) w' → w'.cell? ⟨w.heap.size, 8, none⟩ = some (.int .i64 o.i) ∧ w'.cell? ⟨w.heap.size, 9, none⟩ = some (.int .i64 o.n) ∧ w'.cell? ⟨w.heap.size, 10, none⟩ = some (.int .u32 (o.pat : Int))) := fun w' K => by
    have b := box_stays h o w' K
    exact ⟨cell_blk b 8 rfl, cell_blk b 9 rfl, cell_blk b 10 rfl⟩
  obtain ⟨r, hr⟩ : ∃ r, r = aCut ps o.i o.n := ⟨_, rfl⟩
  obtain ⟨an, han⟩ : ∃ an, ansOf sn r = an := ⟨_, rfl⟩
  have han2 : ansOf sr r = an := by rw [← han]; exact (ansOf_eq h.both r).symm
  have HA : Hid (ansOf sn r = an ∧ ansOf sr r = an ∧ r = aCut ps o.i o.n ∧ psOf sn r ps = psOf sr r ps ∧ (psOf sn r ps).length ≤ ps.length + 1) := ⟨han, han2, hr, psOf_eq h.both r ps, by rw [hr]; exact psOf_len _ _ _ (aCut_len _ _ _)⟩
  have ST0 : Hid (ST base (w.alloc (.cells o.cs 58)) (w.alloc (.cells o.cs 58)).drew vn vr sn sr sn sr ps ps) := (h.start (alloc_kept0 w _)).quiet ((Kept.refl (fun _ => False) (w.alloc (.cells o.cs 58))).drew)
  obtain ⟨d8, d9, d10⟩ := BX.out (w.alloc (.cells o.cs 58)) (Kept.refl _ _)
  obtain ⟨W, hW⟩ : ∃ W, W = w.alloc (.cells o.cs 58) := ⟨_, rfl⟩
  rw [← hW] at ST0 BX d8 d9 d10
  have EW : Hid (W = w.alloc (.cells #[.int .i64 5, .int .i64 o.nt, .int .i64 o.fk, .int .i64 o.fi, .int .i64 o.tk, .int .i64 o.ti, .slice o.a o.dl o.dc, .bool o.lost, .int .i64 o.i, .int .i64 o.n, .int .u32 (o.pat : Int)] 58)) := by show W = _; rw [hW, Opv.cs, hk]
  clear h ho hb hr han han2 hW
  go_enter Try.func23, Try.ntmps23
  go_upto_region 25 with fail
  rw [← EW.out]
  have ST : Hid (ST base W W.drew vn vr sn sr sn sr ps ps) := ST0
  go_region_held3 (fun w' => w'.cell? ⟨w.heap.size, 8, none⟩ = some (.int .i64 o.i) ∧ w'.cell? ⟨w.heap.size, 9, none⟩ = some (.int .i64 o.n) ∧ w'.cell? ⟨w.heap.size, 10, none⟩ = some (.int .u32 (o.pat : Int))) (first | go_keep)
    (first
      | (go_at_call 38; refine (ST.out.refDid (r := r) (by rw [HA.out.2.2.1]; exact side_did 38 (fun v => #[v, .int .i64 o.i, .int .i64 o.n]) _ ST.out.ref (rcut_nil o.i o.n _) (fun C g n => rCut base C g ps o.i o.n _ n HH.out.2.1.n))).mono ?_; rw [HA.out.2.1]; rintro x w2 ⟨s2, rfl, T2⟩
         obtain ⟨e8, e9, e10⟩ := BX.out w2 T2.kept
         have RD : Hid (psOf sr r ps = psOf sr r ps) := rfl
         have STr : Hid (_root_.Go.Proofs.Ytojfnehdanhgiaa.ST base W w2 vn vr sn sr _ s2 _ (psOf sr r ps)) := T2
         clear ST T2
         have ST := STr
         clear STr)
      | (go_at_call 15; refine (ST.out.netDid (r := r) (by rw [HA.out.2.2.1]; exact side_did 15 (fun v => #[v, .int .i64 o.i, .int .i64 o.n]) _ ST.out.net (cut_nil o.i o.n _) (fun C g n => nCut base C g ps o.i o.n _ n ST.out.base))).mono ?_; rw [HA.out.1]; rintro x w2 ⟨s2, rfl, T2⟩
         obtain ⟨e8, e9, e10⟩ := BX.out w2 T2.kept
         have STn : Hid (_root_.Go.Proofs.Ytojfnehdanhgiaa.ST base W w2 vn vr sn sr s2 _ (psOf sn r ps) _) := T2
         clear ST T2
         have ST := STn
         clear STn)
      | fail)
  all_goals (go_wp2_with fail; go_ret)
  all_goals exact ⟨by simp, HH.out.1.done (W := W) (by rw [EW.out]; exact alloc_kept0 w _) ST.out HA.out.2.2.2.1 HA.out.2.2.2.2⟩
set_option maxRecDepth 100000 in
set_option maxHeartbeats 1000000 in
theorem plays6 (base : Nat) (w : World) (vn vr : Value) (sn sr : Option (Nat × Option Nat)) (ps : List Pk) (o : Opv) (h : Pair base w vn vr sn sr ps) (ho : OpOk w o) (hb : ps.length + 1 ≤ Big) (hk : o.kd = 6) :
    Calls Try.prog 23 #[vn, vr, .agg #[.int .i64 o.kd, .int .i64 o.nt, .int .i64 o.fk, .int .i64 o.fi, .int .i64 o.tk, .int .i64 o.ti, .slice o.a o.dl o.dc, .bool o.lost, .int .i64 o.i, .int .i64 o.n, .int .u32 (o.pat : Int)]] w fun x w' => x = .returned (.bool true) ∧ PDid base w vn vr sn sr ps w' := by
  have HH : Hid (Pair base w vn vr sn sr ps ∧ OpOk w o ∧ ps.length + 1 ≤ Big) := ⟨h, ho, hb⟩
  have BX : Hid (∀ w', Kept (fun k => FP sn k ∨ FP sr k) (w.alloc (.cells o.cs 58)) w' → w'.cell? ⟨w.heap.size, 8, none⟩ = some (.int .i64 o.i) ∧ w'.cell? ⟨w.heap.size, 9, none⟩ = some (.int .i64 o.n) ∧ w'.cell? ⟨w.heap.size, 10, none⟩ = some (.int .u32 (o.pat : Int))) := fun w' K => by
    have b := box_stays h o w' K
    exact ⟨cell_blk b 8 rfl, cell_blk b 9 rfl, cell_blk b 10 rfl⟩
  obtain ⟨r, hr⟩ : ∃ r, r = aLose ps o.i := ⟨_, rfl⟩
  obtain ⟨an, han⟩ : ∃ an, ansOf sn r = an := ⟨_, rfl⟩
  have han2 : ansOf sr r = an := by rw [← han]; exact (ansOf_eq h.both r).symm
  have HA : Hid (ansOf sn r = an ∧ ansOf sr r = an ∧ r = aLose ps o.i ∧ psOf sn r ps = psOf sr r ps ∧ (psOf sn r ps).length ≤ ps.length + 1) := ⟨han, han2, hr, psOf_eq h.both r ps, by rw [hr]; exact psOf_len _ _ _ (aLose_len _ _)⟩
  have ST0 : Hid (ST base (w.alloc (.cells o.cs 58)) (w.alloc (.cells o.cs 58)).drew vn vr sn sr sn sr ps ps) := (h.start (alloc_kept0 w _)).quiet ((Kept.refl (fun _ => False) (w.alloc (.cells o.cs 58))).drew)
  obtain ⟨d8, d9, d10⟩ := BX.out (w.alloc (.cells o.cs 58)) (Kept.refl _ _)
  obtain ⟨W, hW⟩ : ∃ W, W = w.alloc (.cells o.cs 58) := ⟨_, rfl⟩
  rw [← hW] at ST0 BX d8 d9 d10
  have EW : Hid (W = w.alloc (.cells #[.int .i64 6, .int .i64 o.nt, .int .i64 o.fk, .int .i64 o.fi, .int .i64 o.tk, .int .i64 o.ti, .slice o.a o.dl o.dc, .bool o.lost, .int .i64 o.i, .int .i64 o.n, .int .u32 (o.pat : Int)] 58)) := by show W = _; rw [hW, Opv.cs, hk]
  clear h ho hb hr han han2 hW
  go_enter Try.func23, Try.ntmps23
  go_upto_region 27 with fail
  rw [← EW.out]
  have ST : Hid (ST base W W.drew vn vr sn sr sn sr ps ps) := ST0
  go_region_held3 (fun w' => w'.cell? ⟨w.heap.size, 8, none⟩ = some (.int .i64 o.i) ∧ w'.cell? ⟨w.heap.size, 9, none⟩ = some (.int .i64 o.n) ∧ w'.cell? ⟨w.heap.size, 10, none⟩ = some (.int .u32 (o.pat : Int))) (first | go_keep)
    (first
      | (go_at_call 39; refine (ST.out.refDid (r := r) (by rw [HA.out.2.2.1]; exact side_did 39 (fun v => #[v, .int .i64 o.i]) _ ST.out.ref (rlose_nil o.i _) (fun C g n => rLose base C g ps o.i _ n))).mono ?_; rw [HA.out.2.1]; rintro x w2 ⟨s2, rfl, T2⟩
         obtain ⟨e8, e9, e10⟩ := BX.out w2 T2.kept
         have RD : Hid (psOf sr r ps = psOf sr r ps) := rfl
         have STr : Hid (_root_.Go.Proofs.Ytojfnehdanhgiaa.ST base W w2 vn vr sn sr _ s2 _ (psOf sr r ps)) := T2
         clear ST T2
         have ST := STr
         clear STr)
      | (go_at_call 40; refine (ST.out.netDid (r := r) (by rw [HA.out.2.2.1]; exact side_did 40 (fun v => #[v, .int .i64 o.i]) _ ST.out.net (lose_nil o.i _) (fun C g n => nLose base C g ps o.i _ n))).mono ?_; rw [HA.out.1]; rintro x w2 ⟨s2, rfl, T2⟩
         obtain ⟨e8, e9, e10⟩ := BX.out w2 T2.kept
         have STn : Hid (_root_.Go.Proofs.Ytojfnehdanhgiaa.ST base W w2 vn vr sn sr s2 _ (psOf sn r ps) _) := T2
         clear ST T2
         have ST := STn
         clear STn)
      | fail)
  all_goals (go_wp2_with fail; go_ret)
  all_goals exact ⟨by simp, HH.out.1.done (W := W) (by rw [EW.out]; exact alloc_kept0 w _) ST.out HA.out.2.2.2.1 HA.out.2.2.2.2⟩
end Go.Proofs.Ytojfnehdanhgiaa
