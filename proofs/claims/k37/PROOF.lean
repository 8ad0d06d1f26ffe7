import PyProof.Rows.All
import Wide.All
import OpenK.AllK
import Wide.FinOn
import HandS.ForMost
import HandS.Zip
import HandS.Walk
import HandS.TupMul
import HandS.IsInst
import HandS.Flow
import KE.GoesEnum
import HandS.ForExc
import HandS.TupSets
import HandS.TupAny
import HandS.Style
import HandS.Sort
import HandS.SortOrd
import HandS.Conv
import HandS.DictTup
import HandS.RaiseMore
import PyProof.ReprRoads
import HandS.TupLe
import HandS.Deep
import PySem.Challenge.RW_jointneeds_k37_chains_and_boundaries
set_option Elab.async false
set_option linter.all false
set_option maxRecDepth 100000
set_option maxHeartbeats 4000000
namespace JN
open PySem PySem.Spec PyProof.Rows L2
/-! a tuple walked by enumerate -/
def IteT (K : PySem.W.Frag) (a : Addr) : It where
  go := fun i H => ∃ (xs : List V) (x : V), SqT K H a xs ∧ xs[i]? = some x
  yld := fun i H v H' => ∃ T x, v = .ref T ∧ H T = none ∧ H' = upd H T (.tup [.int (i : Nat), x]) ∧ ∀ xs, SqT K H a xs → xs[i]? = some x
  stop := fun i H => ∃ xs : List V, SqT K H a xs ∧ xs.length ≤ i
theorem ne_by_cls {h : Heap} {a b : Addr} {o p : Obj} (ho : h.get? a = some o) (hp : h.get? b = some p) (n : o.cls ≠ p.cls) : a ≠ b := fun e => by
  subst e
  rw [ho] at hp
  cases hp
  exact n rfl
theorem turn_enumT {P : Program} {w : World} {K : PySem.W.Frag} {elts : List Expr} {kk : Nat} {tpos : Pos} (a e it : Addr) :
    Turn P w K (.Tuple elts kk tpos) (IteT K a) [e, it] e (fun i h => (∃ old, IsEnum h e it ((i : Nat) : Int) old) ∧ h.IsTupleIter it a i ∧ e ≠ it) where
  mem := by simp
  obj := fun i h st b hb => by
    obtain ⟨⟨old, he⟩, ⟨o, ho, hc, hd⟩, _⟩ := st
    rcases (show b = e ∨ b = it by simpa using hb) with rfl | rfl
    · exact ⟨_, he, fun v q => nomatch q⟩
    · exact ⟨o, ho, fun v q => by rw [hd] at q; cases q⟩
  keep := fun i h h' st k => ⟨let ⟨old, he⟩ := st.1; ⟨old, k e (by simp) _ he⟩, st.2.1.at fun o q => k it (by simp) o q, st.2.2⟩
  item := by
    intro X hP hw hK hc i pins s σ H E I hf st hg
    subst hP hw hK
    obtain ⟨⟨old, he⟩, hit, hne⟩ := st
    obtain ⟨xs, x, hq, hx⟩ := hg
    obtain ⟨its, rv, p, hz⟩ := I.tuple hq
    obtain ⟨u, hu, ru⟩ := rv.get hx
    have pt : s.heap.IsTuple a its.toArray := p
    have hel : e < s.heap.objs.size := Heap.lt_size he
    have hil : it < s.heap.objs.size := by obtain ⟨_, q, _⟩ := hit; exact Heap.lt_size q
    have hai : a ≠ it := by
      obtain ⟨o1, e1, c1, _⟩ := id pt
      obtain ⟨o2, e2, c2, _⟩ := id hit
      exact ne_by_cls e1 e2 (by rw [c1, c2]; decide)
    have hea : e ≠ a := by
      obtain ⟨o1, e1, c1, _⟩ := id pt
      exact ne_by_cls he e1 (by rw [c1]; show Value.type "enumerate" ≠ Value.type "tuple"; decide)
    have hlt : i < its.toArray.size := by
      have := (List.getElem?_eq_some_iff.mp hu).1
      simpa using this
    have D : Draws X.prog X.w X.A.in1 it [it, a] its.toArray.size (fun i v => its.toArray[i]? = some v) (fun i h => h.IsTupleIter it a i ∧ h.IsTuple a its.toArray) :=
      Draws.tuple (show X.A.in1.handled = none from I.ok.hd hc) it a hai its.toArray
    refine wpAny_pyNext_enum_itemD D he ⟨hit, pt⟩ hlt hne (by simp [hne, hea]) fun y h' tk hy ho hst' hT hsz hk => ?_
    have ey : y = u := by
      have q : its.toArray[i]? = some u := by simpa using hu
      rw [q] at hy
      exact (Option.some.inj hy).symm
    subst ey
    refine ⟨_, rfl, wpAny_letOwnedTupleGo_enum (s := { s with heap := h', toks := tk + 1 }) ho fun h'' he' sb => ?_⟩
    have hT2 : h''.get? s.heap.objs.size = some { cls := .type "tuple", data := .seq #[.int i tk, y] } := (sb.2 _ (Nat.ne_of_gt hel)).trans hT
    have new : ObjOk X.prog X.w (upd H s.heap.objs.size (.tup [.int (i : Nat), x])) h'' s.heap.objs.size (.tup [.int (i : Nat), x]) :=
      ⟨by show 2 ≤ sizeLine; decide, [.int i tk, y], .cons ⟨_, rfl⟩ (.cons ru .nil), ⟨_, hT2, rfl, _, rfl⟩⟩
    have I1 : Inv X pins σ (upd H s.heap.objs.size (.tup [.int (i : Nat), x])) { s with heap := h'', toks := tk + 1 } :=
      I.turnedNew (ch := [e, it]) (fun b ob hb q => (sb.2 b (fun z => hb (by simp [z]))).trans (hk b ob (fun z => hb (by simp [z])) (fun z => hb (by simp [z])) q)) hf (Nat.le_refl _) new
    refine ⟨.ref s.heap.objs.size, _, I1, rfl, ⟨_, x, rfl, I.hok.fresh (Nat.le_refl _), rfl, fun ys hy => by rw [I.tuple_inj hy hq]; exact hx⟩, ⟨⟨y, ?_⟩, hst'.1.at fun o q => (sb.2 it (Ne.symm hne)).trans q, hne⟩, fun b hb => ?_⟩
    · rw [show ((i + 1 : Nat) : Int) = (i : Int) + 1 by omega]
      exact he'
    · have hb' : b < s.heap.objs.size := by
        rcases (show b = e ∨ b = it by simpa using hb) with rfl | rfl
        · exact hel
        · exact hil
      rw [upd_ne (Nat.ne_of_lt hb')]
      exact (hf b hb).1
  done := by
    intro X hP hw hK hc i pins s σ H E I hf st hg
    subst hP hw hK
    obtain ⟨⟨old, he⟩, hit, hne⟩ := st
    obtain ⟨xs, hq, hx⟩ := hg
    obtain ⟨its, rv, p, hz⟩ := I.tuple hq
    have pt : s.heap.IsTuple a its.toArray := p
    have hh : X.A.in1.handled = none := I.ok.hd hc
    obtain ⟨f0, f1, f2, f3, f4, f5⟩ := hf it (by simp)
    have hl := rv.length
    have hT : s.TypeIs (.ref e) "enumerate" := ⟨_, he, rfl⟩
    unfold pyNext
    refine wpAny_bind (wpAny_attempt (wpAny_callSpecial?_slot (name := Str.ofString "__next__") hT F.slot_enumerate_next
      (wpAny_call_entry F.slot_enumerate_next hT F.entry_enumerate_next ?_ (F.args_enumerate_next_1 _))))
    show wpAny _ _ (field (.ref e) 2 >>= _) _ _ _
    refine wpAny_bind (wpAny_field he rfl (x := .ref it) rfl ?_)
    refine wpAny_bind (wpAny_nextOf_tuple_end hh hit pt (by simp; omega) fun h' x he' hx' => ?_)
    obtain ⟨o, ho, hc'⟩ := hx'
    refine wpAny_bind (wpAny_isInstance (T := "StopIteration") (b := true) ⟨o, ho, hc'⟩ isSubtype_stop ?_)
    exact wpAny_pure ⟨rfl, I.turned (t' := s.toks) (fun b o hb q => he' b o hb q) f0 f1 f3 f4 f5⟩
  self := fun A i s Q E st h => let ⟨⟨_, he⟩, _⟩ := st; wpAny_pyIter_enum he h
theorem new_enum1 {v : Value} {o : Obj} {H : Heap → Prop} (B : Begins v o H) :
    Meets (Builtin.«enumerate.__new__» ⟨[.type "enumerate", v], []⟩) (fun _ R s => H s.heap ∧
      R (.ok (.ret (.ref (s.heap.push o).objs.size))) { s with heap := (s.heap.push o).push { cls := .type "enumerate", data := .fields #[.none, .bool false, .ref s.heap.objs.size, rawInt 0, .none, .none] } }) :=
  .of_wp fun prog w A R s h => by
    obtain ⟨hp, g, d, tk, os⟩ := s; obtain ⟨h1, h⟩ := h
    have hsub := sub_enumerate
    have q1 : ∀ {A' : Around} {E : Value → Shared → Prop} {Q : Value → Shared → Prop}, Q (.ref hp.objs.size) ⟨hp.push o, g, d, tk, os⟩ → wpAny (model prog w) A' (pyIter v) Q E ⟨hp, g, d, tk, os⟩ :=
      fun q => B.iter prog w _ _ ⟨hp, g, d, tk, os⟩ _ h1 q
    wp_walk using q1
    refine wpAny_stack_any fun st => wpAny_pure ?_
    split
    · rename_i c _ _ _ _ _
      cases (c == Value.type "enumerate")
      · wp_walk using q1
        exact ⟨_, rfl, h⟩
      · wp_walk using q1
        exact ⟨_, rfl, h⟩
    · wp_walk using q1
      exact ⟨_, rfl, h⟩
theorem call_enum1 {prog : Program} {w : World} {A : Around} {E : Value → Shared → Prop} {s : Shared} {v : Value} {o : Obj} {H : Heap → Prop} {Q : Value → Shared → Prop} (B : Begins v o H) (h1 : H s.heap)
    (h : ∀ h', IsEnum h' (s.heap.objs.size + 1) s.heap.objs.size 0 .none → h'.get? s.heap.objs.size = some o → h'.objs.size = s.heap.objs.size + 2 →
      (∀ b o, s.heap.get? b = some o → h'.get? b = some o) → Q (.ref (s.heap.objs.size + 1)) { s with heap := h' }) :
    wpAny (model prog w) A (call (.type "enumerate") [v]) Q E s := by
  refine callType_new F.called_enumerate (by decide) (F.typeCall_enumerate_1 _) (F.newCall_enumerate_1 _) (fun obj => F.args_object_init_2 obj _) F.entry_enumerate_new (new_enum1 B) ⟨h1, ?_⟩
  have hz : (s.heap.push o).objs.size = s.heap.objs.size + 1 := Heap.size_push ..
  show _ ∧ _
  rw [hz]
  have he : IsEnum ((s.heap.push o).push { cls := .type "enumerate", data := .fields #[.none, .bool false, .ref s.heap.objs.size, rawInt 0, .none, .none] }) (s.heap.objs.size + 1) s.heap.objs.size 0 .none := by
    have := Heap.get?_push_size (s.heap.push o) (o := { cls := .type "enumerate", data := .fields #[.none, .bool false, .ref s.heap.objs.size, rawInt 0, .none, .none] }) rfl
    rw [hz] at this; exact this
  refine ⟨⟨_, he, rfl⟩, h _ he (Heap.get?_push_of_some _ (Heap.get?_push_size _ B.free)) (by rw [Heap.size_push, hz]) fun b o x => Heap.get?_push_of_some _ (Heap.get?_push_of_some _ x)⟩
def iEnumT (K : PySem.W.Frag) (ta : TA) : TI := fun σ H R => ta σ H fun vs H1 => ∃ a xs, vs = [.ref a] ∧ SqT K H1 a xs ∧ R (IteT K a) H1
theorem pi_enumT {X : Cx} {e : Expr} {ta : TA} {p pos tpos : Pos} {elts : List Expr} {kk : Nat} (hg : Gl X "enumerate") (hm : X.mg "enumerate" = none) (ha : PA X [e] ta) (hs : starEach [e] X.env = [(false, eval e X.env)] := by rfl) :
    PI X (.Tuple elts kk tpos) (.Call (.Name "enumerate" p) [e] [] pos) (iEnumT X.K ta) := by
  refine ⟨fun pins s σ H R I h => ?_⟩
  refine Call_ (ld_blt I hg hm boot_enumerate (PyProof.Rows.callWith_type1 (thn (ha.run pos pins s σ H _ I h) fun us s1 ⟨vs, H1, I1, r1, q1⟩ => ?_) hs rfl))
  obtain ⟨a, xs, ex, hq, q⟩ := q1
  subst ex
  cases r1 with
  | cons r rr =>
    cases rr
    cases r
    obtain ⟨its, rv, p', hz⟩ := I1.tuple hq
    refine call_enum1 (begins_tuple a its.toArray) p' fun h' he hit hsz hk => wpAny_pyIter_enum he ?_
    have I2 : Inv X pins σ H1 { s1 with heap := h' } := I1.kept (t' := s1.toks) hk
    refine ⟨s1.heap.objs.size + 1, [s1.heap.objs.size + 1, s1.heap.objs.size], _, _, H1, rfl, I2, turn_enumT a (s1.heap.objs.size + 1) s1.heap.objs.size, ⟨⟨.none, he⟩, ⟨_, hit, rfl, rfl⟩, Nat.succ_ne_self _⟩, fun b hb => ?_, q⟩
    have hle : s1.heap.objs.size ≤ b := by
      rcases (show b = s1.heap.objs.size + 1 ∨ b = s1.heap.objs.size by simpa using hb) with z | z
      · rw [z]; exact Nat.le_add_right _ _
      · rw [z]; exact Nat.le_refl _
    exact I1.fpOk hle (I1.hok.fresh hle)
theorem walk_enumT {K : PySem.W.Frag} {a : Addr} {xs : List V} : Walk (IteT K a) xs.length (fun H => SqT K H a xs) (YPair (fun i => some (.int (i : Nat))) (fun i => xs[i]?)) := by
  refine ⟨fun i _ hi q => ⟨xs, xs[i], q, by simp [hi]⟩, fun _ q => ⟨xs, q, Nat.le_refl _⟩, fun i H v H' _ q y => ?_⟩
  obtain ⟨T, x, h1, h2, h3, h4⟩ := y
  exact ⟨T, .int (i : Nat), x, h1, h2, h3, rfl, h4 xs q⟩
theorem walk_zipT {K : PySem.W.Frag} {a b : Addr} {xs ys : List V} {n : Nat} (hn : n = min xs.length ys.length) : Walk (RZ.ItzT K a b) n (fun H => SqT K H a xs ∧ SqT K H b ys) (YPair (fun i => xs[i]?) (fun i => ys[i]?)) := by
  subst hn
  refine ⟨fun i _ hi q => ?_, fun _ q => ⟨xs, ys, q.1, q.2, by omega⟩, fun i H v H' _ q y => ?_⟩
  · have h1 : i < xs.length := by omega
    have h2 : i < ys.length := by omega
    exact ⟨xs, ys, xs[i], ys[i], q.1, q.2, by simp [h1], by simp [h2]⟩
  · obtain ⟨T, x, z, h1, h2, h3, h4, h5⟩ := y
    exact ⟨T, x, z, h1, h2, h3, h4 xs q.1, h5 ys q.2⟩
/-! sum of a tuple of ints -/
theorem sum_tup {prog : Program} {w : World} {A : Around} {E : Value → Shared → Prop} {s : Shared} {l : Addr} {its : List Value} {ns : List Int} {Q : Value → Shared → Prop} (hh : A.handled = none) (hl : s.heap.IsTuple l its.toArray) (hi : IntsAre its ns)
    (h : ∀ h' tk t', (∀ b o, s.heap.get? b = some o → h'.get? b = some o) → Q (.int ns.sum t') { s with heap := h', toks := tk }) : wpAny (model prog w) A (call (.builtin "sum") [.ref l]) Q E s := by
  obtain ⟨xs, e⟩ := hi.allInts.items
  have hn : numsOf (intItems xs).toList = ns := by rw [← e]; exact hi.numsOf
  rw [nums_intItems] at hn
  rw [e] at hl
  have hlz : l < s.heap.objs.size := by obtain ⟨_, q, _⟩ := id hl; exact Heap.lt_size q
  have kp : ∀ b o, s.heap.get? b = some o → (s.heap.push { cls := .type "tuple_iterator", data := .fields #[.ref l, .int 0 0] }).get? b = some o := fun b o q => Heap.get?_push_of_some _ q
  refine call_sum_walkG (wpAny_pyIter_tuple hl ?_)
  refine ⟨s.heap.objs.size, [s.heap.objs.size, l], [s.heap.objs.size], (intItems xs).size, _, _, numAt xs, rfl, Walks.tuple (A := A.in1) hh s.heap.objs.size l (Nat.ne_of_lt hlz) (intItems xs),
    ⟨⟨_, Heap.get?_push_size _ rfl, rfl, rfl⟩, hl.at fun o q => kp l o q⟩, fun b hb => ?_, fun _ _ => intItems_at, fun h' tk t' hk => ?_⟩
  · rw [Heap.size_push]
    rcases (show b = s.heap.objs.size ∨ b = l by simpa using hb) with rfl | rfl
    · exact Nat.lt_succ_self _
    · exact Nat.lt_succ_of_lt hlz
  · have := h h' tk t' fun b o q => hk b o (by
      have : b < s.heap.objs.size := Heap.lt_size q
      simp only [List.mem_singleton]
      exact Nat.ne_of_lt this) (kp b o q)
    have ez : (intItems xs).size = xs.size := by simp [intItems]
    rw [ez, preSum_eq, List.take_of_length_le (by simp), hn]
    exact this
def rSumT (K : PySem.W.Frag) : List V → Hp → VK → Prop := fun vs H Q => ∃ (a : Addr) (ns : List Int), vs = [V.ref a] ∧ SqT K H a (ns.map V.int) ∧ Q (.int ns.sum) H
theorem cr_sumT {X : Cx} (hc : X.calm = true) : CallR X (.builtin "sum") (rSumT X.K) := by
  intro pins s σ H vs us Q I r h
  obtain ⟨a, ns, rfl, hs, q⟩ := h
  obtain ⟨its, rv, hl, _⟩ := I.tuple hs
  rw [Vals.ref1 r]
  exact sum_tup (I.ok.hd hc) hl rv.ints fun h' tk t' hk => ⟨.int _, H, I.kept hk, ⟨_, rfl⟩, q⟩
/-! a tuple times 1 -/
theorem tuple_mul1 (l : Addr) (items : Array Value) (n : Nat) (dd : Option Addr) (sl : Array (Option Value)) (u : Tok) :
    Meets (Builtin.«tuple.__mul__» ⟨[.ref l, .int 1 u], []⟩) (fun _ R s => s.heap.get? l = some { cls := .type "tuple", dict := dd, data := .seq items n, slots := sl } ∧ R (.ok (.ret (.ref l))) s) :=
  .of_wp fun prog w A R s h => by
    obtain ⟨hp, g, d, tk, os⟩ := s
    obtain ⟨hl, h⟩ := h
    have f1 := AutoSeq1.idx_int
    wp_walk using wpAny_loadPart' hl
    repeat (first
      | (refine wpAny_ite_false (decide_eq_false (by decide)) ?_; wp_walk using wpAny_loadPart' hl)
      | (refine wpAny_ite_true (decide_eq_true (by simp)) ?_; wp_walk using wpAny_loadPart' hl))
    exact ⟨_, rfl, h⟩
def rRep1 (K : PySem.W.Frag) : R2 := fun x y H Q => ∃ l xs, x = .ref l ∧ y = .int 1 ∧ SqT K H l xs ∧ Q (.ref l) H
theorem op_rep1 {X : Cx} : OpR X (binaryOp .Mult) (rRep1 X.K) := by
  intro pins s σ H x y v u Q I rx ry h
  obtain ⟨l, xs, rfl, rfl, hT, q⟩ := h
  cases rx
  obtain ⟨t, rfl⟩ := ry
  obtain ⟨its, r, ⟨⟨cls, dd, data, sl⟩, ho, hc, n, hd⟩, hs⟩ := I.tuple hT
  simp only at hc hd
  subst hc hd
  refine wpAny_binaryOp_repeat_ref (T := "tuple") (U := "int") (by decide) ⟨_, ho, rfl⟩ (fun s' => typeIs_int s' 1 t) noFill_tuple_mul F.fills_int_mul F.slot_int_rmul repeat_tuple F.slot_int_index.lookup
    (call_meets F.slot_int_rmul (typeIs_int s 1 t) F.entry_int_rmul (F.args_int_rmul_2 _ _) (int_rmul_tuple 1 t l its.toArray n dd sl)
      ⟨ho, rfl, ⟨_, ho, rfl⟩, call_meets F.slot_tuple_mul ⟨_, ho, rfl⟩ F.entry_tuple_mul (F.args_tuple_mul_2 _ _) (tuple_mul1 l its.toArray n dd sl t) ⟨ho, ?_⟩⟩)
  exact ⟨.ref l, H, I, rfl, q⟩
/-- a tuple times k, k at least 1 -/
def rRepA (K : PySem.W.Frag) : R2 := fun x y H Q => rRepT K x y H Q ∨ rRep1 K x y H Q
theorem op_repA {X : Cx} : OpR X (binaryOp .Mult) (rRepA X.K) := op_repT.or op_rep1
/-- (z,) * n -/
theorem rep_one {K : PySem.W.Frag} {H : Hp} {l : Addr} {z : V} {n : Nat} {Q : VK} (h1 : 1 ≤ n) (h2 : n ≤ 1000) (hl : H l = some (.tup [z]))
    (q : ∀ p H', Same H H' → H' p = some (.tup (List.replicate n z)) → Q (.ref p) H') : rRepA K (.ref l) (.int (n : Int)) H Q := by
  by_cases e : n = 1
  · subst e
    exact .inr ⟨l, [z], rfl, rfl, .inl (.inl hl), q l H (Same.refl H) hl⟩
  · refine .inl ⟨l, n, [z], rfl, rfl, .inl (.inl hl), by simp, by omega, by omega, by simp, fun p np => q p _ (fun b o e => ?_) ?_⟩
    · rw [upd_ne (ne_of_none e np)]
      exact e
    · rw [upd_same, Int.toNat_natCast]
      congr 2
      exact List.flatten_replicate_singleton
end JN

namespace JN
/-! ### lists of ints, place by place -/
def mxI (x y : Int) : Int := if y > x then y else x
def mnI (x y : Int) : Int := if y < x then y else x
def ctI (x y : Int) : Int := if 0 > x - y then 0 else x - y
abbrev at0 (l : List Int) (i : Nat) : Int := l.getD i 0
theorem at0_get {l : List Int} {i : Nat} (h : i < l.length) : l[i]? = some (at0 l i) := by
  rw [List.getElem?_eq_getElem h, at0, List.getD_eq_getElem?_getD, List.getElem?_eq_getElem h]
  rfl
theorem ext0 {l m : List Int} (hl : l.length = m.length) (h : ∀ i, i < l.length → at0 l i = at0 m i) : l = m := by
  apply List.ext_getElem hl
  intro i h1 h2
  have := h i h1
  have a := at0_get h1
  have b := at0_get h2
  rw [List.getElem?_eq_getElem h1] at a
  rw [List.getElem?_eq_getElem h2] at b
  rw [Option.some.inj a, Option.some.inj b, this]
theorem zw_len {g : Int → Int → Int} {l m : List Int} (hl : l.length = m.length) : (List.zipWith g l m).length = l.length := by
  rw [List.length_zipWith]; omega
theorem zw_at {g : Int → Int → Int} {l m : List Int} {i : Nat} (h1 : i < l.length) (h2 : i < m.length) : at0 (List.zipWith g l m) i = g (at0 l i) (at0 m i) := by
  have a := at0_get h1
  have b := at0_get h2
  rw [at0, List.getD_eq_getElem?_getD, List.getElem?_zipWith, a, b]
  rfl
theorem eq_iff0 {l m : List Int} (hl : l.length = m.length) : l = m ↔ ∀ i, i < l.length → at0 l i = at0 m i :=
  ⟨fun e i _ => by rw [e], ext0 hl⟩
/-- a divides b -/
def dvdI (l m : List Int) : Bool := (List.zipWith (fun x y => decide (x ≤ y)) l m).all id
theorem dvdI_iff : ∀ {l m : List Int}, l.length = m.length → (dvdI l m = true ↔ ∀ i, i < l.length → at0 l i ≤ at0 m i)
  | [], [], _ => by simp [dvdI]
  | a :: l, [], h => by simp at h
  | [], b :: m, h => by simp at h
  | a :: l, b :: m, h => by
    have hl : l.length = m.length := by simpa using h
    have ih := dvdI_iff hl
    constructor
    · intro hd i hi
      simp only [dvdI, List.zipWith_cons_cons, List.all_cons, Bool.and_eq_true, id, decide_eq_true_eq] at hd
      cases i with
      | zero => exact hd.1
      | succ i =>
        have := ih.mp hd.2 i (by simpa using hi)
        simpa [at0] using this
    · intro hd
      simp only [dvdI, List.zipWith_cons_cons, List.all_cons, Bool.and_eq_true, id, decide_eq_true_eq]
      refine ⟨by simpa [at0] using hd 0 (by simp), ih.mpr fun i hi => ?_⟩
      have := hd (i + 1) (by simpa using hi)
      simpa [at0] using this
/-- the places below n that p tells, as ints -/
def selI (p : Nat → Bool) (n : Nat) : List Int := (List.range n).filterMap fun i => if p i then some (i : Int) else none
theorem selI_nil {p : Nat → Bool} {n : Nat} : selI p n = [] ↔ ∀ i, i < n → p i = false := by
  unfold selI
  rw [List.filterMap_eq_nil_iff]
  constructor
  · intro h i hi
    have := h i (List.mem_range.mpr hi)
    cases hp : p i with
    | false => rfl
    | true => rw [hp] at this; simp at this
  · intro h i hi
    rw [h i (List.mem_range.mp hi)]
    rfl
theorem fm_congr {α β : Type} {f g : α → Option β} : ∀ {l : List α}, (∀ x ∈ l, f x = g x) → l.filterMap f = l.filterMap g
  | [], _ => rfl
  | a :: l, h => by
    have e := fm_congr fun x hx => h x (List.mem_cons_of_mem a hx)
    rw [List.filterMap_cons, List.filterMap_cons, h a List.mem_cons_self, e]
theorem selI_congr {p q : Nat → Bool} {n : Nat} (h : ∀ i, i < n → p i = q i) : selI p n = selI q n := by
  unfold selI
  exact fm_congr fun i hi => by rw [h i (List.mem_range.mp hi)]
theorem dvd_sel {l m : List Int} {n : Nat} (h1 : l.length = n) (h2 : m.length = n) : decide (selI (fun j => decide (at0 m j < at0 l j)) n = []) = dvdI l m := by
  rw [Bool.eq_iff_iff, decide_eq_true_iff, selI_nil, dvdI_iff (h1.trans h2.symm), h1]
  constructor
  · intro h i hi
    have := of_decide_eq_false (h i hi)
    omega
  · intro h i hi
    have := h i hi
    exact decide_eq_false (by omega)
theorem dvd_lcm {l m : List Int} (h : l.length = m.length) : decide (List.zipWith mxI l m = m) = dvdI l m := by
  rw [Bool.eq_iff_iff, decide_eq_true_iff, dvdI_iff h, eq_iff0 ((zw_len h).trans h), zw_len h]
  constructor
  · intro e i hi
    have := e i hi
    rw [zw_at hi (h ▸ hi), mxI] at this
    split at this <;> omega
  · intro e i hi
    have := e i hi
    rw [zw_at hi (h ▸ hi), mxI]
    split <;> omega
theorem dvd_gcd {l m : List Int} (h : l.length = m.length) : decide (List.zipWith mnI l m = l) = dvdI l m := by
  rw [Bool.eq_iff_iff, decide_eq_true_iff, dvdI_iff h, eq_iff0 (zw_len h), zw_len h]
  constructor
  · intro e i hi
    have := e i hi
    rw [zw_at hi (h ▸ hi), mnI] at this
    split at this <;> omega
  · intro e i hi
    have := e i hi
    rw [zw_at hi (h ▸ hi), mnI]
    split <;> omega
theorem rep_at {n i : Nat} {z : Int} (h : i < n) : at0 (List.replicate n z) i = z := by
  rw [at0, List.getD_eq_getElem?_getD, List.getElem?_replicate, if_pos h]
  rfl
theorem dvd_cut {l m : List Int} (h : l.length = m.length) : decide (List.zipWith ctI l m = List.replicate l.length 0) = dvdI l m := by
  rw [Bool.eq_iff_iff, decide_eq_true_iff, dvdI_iff h, eq_iff0 ((zw_len h).trans List.length_replicate.symm), zw_len h]
  constructor
  · intro e i hi
    have := e i hi
    rw [zw_at hi (h ▸ hi), ctI, rep_at hi] at this
    split at this <;> omega
  · intro e i hi
    have := e i hi
    rw [zw_at hi (h ▸ hi), ctI, rep_at hi]
    split <;> omega
theorem zw_comm {g : Int → Int → Int} (hg : ∀ x y, g x y = g y x) {l m : List Int} (h : l.length = m.length) : List.zipWith g l m = List.zipWith g m l := by
  refine ext0 ((zw_len h).trans (h.trans (zw_len h.symm).symm)) fun i hi => ?_
  rw [zw_len h] at hi
  rw [zw_at hi (h ▸ hi), zw_at (h ▸ hi) hi, hg]
theorem mx_comm (x y : Int) : mxI x y = mxI y x := by unfold mxI; split <;> split <;> omega
theorem mn_comm (x y : Int) : mnI x y = mnI y x := by unfold mnI; split <;> split <;> omega
theorem cut_times {l m : List Int} (h : l.length = m.length) : List.zipWith (· + ·) (List.zipWith ctI l m) (List.zipWith mnI l m) = l := by
  have h1 := zw_len (g := ctI) h
  have h2 := zw_len (g := mnI) h
  refine ext0 (by rw [zw_len (h1.trans h2.symm), h1]) fun i hi => ?_
  rw [zw_len (h1.trans h2.symm), h1] at hi
  rw [zw_at (h1 ▸ hi) (h2 ▸ hi), zw_at hi (h ▸ hi), zw_at hi (h ▸ hi), ctI, mnI]
  split <;> split <;> omega
theorem lcm_times {l m : List Int} (h : l.length = m.length) : List.zipWith (· + ·) (List.zipWith mxI l m) (List.zipWith mnI l m) = List.zipWith (· + ·) l m := by
  have h1 := zw_len (g := mxI) h
  have h2 := zw_len (g := mnI) h
  refine ext0 (by rw [zw_len (h1.trans h2.symm), h1, zw_len h]) fun i hi => ?_
  rw [zw_len (h1.trans h2.symm), h1] at hi
  rw [zw_at (h1 ▸ hi) (h2 ▸ hi), zw_at hi (h ▸ hi), zw_at hi (h ▸ hi), zw_at hi (h ▸ hi), mxI, mnI]
  split <;> split <;> omega
/-- what a comprehension over range(n) or zip makes, as zipWith -/
theorem range_zip {g : Int → Int → Int} {l m : List Int} {n : Nat} (hn : n = min l.length m.length) : (List.range n).map (fun i => g (at0 l i) (at0 m i)) = List.zipWith g l m := by
  refine ext0 (by rw [List.length_map, List.length_range, List.length_zipWith, hn]) fun i hi => ?_
  rw [List.length_map, List.length_range] at hi
  rw [zw_at (by omega) (by omega)]
  simp [at0, hi]
theorem fm_some {α β : Type} {f : α → Option β} {g : α → β} {l : List α} (h : ∀ x ∈ l, f x = some (g x)) : l.filterMap f = l.map g := by
  induction l with
  | nil => rfl
  | cons a l ih =>
    rw [List.filterMap_cons_some (h a List.mem_cons_self), List.map_cons, ih fun x hx => h x (List.mem_cons_of_mem _ hx)]
theorem fm_succ {β : Type} (f : Nat → Option β) (i : Nat) : (List.range (i + 1)).filterMap f = (List.range i).filterMap f ++ (f i).toList := by
  rw [List.range_succ, List.filterMap_append]
  congr 1
theorem fm_len {β : Type} (f : Nat → Option β) (i : Nat) : ((List.range i).filterMap f).length ≤ i := by
  have := List.length_filterMap_le f (List.range i)
  rw [List.length_range] at this
  exact this
end JN

set_option maxRecDepth 100000
set_option maxHeartbeats 4000000
namespace JN
open PySem PySem.Spec PyProof.Rows L2
/-! ### heaps that grow -/
/-- what was tracked is as it was, but for the places in S -/
def Kp (S : List Addr) (H H' : Hp) : Prop := ∀ b o, H b = some o → b ∉ S → H' b = some o
theorem Kp.refl {S : List Addr} (H : Hp) : Kp S H H := fun _ _ h _ => h
theorem Kp.trans {S : List Addr} {H H1 H2 : Hp} (a : Kp S H H1) (b : Kp S H1 H2) : Kp S H H2 := fun c o h n => b c o (a c o h n) n
theorem Kp.of {S : List Addr} {H H' : Hp} (a : Same H H') : Kp S H H' := fun b o h _ => a b o h
theorem Kp.none {S : List Addr} {H H' : Hp} (a : Kp S H H') {p : Addr} (n : p ∉ S) (h : H' p = Option.none) : H p = Option.none := by
  cases q : H p with
  | none => rfl
  | some o => rw [a p o q n] at h; cases h
theorem Kp.upd {S : List Addr} {H H1 : Hp} {d : Addr} {o : HO} (a : Kp S H H1) (m : d ∈ S) : Kp S H (upd H1 d o) := fun b q h n => by
  rw [upd_ne (fun e => by subst e; exact n m)]
  exact a b q h n
theorem same_new {H : Hp} {p : Addr} {o : HO} (h : H p = none) : Same H (upd H p o) := fun b x e => by
  rw [upd_ne (ne_of_none e h)]
  exact e
section
variable {K : PySem.W.Frag} {H H' : Hp} {a : Addr} {xs : List V}
theorem Same.tup (e : Same H H') (h : SqT K H a xs) : SqT K H' a xs := by
  rcases h with (h | ⟨o, h⟩) | h
  · exact .inl (.inl (e _ _ h))
  · exact .inl (.inr ⟨o, e _ _ h⟩)
  · exact .inr h
theorem Kp.tup {S : List Addr} (e : Kp S H H') (n : a ∉ S) (h : SqT K H a xs) : SqT K H' a xs := by
  rcases h with (h | ⟨o, h⟩) | h
  · exact .inl (.inl (e _ _ h n))
  · exact .inl (.inr ⟨o, e _ _ h n⟩)
  · exact .inr h
theorem Kp.seq {S : List Addr} (e : Kp S H H') (n : a ∉ S) (h : SqL K H a xs) : SqL K H' a xs := by
  rcases h with (h | ⟨o, h⟩) | h
  · exact .inl (.inl (e _ _ h n))
  · exact .inl (.inr ⟨o, e _ _ h n⟩)
  · exact .inr h
theorem sqt_new {o : List V} : SqT K (upd H a (.tup o)) a o := .inl (.inl upd_same)
theorem sql_new {o : List V} : SqL K (upd H a (.lst o)) a o := .inl (.inl upd_same)
/-! ### tuples and lists of ints compared -/
theorem dp_ints : ∀ ns : List Int, DpAll K H (ns.map V.int) (ns.map PyData.int)
  | [] => .nil
  | n :: ns => .cons (.int n) (dp_ints ns)
theorem dp_tup {ns : List Int} (h : SqT K H a (ns.map V.int)) : Dp K H (.ref a) (.tuple (ns.map PyData.int)) := .tup h (dp_ints ns)
theorem dp_lst {ns : List Int} (h : SqL K H a (ns.map V.int)) : Dp K H (.ref a) (.list (ns.map PyData.int)) := .lst h (dp_ints ns)
theorem eqv_ints : ∀ ns ms : List Int, PyData.eqvAll (ns.map PyData.int) (ms.map PyData.int) = decide (ns = ms)
  | [], [] => by simp [PyData.eqvAll]
  | [], m :: ms => by simp [PyData.eqvAll]
  | n :: ns, [] => by simp [PyData.eqvAll]
  | n :: ns, m :: ms => by
    have ih := eqv_ints ns ms
    rw [List.map_cons, List.map_cons]
    unfold PyData.eqvAll
    rw [ih, Bool.eq_iff_iff]
    simp [PyData.eqv]
theorem eqv_tup (ns ms : List Int) : PyData.eqv (.tuple (ns.map PyData.int)) (.tuple (ms.map PyData.int)) = decide (ns = ms) := by
  unfold PyData.eqv
  exact eqv_ints ns ms
theorem eqv_lst (ns ms : List Int) : PyData.eqv (.list (ns.map PyData.int)) (.list (ms.map PyData.int)) = decide (ns = ms) := by
  unfold PyData.eqv
  exact eqv_ints ns ms
theorem lay_ints : ∀ ns : List Int, PyData.canLayAll0 (ns.map PyData.int) = true
  | [] => by simp [PyData.canLayAll0]
  | n :: ns => by
    have ih := lay_ints ns
    rw [List.map_cons]
    unfold PyData.canLayAll0
    rw [ih]
    simp [PyData.canLay0]
theorem deep_ints : ∀ ns : List Int, PyData.depthAll (ns.map PyData.int) = 0
  | [] => by simp [PyData.depthAll]
  | n :: ns => by
    have ih := deep_ints ns
    rw [List.map_cons]
    unfold PyData.depthAll
    rw [ih]
    simp [PyData.depth]
theorem sh_tup (ns : List Int) : SeqAt.shaped (.tuple (ns.map PyData.int)) = true := by
  unfold SeqAt.shaped PyData.canLay0 PyData.depth
  rw [lay_ints, deep_ints]
  decide
theorem sh_lst (ns : List Int) : SeqAt.shaped (.list (ns.map PyData.int)) = true := by
  unfold SeqAt.shaped PyData.canLay0 PyData.depth
  rw [lay_ints, deep_ints]
  decide
/-- t == u of two tuples of ints -/
theorem eq_tup {b : Addr} {ns ms : List Int} {Q : VK} (h1 : SqT K H a (ns.map V.int)) (h2 : SqT K H b (ms.map V.int)) (q : Q (.bl (decide (ns = ms))) H) : rEqD K (.ref a) (.ref b) H Q :=
  ⟨_, _, dp_tup h1, dp_tup h2, sh_tup _, sh_tup _, by rw [eqv_tup]; exact q⟩
theorem ne_tup {b : Addr} {ns ms : List Int} {Q : VK} (h1 : SqT K H a (ns.map V.int)) (h2 : SqT K H b (ms.map V.int)) (q : Q (.bl (!decide (ns = ms))) H) : rNeD K (.ref a) (.ref b) H Q :=
  ⟨_, _, dp_tup h1, dp_tup h2, sh_tup _, sh_tup _, by rw [eqv_tup]; exact q⟩
theorem eq_lst {b : Addr} {ns ms : List Int} {Q : VK} (h1 : SqL K H a (ns.map V.int)) (h2 : SqL K H b (ms.map V.int)) (q : Q (.bl (decide (ns = ms))) H) : rEqD K (.ref a) (.ref b) H Q :=
  ⟨_, _, dp_lst h1, dp_lst h2, sh_lst _, sh_lst _, by rw [eqv_lst]; exact q⟩
theorem ne_lst {b : Addr} {ns ms : List Int} {Q : VK} (h1 : SqL K H a (ns.map V.int)) (h2 : SqL K H b (ms.map V.int)) (q : Q (.bl (!decide (ns = ms))) H) : rNeD K (.ref a) (.ref b) H Q :=
  ⟨_, _, dp_lst h1, dp_lst h2, sh_lst _, sh_lst _, by rw [eqv_lst]; exact q⟩
/-- an item in bounds -/
theorem it0 {ns : List Int} {i : Nat} (h : i < ns.length) : (ns.map V.int)[i]? = some (.int (at0 ns i)) := by
  rw [List.getElem?_map, at0_get h]
  rfl
theorem ix0 {ns : List Int} {i : Nat} (h : i < ns.length) : atI (ns.map V.int) (i : Int) = some (.int (at0 ns i)) := atI_nat (it0 h)
end
/-! ### a comprehension that only makes new things: f tells what turn i gives, if it gives anything -/
theorem lc_keep {J : It} {n : Nat} {G : Hp → Prop} {Y : Nat → Hp → V → Hp → Prop} (w : Walk J n G Y) {g : TG} {tt : TT} {te : TE} {vs : List Nat} {σ : L2.St} {H1 : Hp} {D : Addr} {Qd : Hp → Prop}
    (f : Nat → Option V) (nD : H1 D = none) (hn : n < sizeLine) (hG : ∀ H, Same H1 H → G H)
    (hs : ∀ i x H H' (P1 : V → Hp → Prop) (P0 : Hp → Prop), i < n → Same H1 H → Y i H x H' → (∀ y H4, f i = some y → Same H H4 → P1 y H4) → (∀ H4, f i = none → Same H H4 → P0 H4) →
      g x (wipe σ vs) H' fun σ2 H2 => wipe σ2 vs = wipe σ vs ∧ tt σ2 H2 fun b H3 => if b = true then te σ2 H3 P1 else P0 H3)
    (hd : ∀ H, Same H1 H → H D = some (.lst ((List.range n).filterMap f)) → Qd H) :
    ∃ W : Nat → Nat → Hp → Prop, (∃ m, W 0 m (upd H1 D (.lst []))) ∧ ∀ i m H, W i m H →
      (J.stop i H ∧ Qd H) ∨ (J.go i H ∧ ∃ Nx : Hp → Prop, (∀ H', Nx H' → ∃ m', m' < m ∧ W (i + 1) m' H') ∧ ∀ x H', J.yld i H x H' → g x (wipe σ vs) H' fun σ2 H2 => wipe σ2 vs = wipe σ vs ∧ tt σ2 H2 fun b H3 =>
        if b = true then te σ2 H3 fun y H4 => ∃ acc, H4 D = some (.lst acc) ∧ acc.length < sizeLine ∧ Nx (upd H4 D (.lst (acc ++ [y]))) else Nx H3) := by
  refine lc_it w (fun i H => Same H1 H ∧ H D = some (.lst ((List.range i).filterMap f))) ⟨same_new nD, upd_same⟩ (fun i H _ h => hG H h.1) (fun i x H H' hi h y => ?_) (fun H h => hd H h.1 h.2)
  obtain ⟨s1, eD⟩ := h
  refine hs i x H H' _ _ hi s1 y (fun z H4 ez s4 => ⟨_, s4 _ _ eD, Nat.lt_of_le_of_lt (fm_len f i) (Nat.lt_trans hi hn), ⟨fun b o e => ?_, ?_⟩⟩) (fun H4 ez s4 => ⟨s1.trans s4, ?_⟩)
  · rw [upd_ne (ne_of_none e nD)]
    exact s4 _ _ (s1 _ _ e)
  · rw [upd_same, fm_succ, ez]
    rfl
  · rw [s4 _ _ eD, fm_succ, ez, Option.toList_none, List.append_nil]
/-- the same, every turn gives an int -/
theorem fm_ints {f : Nat → Option V} {g : Nat → Option Int} {n : Nat} (h : ∀ i, i < n → f i = (g i).map V.int) : (List.range n).filterMap f = ((List.range n).filterMap g).map V.int := by
  rw [List.map_filterMap]
  exact fm_congr fun i hi => h i (List.mem_range.mp hi)
/-! ### the state of the draws -/
def mS (l s : Int) (c : Addr) (p : Int) : List (Key × V) := [(.inr "left", .int l), (.inr "seed", .int s), (.inr "cells", .ref c), (.inr "spot", .int p)]
theorem kls : ¬ (("left" : Str) = "seed") := by decide +kernel
theorem klc : ¬ (("left" : Str) = "cells") := by decide +kernel
theorem klp : ¬ (("left" : Str) = "spot") := by decide +kernel
theorem ksc : ¬ (("seed" : Str) = "cells") := by decide +kernel
theorem ksp : ¬ (("seed" : Str) = "spot") := by decide +kernel
theorem kcp : ¬ (("cells" : Str) = "spot") := by decide +kernel
section
variable {l s z : Int} {c : Addr} {p : Int}
theorem mS_left : valV (mS l s c p) (.inr "left") = some (.int l) := by simp [valV, mS]
theorem mS_seed : valV (mS l s c p) (.inr "seed") = some (.int s) := by simp [valV, mS, kls]
theorem mS_cells : valV (mS l s c p) (.inr "cells") = some (.ref c) := by simp [valV, mS, klc, ksc]
theorem mS_spot : valV (mS l s c p) (.inr "spot") = some (.int p) := by simp [valV, mS, klp, ksp, kcp]
theorem mS_put_left : putK (mS l s c p) (.inr "left") (.int z) = mS z s c p := by simp [putK, mS, Ne.symm kls, Ne.symm klc, Ne.symm klp]
theorem mS_put_spot : putK (mS l s c p) (.inr "spot") (.int z) = mS l s c z := by simp [putK, mS, klp, ksp, kcp]
end
/-- the draws' state stands at d, its cells at c, at most n drawn so far -/
def Drw (H : Hp) (d c : Addr) (n : Nat) : Prop := ∃ (l s : Int) (p : Int) (cs : List Int), H d = some (.dK (mS l s c p)) ∧ H c = some (.lst (cs.map V.int)) ∧ c ≠ d ∧ cs ≠ [] ∧ cs.length ≤ 1000 ∧ 0 ≤ s ∧ s < 2147483647 ∧ 0 ≤ p ∧ p ≤ n
theorem Drw.same {H H' : Hp} {d c : Addr} {n m : Nat} (D : Drw H d c n) (e : Same H H') (h : n ≤ m) : Drw H' d c m := by
  obtain ⟨l, s, p, cs, h1, h2, h3, h4, h5, h6, h7, h8, h9⟩ := D
  exact ⟨l, s, p, cs, e _ _ h1, e _ _ h2, h3, h4, h5, h6, h7, h8, by omega⟩
theorem Drw.put {H : Hp} {d c D : Addr} {o : HO} {n : Nat} (h : Drw H d c n) (n1 : D ≠ d) (n2 : D ≠ c) : Drw (upd H D o) d c n := by
  obtain ⟨l, s, p, cs, h1, h2, h3⟩ := h
  exact ⟨l, s, p, cs, by rw [upd_ne n1.symm]; exact h1, by rw [upd_ne n2.symm]; exact h2, h3⟩
theorem Drw.ne {H : Hp} {d c D : Addr} {n : Nat} (h : Drw H d c n) (e : H D = none) : D ≠ d ∧ D ≠ c := by
  obtain ⟨l, s, p, cs, h1, h2, h3⟩ := h
  exact ⟨(ne_of_none h1 e).symm, (ne_of_none h2 e).symm⟩
theorem Drw.tup {K : PySem.W.Frag} {H : Hp} {d c a : Addr} {n : Nat} {xs : List V} (h : Drw H d c n) (e : SqT K H a xs) (hk : K.lookup d = none) : a ≠ d := fun z => by
  obtain ⟨l, s, p, cs, h1, h2, h3⟩ := h
  subst z
  rcases e with (e | ⟨o, e⟩) | ⟨o, its, n, e, _⟩
  · rw [h1] at e; cases e
  · rw [h1] at e; cases e
  · rw [hk] at e; cases e
/-- _law_draw(m, below) -/
def spDraw : Sp := fun vs H Q _ => ∃ (d c : Addr) (below : Int) (n : Nat), vs = [.ref d, .int below] ∧ Drw H d c n ∧ n ≤ 1000000 ∧ 1 ≤ below ∧ below < 1073741824 ∧
  ∀ (r : Int) (H' : Hp), 0 ≤ r → r < below → Kp [d] H H' → Drw H' d c (n + 1) → Q (.int r) H'
/-- _law_of(m, some) -/
def spOf (K : PySem.W.Frag) : Sp := fun vs H Q _ => ∃ (d c l : Addr) (xs : List V) (n : Nat), vs = [.ref d, .ref l] ∧ Drw H d c n ∧ n ≤ 1000000 ∧ SqL K H l xs ∧ l ≠ d ∧ xs ≠ [] ∧ xs.length ≤ 1000 ∧
  ∀ (v : V) (H' : Hp), v ∈ xs → Kp [d] H H' → Drw H' d c (n + 1) → Q v H'
/-- _law_begun(script, k) -/
def spBegun (K : PySem.W.Frag) : Sp := fun vs H Q _ => ∃ (a : Addr) (ns : List Int) (k : Int), vs = [.ref a, .int k] ∧ SqL K H a (ns.map V.int) ∧ ns.length ≤ 63 ∧ 0 ≤ k ∧ k ≤ 100 ∧
  ∀ (d c : Addr) (H' : Hp), Same H H' → H d = none → H c = none → Drw H' d c 0 → Q (.ref d) H'
end JN

set_option maxRecDepth 100000
set_option maxHeartbeats 4000000
namespace JN
open PySem PySem.Spec PyProof.Rows L2
/-! ### values without a heap, and what a piece of program does with them -/
/-- what a program hands about: data, or a state of draws -/
inductive Va where
  | da (d : PyData)
  | dw (a : Addr)
/-- an own error: its class's name, its fields -/
structure Er where
  nm : Str
  fs : List (Str × PyData)
/-- what a piece of program does: run Q E n, n draws so far; Q of its value and the draws, E of its error -/
structure M (α : Type) where
  run : (α → Nat → Prop) → (Er → Nat → Prop) → Nat → Prop
  mono : ∀ {Q Q' : α → Nat → Prop} {E E' : Er → Nat → Prop} {n : Nat}, (∀ a k, Q a k → Q' a k) → (∀ e k, E e k → E' e k) → run Q E n → run Q' E' n
theorem M.ext {α : Type} {a b : M α} (h : ∀ Q E n, a.run Q E n ↔ b.run Q E n) : a = b := by
  cases a with
  | mk ra ma =>
    cases b with
    | mk rb mb =>
      have : ra = rb := by
        funext Q E n
        exact propext (h Q E n)
      subst this
      rfl
namespace M
variable {α β γ : Type}
def ret (a : α) : M α := ⟨fun Q _ n => Q a n, fun h _ q => h _ _ q⟩
def bind (m : M α) (k : α → M β) : M β := ⟨fun Q E n => m.run (fun a n' => (k a).run Q E n') E n, fun h he q => m.mono (fun _ _ r => (k _).mono h he r) he q⟩
/-- nothing is known -/
def bad : M α := ⟨fun _ _ _ => False, fun _ _ q => q⟩
def err (e : Er) : M α := ⟨fun _ E n => E e n, fun _ he q => he _ _ q⟩
/-- P must hold -/
def req (P : Prop) : M Unit := ⟨fun Q _ n => P ∧ Q () n, fun h _ q => ⟨q.1, h _ _ q.2⟩⟩
/-- any of these -/
def any (S : α → Prop) : M α := ⟨fun Q _ n => ∀ a, S a → Q a n, fun h _ q a s => h _ _ (q a s)⟩
/-- one draw more -/
def tick : M Unit := ⟨fun Q _ n => n ≤ 1000000 ∧ Q () (n + 1), fun h _ q => ⟨q.1, h _ _ q.2⟩⟩
/-- no error leaves -/
def quiet (m : M α) : M α := ⟨fun Q _ n => m.run Q (fun _ _ => False) n, fun h _ q => m.mono h (fun _ _ z => z) q⟩
@[simp] theorem bind_ret (a : α) (k : α → M β) : (ret a).bind k = k a := rfl
@[simp] theorem bind_bind (m : M α) (k : α → M β) (l : β → M γ) : (m.bind k).bind l = m.bind fun a => (k a).bind l := rfl
@[simp] theorem bind_id (m : M α) : m.bind ret = m := rfl
@[simp] theorem bad_bind (k : α → M β) : (bad : M α).bind k = bad := rfl
@[simp] theorem err_bind (e : Er) (k : α → M β) : (err e : M α).bind k = err e := rfl
@[simp] theorem quiet_ret (a : α) : quiet (ret a) = ret a := rfl
theorem quiet_bind (m : M α) (k : α → M β) : quiet (m.bind k) = (quiet m).bind fun a => quiet (k a) := rfl
theorem req_of {P : Prop} (h : P) : req P = ret () := M.ext fun Q E n => ⟨fun q => q.2, fun q => ⟨h, q⟩⟩
theorem run_ret {a : α} {Q : α → Nat → Prop} {E : Er → Nat → Prop} {n : Nat} : (ret a).run Q E n ↔ Q a n := Iff.rfl
theorem run_bind {m : M α} {k : α → M β} {Q : β → Nat → Prop} {E : Er → Nat → Prop} {n : Nat} : (m.bind k).run Q E n ↔ m.run (fun a n' => (k a).run Q E n') E n := Iff.rfl
end M
/-! ### heaps: what stands apart, the states of the draws -/
structure Wd where
  os : List Addr
  reg : List Addr
  cs : List Addr
def dels (H : Hp) (os : List Addr) : Hp := fun b => if b ∈ os then none else H b
abbrev core (H : Hp) (w : Wd) : Hp := dels H w.os
theorem dels_of {H : Hp} {os : List Addr} {b : Addr} (h : b ∉ os) : dels H os b = H b := if_neg h
theorem dels_some {H : Hp} {os : List Addr} {b : Addr} {o : HO} (h : dels H os b = some o) : b ∉ os ∧ H b = some o := by
  unfold dels at h
  by_cases e : b ∈ os
  · rw [if_pos e] at h; cases h
  · rw [if_neg e] at h; exact ⟨e, h⟩
theorem dels_same (H : Hp) (os : List Addr) : Same (dels H os) H := fun _ _ h => (dels_some h).2
theorem dels_upd {H : Hp} {os : List Addr} {p : Addr} {o : HO} (h : p ∈ os) : dels (upd H p o) os = dels H os := by
  funext b
  unfold dels
  by_cases e : b ∈ os
  · rw [if_pos e, if_pos e]
  · rw [if_neg e, if_neg e, upd_ne (by intro z; subst z; exact e h)]
theorem dels_less {H : Hp} {os os' : List Addr} (h : ∀ p ∈ os', p ∈ os) : Same (dels H os) (dels H os') := fun b o e => by
  obtain ⟨h1, h2⟩ := dels_some e
  rw [dels_of fun z => h1 (h _ z)]
  exact h2
structure WOk (w : Wd) (n : Nat) (H : Hp) : Prop where
  al : ∀ p ∈ w.os, H p ≠ none
  ro : ∀ a ∈ w.reg, a ∈ w.os
  dr : ∀ a ∈ w.reg, ∃ c, c ∈ w.cs ∧ Drw H a c n
  cl : ∀ c ∈ w.cs, H c ≠ none
  nt : ∀ p ∈ w.os, ∀ xs, H p ≠ some (.tup xs)
/-- from one state to a later one -/
structure Stp (w : Wd) (H : Hp) (w' : Wd) (H' : Hp) : Prop where
  keep : ∀ b o, H b = some o → b ∉ w.reg → H' b = some o
  al : ∀ b, H b ≠ none → H' b ≠ none
  os : ∀ p ∈ w.os, p ∈ w'.os
  osN : ∀ p ∈ w'.os, p ∈ w.os ∨ H p = none
  rg : ∀ p ∈ w.reg, p ∈ w'.reg
  rgN : ∀ p ∈ w'.reg, p ∈ w.reg ∨ H p = none
  cs : ∀ p ∈ w.cs, p ∈ w'.cs
  csN : ∀ p ∈ w'.cs, p ∈ w.cs ∨ H p = none
theorem Stp.refl (w : Wd) (H : Hp) : Stp w H w H := ⟨fun _ _ h _ => h, fun _ h => h, fun _ h => h, fun _ h => .inl h, fun _ h => h, fun _ h => .inl h, fun _ h => h, fun _ h => .inl h⟩
theorem Stp.trans {w w1 w2 : Wd} {H H1 H2 : Hp} (a : Stp w H w1 H1) (b : Stp w1 H1 w2 H2) : Stp w H w2 H2 := by
  have back : ∀ p, H1 p = none → H p = none := fun p h => by
    cases e : H p with
    | none => rfl
    | some o => exact absurd h (a.al p (by rw [e]; simp))
  refine ⟨fun c o h n => b.keep c o (a.keep c o h n) fun m => ?_, fun c h => b.al c (a.al c h), fun p h => b.os p (a.os p h), fun p h => ?_, fun p h => b.rg p (a.rg p h), fun p h => ?_, fun p h => b.cs p (a.cs p h), fun p h => ?_⟩
  · rcases a.rgN c m with z | z
    · exact n z
    · rw [h] at z; cases z
  · rcases b.osN p h with z | z
    · exact a.osN p z
    · exact .inr (back p z)
  · rcases b.rgN p h with z | z
    · exact a.rgN p z
    · exact .inr (back p z)
  · rcases b.csN p h with z | z
    · exact a.csN p z
    · exact .inr (back p z)
theorem Stp.of {w : Wd} {H H' : Hp} (s : Same H H') : Stp w H w H' := ⟨fun b o h _ => s b o h, fun b h => by
  cases e : H b with
  | none => exact absurd e h
  | some o => rw [s b o e]; simp, fun _ h => h, fun _ h => .inl h, fun _ h => h, fun _ h => .inl h, fun _ h => h, fun _ h => .inl h⟩
theorem Stp.core {w w' : Wd} {H H' : Hp} (s : Stp w H w' H') (ro : ∀ a ∈ w.reg, a ∈ w.os) : Same (core H w) (core H' w') := fun b o e => by
  obtain ⟨h1, h2⟩ := dels_some e
  have : b ∉ w'.os := fun z => by
    rcases s.osN b z with y | y
    · exact h1 y
    · rw [h2] at y; cases y
  show dels H' w'.os b = _
  rw [dels_of this]
  exact s.keep b o h2 fun z => h1 (ro _ z)
theorem WOk.of {w : Wd} {n : Nat} {H H' : Hp} (o : WOk w n H) (s : Same H H') : WOk w n H' :=
  ⟨fun p h => (Stp.of (w := w) s).al p (o.al p h), o.ro, fun a h => let ⟨c, h1, d⟩ := o.dr a h; ⟨c, h1, d.same s (Nat.le_refl _)⟩, fun p h => (Stp.of (w := w) s).al p (o.cl p h), fun p h xs e => by
    cases q : H p with
    | none => exact o.al p h q
    | some u => exact o.nt p h xs (by rw [q, ← s p u q]; exact e)⟩
theorem WOk.fresh {w : Wd} {n : Nat} {H : Hp} {p : Addr} {x : HO} (o : WOk w n H) (h : H p = none) : WOk w n (upd H p x) := o.of (same_new h)
/-! ### data in a heap -/
mutual
/-- v is the data d; tuples stand by themselves -/
inductive Dq (K : PySem.W.Frag) (C : Hp) : V → PyData → Prop
  | non : Dq K C .non .none
  | bl (b : Bool) : Dq K C (.bl b) (.bool b)
  | int (i : Int) : Dq K C (.int i) (.int i)
  | str (x : Str) : Dq K C (.str x) (.str x)
  | lst {a : Addr} {vs : List V} {es : List PyData} : SqL K C a vs → DqAll K C vs es → Dq K C (.ref a) (.list es)
  | tup {a : Addr} {vs : List V} {es : List PyData} : C a = some (.tup vs) → DqAll K C vs es → Dq K C (.ref a) (.tuple es)
inductive DqAll (K : PySem.W.Frag) (C : Hp) : List V → List PyData → Prop
  | nil : DqAll K C [] []
  | cons {v : V} {vs : List V} {d : PyData} {es : List PyData} : Dq K C v d → DqAll K C vs es → DqAll K C (v :: vs) (d :: es)
end
mutual
theorem dq_dp {K : PySem.W.Frag} {C : Hp} : ∀ (d : PyData) {v : V}, Dq K C v d → Dp K C v d
  | .none, _, h => by cases h; exact .non
  | .bool b, _, h => by cases h; exact .bl b
  | .int i, _, h => by cases h; exact .int i
  | .str x, _, h => by cases h; exact .str x
  | .list ds, _, h => by
    cases h with
    | lst h1 h2 => exact .lst h1 (dqa_dpa ds h2)
  | .tuple ds, _, h => by
    cases h with
    | tup h1 h2 => exact .tup (.inl (.inl h1)) (dqa_dpa ds h2)
  | .dict _, _, h => by cases h
theorem dqa_dpa {K : PySem.W.Frag} {C : Hp} : ∀ (ds : List PyData) {vs : List V}, DqAll K C vs ds → DpAll K C vs ds
  | [], _, h => by cases h; exact .nil
  | d :: ds, _, h => by
    cases h with
    | cons h1 h2 => exact .cons (dq_dp d h1) (dqa_dpa ds h2)
end
mutual
theorem dp_same {K : PySem.W.Frag} {H H' : Hp} (s : Same H H') : ∀ (d : PyData) {v : V}, Dq K H v d → Dq K H' v d
  | .none, _, h => by cases h; exact .non
  | .bool b, _, h => by cases h; exact .bl b
  | .int i, _, h => by cases h; exact .int i
  | .str x, _, h => by cases h; exact .str x
  | .list ds, _, h => by
    cases h with
    | lst h1 h2 => exact .lst (s.seq h1) (dpa_same s ds h2)
  | .tuple ds, _, h => by
    cases h with
    | tup h1 h2 => exact .tup (s _ _ h1) (dpa_same s ds h2)
  | .dict _, _, h => by cases h
theorem dpa_same {K : PySem.W.Frag} {H H' : Hp} (s : Same H H') : ∀ (ds : List PyData) {vs : List V}, DqAll K H vs ds → DqAll K H' vs ds
  | [], _, h => by cases h; exact .nil
  | d :: ds, _, h => by
    cases h with
    | cons h1 h2 => exact .cons (dp_same s d h1) (dpa_same s ds h2)
end
theorem dpaLen {K : PySem.W.Frag} {H : Hp} : ∀ {vs : List V} {ds : List PyData}, DqAll K H vs ds → vs.length = ds.length
  | _, [], h => by cases h; rfl
  | _, d :: ds, h => by
    cases h with
    | cons h1 h2 => rw [List.length_cons, List.length_cons, dpaLen h2]
theorem dpaGet {K : PySem.W.Frag} {H : Hp} : ∀ {vs : List V} {ds : List PyData} {i : Nat} {v : V}, DqAll K H vs ds → vs[i]? = some v → ∃ d, ds[i]? = some d ∧ Dq K H v d
  | _, [], i, v, h, e => by cases h; simp at e
  | _, d :: ds, 0, v, h, e => by
    cases h with
    | cons h1 h2 => simp at e; subst e; exact ⟨d, rfl, h1⟩
  | _, d :: ds, i + 1, v, h, e => by
    cases h with
    | cons h1 h2 => exact dpaGet (i := i) h2 (by simpa using e)
theorem dpaGet' {K : PySem.W.Frag} {H : Hp} : ∀ {vs : List V} {ds : List PyData} {i : Nat} {d : PyData}, DqAll K H vs ds → ds[i]? = some d → ∃ v, vs[i]? = some v ∧ Dq K H v d := fun {vs ds i d} h e => by
  have hl := dpaLen h
  have hi : i < ds.length := (List.getElem?_eq_some_iff.mp e).1
  have hv : vs[i]? = some (vs[i]'(by omega)) := by simp [hl, hi]
  obtain ⟨d', e', r⟩ := dpaGet h hv
  rw [e] at e'
  cases e'
  exact ⟨_, hv, r⟩
theorem dpaApp {K : PySem.W.Frag} {H : Hp} : ∀ {vs us : List V} {ds es : List PyData}, DqAll K H vs ds → DqAll K H us es → DqAll K H (vs ++ us) (ds ++ es)
  | _, _, [], _, h, h' => by cases h; exact h'
  | _, _, d :: ds, _, h, h' => by
    cases h with
    | cons h1 h2 => exact .cons h1 (dpaApp h2 h')
theorem dpaOf {K : PySem.W.Frag} {H : Hp} : ∀ {vs : List V} {ds : List PyData}, vs.length = ds.length → (∀ (i : Nat) v d, vs[i]? = some v → ds[i]? = some d → Dq K H v d) → DqAll K H vs ds
  | [], [], _, _ => .nil
  | [], _ :: _, h, _ => by cases h
  | _ :: _, [], h, _ => by cases h
  | v :: vs, d :: ds, h, f => .cons (f 0 v d rfl rfl) (dpaOf (by simpa using h) fun i v d h1 h2 => f (i + 1) v d (by simpa using h1) (by simpa using h2))
/-- v is x -/
def Rep (K : PySem.W.Frag) (C : Hp) (reg : List Addr) (v : V) : Va → Prop
  | .da d => Dq K C v d
  | .dw a => v = .ref a ∧ a ∈ reg
inductive RepA (K : PySem.W.Frag) (C : Hp) (reg : List Addr) : List V → List Va → Prop
  | nil : RepA K C reg [] []
  | cons {v : V} {vs : List V} {x : Va} {xs : List Va} : Rep K C reg v x → RepA K C reg vs xs → RepA K C reg (v :: vs) (x :: xs)
theorem Rep.mono {K : PySem.W.Frag} {C C' : Hp} {r r' : List Addr} {v : V} {x : Va} (h : Rep K C r v x) (s : Same C C') (t : ∀ a ∈ r, a ∈ r') : Rep K C' r' v x := by
  cases x with
  | da d => exact dp_same s d h
  | dw a => exact ⟨h.1, t _ h.2⟩
theorem RepA.mono {K : PySem.W.Frag} {C C' : Hp} {r r' : List Addr} {vs : List V} {xs : List Va} (h : RepA K C r vs xs) (s : Same C C') (t : ∀ a ∈ r, a ∈ r') : RepA K C' r' vs xs := by
  induction h with
  | nil => exact .nil
  | cons h _ ih => exact .cons (h.mono s t) ih
theorem RepA.len {K : PySem.W.Frag} {C : Hp} {r : List Addr} {vs : List V} {xs : List Va} (h : RepA K C r vs xs) : vs.length = xs.length := by
  induction h with
  | nil => rfl
  | cons _ _ ih => rw [List.length_cons, List.length_cons, ih]
theorem Rep.stp {K : PySem.W.Frag} {w w' : Wd} {H H' : Hp} {v : V} {x : Va} (h : Rep K (core H w) w.reg v x) (s : Stp w H w' H') (ro : ∀ a ∈ w.reg, a ∈ w.os) : Rep K (core H' w') w'.reg v x := h.mono (s.core ro) s.rg
theorem RepA.stp {K : PySem.W.Frag} {w w' : Wd} {H H' : Hp} {vs : List V} {xs : List Va} (h : RepA K (core H w) w.reg vs xs) (s : Stp w H w' H') (ro : ∀ a ∈ w.reg, a ∈ w.os) : RepA K (core H' w') w'.reg vs xs := h.mono (s.core ro) s.rg
/-! ### slots -/
/-- what a name alone has: a list; a dict whose keys are tuples, or ints and texts -/
inductive Oc where
  | lst (xs : List PyData)
  | dT (kvs : List (List Key × PyData))
  | dK (kvs : List (Key × PyData))
inductive Sl where
  /-- nothing known -/
  | un
  /-- a value -/
  | va (x : Va)
  /-- an object that only this name has -/
  | ow (c : Oc)
def OcR (K : PySem.W.Frag) (C : Hp) : HO → Oc → Prop
  | .lst vs, .lst xs => DqAll K C vs xs
  | .dT kvs, .dT es => kvs.map (·.1) = es.map (·.1) ∧ DqAll K C (kvs.map (·.2)) (es.map (·.2))
  | .dK kvs, .dK es => kvs.map (·.1) = es.map (·.1) ∧ DqAll K C (kvs.map (·.2)) (es.map (·.2))
  | _, _ => False
theorem ocr_same {K : PySem.W.Frag} {C C' : Hp} {o : HO} {c : Oc} (s : Same C C') (h : OcR K C o c) : OcR K C' o c := by
  cases o <;> cases c <;> first
    | exact h.elim
    | exact dpa_same s _ h
    | exact ⟨h.1, dpa_same s _ h.2⟩
def SlR (K : PySem.W.Frag) (w0 w : Wd) (H : Hp) : Sl → Option V → Prop
  | .un, _ => True
  | .va x, o => ∃ v, o = some v ∧ Rep K (core H w) w.reg v x
  | .ow c, o => ∃ p u, o = some (.ref p) ∧ p ∈ w.os ∧ p ∉ w.reg ∧ p ∉ w.cs ∧ p ∉ w0.os ∧ H p = some u ∧ OcR K (core H w) u c
structure RE (K : PySem.W.Frag) (w0 : Wd) (γ : List (V × Va)) (w : Wd) (ρ : List Sl) (σ : L2.St) (H : Hp) : Prop where
  sl : ∀ (i : Nat) s, ρ[i]? = some s → ∃ o, σ[i]? = some o ∧ SlR K w0 w H s o
  un : ∀ (i j : Nat) xs ys p, ρ[i]? = some (.ow xs) → ρ[j]? = some (.ow ys) → σ[i]? = some (some (.ref p)) → σ[j]? = some (some (.ref p)) → i = j
  gh : ∀ q ∈ γ, Rep K (core H w) w.reg q.1 q.2
theorem SlR.stp {K : PySem.W.Frag} {w0 w w' : Wd} {H H' : Hp} {s : Sl} {o : Option V} (h : SlR K w0 w H s o) (t : Stp w H w' H') (ro : ∀ a ∈ w.reg, a ∈ w.os) : SlR K w0 w' H' s o := by
  cases s with
  | un => trivial
  | va x =>
    obtain ⟨v, e, r⟩ := h
    exact ⟨v, e, r.stp t ro⟩
  | ow xs =>
    obtain ⟨p, vs, e, h1, h2, h2c, h3, h4, h5⟩ := h
    refine ⟨p, vs, e, t.os _ h1, fun z => ?_, fun z => ?_, h3, t.keep _ _ h4 h2, ocr_same (t.core ro) h5⟩
    · rcases t.rgN p z with y | y
      · exact h2 y
      · rw [h4] at y; cases y
    · rcases t.csN p z with y | y
      · exact h2c y
      · rw [h4] at y; cases y
theorem RE.stp {K : PySem.W.Frag} {w0 w w' : Wd} {γ : List (V × Va)} {ρ : List Sl} {σ : L2.St} {H H' : Hp} (r : RE K w0 γ w ρ σ H) (t : Stp w H w' H') (ro : ∀ a ∈ w.reg, a ∈ w.os) : RE K w0 γ w' ρ σ H' :=
  ⟨fun i s e => let ⟨o, h1, h2⟩ := r.sl i s e; ⟨o, h1, h2.stp t ro⟩, r.un, fun q hq => (r.gh q hq).stp t ro⟩
/-! ### the readings of expressions -/
structure Zc where
  K : PySem.W.Frag
  mg : Str → Option Value
  W : XK
/-- how an own error lies in the heap -/
def ErR (Z : Zc) (C : Hp) (e : Er) (cls : Value) (dd : Option Addr) : Prop := ∃ A, Z.mg e.nm = some (.ref A) ∧ cls = .ref A ∧
  ((e.fs = [] ∧ dd = none) ∨ ∃ (a : Addr) (fs : List (Str × V)), dd = some a ∧ C a = some (.xd fs) ∧ fs.map (·.1) = e.fs.map (·.1) ∧ DqAll Z.K C (fs.map (·.2)) (e.fs.map (·.2)))
/-- what is wanted behind an expression -/
def post (Z : Zc) (w : Wd) (H : Hp) (Q : VK) : Va → Nat → Prop := fun x n => ∀ v H' w', Stp w H w' H' → WOk w' n H' → Rep Z.K (core H' w') w'.reg v x → Q v H'
def posE (Z : Zc) (w : Wd) (H : Hp) : Er → Nat → Prop := fun e n => ∀ cls dd H' w', Stp w H w' H' → WOk w' n H' → ErR Z (core H' w') e cls dd → Z.W cls dd H'
def tV (Z : Zc) (f : List Sl → M Va) : TE := fun σ H Q => ∃ w0 γ w n ρ, RE Z.K w0 γ w ρ σ H ∧ WOk w n H ∧ (f ρ).run (post Z w H Q) (posE Z w H) n
def posts (Z : Zc) (w : Wd) (H : Hp) (Q : List V → Hp → Prop) : List Va → Nat → Prop := fun xs n => ∀ vs H' w', Stp w H w' H' → WOk w' n H' → RepA Z.K (core H' w') w'.reg vs xs → Q vs H'
def tVs (Z : Zc) (f : List Sl → M (List Va)) : TA := fun σ H Q => ∃ w0 γ w n ρ, RE Z.K w0 γ w ρ σ H ∧ WOk w n H ∧ (f ρ).run (posts Z w H Q) (posE Z w H) n
def postB (Z : Zc) (w : Wd) (H : Hp) (Q : Bool → Hp → Prop) : Bool → Nat → Prop := fun b n => ∀ H' w', Stp w H w' H' → WOk w' n H' → Q b H'
def tVB (Z : Zc) (f : List Sl → M Bool) : TT := fun σ H Q => ∃ w0 γ w n ρ, RE Z.K w0 γ w ρ σ H ∧ WOk w n H ∧ (f ρ).run (postB Z w H Q) (posE Z w H) n
section
variable {Z : Zc} {w w' : Wd} {H H' : Hp}
theorem post_stp {Q : VK} (s : Stp w H w' H') : ∀ x k, post Z w H Q x k → post Z w' H' Q x k := fun x k h v H2 w2 s2 o r => h v H2 w2 (s.trans s2) o r
theorem posts_stp {Q : List V → Hp → Prop} (s : Stp w H w' H') : ∀ x k, posts Z w H Q x k → posts Z w' H' Q x k := fun x k h v H2 w2 s2 o r => h v H2 w2 (s.trans s2) o r
theorem postB_stp {Q : Bool → Hp → Prop} (s : Stp w H w' H') : ∀ x k, postB Z w H Q x k → postB Z w' H' Q x k := fun x k h H2 w2 s2 o => h H2 w2 (s.trans s2) o
theorem posE_stp (s : Stp w H w' H') : ∀ e k, posE Z w H e k → posE Z w' H' e k := fun e k h c d H2 w2 s2 o r => h c d H2 w2 (s.trans s2) o r
/-- one expression, then something done with its value -/
theorem tV_one {α : Type} {f : List Sl → M Va} {k : Va → M α} {σ : L2.St} {Q : VK} {w0 : Wd} {γ : List (V × Va)} {n : Nat} {ρ : List Sl} {R : α → Nat → Prop} (re : RE Z.K w0 γ w ρ σ H) (o : WOk w n H)
    (h : ((f ρ).bind k).run R (posE Z w H) n) (hq : ∀ x v n1 H1 w1, Stp w H w1 H1 → WOk w1 n1 H1 → RE Z.K w0 γ w1 ρ σ H1 → Rep Z.K (core H1 w1) w1.reg v x → (k x).run R (posE Z w1 H1) n1 → Q v H1) : tV Z f σ H Q :=
  ⟨w0, γ, w, n, ρ, re, o, (f ρ).mono (fun x n1 hx v H1 w1 s1 o1 r1 => hq x v n1 H1 w1 s1 o1 (re.stp s1 o.ro) r1 ((k x).mono (fun _ _ z => z) (posE_stp s1) hx)) (fun _ _ z => z) h⟩
end
end JN

set_option maxRecDepth 100000
set_option maxHeartbeats 4000000
namespace JN
open PySem PySem.Spec PyProof.Rows L2
abbrev Ro := List Sl
/-! ### weaker readings -/
theorem pe_use {X : Cx} {e : Expr} {t t' : TE} (h : PE X e t) (hw : ∀ σ H Q, t' σ H Q → t σ H Q) : PE X e t' := ⟨fun pins s σ H Q I q => h.run pins s σ H Q I (hw σ H Q q)⟩
theorem pt_use {X : Cx} {e : Expr} {t t' : TT} (h : PT X e t) (hw : ∀ σ H Q, t' σ H Q → t σ H Q) : PT X e t' := ⟨fun pins s σ H Q I q => h.run pins s σ H Q I (hw σ H Q q)⟩
theorem pa_use {X : Cx} {e : List Expr} {t t' : TA} (h : PA X e t) (hw : ∀ σ H Q, t' σ H Q → t σ H Q) : PA X e t' := ⟨fun pos pins s σ H Q I q => h.run pos pins s σ H Q I (hw σ H Q q)⟩
theorem ps_use {X : Cx} {st : Stmt} {t t' : TS} (h : PS X st t) (hw : ∀ D σ H, t' D σ H → t D σ H) : PS X st t' := ⟨fun pins s σ H D I q => h.run pins s σ H D I (hw D σ H q)⟩
theorem pss_use {X : Cx} {st : List Stmt} {t t' : TS} (h : PSs X st t) (hw : ∀ D σ H, t' D σ H → t D σ H) : PSs X st t' := ⟨fun pins s σ H D I q => h.run pins s σ H D I (hw D σ H q)⟩
theorem pi_use {X : Cx} {tg e : Expr} {t t' : TI} (h : PI X tg e t) (hw : ∀ σ H Q, t' σ H Q → t σ H Q) : PI X tg e t' := ⟨fun pins s σ H Q I q => h.run pins s σ H Q I (hw σ H Q q)⟩
/-! ### lists that a name alone has, as values for a moment -/
def RepQ (K : PySem.W.Frag) (H : Hp) (w : Wd) (v : V) (x : Va) : Prop :=
  Rep K (core H w) w.reg v x ∨ ∃ p vs ds, v = .ref p ∧ x = .da (.list ds) ∧ H p = some (.lst vs) ∧ p ∉ w.reg ∧ DqAll K (core H w) vs ds
theorem RepQ.stp {K : PySem.W.Frag} {w w' : Wd} {H H' : Hp} {v : V} {x : Va} (h : RepQ K H w v x) (s : Stp w H w' H') (ro : ∀ a ∈ w.reg, a ∈ w.os) : RepQ K H' w' v x := by
  rcases h with h | ⟨p, vs, ds, e, ex, h1, h2, h3⟩
  · exact .inl (h.stp s ro)
  · refine .inr ⟨p, vs, ds, e, ex, s.keep _ _ h1 h2, fun z => ?_, dpa_same (s.core ro) _ h3⟩
    rcases s.rgN p z with y | y
    · exact h2 y
    · rw [h1] at y; cases y
theorem RepQ.dq {K : PySem.W.Frag} {H : Hp} {w : Wd} {v : V} {d : PyData} (h : RepQ K H w v (.da d)) : Dq K H v d := by
  rcases h with h | ⟨p, vs, ds, rfl, ex, h1, h2, h3⟩
  · exact dp_same (dels_same H w.os) d h
  · cases ex
    exact .lst (.inl (.inl h1)) (dpa_same (dels_same H w.os) _ h3)
theorem RepQ.dp {K : PySem.W.Frag} {H : Hp} {w : Wd} {v : V} {d : PyData} (h : RepQ K H w v (.da d)) : Dp K H v d := dq_dp d h.dq
/-- a list, its items in the core -/
theorem RepQ.list {K : PySem.W.Frag} {H : Hp} {w : Wd} {v : V} {ds : List PyData} (h : RepQ K H w v (.da (.list ds))) : ∃ p vs, v = .ref p ∧ SqL K H p vs ∧ DqAll K (core H w) vs ds := by
  rcases h with h | ⟨p, vs, ds, rfl, ex, h1, h2, h3⟩
  · cases h with
    | lst h1 h2 => exact ⟨_, _, rfl, (dels_same H w.os).seq h1, h2⟩
  · cases ex
    exact ⟨p, vs, rfl, .inl (.inl h1), h3⟩
theorem Rep.tuple {K : PySem.W.Frag} {H : Hp} {w : Wd} {r : List Addr} {v : V} {ds : List PyData} (h : Rep K (core H w) r v (.da (.tuple ds))) : ∃ p vs, v = .ref p ∧ SqT K H p vs ∧ DqAll K (core H w) vs ds := by
  cases h with
  | tup h1 h2 => exact ⟨_, _, rfl, .inl (.inl (dels_same H w.os _ _ h1)), h2⟩
theorem RepQ.tuple {K : PySem.W.Frag} {H : Hp} {w : Wd} {v : V} {ds : List PyData} (h : RepQ K H w v (.da (.tuple ds))) : ∃ p vs, v = .ref p ∧ SqT K H p vs ∧ DqAll K (core H w) vs ds := by
  rcases h with h | ⟨p, vs, ds, rfl, ex, h1, h2, h3⟩
  · exact Rep.tuple h
  · cases ex
def posQ (Z : Zc) (w : Wd) (H : Hp) (Q : VK) : Va → Nat → Prop := fun x n => ∀ v H' w', Stp w H w' H' → WOk w' n H' → RepQ Z.K H' w' v x → Q v H'
def tQ (Z : Zc) (f : Ro → M Va) : TE := fun σ H Q => ∃ w0 γ w n ρ, RE Z.K w0 γ w ρ σ H ∧ WOk w n H ∧ (f ρ).run (posQ Z w H Q) (posE Z w H) n
/-- a new list -/
def posF (Z : Zc) (w : Wd) (H : Hp) (Q : VK) : List PyData → Nat → Prop := fun ds n => ∀ p vs H' w', Stp w H w' H' → WOk w' n H' → H p = none → p ∈ w'.os → p ∉ w'.reg → p ∉ w'.cs → H' p = some (.lst vs) → DqAll Z.K (core H' w') vs ds → Q (.ref p) H'
def tF (Z : Zc) (f : Ro → M (List PyData)) : TE := fun σ H Q => ∃ w0 γ w n ρ, RE Z.K w0 γ w ρ σ H ∧ WOk w n H ∧ (f ρ).run (posF Z w H Q) (posE Z w H) n
def less (w : Wd) (p : Addr) : Wd := ⟨w.os.filter (fun q => decide (q ≠ p)), w.reg, w.cs⟩
theorem mem_less {w : Wd} {p q : Addr} : q ∈ (less w p).os ↔ q ∈ w.os ∧ q ≠ p := by
  unfold less
  simp [List.mem_filter]
section
variable {K : PySem.W.Frag} {w w' : Wd} {n : Nat} {H H' : Hp} {p : Addr}
theorem WOk.less (o : WOk w n H) (h : p ∉ w.reg) : WOk (less w p) n H :=
  ⟨fun q hq => o.al q (mem_less.mp hq).1, fun a ha => mem_less.mpr ⟨o.ro a ha, fun e => h (e ▸ ha)⟩, o.dr, o.cl, fun q hq => o.nt q (mem_less.mp hq).1⟩
theorem Stp.less (s : Stp w H w' H') (h : p ∉ w.os) : Stp w H (less w' p) H' :=
  ⟨s.keep, s.al, fun q hq => mem_less.mpr ⟨s.os q hq, fun e => h (e ▸ hq)⟩, fun q hq => s.osN q (mem_less.mp hq).1, s.rg, s.rgN, s.cs, s.csN⟩
theorem core_less : Same (core H w) (core H (less w p)) := dels_less fun q hq => (mem_less.mp hq).1
theorem less_at {o : HO} (h : H p = some o) : core H (less w p) p = some o := by
  show dels H (less w p).os p = _
  rw [dels_of fun z => (mem_less.mp z).2 rfl]
  exact h
end
section
variable {X : Cx} {e : Expr} {Z : Zc}
theorem ve_q {f : Ro → M Va} (h : PE X e (tV Z f)) : PE X e (tQ Z f) := pe_use h fun σ H Q ⟨w0, γ, w, n, ρ, re, o, q⟩ => ⟨w0, γ, w, n, ρ, re, o, (f ρ).mono (fun x k hx v H' w' s o' r => hx v H' w' s o' (.inl r)) (fun _ _ z => z) q⟩
@[simp] def eF (f : Ro → M (List PyData)) : Ro → M Va := fun ρ => (f ρ).bind fun ds => .ret (.da (.list ds))
theorem ve_f {f : Ro → M (List PyData)} (h : PE X e (tF Z f)) : PE X e (tV Z (eF f)) := pe_use h fun σ H Q ⟨w0, γ, w, n, ρ, re, o, q⟩ => ⟨w0, γ, w, n, ρ, re, o, (f ρ).mono (fun ds k hx p vs H' w' s o' hp h1 h2 h3 h4 h5 => by
  have np : p ∉ w.os := fun z => o.al p z hp
  exact hx (.ref p) H' (less w' p) (s.less np) (o'.less h2) (.lst (.inl (.inl (less_at h4))) (dpa_same core_less _ h5))) (fun _ _ z => z) q⟩
end
/-! ### names and constants -/
@[simp] def eVar (i : Nat) : Ro → M Va := fun ρ => match ρ[i]? with
  | some (.va x) => .ret x
  | _ => .bad
@[simp] def eVarQ (i : Nat) : Ro → M Va := fun ρ => match ρ[i]? with
  | some (.va x) => .ret x
  | some (.ow (.lst xs)) => .ret (.da (.list xs))
  | _ => .bad
@[simp] def eC (d : PyData) : Ro → M Va := fun _ => .ret (.da d)
section
variable {X : Cx} {Z : Zc}
theorem ve_var {i : Nat} {e : Expr} (h : PE X e (tVar i)) : PE X e (tV Z (eVar i)) := pe_use h fun σ H Q ⟨w0, γ, w, n, ρ, re, o, q⟩ => by
  unfold eVar at q
  split at q
  · rename_i x hx
    obtain ⟨ov, h1, v, rfl, r⟩ := re.sl _ _ hx
    exact ⟨v, h1, q v H w (Stp.refl _ _) o r⟩
  · exact q.elim
theorem vq_var {i : Nat} {e : Expr} (h : PE X e (tVar i)) : PE X e (tQ Z (eVarQ i)) := pe_use h fun σ H Q ⟨w0, γ, w, n, ρ, re, o, q⟩ => by
  unfold eVarQ at q
  split at q
  · rename_i x hx
    obtain ⟨ov, h1, v, rfl, r⟩ := re.sl _ _ hx
    exact ⟨v, h1, q v H w (Stp.refl _ _) o (.inl r)⟩
  · rename_i xs hx
    obtain ⟨ov, h1, p, u, rfl, a1, a2, a3, a4, a5, a6⟩ := re.sl _ _ hx
    cases u with
    | lst vs => exact ⟨_, h1, q _ H w (Stp.refl _ _) o (.inr ⟨p, vs, xs, rfl, rfl, a5, a2, a6⟩)⟩
    | _ => exact (show False from a6).elim
  · exact q.elim
theorem ve_c {e : Expr} {v : V} {d : PyData} (h : PE X e (tC v)) (hd : ∀ C, Dq Z.K C v d) : PE X e (tV Z (eC d)) := pe_use h fun σ H Q ⟨w0, γ, w, n, ρ, re, o, q⟩ => q v H w (Stp.refl _ _) o (hd _)
theorem ve_int {i j pos} : PE X (.Constant (.int i) j pos) (tV Z (eC (.int i))) := ve_c pe_int fun _ => .int i
theorem ve_bl {b j pos} : PE X (.Constant (.bool b) j pos) (tV Z (eC (.bool b))) := ve_c pe_bl fun _ => .bl b
theorem ve_non {j pos} : PE X (.Constant .none j pos) (tV Z (eC .none)) := ve_c pe_non fun _ => .non
theorem ve_str {x j pos} : PE X (.Constant (.str x) j pos) (tV Z (eC (.str x))) := ve_c pe_str fun _ => .str x
/-- a module's constant -/
theorem ve_globI {x : Str} {i : Int} {t : Tok} {p : Pos} (hg : Gl X x) (hm : X.mg x = some (.int i t)) (hd : (x == ("__debug__" : Str)) = false := by decide) : PE X (.Name x p) (tV Z (eC (.int i))) := ve_c (v := .int i) (pe_glob hg hm ⟨_, rfl⟩ hd) fun _ => .int i
end
/-! ### two and one operands -/
section
variable {X : Cx} {Z : Zc} {a b : Expr} {fa fb : Ro → M Va}
@[simp] def e2 (k : Va → Va → M Va) (fa fb : Ro → M Va) : Ro → M Va := fun ρ => (fa ρ).bind fun x => (fb ρ).bind fun y => k x y
@[simp] def e1 (k : Va → M Va) (fa : Ro → M Va) : Ro → M Va := fun ρ => (fa ρ).bind k
/-- what an operator's rule must give -/
def R2ok (Z : Zc) (r : R2) (k : Va → Va → M Va) : Prop := ∀ (w : Wd) (n : Nat) (H : Hp) (Q : VK) (v u : V) (x y : Va), WOk w n H → Rep Z.K (core H w) w.reg v x → Rep Z.K (core H w) w.reg u y → (k x y).run (post Z w H Q) (posE Z w H) n → r v u H Q
def R2okQ (Z : Zc) (r : R2) (k : Va → Va → M Va) : Prop := ∀ (w : Wd) (n : Nat) (H : Hp) (Q : VK) (v u : V) (x y : Va), WOk w n H → RepQ Z.K H w v x → RepQ Z.K H w u y → (k x y).run (post Z w H Q) (posE Z w H) n → r v u H Q
theorem tv2 {r : R2} {k : Va → Va → M Va} (hr : R2ok Z r k) (σ H Q) (h : tV Z (e2 k fa fb) σ H Q) : tOp r (tV Z fa) (tV Z fb) σ H Q := by
  obtain ⟨w0, γ, w, n, ρ, re, o, q⟩ := h
  refine ⟨w0, γ, w, n, ρ, re, o, (fa ρ).mono (fun x n1 hx v H1 w1 s1 o1 r1 => ?_) (fun _ _ z => z) q⟩
  refine ⟨w0, γ, w1, n1, ρ, re.stp s1 o.ro, o1, (fb ρ).mono (fun y n2 hy u H2 w2 s2 o2 r2 => ?_) (posE_stp s1) hx⟩
  exact hr w2 n2 H2 Q v u x y o2 (r1.stp s2 o1.ro) r2 ((k x y).mono (post_stp (s1.trans s2)) (posE_stp (s1.trans s2)) hy)
theorem tq2 {r : R2} {k : Va → Va → M Va} (hr : R2okQ Z r k) (σ H Q) (h : tV Z (e2 k fa fb) σ H Q) : tOp r (tQ Z fa) (tQ Z fb) σ H Q := by
  obtain ⟨w0, γ, w, n, ρ, re, o, q⟩ := h
  refine ⟨w0, γ, w, n, ρ, re, o, (fa ρ).mono (fun x n1 hx v H1 w1 s1 o1 r1 => ?_) (fun _ _ z => z) q⟩
  refine ⟨w0, γ, w1, n1, ρ, re.stp s1 o.ro, o1, (fb ρ).mono (fun y n2 hy u H2 w2 s2 o2 r2 => ?_) (posE_stp s1) hx⟩
  exact hr w2 n2 H2 Q v u x y o2 (r1.stp s2 o1.ro) r2 ((k x y).mono (post_stp (s1.trans s2)) (posE_stp (s1.trans s2)) hy)
theorem ve_op {op : Operator} {pos : Pos} {r : R2} {k : Va → Va → M Va} (ho : OpR X (binaryOp op) r) (hr : R2ok Z r k) (ha : PE X a (tV Z fa)) (hb : PE X b (tV Z fb)) : PE X (.BinOp a op b pos) (tV Z (e2 k fa fb)) := pe_use (pe_op ho ha hb) (tv2 hr)
theorem ve_opQ {op : Operator} {pos : Pos} {r : R2} {k : Va → Va → M Va} (ho : OpR X (binaryOp op) r) (hr : R2okQ Z r k) (ha : PE X a (tQ Z fa)) (hb : PE X b (tQ Z fb)) : PE X (.BinOp a op b pos) (tV Z (e2 k fa fb)) := pe_use (pe_op ho ha hb) (tq2 hr)
theorem ve_cmp {op : CmpOp} {pos : Pos} {r : R2} {k : Va → Va → M Va} (ho : OpR X (compareOp op) r) (hr : R2ok Z r k) (ha : PE X a (tV Z fa)) (hb : PE X b (tV Z fb)) (hm : behindInMarks op b = false) : PE X (.Compare a [op] [b] pos) (tV Z (e2 k fa fb)) := pe_use (pe_cmpR ho ha hb hm) (tv2 hr)
theorem ve_cmpQ {op : CmpOp} {pos : Pos} {r : R2} {k : Va → Va → M Va} (ho : OpR X (compareOp op) r) (hr : R2okQ Z r k) (ha : PE X a (tQ Z fa)) (hb : PE X b (tQ Z fb)) (hm : behindInMarks op b = false) : PE X (.Compare a [op] [b] pos) (tV Z (e2 k fa fb)) := pe_use (pe_cmpR ho ha hb hm) (tq2 hr)
/-- a value at once -/
theorem post_now {w : Wd} {n : Nat} {H : Hp} {Q : VK} {x : Va} {v : V} (h : post Z w H Q x n) (o : WOk w n H) (r : Rep Z.K (core H w) w.reg v x) : Q v H := h v H w (Stp.refl _ _) o r
/-- a value in a heap with new things -/
theorem post_new {w : Wd} {n : Nat} {H H' : Hp} {Q : VK} {x : Va} {v : V} (h : post Z w H Q x n) (o : WOk w n H) (s : Same H H') (r : Rep Z.K (core H' w) w.reg v x) : Q v H' := h v H' w (Stp.of s) (o.of s) r
@[simp] def kI (g : Int → Int → PyData) : Va → Va → M Va
  | .da (.int i), .da (.int j) => .ret (.da (g i j))
  | _, _ => .bad
@[simp] def kIc (C : Int → Int → Prop) (g : Int → Int → PyData) : Va → Va → M Va
  | .da (.int i), .da (.int j) => (M.req (C i j)).bind fun _ => .ret (.da (g i j))
  | _, _ => .bad
theorem r2_I {g : Int → Int → V} {g' : Int → Int → PyData} (hg : ∀ C i j, Dq Z.K C (g i j) (g' i j)) : R2ok Z (rI0 g) (kI g') := by
  intro w n H Q v u x y o rx ry h
  unfold kI at h
  split at h
  · cases rx
    cases ry
    exact ⟨_, _, rfl, rfl, post_now h o (hg _ _ _)⟩
  · exact h.elim
theorem r2_Ic {C : Int → Int → Prop} {g : Int → Int → V} {g' : Int → Int → PyData} (hg : ∀ C i j, Dq Z.K C (g i j) (g' i j)) : R2ok Z (rI C g) (kIc C g') := by
  intro w n H Q v u x y o rx ry h
  unfold kIc at h
  split at h
  · cases rx
    cases ry
    obtain ⟨hc, h⟩ := h
    exact ⟨_, _, rfl, rfl, hc, post_now h o (hg _ _ _)⟩
  · exact h.elim
end
abbrev kAdd := kI fun i j => .int (i + j)
abbrev kSub := kI fun i j => .int (i - j)
abbrev kMul := kIc CMul fun i j => .int (i * j)
abbrev kMod := kIc (fun _ j => 0 < j) fun i j => .int (i % j)
abbrev kFdiv := kIc CDiv fun i j => .int (i / j)
abbrev kPow := kIc CPow fun i j => .int (i ^ j.toNat)
abbrev kLt := kI fun i j => .bool (decide (i < j))
abbrev kLe := kI fun i j => .bool (decide (i ≤ j))
abbrev kGt := kI fun i j => .bool (decide (j < i))
abbrev kGe := kI fun i j => .bool (decide (j ≤ i))
section
variable {X : Cx} {Z : Zc} {a b : Expr} {fa fb : Ro → M Va} {pos : Pos}
theorem ve_add (ha : PE X a (tV Z fa)) (hb : PE X b (tV Z fb)) : PE X (.BinOp a .Add b pos) (tV Z (e2 kAdd fa fb)) := ve_op op_add (r2_I fun _ _ _ => .int _) ha hb
theorem ve_sub (ha : PE X a (tV Z fa)) (hb : PE X b (tV Z fb)) : PE X (.BinOp a .Sub b pos) (tV Z (e2 kSub fa fb)) := ve_op op_sub (r2_I fun _ _ _ => .int _) ha hb
theorem ve_mul (ha : PE X a (tV Z fa)) (hb : PE X b (tV Z fb)) : PE X (.BinOp a .Mult b pos) (tV Z (e2 kMul fa fb)) := ve_op op_mul (r2_Ic fun _ _ _ => .int _) ha hb
theorem ve_mod (ha : PE X a (tV Z fa)) (hb : PE X b (tV Z fb)) : PE X (.BinOp a .Mod b pos) (tV Z (e2 kMod fa fb)) := ve_op op_mod (r2_Ic fun _ _ _ => .int _) ha hb
theorem ve_fdiv (ha : PE X a (tV Z fa)) (hb : PE X b (tV Z fb)) : PE X (.BinOp a .FloorDiv b pos) (tV Z (e2 kFdiv fa fb)) := ve_op op_fdiv (r2_Ic fun _ _ _ => .int _) ha hb
theorem ve_pow (ha : PE X a (tV Z fa)) (hb : PE X b (tV Z fb)) : PE X (.BinOp a .Pow b pos) (tV Z (e2 kPow fa fb)) := ve_op op_pow (r2_Ic fun _ _ _ => .int _) ha hb
theorem ve_lt (ha : PE X a (tV Z fa)) (hb : PE X b (tV Z fb)) : PE X (.Compare a [.Lt] [b] pos) (tV Z (e2 kLt fa fb)) := ve_cmp op_lt (r2_I fun _ _ _ => .bl _) ha hb (nomark _)
theorem ve_le (ha : PE X a (tV Z fa)) (hb : PE X b (tV Z fb)) : PE X (.Compare a [.LtE] [b] pos) (tV Z (e2 kLe fa fb)) := ve_cmp op_le (r2_I fun _ _ _ => .bl _) ha hb (nomark _)
theorem ve_gt (ha : PE X a (tV Z fa)) (hb : PE X b (tV Z fb)) : PE X (.Compare a [.Gt] [b] pos) (tV Z (e2 kGt fa fb)) := ve_cmp op_gt (r2_I fun _ _ _ => .bl _) ha hb (nomark _)
theorem ve_ge (ha : PE X a (tV Z fa)) (hb : PE X b (tV Z fb)) : PE X (.Compare a [.GtE] [b] pos) (tV Z (e2 kGe fa fb)) := ve_cmp op_ge (r2_I fun _ _ _ => .bl _) ha hb (nomark _)
/-! == and != of any data -/
def kEq : Va → Va → M Va
  | .da d, .da e => (M.req (SeqAt.shaped d = true ∧ SeqAt.shaped e = true)).bind fun _ => .ret (.da (.bool (PyData.eqv d e)))
  | _, _ => .bad
def kNe : Va → Va → M Va
  | .da d, .da e => (M.req (SeqAt.shaped d = true ∧ SeqAt.shaped e = true)).bind fun _ => .ret (.da (.bool (!PyData.eqv d e)))
  | _, _ => .bad
theorem ve_eq {j : Nat} (hr : Room j X.A) (hZ : Z.K = X.K) (ha : PE X a (tQ Z fa)) (hb : PE X b (tQ Z fb)) : PE X (.Compare a [.Eq] [b] pos) (tV Z (e2 kEq fa fb)) := by
  refine ve_cmpQ (op_eqD hr.units) ?_ ha hb (nomark _)
  intro w n H Q v u x y o rx ry h
  unfold kEq at h
  split at h
  · obtain ⟨⟨s1, s2⟩, h⟩ := h
    exact ⟨_, _, hZ ▸ rx.dp, hZ ▸ ry.dp, s1, s2, post_now h o (.bl _)⟩
  · exact h.elim
theorem ve_ne {j : Nat} (hr : Room j X.A) (hZ : Z.K = X.K) (ha : PE X a (tQ Z fa)) (hb : PE X b (tQ Z fb)) : PE X (.Compare a [.NotEq] [b] pos) (tV Z (e2 kNe fa fb)) := by
  refine ve_cmpQ (op_neD hr.units) ?_ ha hb (nomark _)
  intro w n H Q v u x y o rx ry h
  unfold kNe at h
  split at h
  · obtain ⟨⟨s1, s2⟩, h⟩ := h
    exact ⟨_, _, hZ ▸ rx.dp, hZ ▸ ry.dp, s1, s2, post_now h o (.bl _)⟩
  · exact h.elim
/-! == and != of ints, texts, bools, None, by values alone -/
def scD : PyData → PyData → Bool
  | .int _, .int _ => true
  | .str _, .str _ => true
  | .bool _, .bool _ => true
  | .none, .none => true
  | _, _ => false
theorem ve_isN {f : Ro → M Va} (ha : PE X a (tV Z f)) {pos' : Pos} {j} (g : PyData → Bool) (hg : ∀ d, g d = match d with | .none => true | _ => false) : PE X (.Compare a [.Is] [.Constant .none j pos'] pos) (tV Z (e1 (fun x => match x with | .da d => .ret (.da (.bool (g d))) | _ => .bad) f)) := by
  refine pe_use (pe_cmpR op_isN ha pe_non (nomark _)) fun σ H Q ⟨w0, γ, w, n, ρ, re, o, q⟩ => ?_
  refine ⟨w0, γ, w, n, ρ, re, o, (f ρ).mono (fun x n1 hx v H1 w1 s1 o1 r1 => ?_) (fun _ _ z => z) q⟩
  cases x with
  | dw a => exact hx.elim
  | da d =>
    refine ⟨rfl, ?_⟩
    have e : decide (v = V.non) = g d := by
      rw [hg]
      cases r1 <;> rfl
    rw [e]
    exact hx _ H1 w1 s1 o1 (.bl _)
theorem ve_notN {f : Ro → M Va} (ha : PE X a (tV Z f)) {pos' : Pos} {j} (g : PyData → Bool) (hg : ∀ d, g d = match d with | .none => true | _ => false) : PE X (.Compare a [.IsNot] [.Constant .none j pos'] pos) (tV Z (e1 (fun x => match x with | .da d => .ret (.da (.bool (!g d))) | _ => .bad) f)) := by
  refine pe_use (pe_cmpR op_notN ha pe_non (nomark _)) fun σ H Q ⟨w0, γ, w, n, ρ, re, o, q⟩ => ?_
  refine ⟨w0, γ, w, n, ρ, re, o, (f ρ).mono (fun x n1 hx v H1 w1 s1 o1 r1 => ?_) (fun _ _ z => z) q⟩
  cases x with
  | dw a => exact hx.elim
  | da d =>
    refine ⟨rfl, ?_⟩
    have e : decide (v = V.non) = g d := by
      rw [hg]
      cases r1 <;> rfl
    rw [e]
    exact hx _ H1 w1 s1 o1 (.bl _)
end
end JN

set_option maxRecDepth 100000
set_option maxHeartbeats 4000000
namespace JN
open PySem PySem.Spec PyProof.Rows L2
/-! the greatest of a tuple of ints -/
theorem max_tup {prog : Program} {w : World} {A : Around} {E : Value → Shared → Prop} {s : Shared} {l : Addr} {its : List Value} {ns : List Int} {Q : Value → Shared → Prop} (hh : A.handled = none) (hl : s.heap.IsTuple l its.toArray) (hi : IntsAre its ns) (hne : 0 < ns.length)
    (h : ∀ h' tk M t', (∀ b o, s.heap.get? b = some o → h'.get? b = some o) → M ∈ ns → (∀ a, a ∈ ns → a ≤ M) → Q (.int M t') { s with heap := h', toks := tk }) : wpAny (model prog w) A (call (.builtin "max") [.ref l]) Q E s := by
  obtain ⟨xs, e⟩ := hi.allInts.items
  have hn : numsOf (intItems xs).toList = ns := by rw [← e]; exact hi.numsOf
  rw [nums_intItems] at hn
  subst hn
  rw [e] at hl
  have hsz : 0 < xs.size := by simpa using hne
  have hlz : l < s.heap.objs.size := by obtain ⟨_, q, _⟩ := id hl; exact Heap.lt_size q
  have kp : ∀ b o, s.heap.get? b = some o → (s.heap.push { cls := .type "tuple_iterator", data := .fields #[.ref l, .int 0 0] }).get? b = some o := fun b o q => Heap.get?_push_of_some _ q
  refine call_max_walk (wpAny_pyIter_tuple hl ?_)
  refine ⟨s.heap.objs.size, [s.heap.objs.size, l], [s.heap.objs.size], (intItems xs).size, _, _, _, rfl, Walks.tuple (A := A.in1) hh s.heap.objs.size l (Nat.ne_of_lt hlz) (intItems xs),
    ⟨⟨_, Heap.get?_push_size _ rfl, rfl, rfl⟩, hl.at fun o q => kp l o q⟩, fun b hb => ?_, by simpa [intItems] using hsz, CmpOf.ints_gt (numAt xs) (fun _ _ => intItems_at), fun v h' tk hP hk => ?_⟩
  · rw [Heap.size_push]
    rcases (show b = s.heap.objs.size ∨ b = l by simpa using hb) with rfl | rfl
    · exact Nat.lt_succ_self _
    · exact Nat.lt_succ_of_lt hlz
  · obtain ⟨t, rfl⟩ := intItems_at hP
    have ez : (intItems xs).size = xs.size := by simp [intItems]
    rw [ez]
    obtain ⟨h1, h2⟩ := argBest_gt (numAt xs) (xs.size - 1)
    refine h h' tk _ t (fun b o q => hk b o (by
      have : b < s.heap.objs.size := Heap.lt_size q
      simp only [List.mem_singleton]
      exact Nat.ne_of_lt this) (kp b o q)) ?_ fun a ha => ?_
    · rw [numAt_eq]; exact PySem.getD_mem (by rw [List.length_map, Array.length_toList]; omega)
    · obtain ⟨j, hj, rfl⟩ := mem_getD ha
      rw [List.length_map, Array.length_toList] at hj
      rw [← numAt_eq]; exact h2 j (by omega)
def rMaxT (K : PySem.W.Frag) : List V → Hp → VK → Prop := fun vs H Q => ∃ (a : Addr) (ns : List Int), vs = [V.ref a] ∧ SqT K H a (ns.map V.int) ∧ 0 < ns.length ∧ ∀ m, m ∈ ns → (∀ y, y ∈ ns → y ≤ m) → Q (.int m) H
theorem cr_maxT {X : Cx} (hc : X.calm = true) : CallR X (.builtin "max") (rMaxT X.K) := by
  intro pins s σ H vs us Q I r h
  obtain ⟨a, ns, rfl, hs, hne, q⟩ := h
  obtain ⟨its, rv, hl, _⟩ := I.tuple hs
  rw [Vals.ref1 r]
  exact max_tup (I.ok.hd hc) hl rv.ints hne fun h' tk m t' hk h1 h2 => ⟨.int _, H, I.kept hk, ⟨_, rfl⟩, q m h1 h2⟩
/-! set(t), t a tuple of tuples of ints -/
section
variable {P : Program} {w : World} {A : Around} {E : Value → Shared → Prop} {s : Shared}
/-- the set as the call makes it, still empty -/
abbrev set0 (w : World) : Obj := { cls := .type "set", dict := none, data := .set #[] 0 (.fresh 0 0 (!w.params.followText "set-order")) }
theorem call_set_tupsT {l : Addr} {items : Array Value} (ks : List (Addr × List Int)) {Q : Value → Shared → Prop} (hh : A.handled = none) (hl : s.heap.IsTuple l items) (hit : items.toList = ks.map fun p => Value.ref p.1)
    (hk : ∀ p ∈ ks, IsT P w s.heap p.2 p.1) (hfew : ks.length < 64) (hu : A.units + 3 < cLine)
    (h : ∀ (h' : Heap) (tk : Nat) L es ep t, SetTR P w h' s.heap.objs.size L es ep t → Got ks ks.length L → (∀ b o, s.heap.get? b = some o → h'.get? b = some o) → Q (.ref s.heap.objs.size) { s with heap := h', toks := tk }) :
    wpAny (model P w) A (call (.type "set") [.ref l]) Q E s := by
  have hisz : items.size = ks.length := by
    have q := congrArg List.length hit
    rw [Array.length_toList, List.length_map] at q
    exact q
  obtain ⟨c, tl, hmro⟩ := F.called_set.mro
  have hmade := F.called_set.made
  have hsub := F.called_set.sub
  refine wpAny_call (codeAny_of_tree ?_)
  show wpAny _ _ (callAny (.type "set") _) _ _ _
  refine wpAny_pure ⟨Code.quiet_builtin _ (by decide +kernel), codeAny_builtin F.entry_type_call ?_⟩
  rw [Around.under_plain (weight_type_call_type "set" [.ref l] []) rfl]
  have h1 := F.called_set.notType
  have h2 := F.called_set.canCreate
  have hct := F.typeCall_set_1 (.ref l)
  repeat (any_goals (first | assumption | wp_step))
  refine codeAny_mono (code_set_led1 (.ref l) (E := E) (Q₁ := fun obj s₁ => obj = .ref s.heap.objs.size ∧ s₁ = { s with heap := s.heap.push (set0 w) }) ⟨rfl, rfl⟩) fun r s₁ hr => ?_
  cases r with
  | error e => exact hr
  | ok fl =>
    cases fl with
    | ret obj =>
      obtain ⟨rfl, rfl⟩ := hr
      have hS : (s.heap.push (set0 w)).get? s.heap.objs.size = some (set0 w) := Heap.get?_push_size _ rfl
      have hT : Shared.TypeIs { s with heap := s.heap.push (set0 w) } (.ref s.heap.objs.size) "set" := ⟨_, hS, rfl⟩
      have hli := F.called_set.init.lookup
      have hbi := F.called_set.init.bind (.ref s.heap.objs.size)
      repeat (any_goals (first | assumption | wp_step))
      refine codeAny_mono (codeAny_call_builtin (R := wants (fun r s₂ => r = .none ∧ ∃ h' tk L es ep t, s₂ = { s with heap := h', toks := tk } ∧ SetTR P w h' s.heap.objs.size L es ep t ∧ Got ks ks.length L ∧
          (∀ b o, s.heap.get? b = some o → h'.get? b = some o)) E) F.called_set.init.plain F.entry_set_init (check_set_init_1 hT ?_)) fun r₂ s₂ hr₂ => ?_
      · obtain ⟨ol, hol, hcl, nl, hdl⟩ := hl
        obtain ⟨ocls, odict, odata, oslots⟩ := ol
        simp only at hcl hdl
        subst hcl; subst hdl
        have hol' : (s.heap.push (set0 w)).get? l = some { cls := .type "tuple", dict := odict, data := .seq items nl, slots := oslots } := Heap.get?_push_of_some _ hol
        have hsls := F.sub_tuple_set
        have hslf := F.sub_tuple_frozenset
        have hne : (Value.type "tuple" == Value.type "dict") = false := by decide
        have hl1 : (s.heap.push (set0 w)).IsTuple l items := ⟨_, hol', rfl, nl, rfl⟩
        unfold Builtin.«set.__init__» noKeywords Builtin.Frozenset.updateFrom
        generalize hPI : pyIter = PI
        wp_walk
        subst hPI
        refine wpAny_pyIter_tuple hl1 ?_
        refine wpAny_bind (wpAny_runValue ?_)
        have hlS : l < s.heap.objs.size := Heap.lt_size hol
        have hh3 : A.in1.in1.in1.handled = none := by simp [hh]
        have hneI : l ≠ (s.heap.push (set0 w)).objs.size := by
          rw [Heap.size_push]; exact Nat.ne_of_lt (Nat.lt_succ_of_lt hlS)
        have hSf : s.heap.objs.size ∉ [(s.heap.push (set0 w)).objs.size, l] := by
          rw [Heap.size_push]; simp only [List.mem_cons, List.mem_singleton, List.not_mem_nil, or_false, not_or]
          exact ⟨Nat.ne_of_lt (Nat.lt_succ_self _), Nat.ne_of_gt hlS⟩
        have hval : ∀ (i : Nat) (v : Value), items[i]? = some v → ∃ p, ks[i]? = some p ∧ v = .ref p.1 := fun i v hv => by
          have q : items.toList[i]? = some v := by rw [Array.getElem?_toList]; exact hv
          rw [hit, List.getElem?_map] at q
          cases hq : ks[i]? with
          | none => rw [hq] at q; cases q
          | some p =>
            rw [hq] at q
            exact ⟨p, rfl, (Option.some.inj q).symm⟩
        have none_of : ∀ b, s.heap.objs.size ≤ b → s.heap.get? b = none := fun b hb => by
          cases q : s.heap.get? b with
          | none => rfl
          | some o => exact absurd (Nat.lt_of_lt_of_le (Heap.lt_size q) hb) (Nat.lt_irrefl _)
        refine set_update_tups ((Walks.tuple hh3 _ l hneI items).toS) s.heap.objs.size
          hSf ks hisz hfew hval s.heap hk (none_of _ (Nat.le_refl _)) (fun b hb => none_of b (by
            rw [List.mem_singleton.mp hb, Heap.size_push]
            exact Nat.le_succ _)) hu (items.size - 0) 0 _ (by omega) (Nat.zero_le _)
          ⟨⟨_, Heap.get?_push_size _ rfl, rfl, rfl⟩, hl1.at fun o q => Heap.get?_push_of_some _ q⟩ (fun b o e => Heap.get?_push_of_some _ (Heap.get?_push_of_some _ e)) ?hS0 ?hR
        case hS0 =>
          exact ⟨[], #[], 0, _, setTR_fresh (Heap.get?_push_of_some _ hS), Got.zero ks⟩
        case hR =>
          intro s' L es ep t hm hS' g' hkp
          obtain ⟨h', g2, d', tk', os'⟩ := s'
          obtain rfl : g2 = s.gens := hm.gens
          obtain rfl : d' = s.drawn := hm.drawn
          obtain rfl : os' = s.os := hm.os
          show wpAny _ _ _ _ _ _
          refine wpAny_pure ?_
          show wpAny _ _ (ret Value.none) _ _ _
          rw [hisz] at g'
          exact wpAny_pure ⟨rfl, h', tk', L, es, ep, t, rfl, hS', g', hkp⟩
      · cases r₂ with
        | error e => exact hr₂
        | ok fl₂ =>
          cases fl₂ with
          | ret r =>
            obtain ⟨rfl, h', tk, L, es, ep, t, rfl, hS', g', hk'⟩ := hr₂
            repeat (any_goals (first | assumption | wp_step))
            exact h _ _ _ _ _ _ hS' g' hk'
          | _ => exact hr₂.elim
    | _ => exact hr.elim
end
/-- set(xs), xs a list or a tuple of tuples of ints -/
def rSetOfA (K : PySem.W.Frag) (P : Program) (w : World) : List V → Hp → VK → Prop := fun xs H Q => ∃ (l : Addr) (ks : List (Addr × List Int)), xs = [V.ref l] ∧ (SqL K H l (ks.map fun p => V.ref p.1) ∨ SqT K H l (ks.map fun p => V.ref p.1)) ∧ (∀ p ∈ ks, SqT K H p.1 (p.2.map V.int)) ∧ ks.length < 64 ∧
  ∀ a L, H a = none → (∀ p ∈ L, p ∈ ks) → (∀ p ∈ ks, p.2 ∈ L.map (·.2)) → Q (.ref a) (upd H a (SetTO P w a L))
theorem cr_setOfA {X : Cx} (hc : X.calm = true) (hu : X.A.units + 64 < cLine) : CallR X (.type "set") (rSetOfA X.K X.prog X.w) := by
  intro pins s σ H xs us Q I r h
  obtain ⟨l, ks, rfl, hl, hk, hf, q⟩ := h
  have hn : H s.heap.objs.size = none := I.hok.fresh (Nat.le_refl _)
  rw [Vals.ref1 r]
  rcases hl with hl | hl
  · obtain ⟨its, rv, pl, hz⟩ := I.list hl
    refine call_set_tups (P := X.prog) (w := X.w) ks (I.ok.hd hc) pl.isList (by simpa using refs_of_vals rv) (fun p hp => I.isT (hk p hp)) hf (by omega) fun h' tk L es ep t R g k => ?_
    exact ⟨.ref s.heap.objs.size, upd H s.heap.objs.size (SetTO X.prog X.w s.heap.objs.size L), I.laid (t' := tk) k (Nat.le_refl _) (setTO_new R.t0), rfl, q _ L hn (fun p hp => List.mem_of_mem_take (g.sub p hp)) fun p hp => g.all p (by rw [List.take_length]; exact hp)⟩
  · obtain ⟨its, rv, pl, hz⟩ := I.tuple hl
    refine call_set_tupsT (P := X.prog) (w := X.w) ks (I.ok.hd hc) pl (by simpa using refs_of_vals rv) (fun p hp => I.isT (hk p hp)) hf (by omega) fun h' tk L es ep t R g k => ?_
    exact ⟨.ref s.heap.objs.size, upd H s.heap.objs.size (SetTO X.prog X.w s.heap.objs.size L), I.laid (t' := tk) k (Nat.le_refl _) (setTO_new R.t0), rfl, q _ L hn (fun p hp => List.mem_of_mem_take (g.sub p hp)) fun p hp => g.all p (by rw [List.take_length]; exact hp)⟩
end JN

set_option maxRecDepth 100000
set_option maxHeartbeats 4000000
namespace JN
open PySem PySem.Spec PyProof.Rows L2
/-! ### argument lists -/
@[simp] def eNil : Ro → M (List Va) := fun _ => .ret []
@[simp] def eCons (f : Ro → M Va) (g : Ro → M (List Va)) : Ro → M (List Va) := fun ρ => (f ρ).bind fun x => (g ρ).bind fun xs => .ret (x :: xs)
@[simp] def eArgs : List (Ro → M Va) → Ro → M (List Va)
  | [] => eNil
  | f :: gs => eCons f (eArgs gs)
theorem args_len : ∀ (gs : List (Ro → M Va)) (ρ : Ro) {Q : List Va → Nat → Prop} {E : Er → Nat → Prop} {n : Nat}, (eArgs gs ρ).run Q E n → (eArgs gs ρ).run (fun xs k => xs.length = gs.length ∧ Q xs k) E n
  | [], ρ, Q, E, n, h => ⟨rfl, h⟩
  | f :: gs, ρ, Q, E, n, h => (f ρ).mono (fun x k hx => (eArgs gs ρ).mono (fun xs k2 hy => ⟨by rw [List.length_cons, hy.1]; rfl, hy.2⟩) (fun _ _ z => z) (args_len gs ρ hx)) (fun _ _ z => z) h
inductive RepQA (K : PySem.W.Frag) (H : Hp) (w : Wd) : List V → List Va → Prop
  | nil : RepQA K H w [] []
  | cons {v : V} {vs : List V} {x : Va} {xs : List Va} : RepQ K H w v x → RepQA K H w vs xs → RepQA K H w (v :: vs) (x :: xs)
theorem RepQA.stp {K : PySem.W.Frag} {w w' : Wd} {H H' : Hp} {vs : List V} {xs : List Va} (h : RepQA K H w vs xs) (s : Stp w H w' H') (ro : ∀ a ∈ w.reg, a ∈ w.os) : RepQA K H' w' vs xs := by
  induction h with
  | nil => exact .nil
  | cons h _ ih => exact .cons (h.stp s ro) ih
theorem RepQA.len {K : PySem.W.Frag} {H : Hp} {w : Wd} {vs : List V} {xs : List Va} (h : RepQA K H w vs xs) : vs.length = xs.length := by
  induction h with
  | nil => rfl
  | cons _ _ ih => rw [List.length_cons, List.length_cons, ih]
def posQs (Z : Zc) (w : Wd) (H : Hp) (Q : List V → Hp → Prop) : List Va → Nat → Prop := fun xs n => ∀ vs H' w', Stp w H w' H' → WOk w' n H' → RepQA Z.K H' w' vs xs → Q vs H'
def tQs (Z : Zc) (f : Ro → M (List Va)) : TA := fun σ H Q => ∃ w0 γ w n ρ, RE Z.K w0 γ w ρ σ H ∧ WOk w n H ∧ (f ρ).run (posQs Z w H Q) (posE Z w H) n
section
variable {X : Cx} {Z : Zc} {e : Expr} {es : List Expr} {f : Ro → M Va} {gs : List (Ro → M Va)}
theorem va_nil : PA X [] (tVs Z (eArgs [])) := pa_use pa_nil fun σ H Q ⟨w0, γ, w, n, ρ, re, o, q⟩ => q [] H w (Stp.refl _ _) o .nil
theorem va_cons (ha : PE X e (tV Z f)) (hr : PA X es (tVs Z (eArgs gs))) (hs : starEach (e :: es) X.env = (false, eval e X.env) :: starEach es X.env := by rfl) : PA X (e :: es) (tVs Z (eArgs (f :: gs))) := by
  refine pa_use (pa_cons ha hr hs) fun σ H Q ⟨w0, γ, w, n, ρ, re, o, q⟩ => ?_
  refine ⟨w0, γ, w, n, ρ, re, o, (f ρ).mono (fun x n1 hx v H1 w1 s1 o1 r1 => ?_) (fun _ _ z => z) q⟩
  refine ⟨w0, γ, w1, n1, ρ, re.stp s1 o.ro, o1, (eArgs gs ρ).mono (fun y n2 hy u H2 w2 s2 o2 r2 => ?_) (posE_stp s1) hx⟩
  exact hy (v :: u) H2 w2 (s1.trans s2) o2 (.cons (r1.stp s2 o1.ro) r2)
theorem vqa_nil : PA X [] (tQs Z (eArgs [])) := pa_use pa_nil fun σ H Q ⟨w0, γ, w, n, ρ, re, o, q⟩ => q [] H w (Stp.refl _ _) o .nil
theorem vqa_cons (ha : PE X e (tQ Z f)) (hr : PA X es (tQs Z (eArgs gs))) (hs : starEach (e :: es) X.env = (false, eval e X.env) :: starEach es X.env := by rfl) : PA X (e :: es) (tQs Z (eArgs (f :: gs))) := by
  refine pa_use (pa_cons ha hr hs) fun σ H Q ⟨w0, γ, w, n, ρ, re, o, q⟩ => ?_
  refine ⟨w0, γ, w, n, ρ, re, o, (f ρ).mono (fun x n1 hx v H1 w1 s1 o1 r1 => ?_) (fun _ _ z => z) q⟩
  refine ⟨w0, γ, w1, n1, ρ, re.stp s1 o.ro, o1, (eArgs gs ρ).mono (fun y n2 hy u H2 w2 s2 o2 r2 => ?_) (posE_stp s1) hx⟩
  exact hy (v :: u) H2 w2 (s1.trans s2) o2 (.cons (r1.stp s2 o1.ro) r2)
end
/-! ### displays -/
@[simp] def das : List Va → Option (List PyData)
  | [] => some []
  | .da d :: r => (das r).map (d :: ·)
  | .dw _ :: _ => none
theorem das_rep {K : PySem.W.Frag} {C : Hp} {r : List Addr} : ∀ {xs : List Va} {ds : List PyData} {vs : List V}, das xs = some ds → RepA K C r vs xs → DqAll K C vs ds
  | [], _, _, e, h => by cases h; cases e; exact .nil
  | .da d :: xs, _, _, e, h => by
    cases h with
    | cons h1 h2 =>
      unfold das at e
      cases q : das xs with
      | none => rw [q] at e; cases e
      | some es =>
        rw [q] at e
        cases e
        exact .cons h1 (das_rep q h2)
  | .dw _ :: _, _, _, e, _ => by cases e
@[simp] def kTup (xs : List Va) : M Va := match das xs with
  | some ds => (M.req (ds.length ≤ sizeLine)).bind fun _ => .ret (.da (.tuple ds))
  | none => .bad
@[simp] def kLst (xs : List Va) : M (List PyData) := match das xs with
  | some ds => (M.req (ds.length ≤ sizeLine)).bind fun _ => .ret ds
  | none => .bad
@[simp] def eTup (gs : List (Ro → M Va)) : Ro → M Va := fun ρ => (eArgs gs ρ).bind kTup
@[simp] def eLst (gs : List (Ro → M Va)) : Ro → M (List PyData) := fun ρ => (eArgs gs ρ).bind kLst
theorem core_new {w : Wd} {n : Nat} {H : Hp} {p : Addr} {o : HO} (ok : WOk w n H) (h : H p = none) : core (upd H p o) w p = some o := by
  show dels (upd H p o) w.os p = _
  rw [dels_of fun z => ok.al p z h, upd_same]
/-- a new tuple of things of the core -/
theorem post_tup {Z : Zc} {w : Wd} {n : Nat} {H : Hp} {Q : VK} {ds : List PyData} {vs : List V} {p : Addr} (h : post Z w H Q (.da (.tuple ds)) n) (o : WOk w n H) (np : H p = none) (hd : DqAll Z.K (core H w) vs ds) : Q (.ref p) (upd H p (.tup vs)) := by
  have s : Same H (upd H p (.tup vs)) := same_new np
  refine post_new h o s (.tup (core_new o np) (dpa_same ((Stp.of (w := w) s).core o.ro) _ hd))
/-- a new list of things of the core -/
theorem posF_new {Z : Zc} {w : Wd} {n : Nat} {H : Hp} {Q : VK} {ds : List PyData} {vs : List V} {p : Addr} (h : posF Z w H Q ds n) (o : WOk w n H) (np : H p = none) (hd : DqAll Z.K (core H w) vs ds) : Q (.ref p) (upd H p (.lst vs)) := by
  have s : Same H (upd H p (.lst vs)) := same_new np
  have n1 : p ∉ w.os := fun z => o.al p z np
  have n2 : p ∉ w.reg := fun z => n1 (o.ro p z)
  have n3 : p ∉ w.cs := fun z => o.cl p z np
  have k := Stp.of (w := w) s
  have o' := o.of s
  refine h p vs _ ⟨p :: w.os, w.reg, w.cs⟩ ⟨k.keep, k.al, fun q z => List.mem_cons_of_mem _ z, fun q z => ?_, k.rg, k.rgN, k.cs, k.csN⟩ ⟨fun q z => ?_, fun a z => List.mem_cons_of_mem _ (o'.ro a z), o'.dr, o'.cl, fun q z xs e => ?_⟩ np List.mem_cons_self n2 n3 upd_same (dpa_same ?_ _ hd)
  · rcases List.mem_cons.mp z with e | e
    · exact .inr (e ▸ np)
    · exact .inl e
  · rcases List.mem_cons.mp z with e | e
    · rw [e, upd_same]; simp
    · exact o'.al q e
  · rcases List.mem_cons.mp z with y | y
    · rw [y, upd_same] at e; cases e
    · exact o'.nt q y xs e
  · intro b u e
    obtain ⟨e1, e2⟩ := dels_some e
    have nb : b ≠ p := ne_of_none e2 np
    show dels _ (p :: w.os) b = _
    rw [dels_of fun z => (List.mem_cons.mp z).elim nb e1]
    exact s _ _ e2
section
variable {X : Cx} {Z : Zc} {e : Expr} {es : List Expr} {gs : List (Ro → M Va)} {pos : Pos} {x1 : Nat}
theorem ve_tup (h : PA X es (tVs Z (eArgs gs))) : PE X (.Tuple es x1 pos) (tV Z (eTup gs)) := by
  refine pe_use (pe_tup h) fun σ H Q ⟨w0, γ, w, n, ρ, re, o, q⟩ => ?_
  refine ⟨w0, γ, w, n, ρ, re, o, (eArgs gs ρ).mono (fun xs n1 hx vs H1 w1 s1 o1 r1 => ?_) (fun _ _ z => z) q⟩
  unfold kTup at hx
  split at hx
  · rename_i ds hd
    have hda := das_rep hd r1
    obtain ⟨hz, hx⟩ := hx
    exact ⟨by rw [dpaLen hda]; exact hz, fun p np => post_tup (post_stp s1 _ _ hx) o1 np hda⟩
  · exact hx.elim
theorem vf_lst (h : PA X es (tVs Z (eArgs gs))) : PE X (.List es pos) (tF Z (eLst gs)) := by
  refine pe_use (pe_lst h) fun σ H Q ⟨w0, γ, w, n, ρ, re, o, q⟩ => ?_
  refine ⟨w0, γ, w, n, ρ, re, o, (eArgs gs ρ).mono (fun xs n1 hx vs H1 w1 s1 o1 r1 => ?_) (fun _ _ z => z) q⟩
  unfold kLst at hx
  split at hx
  · rename_i ds hd
    have hda := das_rep hd r1
    obtain ⟨hz, hx⟩ := hx
    refine ⟨by rw [dpaLen hda]; exact hz, fun p np => posF_new (fun p vs H' w' s o2 => hx p vs H' w' (s1.trans s) o2 |> fun z np' => z ?_) o1 np hda⟩
    cases e : H p with
    | none => rfl
    | some u => exact absurd np' (s1.al p (by rw [e]; simp))
  · exact hx.elim
end
/-! ### calls of the text's own defs -/
def spV (Z : Zc) (ar : Nat) (F : List Va → M Va) : Sp := fun vs H Q E => vs.length = ar ∧ ∃ w n xs, WOk w n H ∧ RepA Z.K (core H w) w.reg vs xs ∧ (F xs).run (post Z w H Q) (fun _ _ => False) n
/-- .. where it may raise -/
def spVX (Z : Zc) (ar : Nat) (F : List Va → M Va) : Sp := fun vs H Q E => vs.length = ar ∧ ∃ w n xs, WOk w n H ∧ RepA Z.K (core H w) w.reg vs xs ∧ (F xs).run (post Z w H Q) (posE ⟨Z.K, Z.mg, E⟩ w H) n
@[simp] def eCall (F : List Va → M Va) (gs : List (Ro → M Va)) : Ro → M Va := fun ρ => (eArgs gs ρ).bind fun xs => (F xs).quiet
@[simp] def scal : Va → Bool
  | .da .none => true
  | .da (.bool _) => true
  | .da (.int _) => true
  | .da (.str _) => true
  | _ => false
theorem scal_rep {K : PySem.W.Frag} {C C' : Hp} {r r' : List Addr} {v : V} {x : Va} (h : scal x = true) (q : Rep K C r v x) : Rep K C' r' v x := by
  cases x with
  | dw a => cases h
  | da d =>
    cases q with
    | non => exact .non
    | bl b => exact .bl b
    | int i => exact .int i
    | str s => exact .str s
    | lst _ _ => cases h
    | tup _ _ => cases h
@[simp] def kScal (x : Va) : M Va := if scal x = true then .ret x else .bad
/-- a call that may be handed a list that a name alone has; what it gives is no object -/
@[simp] def eCallS (F : List Va → M Va) (gs : List (Ro → M Va)) : Ro → M Va := fun ρ => (eArgs gs ρ).bind fun xs => (F xs).quiet.bind kScal
theorem rep_only {K : PySem.W.Frag} {H : Hp} {w : Wd} {v : V} {x : Va} (ro : ∀ a ∈ w.reg, a ∈ w.os) (h : RepQ K H w v x) : Rep K (core H ⟨w.reg, w.reg, w.cs⟩) w.reg v x := by
  have s : Same (core H w) (core H ⟨w.reg, w.reg, w.cs⟩) := dels_less fun p hp => ro p hp
  rcases h with h | ⟨p, vs, ds, rfl, rfl, h1, h2, h3⟩
  · exact h.mono s fun _ z => z
  · refine .lst (.inl (.inl ?_)) (dpa_same s _ h3)
    show dels H w.reg p = _
    rw [dels_of h2]
    exact h1
theorem repA_only {K : PySem.W.Frag} {H : Hp} {w : Wd} {vs : List V} {xs : List Va} (ro : ∀ a ∈ w.reg, a ∈ w.os) (h : RepQA K H w vs xs) : RepA K (core H ⟨w.reg, w.reg, w.cs⟩) w.reg vs xs := by
  induction h with
  | nil => exact .nil
  | cons h _ ih => exact .cons (rep_only ro h) ih
theorem stp_wide {w w' : Wd} {H H' : Hp} (ro : ∀ a ∈ w.reg, a ∈ w.os) (s : Stp ⟨w.reg, w.reg, w.cs⟩ H w' H') : Stp w H ⟨w.os ++ w'.os, w'.reg, w'.cs⟩ H' :=
  ⟨s.keep, s.al, fun p h => List.mem_append_left _ h, fun p h => by
    rcases List.mem_append.mp h with z | z
    · exact .inl z
    · rcases s.osN p z with y | y
      · exact .inl (ro p y)
      · exact .inr y, s.rg, s.rgN, s.cs, s.csN⟩
theorem wok_wide {w w' : Wd} {n n' : Nat} {H H' : Hp} (o : WOk w n H) (s : Stp ⟨w.reg, w.reg, w.cs⟩ H w' H') (o' : WOk w' n' H') : WOk ⟨w.os ++ w'.os, w'.reg, w'.cs⟩ n' H' :=
  ⟨fun p h => (List.mem_append.mp h).elim (fun z => s.al p (o.al p z)) (o'.al p), fun a h => List.mem_append_right _ (o'.ro a h), o'.dr, o'.cl, fun p h xs e => by
    rcases List.mem_append.mp h with z | z
    · by_cases hr : p ∈ w.reg
      · exact o'.nt p (o'.ro p (s.rg p hr)) xs e
      · cases q : H p with
        | none => exact o.al p z q
        | some u => exact o.nt p z xs (by rw [q, ← s.keep p u q hr]; exact e)
    · exact o'.nt p z xs e⟩
section
variable {X : Cx} {Z : Zc} {e : Expr} {es : List Expr} {k ar : Nat} {f : Addr} {fd : FuncData} {ps : List Str} {F : List Va → M Va} {gs : List (Ro → M Va)} {x : Str} {p pos : Pos}
theorem ve_call (G : FnOk X.prog X.w X.K X.mg X.base CX0 k f fd ps (spV Z ar F)) (hr : Room k X.A) (hg : Gl X x) (hm : X.mg x = some (.ref f)) (hk : PySem.W.keepIn X.K (.ref f) = true) (hb : Binds X.K fd ps []) (ha : PA X (e :: es) (tVs Z (eArgs gs))) (hl : gs.length = ar := by rfl)
    (hdb : (x == ("__debug__" : Str)) = false := by decide) (he : starEach (e :: es) X.env = (false, eval e X.env) :: starEach es X.env := by rfl) (hpl : (backTo pos (starEach es X.env)).any (·.1) = false := by rfl) :
    PE X (.Call (.Name x p) (e :: es) [] pos) (tV Z (eCall F gs)) := by
  refine pe_use (pe_call G hr hg hm hk hb .nil pass0 ha hdb he hpl) fun σ H Q ⟨w0, γ, w, n, ρ, re, o, q⟩ => ?_
  refine ⟨w0, γ, w, n, ρ, re, o, (eArgs gs ρ).mono (fun xs n1 hx vs H1 w1 s1 o1 r1 => ?_) (fun _ _ z => z) (args_len gs ρ q)⟩
  show spV Z ar F (vs ++ []) H1 Q E0
  rw [List.append_nil]
  exact ⟨by rw [r1.len, hx.1, hl], w1, n1, xs, o1, r1, (F xs).mono (post_stp s1) (fun _ _ z => z) hx.2⟩
theorem ve_callS (G : FnOk X.prog X.w X.K X.mg X.base CX0 k f fd ps (spV Z ar F)) (hr : Room k X.A) (hg : Gl X x) (hm : X.mg x = some (.ref f)) (hk : PySem.W.keepIn X.K (.ref f) = true) (hb : Binds X.K fd ps []) (ha : PA X (e :: es) (tQs Z (eArgs gs))) (hl : gs.length = ar := by rfl)
    (hdb : (x == ("__debug__" : Str)) = false := by decide) (he : starEach (e :: es) X.env = (false, eval e X.env) :: starEach es X.env := by rfl) (hpl : (backTo pos (starEach es X.env)).any (·.1) = false := by rfl) :
    PE X (.Call (.Name x p) (e :: es) [] pos) (tV Z (eCallS F gs)) := by
  refine pe_use (pe_call G hr hg hm hk hb .nil pass0 ha hdb he hpl) fun σ H Q ⟨w0, γ, w, n, ρ, re, o, q⟩ => ?_
  refine ⟨w0, γ, w, n, ρ, re, o, (eArgs gs ρ).mono (fun xs n1 hx vs H1 w1 s1 o1 r1 => ?_) (fun _ _ z => z) (args_len gs ρ q)⟩
  show spV Z ar F (vs ++ []) H1 Q E0
  rw [List.append_nil]
  have r2 := repA_only o1.ro r1
  refine ⟨by rw [r1.len, hx.1, hl], ⟨w1.reg, w1.reg, w1.cs⟩, n1, xs, ⟨fun p hp => o1.al p (o1.ro p hp), fun _ z => z, o1.dr, o1.cl, fun p hp => o1.nt p (o1.ro p hp)⟩, r2, (F xs).mono (fun y n2 hy v H' w' s2 o2 r3 => ?_) (fun _ _ z => z) hx.2⟩
  unfold kScal at hy
  split at hy
  · rename_i hs
    exact post_stp s1 _ _ hy v H' _ (stp_wide o1.ro s2) (wok_wide o1 s2 o2) (scal_rep hs r3)
  · exact hy.elim
end
end JN

set_option maxRecDepth 100000
set_option maxHeartbeats 4000000
namespace JN
open PySem PySem.Spec PyProof.Rows L2
/-! ### tests -/
@[simp] def kB : Va → M Bool
  | .da (.bool b) => .ret b
  | _ => .bad
theorem kB_run {x : Va} {Q : Bool → Nat → Prop} {E : Er → Nat → Prop} {n : Nat} (h : (kB x).run Q E n) : ∃ b, x = .da (.bool b) ∧ Q b n := by
  unfold kB at h
  split at h
  · exact ⟨_, rfl, h⟩
  · exact h.elim
def truD : PyData → Option Bool
  | .none => some false
  | .bool b => some b
  | .int i => some (i != 0)
  | .str s => if s.length ≤ sizeLine then some ((s.length : Int) != 0) else none
  | .list ds => some (!ds.isEmpty)
  | .tuple ds => some (!ds.isEmpty)
  | .dict _ => none
def kTr : Va → M Bool
  | .da d => match truD d with
    | some b => .ret b
    | none => .bad
  | _ => .bad
@[simp] def bB (f : Ro → M Va) : Ro → M Bool := fun ρ => (f ρ).bind kB
@[simp] def bTr (f : Ro → M Va) : Ro → M Bool := fun ρ => (f ρ).bind kTr
@[simp] def bNot (f : Ro → M Bool) : Ro → M Bool := fun ρ => (f ρ).bind fun b => .ret (!b)
@[simp] def bAnd (f g : Ro → M Bool) : Ro → M Bool := fun ρ => (f ρ).bind fun b => if b = true then g ρ else .ret false
@[simp] def bOr (f g : Ro → M Bool) : Ro → M Bool := fun ρ => (f ρ).bind fun b => if b = true then .ret true else g ρ
theorem emp_len {α β : Type} : ∀ {xs : List α} {ys : List β}, xs.length = ys.length → xs.isEmpty = ys.isEmpty
  | [], [], _ => rfl
  | [], _ :: _, h => by cases h
  | _ :: _, [], h => by cases h
  | _ :: _, _ :: _, _ => rfl
section
variable {X : Cx} {Z : Zc} {e a b : Expr} {f : Ro → M Va} {g h : Ro → M Bool} {pos : Pos}
theorem postB_now {w : Wd} {n : Nat} {H : Hp} {Q : Bool → Hp → Prop} {x : Bool} (h : postB Z w H Q x n) (o : WOk w n H) : Q x H := h H w (Stp.refl _ _) o
theorem vt_val (ha : PE X e (tV Z f)) (he : ∀ whole, isTrue e X.env whole = (do let v ← whole; standAt e.pos; holding [v] (truthy v)) := by intro _; rfl) : PT X e (tVB Z (bB f)) := by
  refine pt_use (pt_val ha he) fun σ H Q ⟨w0, γ, w, n, ρ, re, o, q⟩ => ?_
  refine ⟨w0, γ, w, n, ρ, re, o, (f ρ).mono (fun x n1 hx v H1 w1 s1 o1 r1 => ?_) (fun _ _ z => z) q⟩
  unfold kB at hx
  split at hx
  · cases r1
    exact ⟨_, rfl, hx H1 w1 s1 o1⟩
  · exact hx.elim
theorem vt_tr (hZ : Z.K = X.K) (ha : PE X e (tQ Z f)) (he : ∀ whole, isTrue e X.env whole = (do let v ← whole; standAt e.pos; holding [v] (truthy v)) := by intro _; rfl) : PT X e (tVB Z (bTr f)) := by
  refine pt_use (pt_truth ha he) fun σ H Q ⟨w0, γ, w, n, ρ, re, o, q⟩ => ?_
  refine ⟨w0, γ, w, n, ρ, re, o, (f ρ).mono (fun x n1 hx v H1 w1 s1 o1 r1 => ?_) (fun _ _ z => z) q⟩
  unfold kTr at hx
  split at hx
  · rename_i d
    split at hx
    · rename_i k hk
      refine ⟨k, ?_, hx H1 w1 s1 o1⟩
      have rd := r1.dq
      rw [hZ] at rd
      cases rd with
      | non => cases hk; rfl
      | bl b => cases hk; rfl
      | int i => cases hk; rfl
      | str s =>
        have hk' : (if s.length ≤ sizeLine then some ((s.length : Int) != 0) else none) = some k := hk
        by_cases hs : s.length ≤ sizeLine
        · rw [if_pos hs] at hk'
          cases hk'
          exact ⟨hs, rfl⟩
        · rw [if_neg hs] at hk'
          cases hk'
      | lst h1 h2 =>
        cases hk
        exact .inl ⟨_, h1, by rw [emp_len (dpaLen h2)]⟩
      | tup h1 h2 =>
        cases hk
        exact .inr (.inl ⟨_, .inl (.inl h1), by rw [emp_len (dpaLen h2)]⟩)
    · exact hx.elim
  · exact hx.elim
theorem vt_not (ha : PT X e (tVB Z g)) : PT X (.UnaryOp .Not e pos) (tVB Z (bNot g)) := by
  refine pt_use (pt_not ha) fun σ H Q ⟨w0, γ, w, n, ρ, re, o, q⟩ => ?_
  exact ⟨w0, γ, w, n, ρ, re, o, (g ρ).mono (fun x n1 hx H1 w1 s1 o1 => hx H1 w1 s1 o1) (fun _ _ z => z) q⟩
theorem vw_one {op} (ha : PT X e (tVB Z g)) : PW X (.BoolOp op [e] pos) (tVB Z g) := by
  cases op with
  | And => exact pw_and1 ha
  | Or => exact pw_or1 ha
theorem pw_use {t t' : TT} (h : PW X e t) (hw : ∀ σ H Q, t' σ H Q → t σ H Q) : PW X e t' := ⟨fun wh pins s σ H Q I q => h.run wh pins s σ H Q I (hw σ H Q q)⟩
theorem vw_and {rest : List Expr} (ha : PT X a (tVB Z g)) (hb : PW X (.BoolOp .And (b :: rest) pos) (tVB Z h)) : PW X (.BoolOp .And (a :: b :: rest) pos) (tVB Z (bAnd g h)) := by
  refine pw_use (pw_and ha hb) fun σ H Q ⟨w0, γ, w, n, ρ, re, o, q⟩ => ?_
  refine ⟨w0, γ, w, n, ρ, re, o, (g ρ).mono (fun x n1 hx H1 w1 s1 o1 => ?_) (fun _ _ z => z) q⟩
  cases x with
  | false => exact iteF (hx H1 w1 s1 o1)
  | true => exact iteT ⟨w0, γ, w1, n1, ρ, re.stp s1 o.ro, o1, (h ρ).mono (postB_stp s1) (posE_stp s1) hx⟩
theorem vw_or {rest : List Expr} (ha : PT X a (tVB Z g)) (hb : PW X (.BoolOp .Or (b :: rest) pos) (tVB Z h)) : PW X (.BoolOp .Or (a :: b :: rest) pos) (tVB Z (bOr g h)) := by
  refine pw_use (pw_or ha hb) fun σ H Q ⟨w0, γ, w, n, ρ, re, o, q⟩ => ?_
  refine ⟨w0, γ, w, n, ρ, re, o, (g ρ).mono (fun x n1 hx H1 w1 s1 o1 => ?_) (fun _ _ z => z) q⟩
  cases x with
  | true => exact iteT (hx H1 w1 s1 o1)
  | false => exact iteF ⟨w0, γ, w1, n1, ρ, re.stp s1 o.ro, o1, (h ρ).mono (postB_stp s1) (posE_stp s1) hx⟩
end
/-! and, or, not as values -/
@[simp] def eNot (f : Ro → M Va) : Ro → M Va := fun ρ => (f ρ).bind fun x => (kB x).bind fun b => .ret (.da (.bool (!b)))
@[simp] def eAnd (f g : Ro → M Va) : Ro → M Va := fun ρ => (f ρ).bind fun x => (kB x).bind fun b => if b = true then g ρ else .ret (.da (.bool false))
@[simp] def eOr (f g : Ro → M Va) : Ro → M Va := fun ρ => (f ρ).bind fun x => (kB x).bind fun b => if b = true then .ret (.da (.bool true)) else g ρ
@[simp] def eIf (c : Ro → M Bool) (f g : Ro → M Va) : Ro → M Va := fun ρ => (c ρ).bind fun b => if b = true then f ρ else g ρ
section
variable {X : Cx} {Z : Zc} {e a b : Expr} {f g : Ro → M Va} {c : Ro → M Bool} {pos : Pos}
theorem ve_not (ha : PE X a (tV Z f)) : PE X (.UnaryOp .Not a pos) (tV Z (eNot f)) := by
  refine pe_use (pe_not ha) fun σ H Q ⟨w0, γ, w, n, ρ, re, o, q⟩ => ?_
  refine ⟨w0, γ, w, n, ρ, re, o, (f ρ).mono (fun x n1 hx v H1 w1 s1 o1 r1 => ?_) (fun _ _ z => z) q⟩
  obtain ⟨k, rfl, hx⟩ := kB_run hx
  cases r1
  exact ⟨_, rfl, hx _ H1 w1 s1 o1 (.bl _)⟩
theorem ve_one {op} (ha : PE X a (tV Z f)) : PE X (.BoolOp op [a] pos) (tV Z f) := pe_one ha
theorem ve_and {rest : List Expr} (ha : PE X a (tV Z f)) (hb : PE X (.BoolOp .And (b :: rest) pos) (tV Z g)) : PE X (.BoolOp .And (a :: b :: rest) pos) (tV Z (eAnd f g)) := by
  refine pe_use (pe_and ha hb) fun σ H Q ⟨w0, γ, w, n, ρ, re, o, q⟩ => ?_
  refine ⟨w0, γ, w, n, ρ, re, o, (f ρ).mono (fun x n1 hx v H1 w1 s1 o1 r1 => ?_) (fun _ _ z => z) q⟩
  obtain ⟨k, rfl, hx⟩ := kB_run hx
  cases r1
  refine ⟨k, rfl, ?_⟩
  cases k with
  | false => exact iteF (hx _ H1 w1 s1 o1 (.bl _))
  | true => exact iteT ⟨w0, γ, w1, n1, ρ, re.stp s1 o.ro, o1, (g ρ).mono (post_stp s1) (posE_stp s1) hx⟩
theorem ve_or {rest : List Expr} (ha : PE X a (tV Z f)) (hb : PE X (.BoolOp .Or (b :: rest) pos) (tV Z g)) : PE X (.BoolOp .Or (a :: b :: rest) pos) (tV Z (eOr f g)) := by
  refine pe_use (pe_or ha hb) fun σ H Q ⟨w0, γ, w, n, ρ, re, o, q⟩ => ?_
  refine ⟨w0, γ, w, n, ρ, re, o, (f ρ).mono (fun x n1 hx v H1 w1 s1 o1 r1 => ?_) (fun _ _ z => z) q⟩
  obtain ⟨k, rfl, hx⟩ := kB_run hx
  cases r1
  refine ⟨k, rfl, ?_⟩
  cases k with
  | true => exact iteT (hx _ H1 w1 s1 o1 (.bl _))
  | false => exact iteF ⟨w0, γ, w1, n1, ρ, re.stp s1 o.ro, o1, (g ρ).mono (post_stp s1) (posE_stp s1) hx⟩
theorem ve_if {t : Expr} (hc : PT X t (tVB Z c)) (ha : PE X a (tV Z f)) (hb : PE X b (tV Z g)) : PE X (.IfExp t a b pos) (tV Z (eIf c f g)) := by
  refine pe_use (pe_ifExp hc ha hb) fun σ H Q ⟨w0, γ, w, n, ρ, re, o, q⟩ => ?_
  refine ⟨w0, γ, w, n, ρ, re, o, (c ρ).mono (fun x n1 hx H1 w1 s1 o1 => ?_) (fun _ _ z => z) q⟩
  cases x with
  | true => exact iteT ⟨w0, γ, w1, n1, ρ, re.stp s1 o.ro, o1, (f ρ).mono (post_stp s1) (posE_stp s1) hx⟩
  | false => exact iteF ⟨w0, γ, w1, n1, ρ, re.stp s1 o.ro, o1, (g ρ).mono (post_stp s1) (posE_stp s1) hx⟩
theorem ve_neg (ha : PE X a (tV Z f)) : PE X (.UnaryOp .USub a pos) (tV Z (e1 (fun x => match x with | .da (.int i) => .ret (.da (.int (-i))) | _ => .bad) f)) := by
  refine pe_use (pe_un un_neg ha) fun σ H Q ⟨w0, γ, w, n, ρ, re, o, q⟩ => ?_
  refine ⟨w0, γ, w, n, ρ, re, o, (f ρ).mono (fun x n1 hx v H1 w1 s1 o1 r1 => ?_) (fun _ _ z => z) q⟩
  dsimp only at hx
  split at hx
  · cases r1
    exact ⟨_, rfl, hx _ H1 w1 s1 o1 (.int _)⟩
  · exact hx.elim
/-- a < b < c and their likes, of ints -/
def eChain (p q : Int → Int → Bool) (f g h : Ro → M Va) : Ro → M Va := fun ρ => (f ρ).bind fun x => (g ρ).bind fun y => match x, y with
  | .da (.int i), .da (.int j) => if p i j = true then (h ρ).bind fun z => (match z with | .da (.int k) => .ret (.da (.bool (q j k))) | _ => .bad) else .ret (.da (.bool false))
  | _, _ => .bad
theorem ve_chain {cE : Expr} {h : Ro → M Va} {op op' : CmpOp} {p q : Int → Int → Bool} (ho : OpR X (compareOp op) (rI0 fun i j => .bl (p i j))) (ho' : OpR X (compareOp op') (rI0 fun i j => .bl (q i j))) (ha : PE X a (tV Z f)) (hb : PE X b (tV Z g)) (hc : PE X cE (tV Z h))
    (hm : lastMarks [op, op'] [b, cE] = false := by with_unfolding_all rfl) : PE X (.Compare a [op, op'] [b, cE] pos) (tV Z (eChain p q f g h)) := by
  refine pe_use (pe_chain ho ho' ha hb hc hm) fun σ H Q ⟨w0, γ, w, n, ρ, re, o, qq⟩ => ?_
  refine ⟨w0, γ, w, n, ρ, re, o, (f ρ).mono (fun x n1 hx v H1 w1 s1 o1 r1 => ?_) (fun _ _ z => z) qq⟩
  refine ⟨w0, γ, w1, n1, ρ, re.stp s1 o.ro, o1, (g ρ).mono (fun y n2 hy u H2 w2 s2 o2 r2 => ?_) (posE_stp s1) hx⟩
  dsimp only at hy
  split at hy
  · rename_i i j
    cases r1
    cases r2
    refine ⟨i, j, rfl, rfl, _, rfl, ?_⟩
    split at hy
    · rename_i hp
      rw [if_pos hp]
      refine ⟨w0, γ, w2, n2, ρ, (re.stp s1 o.ro).stp s2 o1.ro, o2, (h ρ).mono (fun z n3 hz t H3 w3 s3 o3 r3 => ?_) (posE_stp (s1.trans s2)) hy⟩
      dsimp only at hz
      split at hz
      · cases r3
        exact ⟨_, _, rfl, rfl, hz _ H3 w3 ((s1.trans s2).trans s3) o3 (.bl _)⟩
      · exact hz.elim
    · rename_i hp
      rw [if_neg hp]
      exact hy _ H2 w2 (s1.trans s2) o2 (.bl _)
  · exact hy.elim
end
/-! ### items and slices -/
def kIx : Va → Va → M Va
  | .da (.list ds), .da (.int i) => match atI ds i with
    | some d => .ret (.da d)
    | none => .bad
  | .da (.tuple ds), .da (.int i) => match atI ds i with
    | some d => .ret (.da d)
    | none => .bad
  | _, _ => .bad
theorem dpaAtI {K : PySem.W.Frag} {C : Hp} {vs : List V} {ds : List PyData} {i : Int} {d : PyData} (h : DqAll K C vs ds) (e : atI ds i = some d) : ∃ v, atI vs i = some v ∧ Dq K C v d := by
  unfold atI at e ⊢
  rw [dpaLen h]
  cases q : ixN ds.length i with
  | none => rw [q] at e; cases e
  | some j =>
    rw [q] at e
    exact dpaGet' h e
def cutD (xs : List PyData) (lo hi : Option Int) : List PyData := (xs.drop (HT.sIx xs.length 0 lo)).take (HT.sIx xs.length xs.length hi - HT.sIx xs.length 0 lo)
theorem dpaTake {K : PySem.W.Frag} {C : Hp} : ∀ {vs : List V} {ds : List PyData} (n : Nat), DqAll K C vs ds → DqAll K C (vs.take n) (ds.take n)
  | _, _, 0, _ => .nil
  | _, _, _ + 1, .nil => .nil
  | _, _, n + 1, .cons h t => .cons h (dpaTake n t)
theorem dpaDrop {K : PySem.W.Frag} {C : Hp} : ∀ {vs : List V} {ds : List PyData} (n : Nat), DqAll K C vs ds → DqAll K C (vs.drop n) (ds.drop n)
  | _, _, 0, h => h
  | _, _, _ + 1, .nil => .nil
  | _, _, n + 1, .cons h t => dpaDrop n t
theorem dpaCut {K : PySem.W.Frag} {C : Hp} {vs : List V} {ds : List PyData} {lo hi : Option Int} (h : DqAll K C vs ds) : DqAll K C (cutV vs lo hi) (cutD ds lo hi) := by
  unfold cutV cutD
  rw [dpaLen h]
  exact dpaTake _ (dpaDrop _ h)
def tO (Z : Zc) (f : Ro → M (Option Int)) : TO := fun σ H Q => ∃ w0 γ w n ρ, RE Z.K w0 γ w ρ σ H ∧ WOk w n H ∧ (f ρ).run (fun x n => ∀ H' w', Stp w H w' H' → WOk w' n H' → Q x H') (posE Z w H) n
@[simp] def oN : Ro → M (Option Int) := fun _ => .ret none
@[simp] def oS (f : Ro → M Va) : Ro → M (Option Int) := fun ρ => (f ρ).bind fun x => match x with
  | .da (.int i) => .ret (some i)
  | _ => .bad
@[simp] def eSlT (f : Ro → M Va) (l h : Ro → M (Option Int)) : Ro → M Va := fun ρ => (f ρ).bind fun x => (l ρ).bind fun lo => (h ρ).bind fun hi => match x with
  | .da (.tuple ds) => .ret (.da (.tuple (cutD ds lo hi)))
  | _ => .bad
@[simp] def eSlL (f : Ro → M Va) (l h : Ro → M (Option Int)) : Ro → M (List PyData) := fun ρ => (f ρ).bind fun x => (l ρ).bind fun lo => (h ρ).bind fun hi => match x with
  | .da (.list ds) => .ret (cutD ds lo hi)
  | _ => .bad
section
variable {X : Cx} {Z : Zc} {e a b : Expr} {f g : Ro → M Va} {lo hi : Option Expr} {l h : Ro → M (Option Int)} {pos p2 : Pos}
theorem ve_ix (hZ : Z.K = X.K) (ha : PE X a (tQ Z f)) (hb : PE X b (tV Z g)) (hs : PlainIx b := by intro _ _; rfl) : PE X (.Subscript a b pos) (tV Z (e2 kIx f g)) := by
  refine pe_use (pe_ix ix_seq ha hb hs) fun σ H Q ⟨w0, γ, w, n, ρ, re, o, q⟩ => ?_
  refine ⟨w0, γ, w, n, ρ, re, o, (f ρ).mono (fun x n1 hx v H1 w1 s1 o1 r1 => ?_) (fun _ _ z => z) q⟩
  refine ⟨w0, γ, w1, n1, ρ, re.stp s1 o.ro, o1, (g ρ).mono (fun y n2 hy u H2 w2 s2 o2 r2 => ?_) (posE_stp s1) hx⟩
  have r1 := r1.stp s2 o1.ro
  unfold kIx at hy
  dsimp only at hy
  split at hy
  · rename_i ds i _
    split at hy
    · rename_i d hd
      obtain ⟨p, vs, rfl, h1, h2⟩ := r1.list
      cases r2
      obtain ⟨v, hv, rv⟩ := dpaAtI h2 hd
      exact .inl ⟨p, vs, i, v, rfl, rfl, hZ ▸ h1, hv, hy v H2 w2 (s1.trans s2) o2 rv⟩
    · exact hy.elim
  · rename_i ds i _
    split at hy
    · rename_i d hd
      obtain ⟨p, vs, rfl, h1, h2⟩ := r1.tuple
      cases r2
      obtain ⟨v, hv, rv⟩ := dpaAtI h2 hd
      exact .inr (.inl ⟨p, vs, i, v, rfl, rfl, hZ ▸ h1, hv, hy v H2 w2 (s1.trans s2) o2 rv⟩)
    · exact hy.elim
  · exact hy.elim
theorem vo_n : PO X none (tO Z oN) := ⟨fun pins s σ H Q I ⟨w0, γ, w, n, ρ, re, o, q⟩ => po_none.run pins s σ H Q I (q H w (Stp.refl _ _) o)⟩
theorem vo_s (ha : PE X a (tV Z f)) : PO X (some a) (tO Z (oS f)) := ⟨fun pins s σ H Q I ⟨w0, γ, w, n, ρ, re, o, q⟩ => by
  refine (po_some ha).run pins s σ H Q I ⟨w0, γ, w, n, ρ, re, o, (f ρ).mono (fun x n1 hx v H1 w1 s1 o1 r1 => ?_) (fun _ _ z => z) q⟩
  dsimp only at hx
  split at hx
  · cases r1
    exact ⟨_, rfl, hx H1 w1 s1 o1⟩
  · exact hx.elim⟩
theorem ve_slT (hZ : Z.K = X.K) (ha : PE X e (tV Z f)) (hl : PO X lo (tO Z l)) (hh : PO X hi (tO Z h)) : PE X (.Subscript e (.Slice lo hi none p2) pos) (tV Z (eSlT f l h)) := by
  refine pe_use (pe_slice sl_tupA ha hl hh) fun σ H Q ⟨w0, γ, w, n, ρ, re, o, q⟩ => ?_
  refine ⟨w0, γ, w, n, ρ, re, o, (f ρ).mono (fun x n1 hx v H1 w1 s1 o1 r1 => ?_) (fun _ _ z => z) q⟩
  refine ⟨w0, γ, w1, n1, ρ, re.stp s1 o.ro, o1, (l ρ).mono (fun i n2 hy H2 w2 s2 o2 => ?_) (posE_stp s1) hx⟩
  refine ⟨w0, γ, w2, n2, ρ, (re.stp s1 o.ro).stp s2 o1.ro, o2, (h ρ).mono (fun j n3 hz H3 w3 s3 o3 => ?_) (posE_stp (s1.trans s2)) hy⟩
  have r3 := (r1.stp s2 o1.ro).stp s3 o2.ro
  have S := (s1.trans s2).trans s3
  dsimp only at hz
  split at hz
  · rename_i ds
    obtain ⟨p, vs, rfl, h1, h2⟩ := Rep.tuple r3
    refine ⟨p, vs, rfl, hZ ▸ h1, fun ⟨e1, e2⟩ => ?_, fun _ q nq => ?_⟩
    · have e3 : cutD ds i j = ds := by
        have hl := dpaLen h2
        rw [hl] at e1 e2
        unfold cutD
        rw [e1, e2]
        simp
      rw [e3] at hz
      exact hz _ H3 w3 S o3 r3
    · exact post_tup (post_stp S _ _ hz) o3 nq (dpaCut h2)
  · exact hz.elim
theorem vf_slL (hZ : Z.K = X.K) (ha : PE X e (tQ Z f)) (hl : PO X lo (tO Z l)) (hh : PO X hi (tO Z h)) : PE X (.Subscript e (.Slice lo hi none p2) pos) (tF Z (eSlL f l h)) := by
  refine pe_use (pe_slice sl_list ha hl hh) fun σ H Q ⟨w0, γ, w, n, ρ, re, o, q⟩ => ?_
  refine ⟨w0, γ, w, n, ρ, re, o, (f ρ).mono (fun x n1 hx v H1 w1 s1 o1 r1 => ?_) (fun _ _ z => z) q⟩
  refine ⟨w0, γ, w1, n1, ρ, re.stp s1 o.ro, o1, (l ρ).mono (fun i n2 hy H2 w2 s2 o2 => ?_) (posE_stp s1) hx⟩
  refine ⟨w0, γ, w2, n2, ρ, (re.stp s1 o.ro).stp s2 o1.ro, o2, (h ρ).mono (fun j n3 hz H3 w3 s3 o3 => ?_) (posE_stp (s1.trans s2)) hy⟩
  have r3 := (r1.stp s2 o1.ro).stp s3 o2.ro
  have S := (s1.trans s2).trans s3
  dsimp only at hz
  split at hz
  · rename_i ds
    obtain ⟨p, vs, rfl, h1, h2⟩ := r3.list
    refine ⟨p, vs, rfl, hZ ▸ h1, fun q nq => ?_⟩
    refine posF_new (fun p vs H' w' s o2 hp => hz p vs H' w' (S.trans s) o2 ?_) o3 nq (dpaCut h2)
    cases e : H p with
    | none => rfl
    | some u => exact absurd hp (S.al p (by rw [e]; simp))
  · exact hz.elim
end
end JN

set_option maxRecDepth 100000
set_option maxHeartbeats 4000000
namespace JN
open PySem PySem.Spec PyProof.Rows L2
/-! ### targets -/
/-- a target stores what it is handed: only the slots is -/
def GS (Z : Zc) (g : TG) (ft : Va → Ro → M Ro) (is : List Nat) : Prop :=
  ∀ (w0 : Wd) (γ : List (V × Va)) (w : Wd) (n : Nat) (ρ : Ro) (σ : L2.St) (H : Hp) (v : V) (x : Va) (Q : L2.St → Hp → Prop) (E : Er → Nat → Prop), RE Z.K w0 γ w ρ σ H → WOk w n H → Rep Z.K (core H w) w.reg v x →
    (ft x ρ).run (fun ρ' n' => n' = n → ∀ σ', RE Z.K w0 γ w ρ' σ' H → (∀ vs, (∀ i ∈ is, i ∈ vs) → wipe σ' vs = wipe σ vs) → Q σ' H) E n → g v σ H Q
@[simp] def fName (i : Nat) : Va → Ro → M Ro := fun x ρ => .ret (ρ.set i (.va x))
theorem wipe_len {σ : L2.St} {vs : List Nat} : (wipe σ vs).length = σ.length := wipe_length σ vs
theorem wipe_at {σ : L2.St} {i : Nat} : ∀ {vs : List Nat}, i ∈ vs → i < σ.length → (wipe σ vs)[i]? = some none
  | v :: vs, h, hi => by
    unfold wipe
    by_cases e : v = i
    · subst e
      rw [List.getElem?_set_self (by rw [wipe_length]; exact hi)]
    · rw [List.getElem?_set_ne e]
      exact wipe_at ((List.mem_cons.mp h).resolve_left fun z => e z.symm) hi
theorem wipe_set {σ : L2.St} {i : Nat} {o : Option V} {vs : List Nat} (h : i ∈ vs) : wipe (σ.set i o) vs = wipe σ vs := by
  apply List.ext_getElem?
  intro j
  by_cases hj : j ∈ vs
  · by_cases hl : j < σ.length
    · rw [wipe_at hj (by rw [List.length_set]; exact hl), wipe_at hj hl]
    · rw [List.getElem?_eq_none (by rw [wipe_length, List.length_set]; omega), List.getElem?_eq_none (by rw [wipe_length]; omega)]
  · rw [wipe_out hj, wipe_out hj, List.getElem?_set_ne fun e => hj (by rw [← e]; exact h)]
/-- a slot is stored -/
theorem RE.set {K : PySem.W.Frag} {w0 w : Wd} {γ : List (V × Va)} {ρ : Ro} {σ : L2.St} {H : Hp} {i : Nat} {v : V} {x : Va} (re : RE K w0 γ w ρ σ H) (r : Rep K (core H w) w.reg v x) : RE K w0 γ w (ρ.set i (.va x)) (σ.set i (some v)) H := by
  have key : ∀ (j : Nat) xs, (ρ.set i (.va x))[j]? = some (Sl.ow xs) → j ≠ i ∧ ρ[j]? = some (Sl.ow xs) := fun j xs e => by
    by_cases hj : i = j
    · subst hj
      by_cases hl : i < ρ.length
      · rw [List.getElem?_set_self hl] at e; cases e
      · rw [List.getElem?_eq_none (by rw [List.length_set]; omega)] at e; cases e
    · rw [List.getElem?_set_ne hj] at e
      exact ⟨fun z => hj z.symm, e⟩
  refine ⟨fun j s e => ?_, fun j k xs ys p h1 h2 h3 h4 => ?_, re.gh⟩
  · by_cases hj : i = j
    · subst hj
      have hl : i < ρ.length := by
        have := (List.getElem?_eq_some_iff.mp e).1
        rwa [List.length_set] at this
      rw [List.getElem?_set_self hl] at e
      cases e
      obtain ⟨o, ho, _⟩ := re.sl i ρ[i] (by simp [hl])
      have hs : i < σ.length := (List.getElem?_eq_some_iff.mp ho).1
      exact ⟨_, List.getElem?_set_self hs, v, rfl, r⟩
    · rw [List.getElem?_set_ne hj] at e
      obtain ⟨o, ho, h⟩ := re.sl j s e
      exact ⟨o, by rw [List.getElem?_set_ne hj]; exact ho, h⟩
  · obtain ⟨n1, e1⟩ := key j xs h1
    obtain ⟨n2, e2⟩ := key k ys h2
    rw [List.getElem?_set_ne fun z => n1 z.symm] at h3
    rw [List.getElem?_set_ne fun z => n2 z.symm] at h4
    exact re.un j k xs ys p e1 e2 h3 h4
theorem gs_name {Z : Zc} {i : Nat} : GS Z (gName i) (fName i) [i] := fun w0 γ w n ρ σ H v x Q E re o r h =>
  h rfl (σ.set i (some v)) (re.set r) fun vs hv => wipe_set (hv i List.mem_cons_self)
/-- several targets -/
def GSs (Z : Zc) (g : TGs) (ft : List PyData → Ro → M Ro) (is : List Nat) : Prop :=
  ∀ (w0 : Wd) (γ : List (V × Va)) (w : Wd) (n : Nat) (ρ : Ro) (σ : L2.St) (H : Hp) (vs : List V) (ds : List PyData) (Q : L2.St → Hp → Prop) (E : Er → Nat → Prop), RE Z.K w0 γ w ρ σ H → WOk w n H → DqAll Z.K (core H w) vs ds →
    (ft ds ρ).run (fun ρ' n' => n' = n → ∀ σ', RE Z.K w0 γ w ρ' σ' H → (∀ vs, (∀ i ∈ is, i ∈ vs) → wipe σ' vs = wipe σ vs) → Q σ' H) E n → g vs σ H Q
@[simp] def fNil : List PyData → Ro → M Ro
  | [], ρ => .ret ρ
  | _, _ => .bad
@[simp] def fCons (f : Va → Ro → M Ro) (g : List PyData → Ro → M Ro) : List PyData → Ro → M Ro
  | d :: ds, ρ => (f (.da d) ρ).bind fun ρ' => g ds ρ'
  | _, _ => .bad
@[simp] def fTup (k : Nat) (g : List PyData → Ro → M Ro) : Va → Ro → M Ro
  | .da (.tuple ds), ρ => if ds.length = k then g ds ρ else .bad
  | _, _ => .bad
theorem gs_nil {Z : Zc} : GSs Z gNil fNil [] := fun w0 γ w n ρ σ H vs ds Q E re o r h => by
  cases r with
  | nil => exact ⟨rfl, h rfl σ re fun _ _ => rfl⟩
  | cons _ _ => exact h.elim
theorem gs_cons {Z : Zc} {g : TG} {gg : TGs} {f : Va → Ro → M Ro} {ff : List PyData → Ro → M Ro} {is js : List Nat} (h1 : GS Z g f is) (h2 : GSs Z gg ff js) (hn : ∀ x ρ {Q : Ro → Nat → Prop} {E : Er → Nat → Prop} {n : Nat}, (f x ρ).run Q E n → (f x ρ).run (fun r k => k = n ∧ Q r k) E n) : GSs Z (gCons g gg) (fCons f ff) (is ++ js) := fun w0 γ w n ρ σ H vs ds Q E re o r h => by
  cases r with
  | nil => exact h.elim
  | cons rd rs =>
    refine ⟨_, _, rfl, h1 w0 γ w n ρ σ H _ (.da _) _ E re o rd ((f _ ρ).mono (fun ρ' k hk e σ' re' hw => ?_) (fun _ _ z => z) (hn _ ρ h))⟩
    obtain ⟨rfl, hk⟩ := hk
    refine h2 w0 γ w _ ρ' σ' H _ _ _ E re' o rs ((ff _ ρ').mono (fun ρ2 k2 hk2 e2 σ2 re2 hw2 => ?_) (fun _ _ z => z) hk)
    exact hk2 e2 σ2 re2 fun us hu => (hw2 us fun i hi => hu i (List.mem_append_right _ hi)).trans (hw us fun i hi => hu i (List.mem_append_left _ hi))
theorem fn_name {i : Nat} : ∀ x ρ {Q : Ro → Nat → Prop} {E : Er → Nat → Prop} {n : Nat}, (fName i x ρ).run Q E n → (fName i x ρ).run (fun r k => k = n ∧ Q r k) E n := fun x ρ Q E n h => ⟨rfl, h⟩
theorem gs_tup {Z : Zc} {gg : TGs} {ff : List PyData → Ro → M Ro} {is : List Nat} {k : Nat} (h : GSs Z gg ff is) : GS Z (gTup Z.K k gg) (fTup k ff) is := fun w0 γ w n ρ σ H v x Q E re o r q => by
  unfold fTup at q
  split at q
  · split at q
    · rename_i ds hl
      obtain ⟨p, vs, rfl, t1, t2⟩ := Rep.tuple r
      exact ⟨p, vs, rfl, t1, (dpaLen t2).trans hl, h w0 γ w n ρ σ H vs _ Q E re o t2 q⟩
    · exact q.elim
  · exact q.elim
theorem fns_nil : ∀ x ρ {Q : Ro → Nat → Prop} {E : Er → Nat → Prop} {n : Nat}, (fNil x ρ).run Q E n → (fNil x ρ).run (fun r k => k = n ∧ Q r k) E n := fun x ρ Q E n h => by
  cases x with
  | nil => exact ⟨rfl, h⟩
  | cons _ _ => exact h.elim
theorem fns_cons {f : Va → Ro → M Ro} {ff : List PyData → Ro → M Ro} (h1 : ∀ x ρ {Q : Ro → Nat → Prop} {E : Er → Nat → Prop} {n : Nat}, (f x ρ).run Q E n → (f x ρ).run (fun r k => k = n ∧ Q r k) E n)
    (h2 : ∀ x ρ {Q : Ro → Nat → Prop} {E : Er → Nat → Prop} {n : Nat}, (ff x ρ).run Q E n → (ff x ρ).run (fun r k => k = n ∧ Q r k) E n) : ∀ x ρ {Q : Ro → Nat → Prop} {E : Er → Nat → Prop} {n : Nat}, (fCons f ff x ρ).run Q E n → (fCons f ff x ρ).run (fun r k => k = n ∧ Q r k) E n := fun x ρ Q E n h => by
  cases x with
  | nil => exact h.elim
  | cons d ds => exact (f (.da d) ρ).mono (fun ρ' k hk => (ff ds ρ').mono (fun r k2 hk2 => ⟨hk2.1.trans hk.1, hk2.2⟩) (fun _ _ z => z) (h2 ds ρ' hk.2)) (fun _ _ z => z) (h1 (.da d) ρ h)
theorem fn_tup {k : Nat} {ff : List PyData → Ro → M Ro} (h2 : ∀ x ρ {Q : Ro → Nat → Prop} {E : Er → Nat → Prop} {n : Nat}, (ff x ρ).run Q E n → (ff x ρ).run (fun r k => k = n ∧ Q r k) E n) : ∀ x ρ {Q : Ro → Nat → Prop} {E : Er → Nat → Prop} {n : Nat}, (fTup k ff x ρ).run Q E n → (fTup k ff x ρ).run (fun r k => k = n ∧ Q r k) E n := fun x ρ Q E n h => by
  unfold fTup at h ⊢
  split at h
  · split at h
    · rename_i hl
      rw [if_pos hl]
      exact h2 _ ρ h
    · exact h.elim
  · exact h.elim
/-! ### what is walked -/
/-- J gives the things xs, while the things γ stand -/
def WalkV (Z : Zc) (J : It) (xs : List Va) (γ : List (V × Va)) : Prop := ∀ (w : Wd) (n : Nat) (H : Hp), WOk w n H → (∀ q ∈ γ, Rep Z.K (core H w) w.reg q.1 q.2) →
  (∀ i, i < xs.length → J.go i H) ∧ J.stop xs.length H ∧ ∀ i v H', i < xs.length → J.yld i H v H' → Same H H' ∧ ∃ x, xs[i]? = some x ∧ Rep Z.K (core H' w) w.reg v x
def posI (Z : Zc) (w : Wd) (H : Hp) (R : It → Hp → Prop) : List Va → Nat → Prop := fun xs n => ∀ J γ H' w', Stp w H w' H' → WOk w' n H' → (∀ q ∈ γ, Rep Z.K (core H' w') w'.reg q.1 q.2) → WalkV Z J xs γ → R J H'
def tI (Z : Zc) (f : Ro → M (List Va)) : TI := fun σ H R => ∃ w0 γ w n ρ, RE Z.K w0 γ w ρ σ H ∧ WOk w n H ∧ (f ρ).run (posI Z w H R) (posE Z w H) n
/-! the same within an expression: a list that a name alone has may be walked too -/
def OwnL (K : PySem.W.Frag) (H : Hp) (w : Wd) (v : V) (x : Va) : Prop := ∃ p vs ds, v = .ref p ∧ x = .da (.list ds) ∧ H p = some (.lst vs) ∧ p ∉ w.reg ∧ DqAll K (core H w) vs ds
def RootR (K : PySem.W.Frag) (H : Hp) (w : Wd) (q : Bool × V × Va) : Prop := if q.1 = true then Rep K (core H w) w.reg q.2.1 q.2.2 else OwnL K H w q.2.1 q.2.2
theorem RootR.q {K : PySem.W.Frag} {w : Wd} {H : Hp} {q : Bool × V × Va} (h : RootR K H w q) : RepQ K H w q.2.1 q.2.2 := by
  unfold RootR at h
  split at h
  · exact .inl h
  · exact .inr h
theorem RootR.stp {K : PySem.W.Frag} {w w' : Wd} {H H' : Hp} {q : Bool × V × Va} (h : RootR K H w q) (s : Stp w H w' H') (ro : ∀ a ∈ w.reg, a ∈ w.os) : RootR K H' w' q := by
  unfold RootR at h ⊢
  split at h
  · rename_i c
    rw [if_pos c]
    exact h.stp s ro
  · rename_i c
    rw [if_neg c]
    obtain ⟨p, vs, ds, e, ex, h1, h2, h3⟩ := h
    refine ⟨p, vs, ds, e, ex, s.keep _ _ h1 h2, fun z => ?_, dpa_same (s.core ro) _ h3⟩
    rcases s.rgN p z with y | y
    · exact h2 y
    · rw [h1] at y; cases y
theorem RootR.ne {K : PySem.W.Frag} {w : Wd} {H : Hp} {q : Bool × V × Va} {D : Addr} (h : RootR K H w q) (nD : H D = none) : q.1 = true ∨ q.2.1 ≠ .ref D := by
  unfold RootR at h
  split at h
  · rename_i c
    exact .inl c
  · obtain ⟨p, vs, ds, e, ex, h1, h2, h3⟩ := h
    refine .inr fun z => ?_
    rw [e] at z
    cases z
    rw [nD] at h1
    cases h1
theorem RootR.put {K : PySem.W.Frag} {w : Wd} {H : Hp} {q : Bool × V × Va} {D : Addr} {o : HO} (h : RootR K H w q) (hd : D ∈ w.os) (ne : q.1 = true ∨ q.2.1 ≠ .ref D) : RootR K (upd H D o) w q := by
  have ec : core (upd H D o) w = core H w := dels_upd hd
  unfold RootR OwnL at h ⊢
  rw [ec]
  split at h
  · rename_i c
    rw [if_pos c]
    exact h
  · rename_i c
    rw [if_neg c]
    obtain ⟨p, vs, ds, e, ex, h1, h2, h3⟩ := h
    refine ⟨p, vs, ds, e, ex, ?_, h2, h3⟩
    rw [upd_ne (fun z => (ne.resolve_left c) (by rw [e, z]))]
    exact h1
def WalkQ (Z : Zc) (J : It) (xs : List Va) (γ : List (Bool × V × Va)) : Prop := ∀ (w : Wd) (n : Nat) (H : Hp), WOk w n H → (∀ q ∈ γ, RootR Z.K H w q) →
  (∀ i, i < xs.length → J.go i H) ∧ J.stop xs.length H ∧ ∀ i v H', i < xs.length → J.yld i H v H' → Same H H' ∧ ∃ x, xs[i]? = some x ∧ Rep Z.K (core H' w) w.reg v x
def posIQ (Z : Zc) (w : Wd) (H : Hp) (R : It → Hp → Prop) : List Va → Nat → Prop := fun xs n => ∀ J γ H' w', Stp w H w' H' → WOk w' n H' → (∀ q ∈ γ, RootR Z.K H' w' q) → WalkQ Z J xs γ → R J H'
def tIQ (Z : Zc) (f : Ro → M (List Va)) : TI := fun σ H R => ∃ w0 γ w n ρ, RE Z.K w0 γ w ρ σ H ∧ WOk w n H ∧ (f ρ).run (posIQ Z w H R) (posE Z w H) n
theorem vi_q {X : Cx} {Z : Zc} {tg e : Expr} {f : Ro → M (List Va)} (h : PI X tg e (tI Z f)) : PI X tg e (tIQ Z f) := pi_use h fun σ H R ⟨w0, γ, w, n, ρ, re, o, q⟩ => ⟨w0, γ, w, n, ρ, re, o, (f ρ).mono (fun xs n1 hx J γ' H1 w1 s1 o1 hγ hW => by
  refine hx J (γ'.map fun q => (true, q)) H1 w1 s1 o1 (fun q hq => ?_) fun w2 n2 H2 o2 hg => hW w2 n2 H2 o2 fun q hq => ?_
  · obtain ⟨r, hr, rfl⟩ := List.mem_map.mp hq
    unfold RootR
    rw [if_pos rfl]
    exact hγ r hr
  · have := hg (true, q) (List.mem_map.mpr ⟨q, hq, rfl⟩)
    unfold RootR at this
    rwa [if_pos rfl] at this) (fun _ _ z => z) q⟩
@[simp] def kItL : Va → M (List Va)
  | .da (.list ds) => .ret (ds.map .da)
  | _ => .bad
@[simp] def kItT : Va → M (List Va)
  | .da (.tuple ds) => .ret (ds.map .da)
  | _ => .bad
@[simp] def iL (f : Ro → M Va) : Ro → M (List Va) := fun ρ => (f ρ).bind kItL
@[simp] def iT (f : Ro → M Va) : Ro → M (List Va) := fun ρ => (f ρ).bind kItT
theorem Rep.list {K : PySem.W.Frag} {H : Hp} {w : Wd} {r : List Addr} {v : V} {ds : List PyData} (h : Rep K (core H w) r v (.da (.list ds))) : ∃ p vs, v = .ref p ∧ SqL K H p vs ∧ DqAll K (core H w) vs ds := by
  cases h with
  | lst h1 h2 => exact ⟨_, _, rfl, (dels_same H w.os).seq h1, h2⟩
theorem map_at {ds : List PyData} {i : Nat} {d : PyData} (h : ds[i]? = some d) : (ds.map Va.da)[i]? = some (.da d) := by rw [List.getElem?_map, h]; rfl
section
variable {X : Cx} {Z : Zc} {e : Expr} {tg : Expr} {f : Ro → M Va}
theorem vi_list (hZ : Z.K = X.K) (ha : PE X e (tV Z f)) (hpi : ∀ t, PE X e t → PI X tg e (iList X.K t) := by exact fun t h => pi_list h) : PI X tg e (tI Z (iL f)) := by
  refine pi_use (hpi _ ha) fun σ H R ⟨w0, γ, w, n, ρ, re, o, q⟩ => ?_
  refine ⟨w0, γ, w, n, ρ, re, o, (f ρ).mono (fun x n1 hx v H1 w1 s1 o1 r1 => ?_) (fun _ _ z => z) q⟩
  unfold kItL at hx
  split at hx
  · rename_i ds
    obtain ⟨p, vs, rfl, h1, h2⟩ := Rep.list r1
    refine ⟨p, rfl, ⟨vs, hZ ▸ h1⟩, hx (Itl X.K p) [(.ref p, .da (.list ds))] H1 w1 s1 o1 (fun q hq => by rw [List.mem_singleton.mp hq]; exact r1) fun w2 n2 H2 o2 hg => ?_⟩
    obtain ⟨p', us, e, k1, k2⟩ := Rep.list (hg _ List.mem_cons_self)
    cases e
    rw [List.length_map]
    have hl := dpaLen k2
    refine ⟨fun i hi => ⟨us, us[i]'(by omega), hZ ▸ k1, by simp [hl, hi]⟩, ⟨us, hZ ▸ k1, by omega⟩, fun i v H' hi y => ?_⟩
    obtain ⟨rfl, y⟩ := y
    obtain ⟨d, e1, e2⟩ := dpaGet k2 (y us (hZ ▸ k1))
    exact ⟨Same.refl _, _, map_at e1, e2⟩
  · exact hx.elim
theorem vi_tup (hZ : Z.K = X.K) (ha : PE X e (tV Z f)) (hpi : ∀ t, PE X e t → PI X tg e (iTup X.K t) := by exact fun t h => pi_tup h) : PI X tg e (tI Z (iT f)) := by
  refine pi_use (hpi _ ha) fun σ H R ⟨w0, γ, w, n, ρ, re, o, q⟩ => ?_
  refine ⟨w0, γ, w, n, ρ, re, o, (f ρ).mono (fun x n1 hx v H1 w1 s1 o1 r1 => ?_) (fun _ _ z => z) q⟩
  unfold kItT at hx
  split at hx
  · rename_i ds
    obtain ⟨p, vs, rfl, h1, h2⟩ := Rep.tuple r1
    refine ⟨p, rfl, ⟨vs, hZ ▸ h1⟩, hx (Itt X.K p) [(.ref p, .da (.tuple ds))] H1 w1 s1 o1 (fun q hq => by rw [List.mem_singleton.mp hq]; exact r1) fun w2 n2 H2 o2 hg => ?_⟩
    obtain ⟨p', us, e, k1, k2⟩ := Rep.tuple (hg _ List.mem_cons_self)
    cases e
    rw [List.length_map]
    have hl := dpaLen k2
    refine ⟨fun i hi => ⟨us, us[i]'(by omega), hZ ▸ k1, by simp [hl, hi]⟩, ⟨us, hZ ▸ k1, by omega⟩, fun i v H' hi y => ?_⟩
    obtain ⟨rfl, y⟩ := y
    obtain ⟨d, e1, e2⟩ := dpaGet k2 (y us (hZ ▸ k1))
    exact ⟨Same.refl _, _, map_at e1, e2⟩
  · exact hx.elim
end
section
variable {X : Cx} {Z : Zc} {e : Expr} {tg : Expr} {f : Ro → M Va}
theorem vi_listQ (hZ : Z.K = X.K) (ha : PE X e (tQ Z f)) (hpi : ∀ t, PE X e t → PI X tg e (iList X.K t) := by exact fun t h => pi_list h) : PI X tg e (tIQ Z (iL f)) := by
  refine pi_use (hpi _ ha) fun σ H R ⟨w0, γ, w, n, ρ, re, o, q⟩ => ?_
  refine ⟨w0, γ, w, n, ρ, re, o, (f ρ).mono (fun x n1 hx v H1 w1 s1 o1 r1 => ?_) (fun _ _ z => z) q⟩
  unfold kItL at hx
  split at hx
  · rename_i ds
    have hroot : ∃ b, RootR Z.K H1 w1 (b, v, .da (.list ds)) := by
      rcases r1 with r1 | r1
      · exact ⟨true, by unfold RootR; rw [if_pos rfl]; exact r1⟩
      · exact ⟨false, by unfold RootR; rw [if_neg (by simp)]; exact r1⟩
    obtain ⟨b, hroot⟩ := hroot
    obtain ⟨p, vs, rfl, h1, h2⟩ := r1.list
    refine ⟨p, rfl, ⟨vs, hZ ▸ h1⟩, hx (Itl X.K p) [(b, .ref p, .da (.list ds))] H1 w1 s1 o1 (fun q hq => by rw [List.mem_singleton.mp hq]; exact hroot) fun w2 n2 H2 o2 hg => ?_⟩
    obtain ⟨p', us, e, k1, k2⟩ := (hg _ List.mem_cons_self).q.list
    cases e
    rw [List.length_map]
    have hl := dpaLen k2
    refine ⟨fun i hi => ⟨us, us[i]'(by omega), hZ ▸ k1, by simp [hl, hi]⟩, ⟨us, hZ ▸ k1, by omega⟩, fun i v H' hi y => ?_⟩
    obtain ⟨rfl, y⟩ := y
    obtain ⟨d, e1, e2⟩ := dpaGet k2 (y us (hZ ▸ k1))
    exact ⟨Same.refl _, _, map_at e1, e2⟩
  · exact hx.elim
end
/-! ranges -/
def rng (lo : Int) (n : Nat) : List Va := (List.range n).map fun i => .da (.int (lo + (i : Nat)))
@[simp] def iR1 (f : Ro → M Va) : Ro → M (List Va) := fun ρ => (f ρ).bind fun x => match x with
  | .da (.int j) => (M.req (-(2 ^ 62) ≤ j ∧ j < 2 ^ 62)).bind fun _ => .ret (rng 0 j.toNat)
  | _ => .bad
@[simp] def iR2 (f g : Ro → M Va) : Ro → M (List Va) := fun ρ => (f ρ).bind fun x => (g ρ).bind fun y => match x, y with
  | .da (.int i), .da (.int j) => (M.req (-(2 ^ 62) ≤ i ∧ i < 2 ^ 62 ∧ -(2 ^ 62) ≤ j ∧ j < 2 ^ 62)).bind fun _ => .ret (rng i (j - i).toNat)
  | _, _ => .bad
theorem walkV_rng {Z : Zc} {lo : Int} {n : Nat} : WalkV Z (Itr lo n) (rng lo n) [] := fun w k H o _ => by
  unfold rng
  rw [List.length_map, List.length_range]
  refine ⟨fun i hi => hi, Nat.le_refl _, fun i v H' hi y => ?_⟩
  obtain ⟨rfl, rfl⟩ := y
  exact ⟨Same.refl _, .da (.int (lo + (i : Nat))), by simp [hi], .int _⟩
section
variable {X : Cx} {Z : Zc} {a b tg : Expr} {f g : Ro → M Va} {p pos : Pos}
theorem vi_r1 (hg : Gl X "range") (hm : X.mg "range" = none) (ha : PE X a (tV Z f)) (hs : starEach [a] X.env = [(false, eval a X.env)] := by rfl) (hs1 : starEach [a] X.env = (false, eval a X.env) :: starEach [] X.env := by rfl) : PI X tg (.Call (.Name "range" p) [a] [] pos) (tI Z (iR1 f)) := by
  refine pi_use (pi_range1 hg hm (pa_cons ha pa_nil hs1) hs) fun σ H R ⟨w0, γ, w, n, ρ, re, o, q⟩ => ?_
  refine ⟨w0, γ, w, n, ρ, re, o, (f ρ).mono (fun x n1 hx v H1 w1 s1 o1 r1 => ?_) (fun _ _ z => z) q⟩
  dsimp only at hx
  split at hx
  · cases r1
    obtain ⟨⟨h1, h2⟩, hx⟩ := hx
    exact ⟨_, rfl, h1, h2, hx _ [] H1 w1 s1 o1 (fun q hq => nomatch hq) walkV_rng⟩
  · exact hx.elim
theorem vi_r2 (hg : Gl X "range") (hm : X.mg "range" = none) (ha : PE X a (tV Z f)) (hb : PE X b (tV Z g)) (hs : starEach [a, b] X.env = [(false, eval a X.env), (false, eval b X.env)] := by rfl) (hs2 : starEach [b] X.env = [(false, eval b X.env)] := by rfl) (hs3 : starEach [b] X.env = (false, eval b X.env) :: starEach [] X.env := by rfl) : PI X tg (.Call (.Name "range" p) [a, b] [] pos) (tI Z (iR2 f g)) := by
  refine pi_use (pi_range2 hg hm (pa_cons ha (pa_cons hb pa_nil hs3) (by rw [hs, hs2])) hs hs2) fun σ H R ⟨w0, γ, w, n, ρ, re, o, q⟩ => ?_
  refine ⟨w0, γ, w, n, ρ, re, o, (f ρ).mono (fun x n1 hx v H1 w1 s1 o1 r1 => ?_) (fun _ _ z => z) q⟩
  refine ⟨w0, γ, w1, n1, ρ, re.stp s1 o.ro, o1, (g ρ).mono (fun y n2 hy u H2 w2 s2 o2 r2 => ?_) (posE_stp s1) hx⟩
  dsimp only at hy
  split at hy
  · cases r1
    cases r2
    obtain ⟨h1, hy⟩ := hy
    exact ⟨_, _, rfl, h1, hy _ [] H2 w2 (s1.trans s2) o2 (fun q hq => nomatch hq) walkV_rng⟩
  · exact hy.elim
end
/-! enumerate, zip -/
def pairs (xs ys : List PyData) : List Va := (xs.zip ys).map fun p => .da (.tuple [p.1, p.2])
def enums (ds : List PyData) : List Va := (ds.zipIdx).map fun p => .da (.tuple [.int (p.2 : Nat), p.1])
@[simp] def iEn (f : Ro → M Va) : Ro → M (List Va) := fun ρ => (f ρ).bind fun x => match x with
  | .da (.list ds) => .ret (enums ds)
  | _ => .bad
@[simp] def iEnT (f : Ro → M Va) : Ro → M (List Va) := fun ρ => (f ρ).bind fun x => match x with
  | .da (.tuple ds) => .ret (enums ds)
  | _ => .bad
@[simp] def iZp (f g : Ro → M Va) : Ro → M (List Va) := fun ρ => (f ρ).bind fun x => (g ρ).bind fun y => match x, y with
  | .da (.list xs), .da (.list ys) => .ret (pairs xs ys)
  | .da (.tuple xs), .da (.tuple ys) => .ret (pairs xs ys)
  | _, _ => .bad
theorem pair_new {Z : Zc} {w : Wd} {n : Nat} {H : Hp} {T : Addr} {u v : V} {c d : PyData} (o : WOk w n H) (nT : H T = none) (hu : Dq Z.K (core H w) u c) (hv : Dq Z.K (core H w) v d) : Dq Z.K (core (upd H T (.tup [u, v])) w) (.ref T) (.tuple [c, d]) := by
  have s : Same (core H w) (core (upd H T (.tup [u, v])) w) := (Stp.of (w := w) (same_new nT)).core o.ro
  exact .tup (core_new o nT) (.cons (dp_same s _ hu) (.cons (dp_same s _ hv) .nil))
theorem enums_len {ds : List PyData} : (enums ds).length = ds.length := by unfold enums; rw [List.length_map, List.length_zipIdx]
theorem enums_at {ds : List PyData} {i : Nat} {d : PyData} (h : ds[i]? = some d) : (enums ds)[i]? = some (.da (.tuple [.int (i : Nat), d])) := by
  unfold enums
  rw [List.getElem?_map, List.getElem?_zipIdx, h]
  simp
theorem pairs_len {xs ys : List PyData} : (pairs xs ys).length = min xs.length ys.length := by unfold pairs; rw [List.length_map, List.length_zip]
theorem pairs_at {xs ys : List PyData} {i : Nat} {c d : PyData} (h : xs[i]? = some c) (h' : ys[i]? = some d) : (pairs xs ys)[i]? = some (.da (.tuple [c, d])) := by
  unfold pairs
  rw [List.getElem?_map, List.getElem?_zip_eq_some.mpr (show xs[i]? = some (c, d).1 ∧ ys[i]? = some (c, d).2 from ⟨h, h'⟩)]
  rfl
section
variable {X : Cx} {Z : Zc} {e e2 : Expr} {f g : Ro → M Va} {p pos tpos : Pos} {elts : List Expr} {kk : Nat}
theorem vi_en (hZ : Z.K = X.K) (hg : Gl X "enumerate") (hm : X.mg "enumerate" = none) (ha : PE X e (tV Z f)) (hs : starEach [e] X.env = [(false, eval e X.env)] := by rfl) (hs1 : starEach [e] X.env = (false, eval e X.env) :: starEach [] X.env := by rfl) : PI X (.Tuple elts kk tpos) (.Call (.Name "enumerate" p) [e] [] pos) (tI Z (iEn f)) := by
  refine pi_use (pi_enum hg hm (pa_cons ha pa_nil hs1) hs) fun σ H R ⟨w0, γ, w, n, ρ, re, o, q⟩ => ?_
  refine ⟨w0, γ, w, n, ρ, re, o, (f ρ).mono (fun x n1 hx v H1 w1 s1 o1 r1 => ?_) (fun _ _ z => z) q⟩
  dsimp only at hx
  split at hx
  · rename_i ds
    obtain ⟨p, vs, rfl, h1, h2⟩ := Rep.list r1
    refine ⟨p, vs, rfl, hZ ▸ h1, hx (Ite X.K p) [(.ref p, .da (.list ds))] H1 w1 s1 o1 (fun q hq => by rw [List.mem_singleton.mp hq]; exact r1) fun w2 n2 H2 o2 hg => ?_⟩
    obtain ⟨p', us, e, k1, k2⟩ := Rep.list (hg _ List.mem_cons_self)
    cases e
    rw [enums_len]
    have hl := dpaLen k2
    refine ⟨fun i hi => ⟨us, us[i]'(by omega), hZ ▸ k1, by simp [hl, hi]⟩, ⟨us, hZ ▸ k1, by omega⟩, fun i v H' hi y => ?_⟩
    obtain ⟨T, x, rfl, nT, rfl, y⟩ := y
    obtain ⟨d, e1, e2⟩ := dpaGet k2 (y us (hZ ▸ k1))
    exact ⟨same_new nT, _, enums_at e1, pair_new o2 nT (.int _) e2⟩
  · exact hx.elim
theorem vi_enT (hZ : Z.K = X.K) (hg : Gl X "enumerate") (hm : X.mg "enumerate" = none) (ha : PE X e (tV Z f)) (hs : starEach [e] X.env = [(false, eval e X.env)] := by rfl) (hs1 : starEach [e] X.env = (false, eval e X.env) :: starEach [] X.env := by rfl) : PI X (.Tuple elts kk tpos) (.Call (.Name "enumerate" p) [e] [] pos) (tI Z (iEnT f)) := by
  refine pi_use (pi_enumT hg hm (pa_cons ha pa_nil hs1) hs) fun σ H R ⟨w0, γ, w, n, ρ, re, o, q⟩ => ?_
  refine ⟨w0, γ, w, n, ρ, re, o, (f ρ).mono (fun x n1 hx v H1 w1 s1 o1 r1 => ?_) (fun _ _ z => z) q⟩
  dsimp only at hx
  split at hx
  · rename_i ds
    obtain ⟨p, vs, rfl, h1, h2⟩ := Rep.tuple r1
    refine ⟨p, vs, rfl, hZ ▸ h1, hx (IteT X.K p) [(.ref p, .da (.tuple ds))] H1 w1 s1 o1 (fun q hq => by rw [List.mem_singleton.mp hq]; exact r1) fun w2 n2 H2 o2 hg => ?_⟩
    obtain ⟨p', us, e, k1, k2⟩ := Rep.tuple (hg _ List.mem_cons_self)
    cases e
    rw [enums_len]
    have hl := dpaLen k2
    refine ⟨fun i hi => ⟨us, us[i]'(by omega), hZ ▸ k1, by simp [hl, hi]⟩, ⟨us, hZ ▸ k1, by omega⟩, fun i v H' hi y => ?_⟩
    obtain ⟨T, x, rfl, nT, rfl, y⟩ := y
    obtain ⟨d, e1, e2⟩ := dpaGet k2 (y us (hZ ▸ k1))
    exact ⟨same_new nT, _, enums_at e1, pair_new o2 nT (.int _) e2⟩
  · exact hx.elim
theorem vi_zip (hZ : Z.K = X.K) (hg : Gl X "zip") (hm : X.mg "zip" = none) (ha : PE X e (tV Z f)) (hb : PE X e2 (tV Z g))
    (hs : starEach [e, e2] X.env = (false, eval e X.env) :: starEach [e2] X.env := by rfl) (hs2 : starEach [e2] X.env = (false, eval e2 X.env) :: starEach [] X.env := by rfl) (hpl : (backTo pos (starEach [e2] X.env)).any (·.1) = false := by rfl) :
    PI X (.Tuple elts kk tpos) (.Call (.Name "zip" p) [e, e2] [] pos) (tI Z (iZp f g)) := by
  refine pi_use (RZ.pi_zipA hg hm (pa_cons ha (pa_cons hb pa_nil hs2) hs) hs hpl) fun σ H R ⟨w0, γ, w, n, ρ, re, o, q⟩ => ?_
  refine ⟨w0, γ, w, n, ρ, re, o, (f ρ).mono (fun x n1 hx v H1 w1 s1 o1 r1 => ?_) (fun _ _ z => z) q⟩
  refine ⟨w0, γ, w1, n1, ρ, re.stp s1 o.ro, o1, (g ρ).mono (fun y n2 hy u H2 w2 s2 o2 r2 => ?_) (posE_stp s1) hx⟩
  replace r1 := r1.stp s2 o1.ro
  dsimp only at hy
  split at hy
  · rename_i xs ys
    obtain ⟨p, vs, rfl, h1, h2⟩ := Rep.list r1
    obtain ⟨q, us, rfl, h3, h4⟩ := Rep.list r2
    refine ⟨p, q, vs, us, rfl, .inl ⟨hZ ▸ h1, hZ ▸ h3, hy (Itz X.K p q) [(.ref p, .da (.list xs)), (.ref q, .da (.list ys))] H2 w2 (s1.trans s2) o2 (fun z hz => ?_) fun w3 n3 H3 o3 hg => ?_⟩⟩
    · rcases List.mem_cons.mp hz with e | e
      · rw [e]; exact r1
      · rw [List.mem_singleton.mp e]; exact r2
    obtain ⟨p', us1, e, k1, k2⟩ := Rep.list (hg _ List.mem_cons_self)
    cases e
    obtain ⟨p', us2, e, k3, k4⟩ := Rep.list (hg _ (List.mem_cons_of_mem _ List.mem_cons_self))
    cases e
    rw [pairs_len]
    have l1 := dpaLen k2
    have l2 := dpaLen k4
    refine ⟨fun i hi => ⟨us1, us2, us1[i]'(by omega), us2[i]'(by omega), hZ ▸ k1, hZ ▸ k3, by simp, by simp⟩, ⟨us1, us2, hZ ▸ k1, hZ ▸ k3, by omega⟩, fun i v H' hi y => ?_⟩
    obtain ⟨T, x, z, rfl, nT, rfl, y1, y2⟩ := y
    obtain ⟨d1, e1, e1'⟩ := dpaGet k2 (y1 us1 (hZ ▸ k1))
    obtain ⟨d2, e2, e2'⟩ := dpaGet k4 (y2 us2 (hZ ▸ k3))
    exact ⟨same_new nT, _, pairs_at e1 e2, pair_new o3 nT e1' e2'⟩
  · rename_i xs ys
    obtain ⟨p, vs, rfl, h1, h2⟩ := Rep.tuple r1
    obtain ⟨q, us, rfl, h3, h4⟩ := Rep.tuple r2
    refine ⟨p, q, vs, us, rfl, .inr ⟨hZ ▸ h1, hZ ▸ h3, hy (RZ.ItzT X.K p q) [(.ref p, .da (.tuple xs)), (.ref q, .da (.tuple ys))] H2 w2 (s1.trans s2) o2 (fun z hz => ?_) fun w3 n3 H3 o3 hg => ?_⟩⟩
    · rcases List.mem_cons.mp hz with e | e
      · rw [e]; exact r1
      · rw [List.mem_singleton.mp e]; exact r2
    obtain ⟨p', us1, e, k1, k2⟩ := Rep.tuple (hg _ List.mem_cons_self)
    cases e
    obtain ⟨p', us2, e, k3, k4⟩ := Rep.tuple (hg _ (List.mem_cons_of_mem _ List.mem_cons_self))
    cases e
    rw [pairs_len]
    have l1 := dpaLen k2
    have l2 := dpaLen k4
    refine ⟨fun i hi => ⟨us1, us2, us1[i]'(by omega), us2[i]'(by omega), hZ ▸ k1, hZ ▸ k3, by simp, by simp⟩, ⟨us1, us2, hZ ▸ k1, hZ ▸ k3, by omega⟩, fun i v H' hi y => ?_⟩
    obtain ⟨T, x, z, rfl, nT, rfl, y1, y2⟩ := y
    obtain ⟨d1, e1, e1'⟩ := dpaGet k2 (y1 us1 (hZ ▸ k1))
    obtain ⟨d2, e2, e2'⟩ := dpaGet k4 (y2 us2 (hZ ▸ k3))
    exact ⟨same_new nT, _, pairs_at e1 e2, pair_new o3 nT e1' e2'⟩
  · exact hy.elim
end
end JN

set_option maxRecDepth 100000
set_option maxHeartbeats 4000000
namespace JN
open PySem PySem.Spec PyProof.Rows L2
/-! ### a new thing that only one holds -/
def own (w : Wd) (D : Addr) : Wd := ⟨D :: w.os, w.reg, w.cs⟩
theorem free_of {w w' : Wd} {H H' : Hp} (s : Stp w H w' H') {p : Addr} (h : H' p = none) : H p = none := by
  cases e : H p with
  | none => rfl
  | some o => exact absurd h (s.al p (by rw [e]; simp))
theorem stp_own {w : Wd} {n : Nat} {H : Hp} {D : Addr} {o : HO} (ok : WOk w n H) (nD : H D = none) : Stp w H (own w D) (upd H D o) := by
  have k := Stp.of (w := w) (same_new (o := o) nD)
  exact ⟨k.keep, k.al, fun q z => List.mem_cons_of_mem _ z, fun q z => (List.mem_cons.mp z).elim (fun e => .inr (by rw [e]; exact nD)) .inl, k.rg, k.rgN, k.cs, k.csN⟩
theorem wok_own {w : Wd} {n : Nat} {H : Hp} {D : Addr} {o : HO} (ok : WOk w n H) (nD : H D = none) (ht : ∀ xs, o ≠ .tup xs) : WOk (own w D) n (upd H D o) := by
  have o' := ok.of (same_new (o := o) nD)
  exact ⟨fun q z => (List.mem_cons.mp z).elim (fun e => by rw [e, upd_same]; simp) (o'.al q), fun a z => List.mem_cons_of_mem _ (o'.ro a z), o'.dr, o'.cl, fun q z xs e => by
    rcases List.mem_cons.mp z with y | y
    · rw [y, upd_same] at e; exact ht xs (Option.some.inj e)
    · exact o'.nt q y xs e⟩
theorem new_out {w : Wd} {n : Nat} {H : Hp} {D : Addr} (ok : WOk w n H) (nD : H D = none) : D ∉ w.os ∧ D ∉ w.reg ∧ D ∉ w.cs :=
  ⟨fun z => ok.al D z nD, fun z => ok.al D (ok.ro D z) nD, fun z => ok.cl D z nD⟩
theorem Stp.put {w w' : Wd} {H H' : Hp} {D : Addr} {o : HO} (s : Stp w H w' H') (nD : H D = none) : Stp w H w' (upd H' D o) :=
  ⟨fun b u h n => by rw [upd_ne (ne_of_none h nD)]; exact s.keep b u h n, fun b h => by
    by_cases e : b = D
    · rw [e, upd_same]; simp
    · rw [upd_ne e]; exact s.al b h, s.os, s.osN, s.rg, s.rgN, s.cs, s.csN⟩
theorem WOk.put {w : Wd} {n : Nat} {H : Hp} {D : Addr} {o : HO} (ok : WOk w n H) (h1 : D ∉ w.reg) (h2 : D ∉ w.cs) (ht : ∀ xs, o ≠ .tup xs) : WOk w n (upd H D o) := by
  have al : ∀ p, H p ≠ none → (upd H D o) p ≠ none := fun p h => by
    by_cases e : p = D
    · rw [e, upd_same]; simp
    · rw [upd_ne e]; exact h
  exact ⟨fun p h => al p (ok.al p h), ok.ro, fun a h => let ⟨c, hc, d⟩ := ok.dr a h; ⟨c, hc, d.put (fun e => h1 (by rw [e]; exact h)) (fun e => h2 (by rw [e]; exact hc))⟩, fun p h => al p (ok.cl p h), fun p h xs e => by
    by_cases z : p = D
    · rw [z, upd_same] at e; exact ht xs (Option.some.inj e)
    · rw [upd_ne z] at e; exact ok.nt p h xs e⟩
theorem RE.put {K : PySem.W.Frag} {w0 w : Wd} {γ : List (V × Va)} {ρ : Ro} {σ : L2.St} {H : Hp} {D : Addr} {o : HO} (re : RE K w0 γ w ρ σ H) (h0 : D ∈ w0.os) (h1 : D ∈ w.os) : RE K w0 γ w ρ σ (upd H D o) := by
  have ec : core (upd H D o) w = core H w := dels_upd h1
  refine ⟨fun i s e => ?_, re.un, fun q hq => by rw [ec]; exact re.gh q hq⟩
  obtain ⟨ov, h, r⟩ := re.sl i s e
  refine ⟨ov, h, ?_⟩
  cases s with
  | un => trivial
  | va x =>
    obtain ⟨v, e, r⟩ := r
    exact ⟨v, e, by rw [ec]; exact r⟩
  | ow c =>
    obtain ⟨p, vs, e, a1, a2, a3, a4, a5, a6⟩ := r
    exact ⟨p, vs, e, a1, a2, a3, a4, by rw [upd_ne fun z => a4 (by rw [z]; exact h0)]; exact a5, by rw [ec]; exact a6⟩
theorem RE.own {K : PySem.W.Frag} {w0 w : Wd} {n : Nat} {γ : List (V × Va)} {ρ : Ro} {σ : L2.St} {H : Hp} {D : Addr} {o : HO} (re : RE K w0 γ w ρ σ H) (ok : WOk w n H) (nD : H D = none) : RE K (JN.own w0 D) γ (JN.own w D) ρ σ (upd H D o) := by
  have s := stp_own (o := o) ok nD
  have r2 := re.stp s ok.ro
  refine ⟨fun i sl e => ?_, r2.un, r2.gh⟩
  obtain ⟨ov, h, r⟩ := r2.sl i sl e
  refine ⟨ov, h, ?_⟩
  cases sl with
  | un => trivial
  | va x => exact r
  | ow xs =>
    obtain ⟨p, vs, e1, a1, a2, a3, a4, a5, a6⟩ := r
    obtain ⟨ov', h', p', vs', e1', b1, b2, b3, b4, b5, b6⟩ := re.sl i _ e
    rw [h] at h'
    cases h'
    rw [e1] at e1'
    cases e1'
    refine ⟨p, vs, e1, a1, a2, a3, fun z => ?_, a5, a6⟩
    rcases List.mem_cons.mp z with y | y
    · rw [y, nD] at b5; cases b5
    · exact a4 y
/-! ### comprehensions -/
abbrev Zc.q (Z : Zc) : Zc := ⟨Z.K, Z.mg, E0⟩
def wipeR (ρ : Ro) : List Nat → Ro
  | [] => ρ
  | v :: vs => (wipeR ρ vs).set v .un
theorem RE.un1 {K : PySem.W.Frag} {w0 w : Wd} {γ : List (V × Va)} {ρ : Ro} {σ : L2.St} {H : Hp} (i : Nat) (re : RE K w0 γ w ρ σ H) : RE K w0 γ w (ρ.set i .un) (σ.set i none) H := by
  have key : ∀ (j : Nat) s, (ρ.set i .un)[j]? = some s → s ≠ Sl.un → j ≠ i ∧ ρ[j]? = some s := fun j s e ns => by
    by_cases hj : i = j
    · subst hj
      by_cases hl : i < ρ.length
      · rw [List.getElem?_set_self hl] at e; cases e; exact absurd rfl ns
      · rw [List.getElem?_eq_none (by rw [List.length_set]; omega)] at e; cases e
    · rw [List.getElem?_set_ne hj] at e
      exact ⟨fun z => hj z.symm, e⟩
  refine ⟨fun j s e => ?_, fun j k xs ys p h1 h2 h3 h4 => ?_, re.gh⟩
  · by_cases hj : i = j
    · subst hj
      have hl : i < ρ.length := by
        have := (List.getElem?_eq_some_iff.mp e).1
        rwa [List.length_set] at this
      rw [List.getElem?_set_self hl] at e
      cases e
      obtain ⟨o, ho, _⟩ := re.sl i ρ[i] (by simp [hl])
      have hs : i < σ.length := (List.getElem?_eq_some_iff.mp ho).1
      exact ⟨_, List.getElem?_set_self hs, trivial⟩
    · rw [List.getElem?_set_ne hj] at e
      obtain ⟨o, ho, h⟩ := re.sl j s e
      exact ⟨o, by rw [List.getElem?_set_ne hj]; exact ho, h⟩
  · obtain ⟨n1, e1⟩ := key j _ h1 (by intro z; cases z)
    obtain ⟨n2, e2⟩ := key k _ h2 (by intro z; cases z)
    rw [List.getElem?_set_ne fun z => n1 z.symm] at h3
    rw [List.getElem?_set_ne fun z => n2 z.symm] at h4
    exact re.un j k xs ys p e1 e2 h3 h4
theorem RE.wipe {K : PySem.W.Frag} {w0 w : Wd} {γ : List (V × Va)} {ρ : Ro} {σ : L2.St} {H : Hp} (re : RE K w0 γ w ρ σ H) : ∀ vs : List Nat, RE K w0 γ w (wipeR ρ vs) (L2.wipe σ vs) H
  | [] => re
  | v :: vs => (re.wipe vs).un1 v
theorem wipe_wipe {σ : L2.St} {vs : List Nat} : wipe (wipe σ vs) vs = wipe σ vs := by
  apply List.ext_getElem?
  intro j
  by_cases hj : j ∈ vs
  · by_cases hl : j < σ.length
    · rw [wipe_at hj (by rw [wipe_length]; exact hl), wipe_at hj hl]
    · rw [List.getElem?_eq_none (by rw [wipe_length, wipe_length]; omega), List.getElem?_eq_none (by rw [wipe_length]; omega)]
  · rw [wipe_out hj]
@[simp] def kD : Va → M PyData
  | .da d => .ret d
  | _ => .bad
theorem kD_run {x : Va} {Q : PyData → Nat → Prop} {E : Er → Nat → Prop} {n : Nat} (h : (kD x).run Q E n) : ∃ d, x = .da d ∧ Q d n := by
  unfold kD at h
  split at h
  · exact ⟨_, rfl, h⟩
  · exact h.elim
def compM (ft : Va → Ro → M Ro) (tt : Ro → M Bool) (fe : Ro → M Va) : List Va → Ro → M (List PyData)
  | [], _ => .ret []
  | x :: xs, ρ => (ft x ρ).bind fun ρ1 => (tt ρ1).bind fun b => if b = true then (fe ρ1).bind fun y => (kD y).bind fun d => (compM ft tt fe xs ρ).bind fun r => .ret (d :: r) else compM ft tt fe xs ρ
def eComp (vs : List Nat) (fi : Ro → M (List Va)) (ft : Va → Ro → M Ro) (tt : Ro → M Bool) (fe : Ro → M Va) : Ro → M (List PyData) := fun ρ => (fi ρ).bind fun xs => (M.req (xs.length < sizeLine)).bind fun _ => (compM ft tt fe xs (wipeR ρ vs)).quiet
theorem posE_q {Z : Zc} {w : Wd} {H : Hp} : ∀ (e : Er) (k : Nat), False → posE Z w H e k := fun _ _ h => h.elim
theorem lc_read {Z : Zc} {vs : List Nat} {fi : Ro → M (List Va)} {g : TG} {ft : Va → Ro → M Ro} {is : List Nat} {tt : Ro → M Bool} {fe : Ro → M Va} (hgs : GS Z.q g ft is) (his : ∀ i ∈ is, i ∈ vs) (σ : L2.St) (H : Hp) (Q : VK) (h : tF Z (eComp vs fi ft tt fe) σ H Q) :
    tLc (tIQ Z fi) g (tVB Z.q tt) (tV Z.q fe) vs σ H Q := by
  obtain ⟨w0, γ, w, n, ρ, re, o, q⟩ := h
  refine ⟨w0, γ, w, n, ρ, re, o, (fi ρ).mono (fun xs n1 hx J γ' H1 w1 s1 o1 hγ hW D nD => ?_) (fun _ _ z => z) q⟩
  obtain ⟨hlen, hx⟩ := hx
  obtain ⟨out1, out2, out3⟩ := new_out o1 nD
  have hx : (compM ft tt fe xs (wipeR ρ vs)).run (posF Z w H Q) (fun _ _ => False) n1 := hx
  have reA : RE Z.K w0 γ w1 (wipeR ρ vs) (wipe σ vs) H1 := (re.stp s1 o.ro).wipe vs
  have hne : ∀ q ∈ γ', q.1 = true ∨ q.2.1 ≠ .ref D := fun q hq => (hγ q hq).ne nD
  have hγ0 : ∀ (o : HO), ∀ q ∈ γ', RootR Z.K (L2.upd H1 D o) (JN.own w1 D) q := fun u q hq => (hγ q hq).stp (stp_own o1 nD) o1.ro
  refine ⟨fun i m Hc => m = xs.length - i ∧ i ≤ xs.length ∧ ∃ w2 n2 acc accV, Stp w1 H1 w2 Hc ∧ WOk w2 n2 Hc ∧ D ∈ w2.os ∧ D ∉ w2.reg ∧ D ∉ w2.cs ∧ Hc D = some (.lst accV) ∧ DqAll Z.K (core Hc w2) accV acc ∧ accV.length ≤ i ∧ RE Z.K (JN.own w0 D) γ w2 (wipeR ρ vs) (wipe σ vs) Hc ∧ (∀ q ∈ γ', RootR Z.K Hc w2 q) ∧
    (compM ft tt fe (xs.drop i) (wipeR ρ vs)).run (fun r k => posF Z w H Q (acc ++ r) k) (fun _ _ => False) n2, ⟨_, rfl, Nat.zero_le _, JN.own w1 D, n1, [], [], stp_own o1 nD, wok_own o1 nD (fun _ z => nomatch z), List.mem_cons_self, out2, out3, upd_same, .nil, Nat.le_refl _, reA.own o1 nD, hγ0 _, hx⟩, ?_⟩
  rintro i m Hc ⟨rfl, hi, w2, n2, acc, accV, s2, o2, d1, d2, d3, eD, hacc, hal, re2, hroot, hrun⟩
  obtain ⟨go, stop, yld⟩ := hW w2 n2 Hc o2 hroot
  by_cases hlt : i < xs.length
  · refine .inr ⟨go i hlt, _, fun H' z => ⟨_, Nat.sub_succ_lt_self _ _ hlt, z⟩, fun v H' hy => ?_⟩
    obtain ⟨sm, x, ex, rx⟩ := yld i v H' hlt hy
    have edrop : xs.drop i = x :: xs.drop (i + 1) := by
      rw [List.drop_eq_getElem_cons hlt]
      have := (List.getElem?_eq_some_iff.mp ex).2
      rw [this]
    rw [edrop] at hrun
    have t1 := Stp.of (w := w2) sm
    refine hgs (JN.own w0 D) γ w2 n2 (wipeR ρ vs) (wipe σ vs) H' v x _ (fun _ _ => False) (re2.stp t1 o2.ro) (o2.of sm) rx ((ft x _).mono (fun ρ1 k hk ek σ2 re3 hw => ?_) (fun _ _ z => z) hrun)
    subst ek
    refine ⟨(hw vs his).trans wipe_wipe, ?_⟩
    refine ⟨JN.own w0 D, γ, w2, _, ρ1, re3, o2.of sm, (tt ρ1).mono (fun b n3 hb H3 w3 s3 o3 => ?_) posE_q hk⟩
    have s13 := (s2.trans t1).trans s3
    have ro2 := o2.ro
    cases b with
    | true =>
      refine iteT ⟨JN.own w0 D, γ, w3, n3, ρ1, re3.stp s3 ro2, o3, (fe ρ1).mono (fun y n4 hy v4 H4 w4 s4 o4 r4 => ?_) posE_q hb⟩
      obtain ⟨d, rfl, hy⟩ := kD_run hy
      have s14 := s13.trans s4
      have sD := (t1.trans s3).trans s4
      have eD4 : H4 D = some (.lst accV) := sD.keep _ _ eD d2
      have n4r : D ∉ w4.reg := fun z => (sD.rgN D z).elim d2 fun y => by rw [eD] at y; cases y
      have n4c : D ∉ w4.cs := fun z => (sD.csN D z).elim d3 fun y => by rw [eD] at y; cases y
      have n4o : D ∈ w4.os := sD.os _ d1
      have ec : core (upd H4 D (.lst (accV ++ [v4]))) w4 = core H4 w4 := dels_upd n4o
      refine ⟨accV, eD4, by omega, rfl, hlt, w4, n4, acc ++ [d], accV ++ [v4], s14.put nD, o4.put n4r n4c (fun _ z => nomatch z), n4o, n4r, n4c, upd_same, ?_, by rw [List.length_append]; show accV.length + 1 ≤ i + 1; omega, ?_, ?_, ?_⟩
      · rw [ec]
        exact dpaApp (dpa_same (sD.core ro2) _ hacc) (.cons r4 .nil)
      · exact (re2.stp sD ro2).put List.mem_cons_self n4o
      · exact fun q hq => ((hroot q hq).stp sD ro2).put n4o (hne q hq)
      · refine (compM ft tt fe (xs.drop (i + 1)) (wipeR ρ vs)).mono (fun r k z => ?_) (fun _ _ z => z) hy
        rw [List.append_assoc]
        exact z
    | false =>
      have sD := t1.trans s3
      refine iteF ⟨rfl, hlt, w3, n3, acc, accV, s13, o3, sD.os _ d1, (fun z => (sD.rgN D z).elim d2 fun y => by rw [eD] at y; cases y), (fun z => (sD.csN D z).elim d3 fun y => by rw [eD] at y; cases y), sD.keep _ _ eD d2, dpa_same (sD.core ro2) _ hacc, by omega, re2.stp sD ro2, fun q hq => (hroot q hq).stp sD ro2, hb⟩
  · have e : i = xs.length := by omega
    subst e
    rw [List.drop_length] at hrun
    have hrun : posF Z w H Q (acc ++ []) n2 := hrun
    rw [List.append_nil] at hrun
    exact .inl ⟨stop, hrun D accV Hc w2 (s1.trans s2) o2 (free_of s1 nD) d1 d2 d3 eD hacc⟩
section
variable {X : Cx} {Z : Zc}
theorem vts_nil : PTs X [] (tVB Z fun _ => .ret true) := ⟨fun pins s σ H Q I ⟨w0, γ, w, n, ρ, re, o, q⟩ => pts_nil.run pins s σ H Q I (q H w (Stp.refl _ _) o)⟩
theorem vts_one {c : Expr} {t : Ro → M Bool} (h : PT X c (tVB Z t)) : PTs X [c] (tVB Z t) := pts_one h
theorem vf_lc {elt tg iter : Expr} {ifs : List Expr} {scope : Scope} {own : List (Str × Nat)} {pos : Pos} {fi : Ro → M (List Va)} {g : TG} {ft : Va → Ro → M Ro} {is : List Nat} {tt : Ro → M Bool} {fe : Ro → M Va} (hc : X.calm = true) (hN : X.N.Nodup) (hi : PI X tg iter (tIQ Z fi)) (ok : BlkOk X.N X.env.scope scope own)
    (hg : ∀ (s : Shared) (H : Hp) (C : Addr) (cl : List (Str × Addr)) (fp : List Addr), PG (X.blk s H scope (compEnvC scope cl C X.env) fp) tg g) (hgs : GS Z.q g ft is) (his : ∀ i ∈ is, i ∈ own.map (·.2))
    (ht : ∀ (s : Shared) (H : Hp) (C : Addr) (cl : List (Str × Addr)) (fp : List Addr), PTs (X.blk s H scope (compEnvC scope cl C X.env) fp) ifs (tVB Z.q tt)) (he : ∀ (s : Shared) (H : Hp) (C : Addr) (cl : List (Str × Addr)) (fp : List Addr), PE (X.blk s H scope (compEnvC scope cl C X.env) fp) elt (tV Z.q fe))
    (hs : ∀ x, foldedSetIterable iter X.env x = pure x := by intro _; rfl) : PE X (.ListComp elt [⟨tg, iter, ifs, 0⟩] scope pos) (tF Z (eComp (own.map (·.2)) fi ft tt fe)) :=
  pe_use (pe_lc hc hN hi ok hg ht he hs) (lc_read hgs his)
end
end JN

set_option maxRecDepth 100000
set_option maxHeartbeats 4000000
namespace JN
open PySem PySem.Spec PyProof.Rows L2
/-! ### what a statement does -/
inductive Rs where
  | nx (ρ : Ro)
  | bk (ρ : Ro)
  | ct (ρ : Ro)
  | rt (x : Va)
def posS (Z : Zc) (w0 : Wd) (H0 : Hp) (γ : List (V × Va)) (D : Ends) : Rs → Nat → Prop
  | .nx ρ, n => ∀ w σ H, Stp w0 H0 w H → RE Z.K w0 γ w ρ σ H → WOk w n H → D.nx σ H
  | .bk ρ, n => ∀ w σ H, Stp w0 H0 w H → RE Z.K w0 γ w ρ σ H → WOk w n H → D.bk σ H
  | .ct ρ, n => ∀ w σ H, Stp w0 H0 w H → RE Z.K w0 γ w ρ σ H → WOk w n H → D.ct σ H
  | .rt x, n => ∀ v w H, Stp w0 H0 w H → WOk w n H → Rep Z.K (core H w) w.reg v x → D.rt v H
def tS (Z : Zc) (g : Ro → M Rs) : TS := fun D σ H => ∃ w0 H0 γ w n ρ, Stp w0 H0 w H ∧ RE Z.K w0 γ w ρ σ H ∧ WOk w n H ∧ (g ρ).run (posS Z w0 H0 γ D) (posE Z w0 H0) n
@[simp] def sSeq (g h : Ro → M Rs) : Ro → M Rs := fun ρ => (g ρ).bind fun r => match r with
  | .nx ρ' => h ρ'
  | r => .ret r
@[simp] def sPass : Ro → M Rs := fun ρ => .ret (.nx ρ)
@[simp] def sBreak : Ro → M Rs := fun ρ => .ret (.bk ρ)
@[simp] def sCont : Ro → M Rs := fun ρ => .ret (.ct ρ)
@[simp] def sRet (f : Ro → M Va) : Ro → M Rs := fun ρ => (f ρ).bind fun x => .ret (.rt x)
@[simp] def sRetN : Ro → M Rs := fun ρ => .ret (.rt (.da .none))
@[simp] def sDrop (f : Ro → M Va) : Ro → M Rs := fun ρ => (f ρ).bind fun _ => .ret (.nx ρ)
@[simp] def sTgt (ft : Va → Ro → M Ro) (f : Ro → M Va) : Ro → M Rs := fun ρ => (f ρ).bind fun x => (ft x ρ).bind fun ρ' => .ret (.nx ρ')
@[simp] def sSet (i : Nat) (f : Ro → M Va) : Ro → M Rs := fun ρ => (f ρ).bind fun x => .ret (.nx (ρ.set i (.va x)))
@[simp] def sSetF (i : Nat) (f : Ro → M (List PyData)) : Ro → M Rs := fun ρ => (f ρ).bind fun ds => .ret (.nx (ρ.set i (.ow (.lst ds))))
@[simp] def sPar (i j : Nat) (fa fb : Ro → M Va) : Ro → M Rs := fun ρ => (fa ρ).bind fun x => (fb ρ).bind fun y => .ret (.nx ((ρ.set i (.va x)).set j (.va y)))
@[simp] def sAug (i : Nat) (k : Va → Va → M Va) (f : Ro → M Va) : Ro → M Rs := fun ρ => (eVar i ρ).bind fun x => (f ρ).bind fun y => (k x y).bind fun z => .ret (.nx (ρ.set i (.va z)))
@[simp] def sIf (c : Ro → M Bool) (g h : Ro → M Rs) : Ro → M Rs := fun ρ => (c ρ).bind fun b => if b = true then g ρ else h ρ
@[simp] def sApp (i : Nat) (f : Ro → M Va) : Ro → M Rs := fun ρ => match ρ[i]? with
  | some (.ow (.lst xs)) => (f ρ).bind fun x => (kD x).bind fun d => (M.req (xs.length < sizeLine)).bind fun _ => .ret (.nx (ρ.set i (.ow (.lst (xs ++ [d])))))
  | _ => .bad
def loopS (ft : Va → Ro → M Ro) (gb : Ro → M Rs) : List Va → Ro → M Rs
  | [], ρ => .ret (.nx ρ)
  | x :: xs, ρ => (ft x ρ).bind fun ρ1 => (gb ρ1).bind fun r => match r with
    | .nx ρ' => loopS ft gb xs ρ'
    | .ct ρ' => loopS ft gb xs ρ'
    | .bk ρ' => .ret (.nx ρ')
    | .rt x => .ret (.rt x)
@[simp] def sFor (fi : Ro → M (List Va)) (ft : Va → Ro → M Ro) (gb : Ro → M Rs) : Ro → M Rs := fun ρ => (fi ρ).bind fun xs => loopS ft gb xs ρ
def whileS (c : Ro → M Bool) (gb : Ro → M Rs) : Nat → Ro → M Rs
  | 0, _ => .bad
  | k + 1, ρ => (c ρ).bind fun b => if b = true then (gb ρ).bind fun r => match r with
    | .nx ρ' => whileS c gb k ρ'
    | .ct ρ' => whileS c gb k ρ'
    | .bk ρ' => .ret (.nx ρ')
    | .rt x => .ret (.rt x) else .ret (.nx ρ)
def sWhile (fuel : Nat) (c : Ro → M Bool) (gb : Ro → M Rs) : Ro → M Rs := fun ρ => whileS c gb fuel ρ
@[simp] def frz (i : Nat) (g : Ro → M Rs) : Ro → M Rs := fun ρ => match ρ[i]? with
  | some (.ow (.lst xs)) => g (ρ.set i (.va (.da (.list xs))))
  | _ => g ρ
/-- a list of one's own is handed out -/
theorem RE.frz {K : PySem.W.Frag} {w0 w : Wd} {γ : List (V × Va)} {ρ : Ro} {σ : L2.St} {H : Hp} {i : Nat} {xs : List PyData} (re : RE K w0 γ w ρ σ H) (e : ρ[i]? = some (.ow (.lst xs))) :
    ∃ p, p ∉ w.reg ∧ p ∉ w0.os ∧ RE K w0 γ (less w p) (ρ.set i (.va (.da (.list xs)))) σ H := by
  obtain ⟨o, ho, p, u, rfl, a1, a2, a3, a4, a5, a6⟩ := re.sl _ _ e
  obtain ⟨vs, rfl⟩ : ∃ vs, u = .lst vs := by
    cases u with
    | lst vs => exact ⟨vs, rfl⟩
    | _ => exact (show False from a6).elim
  have hl : i < ρ.length := (List.getElem?_eq_some_iff.mp e).1
  refine ⟨p, a2, a4, fun j s es => ?_, fun j k us ys q h1 h2 h3 h4 => ?_, fun q hq => (re.gh q hq).mono core_less fun _ z => z⟩
  · by_cases hj : i = j
    · subst hj
      rw [List.getElem?_set_self hl] at es
      cases es
      exact ⟨_, ho, _, rfl, .lst (.inl (.inl (less_at a5))) (dpa_same core_less _ a6)⟩
    · rw [List.getElem?_set_ne hj] at es
      obtain ⟨o2, h2, r⟩ := re.sl j s es
      refine ⟨o2, h2, ?_⟩
      cases s with
      | un => trivial
      | va x =>
        obtain ⟨v, e1, r⟩ := r
        exact ⟨v, e1, r.mono core_less fun _ z => z⟩
      | ow ys =>
        obtain ⟨q, us, e1, b1, b2, b3, b4, b5, b6⟩ := r
        refine ⟨q, us, e1, mem_less.mpr ⟨b1, fun z => hj ?_⟩, b2, b3, b4, b5, ocr_same core_less b6⟩
        subst z
        subst e1
        exact re.un i j _ _ _ e es ho h2
  · have k1 : ∀ (j : Nat) us, (ρ.set i (Sl.va (.da (.list xs))))[j]? = some (Sl.ow us) → ρ[j]? = some (Sl.ow us) := fun j us e => by
      by_cases hj : i = j
      · subst hj
        rw [List.getElem?_set_self hl] at e; cases e
      · rw [List.getElem?_set_ne hj] at e; exact e
    exact re.un j k us ys q (k1 j us h1) (k1 k ys h2) h3 h4
/-- a new list of one's own is stored -/
theorem RE.setF {K : PySem.W.Frag} {w0 w : Wd} {γ : List (V × Va)} {ρ : Ro} {σ : L2.St} {H : Hp} {i : Nat} {p : Addr} {u : HO} {c : Oc} (re : RE K w0 γ w ρ σ H) (h1 : p ∈ w.os) (h2 : p ∉ w.reg) (h3 : p ∉ w.cs) (h4 : p ∉ w0.os) (h5 : H p = some u) (h6 : OcR K (core H w) u c)
    (hn : ∀ (j : Nat) ys, ρ[j]? = some (.ow ys) → σ[j]? = some (some (.ref p)) → j = i) : RE K w0 γ w (ρ.set i (.ow c)) (σ.set i (some (.ref p))) H := by
  have key : ∀ (j : Nat) us, (ρ.set i (Sl.ow c))[j]? = some (Sl.ow us) → j ≠ i → ρ[j]? = some (Sl.ow us) := fun j us e hj => by
    rw [List.getElem?_set_ne fun z => hj z.symm] at e; exact e
  refine ⟨fun j s e => ?_, fun j k us ys q e1 e2 e3 e4 => ?_, re.gh⟩
  · by_cases hj : i = j
    · subst hj
      have hl : i < ρ.length := by
        have := (List.getElem?_eq_some_iff.mp e).1
        rwa [List.length_set] at this
      rw [List.getElem?_set_self hl] at e
      cases e
      obtain ⟨o, ho, _⟩ := re.sl i ρ[i] (by simp [hl])
      have hs : i < σ.length := (List.getElem?_eq_some_iff.mp ho).1
      exact ⟨_, List.getElem?_set_self hs, p, u, rfl, h1, h2, h3, h4, h5, h6⟩
    · rw [List.getElem?_set_ne hj] at e
      obtain ⟨o, ho, h⟩ := re.sl j s e
      exact ⟨o, by rw [List.getElem?_set_ne hj]; exact ho, h⟩
  · have at_i : ∀ (j : Nat) us, (ρ.set i (Sl.ow c))[j]? = some (Sl.ow us) → j = i → (σ.set i (some (.ref p)))[j]? = some (some (.ref p)) := fun j us e hj => by
      subst hj
      have hl : j < ρ.length := by
        have := (List.getElem?_eq_some_iff.mp e).1
        rwa [List.length_set] at this
      obtain ⟨o, ho, _⟩ := re.sl j ρ[j] (by simp [hl])
      exact List.getElem?_set_self (List.getElem?_eq_some_iff.mp ho).1
    by_cases hj : j = i
    · by_cases hk : k = i
      · omega
      · have e5 := at_i j us e1 hj
        rw [e3] at e5
        cases e5
        rw [List.getElem?_set_ne fun z => hk z.symm] at e4
        exact absurd (hn k ys (key k ys e2 hk) e4) hk
    · by_cases hk : k = i
      · have e5 := at_i k ys e2 hk
        rw [e4] at e5
        cases e5
        rw [List.getElem?_set_ne fun z => hj z.symm] at e3
        exact absurd (hn j us (key j us e1 hj) e3) hj
      · rw [List.getElem?_set_ne fun z => hj z.symm] at e3
        rw [List.getElem?_set_ne fun z => hk z.symm] at e4
        exact re.un j k us ys q (key j us e1 hj) (key k ys e2 hk) e3 e4
/-- a list of one's own is changed -/
theorem RE.mut {K : PySem.W.Frag} {w0 w : Wd} {γ : List (V × Va)} {ρ : Ro} {σ : L2.St} {H : Hp} {i : Nat} {p : Addr} {u : HO} {xs ys : Oc} (re : RE K w0 γ w ρ σ H) (e : ρ[i]? = some (.ow xs)) (es : σ[i]? = some (some (.ref p))) (h6 : OcR K (core H w) u ys) :
    RE K w0 γ w (ρ.set i (.ow ys)) σ (upd H p u) := by
  obtain ⟨o, ho, p', vs', e1, a1, a2, a3, a4, a5, a6⟩ := re.sl _ _ e
  rw [es] at ho
  cases ho
  cases e1
  have ec : core (upd H p u) w = core H w := dels_upd a1
  have hl : i < ρ.length := (List.getElem?_eq_some_iff.mp e).1
  refine ⟨fun j s e2 => ?_, fun j k us zs q h1 h2 h3 h4 => ?_, fun q hq => by rw [ec]; exact re.gh q hq⟩
  · by_cases hj : i = j
    · subst hj
      rw [List.getElem?_set_self hl] at e2
      cases e2
      exact ⟨_, es, p, u, rfl, a1, a2, a3, a4, upd_same, by rw [ec]; exact h6⟩
    · rw [List.getElem?_set_ne hj] at e2
      obtain ⟨o2, h2, r⟩ := re.sl j s e2
      refine ⟨o2, h2, ?_⟩
      cases s with
      | un => trivial
      | va x =>
        obtain ⟨v, e1, r⟩ := r
        exact ⟨v, e1, by rw [ec]; exact r⟩
      | ow zs =>
        obtain ⟨q, us, e1, b1, b2, b3, b4, b5, b6⟩ := r
        refine ⟨q, us, e1, b1, b2, b3, b4, ?_, by rw [ec]; exact b6⟩
        rw [upd_ne fun z => hj ?_]
        · exact b5
        · subst z
          subst e1
          exact re.un i j _ _ _ e e2 es h2
  · have k1 : ∀ (j : Nat) us, (ρ.set i (Sl.ow ys))[j]? = some (Sl.ow us) → ∃ ts, ρ[j]? = some (Sl.ow ts) := fun j us e' => by
      by_cases hj : i = j
      · subst hj
        exact ⟨xs, e⟩
      · rw [List.getElem?_set_ne hj] at e'; exact ⟨us, e'⟩
    obtain ⟨t1, e1⟩ := k1 j us h1
    obtain ⟨t2, e2⟩ := k1 k zs h2
    exact re.un j k t1 t2 q e1 e2 h3 h4
section
variable {X : Cx} {Z : Zc} {st : Stmt} {rest : List Stmt} {g h : Ro → M Rs} {f fa fb : Ro → M Va} {pos : Pos} {e : Expr}
theorem vs_nil : PSs X [] (tS Z sPass) := pss_use pss_nil fun D σ H ⟨w0, H0, γ, w, n, ρ, s0, re, o, q⟩ => q w σ H s0 re o
theorem vs_cons (h1 : PS X st (tS Z g)) (h2 : PSs X rest (tS Z h)) : PSs X (st :: rest) (tS Z (sSeq g h)) := by
  refine pss_use (pss_cons h1 h2) fun D σ H ⟨w0, H0, γ, w, n, ρ, s0, re, o, q⟩ => ?_
  refine ⟨w0, H0, γ, w, n, ρ, s0, re, o, (g ρ).mono (fun r n1 hr => ?_) (fun _ _ z => z) q⟩
  cases r with
  | nx ρ' => exact fun w1 σ1 H1 s1 re1 o1 => ⟨w0, H0, γ, w1, n1, ρ', s1, re1, o1, hr⟩
  | bk ρ' => exact hr
  | ct ρ' => exact hr
  | rt x => exact hr
theorem vs_one (h1 : PS X st (tS Z g)) : PSs X [st] (tS Z g) := pss_one h1
theorem vs_pass : PS X (.Pass pos) (tS Z sPass) := ps_use ps_pass fun D σ H ⟨w0, H0, γ, w, n, ρ, s0, re, o, q⟩ => q w σ H s0 re o
theorem vs_break : PS X (.Break pos) (tS Z sBreak) := ps_use ps_break fun D σ H ⟨w0, H0, γ, w, n, ρ, s0, re, o, q⟩ => q w σ H s0 re o
theorem vs_cont : PS X (.Continue pos) (tS Z sCont) := ps_use ps_continue fun D σ H ⟨w0, H0, γ, w, n, ρ, s0, re, o, q⟩ => q w σ H s0 re o
theorem vs_frz {i : Nat} (h1 : PS X st (tS Z g)) : PS X st (tS Z (frz i g)) := ps_use h1 fun D σ H ⟨w0, H0, γ, w, n, ρ, s0, re, o, q⟩ => by
  unfold frz at q
  split at q
  · rename_i xs hx
    obtain ⟨p, h1, h2, re'⟩ := re.frz hx
    exact ⟨w0, H0, γ, less w p, n, _, s0.less h2, re', o.less h1, q⟩
  · exact ⟨w0, H0, γ, w, n, ρ, s0, re, o, q⟩
theorem vs_ret (he : PE X e (tV Z f)) : PS X (.Return (some e) pos) (tS Z (sRet f)) := by
  refine ps_use (ps_ret he) fun D σ H ⟨w0, H0, γ, w, n, ρ, s0, re, o, q⟩ => ?_
  exact ⟨w0, γ, w, n, ρ, re, o, (f ρ).mono (fun x n1 hx v H1 w1 s1 o1 r1 => hx v w1 H1 (s0.trans s1) o1 r1) (posE_stp s0) q⟩
theorem vs_retN : PS X (.Return none pos) (tS Z sRetN) := ps_use ps_retN fun D σ H ⟨w0, H0, γ, w, n, ρ, s0, re, o, q⟩ => q .non w H s0 o .non
theorem vs_drop (he : PE X e (tV Z f)) (hs : swapsWith e none pos.line X.env = pure false := by rfl) : PS X (.Expr e pos) (tS Z (sDrop f)) := by
  refine ps_use (ps_expr he hs) fun D σ H ⟨w0, H0, γ, w, n, ρ, s0, re, o, q⟩ => ?_
  exact ⟨w0, γ, w, n, ρ, re, o, (f ρ).mono (fun x n1 hx v H1 w1 s1 o1 r1 => hx w1 σ H1 (s0.trans s1) (re.stp s1 o.ro) o1) (posE_stp s0) q⟩
theorem set_read {i : Nat} (D : Ends) (σ : L2.St) (H : Hp) (hh : tS Z (sSet i f) D σ H) : tAsg (tV Z f) (gName i) D σ H := by
  obtain ⟨w0, H0, γ, w, n, ρ, s0, re, o, q⟩ := hh
  exact ⟨w0, γ, w, n, ρ, re, o, (f ρ).mono (fun x n1 hx v H1 w1 s1 o1 r1 => hx w1 _ H1 (s0.trans s1) ((re.stp s1 o.ro).set r1) o1) (posE_stp s0) q⟩
theorem setF_read {i : Nat} {f : Ro → M (List PyData)} (D : Ends) (σ : L2.St) (H : Hp) (hh : tS Z (sSetF i f) D σ H) : tF Z f σ H fun x H1 => gName i x σ H1 D.nx := by
  obtain ⟨w0, H0, γ, w, n, ρ, s0, re, o, q⟩ := hh
  refine ⟨w0, γ, w, n, ρ, re, o, (f ρ).mono (fun x n1 hx p vs H1 w1 s1 o1 np a1 a2 a3 a4 a5 => hx w1 _ H1 (s0.trans s1) ((re.stp s1 o.ro).setF a1 a2 a3 (fun z => o.al p (s0.os p z) np) a4 a5 fun j ys e1 e2 => ?_) o1) (posE_stp s0) q⟩
  obtain ⟨o2, h2, p', us, e3, b1, b2, b3, b4, b5, b6⟩ := re.sl j _ e1
  rw [h2] at e2
  cases e2
  cases e3
  rw [np] at b5
  cases b5
theorem asg_read {ft : Va → Ro → M Ro} {tg : TG} {is : List Nat} (hgs : GS Z tg ft is) (hn : ∀ x ρ {Q : Ro → Nat → Prop} {E : Er → Nat → Prop} {n : Nat}, (ft x ρ).run Q E n → (ft x ρ).run (fun r k => k = n ∧ Q r k) E n) (D : Ends) (σ : L2.St) (H : Hp) (hh : tS Z (sTgt ft f) D σ H) : tAsg (tV Z f) tg D σ H := by
  obtain ⟨w0, H0, γ, w, n, ρ, s0, re, o, q⟩ := hh
  refine ⟨w0, γ, w, n, ρ, re, o, (f ρ).mono (fun x n1 hx v H1 w1 s1 o1 r1 => ?_) (posE_stp s0) q⟩
  refine hgs w0 γ w1 n1 ρ σ H1 v x _ _ (re.stp s1 o.ro) o1 r1 ((ft x ρ).mono (fun ρ' k hk e σ' re' _ => ?_) (fun _ _ z => z) hx)
  subst e
  exact hk w1 σ' H1 (s0.trans s1) re' o1
theorem vs_set {i : Nat} {x : Str} {pos' : Pos} (hN : X.N.Nodup) (hi : X.N[i]? = some x) (hx : Loc X.env.scope x) (he : PE X e (tV Z f)) (hs : swapsWith e (some (.Name x pos')) pos.line X.env = pure false := by rfl) (hf : X.fn x = true ∨ X.env.scope.names.lookup x = some .local := by first | exact .inl rfl | exact .inr rfl | assumption) :
    PS X (.Assign [.Name x pos'] e pos) (tS Z (sSet i f)) := ps_use (ps_set hN hi hx he hs hf) set_read
theorem vs_setF {i : Nat} {x : Str} {pos' : Pos} {f : Ro → M (List PyData)} (hN : X.N.Nodup) (hi : X.N[i]? = some x) (hx : Loc X.env.scope x) (he : PE X e (tF Z f)) (hs : swapsWith e (some (.Name x pos')) pos.line X.env = pure false := by rfl) (hf : X.fn x = true ∨ X.env.scope.names.lookup x = some .local := by first | exact .inl rfl | exact .inr rfl | assumption) :
    PS X (.Assign [.Name x pos'] e pos) (tS Z (sSetF i f)) := ps_use (ps_set hN hi hx he hs hf) setF_read
theorem vs_asg {tg : Expr} {g : TG} {ft : Va → Ro → M Ro} {is : List Nat} (he : PE X e (tV Z f)) (hg : PG X tg g) (hgs : GS Z g ft is) (hn : ∀ x ρ {Q : Ro → Nat → Prop} {E : Er → Nat → Prop} {n : Nat}, (ft x ρ).run Q E n → (ft x ρ).run (fun r k => k = n ∧ Q r k) E n) (hs : swapsWithSole [tg] e pos.line X.env = pure false := by rfl) (hw : swappedStores [tg] e X.env = pure none := by rfl)
    (h1 : (assignEach [tg] X.env).map (·.2) = [assign tg X.env] := by rfl) : PS X (.Assign [tg] e pos) (tS Z (sTgt ft f)) := ps_use (ps_asg he hg hs hw h1) (asg_read hgs hn)
theorem par_read {i j : Nat} (D : Ends) (σ : L2.St) (H : Hp) (hh : tS Z (sPar i j fa fb) D σ H) : tPar i j (tVs Z (eArgs [fa, fb])) D σ H := by
  obtain ⟨w0, H0, γ, w, n, ρ, s0, re, o, q⟩ := hh
  refine ⟨w0, γ, w, n, ρ, re, o, (fa ρ).mono (fun x n1 hx => (fb ρ).mono (fun y n2 hy vs H1 w1 s1 o1 r1 => ?_) (posE_stp s0) hx) (posE_stp s0) q⟩
  cases r1 with
  | cons r1 r2 =>
    cases r2 with
    | cons r2 r3 =>
      cases r3
      exact ⟨_, _, rfl, hy w1 _ H1 (s0.trans s1) (((re.stp s1 o.ro).set r1).set r2) o1⟩
theorem vs_if {c : Expr} {a b : List Stmt} {t : Ro → M Bool} (hc : PT X c (tVB Z t)) (ha : PSs X a (tS Z g)) (hb : PSs X b (tS Z h)) : PS X (.If c a b pos) (tS Z (sIf t g h)) := by
  refine ps_use (ps_if hc ha hb) fun D σ H ⟨w0, H0, γ, w, n, ρ, s0, re, o, q⟩ => ?_
  refine ⟨w0, γ, w, n, ρ, re, o, (t ρ).mono (fun x n1 hx H1 w1 s1 o1 => ?_) (posE_stp s0) q⟩
  cases x with
  | true => exact iteT ⟨w0, H0, γ, w1, n1, ρ, s0.trans s1, re.stp s1 o.ro, o1, hx⟩
  | false => exact iteF ⟨w0, H0, γ, w1, n1, ρ, s0.trans s1, re.stp s1 o.ro, o1, hx⟩
theorem vs_aug {i : Nat} {x : Str} {pos' : Pos} {op : Operator} {ti : TIp} {k : Va → Va → M Va} (hN : X.N.Nodup) (hi : X.N[i]? = some x) (hx : Loc X.env.scope x) (he : PE X e (tV Z f)) (ho : PIp X op ti) (hr : R2ok Z ti k) (hf : X.fn x = true ∨ X.env.scope.names.lookup x = some .local := by first | exact .inl rfl | exact .inr rfl | assumption) :
    PS X (.AugAssign (.Name x pos') op e pos) (tS Z (sAug i k f)) := by
  refine ps_use (ps_aug hN hi hx he ho hf) fun D σ H ⟨w0, H0, γ, w, n, ρ, s0, re, o, q⟩ => ?_
  unfold sAug eVar at q
  split at q
  · rename_i y hy
    obtain ⟨ov, h1, v, rfl, r⟩ := re.sl _ _ hy
    refine ⟨v, h1, w0, γ, w, n, ρ, re, o, (f ρ).mono (fun z n1 hz u H1 w1 s1 o1 r1 => ?_) (posE_stp s0) q⟩
    refine hr w1 n1 H1 _ v u y z o1 (r.stp s1 o.ro) r1 ((k y z).mono (fun t n2 ht v2 H2 w2 s2 o2 r2 => ?_) (posE_stp (s0.trans s1)) hz)
    exact ht w2 _ H2 ((s0.trans s1).trans s2) (((re.stp s1 o.ro).stp s2 o1.ro).set r2) o2
  · exact q.elim
/-- a name's list grows -/
theorem vs_app {i : Nat} {o : Expr} {apos cpos epos : Pos} (ho : PE X o (tVar i)) (he : PE X e (tV Z f))
    (hpe : ∀ {to : TE} {t : TA}, PE X o to → PA X [e] t → PE X (.Call (.Attribute o "append" apos) [e] [] cpos) (tBM X.K "list" rAppend to t) := by exact fun h1 h2 => pe_bm PySem.F.plainAttrs_list PySem.F.slot_list_append PySem.F.type_list_append mt_append h1 h2)
    (hse : starEach [e] X.env = (false, eval e X.env) :: starEach [] X.env := by rfl) (hs : swapsWith (.Call (.Attribute o "append" apos) [e] [] cpos) none epos.line X.env = pure false := by rfl) : PS X (.Expr (.Call (.Attribute o "append" apos) [e] [] cpos) epos) (tS Z (sApp i f)) := by
  refine ps_use (ps_expr (hpe ho (pa_cons he pa_nil hse)) hs) fun D σ H ⟨w0, H0, γ, w, n, ρ, s0, re, o, q⟩ => ?_
  unfold sApp at q
  split at q
  · rename_i xs hx
    obtain ⟨ov, h1, p, u, rfl, a1, a2, a3, a4, a5, a6⟩ := re.sl _ _ hx
    obtain ⟨vs, rfl⟩ : ∃ vs, u = .lst vs := by
      cases u with
      | lst vs => exact ⟨vs, rfl⟩
      | _ => exact (show False from a6).elim
    have a6 : DqAll Z.K (core H w) vs xs := a6
    refine ⟨_, h1, .inl ⟨rfl, _, .inl (.inl a5)⟩, w0, γ, w, n, ρ, re, o, (f ρ).mono (fun x n1 hx1 v H1 w1 s1 o1 r1 => ?_) (posE_stp s0) q⟩
    obtain ⟨d, rfl, hz, hx1⟩ := kD_run hx1
    have re1 := re.stp s1 o.ro
    have e1 := s1.keep _ _ a5 a2
    have m6 := dpa_same (s1.core o.ro) _ a6
    have n1r : p ∉ w1.reg := fun z => (s1.rgN p z).elim a2 fun y => by rw [a5] at y; cases y
    have n1c : p ∉ w1.cs := fun z => (s1.csN p z).elim a3 fun y => by rw [a5] at y; cases y
    have np : H0 p = none := by
      rcases s0.osN p a1 with z | z
      · exact absurd z a4
      · exact z
    exact ⟨p, vs, v, rfl, rfl, e1, by rw [dpaLen m6]; exact hz, hx1 w1 σ _ ((s0.trans s1).put np) (re1.mut hx h1 (dpaApp m6 (.cons r1 .nil))) (o1.put n1r n1c fun _ z => nomatch z)⟩
  · exact q.elim
theorem vs_for {tg iter : Expr} {body : List Stmt} {fi : Ro → M (List Va)} {tgt : TG} {ft : Va → Ro → M Ro} {is : List Nat} (hp : PassesOwn (model X.prog X.w) X.A X.env X.xe) (hc : X.calm = true) (hi : PI X tg iter (tI Z fi)) (hg : PG X tg tgt) (hgs : GS Z tgt ft is) (hb : PSs X body (tS Z g))
    (hs : ∀ x, foldedSetIterable iter X.env x = pure x := by intro _; rfl) : PS X (.For tg iter body [] pos) (tS Z (sFor fi ft g)) := by
  refine ps_use (ps_for hp hc hi hg hb hs) fun D σ H ⟨w0, H0, γ, w, n, ρ, s0, re, o, q⟩ => ?_
  refine ⟨w0, γ, w, n, ρ, re, o, (fi ρ).mono (fun xs n1 hx J γ' H1 w1 s1 o1 hγ hW => ?_) (posE_stp s0) q⟩
  have reA : RE Z.K w0 (γ' ++ γ) w1 ρ σ H1 := by
    have r := re.stp s1 o.ro
    exact ⟨r.sl, r.un, fun q hq => (List.mem_append.mp hq).elim (hγ q) (r.gh q)⟩
  refine ⟨fun i m σ2 H2 => m = xs.length - i ∧ i ≤ xs.length ∧ ∃ w2 n2 ρ2, Stp w0 H0 w2 H2 ∧ WOk w2 n2 H2 ∧ RE Z.K w0 (γ' ++ γ) w2 ρ2 σ2 H2 ∧ (loopS ft g (xs.drop i) ρ2).run (posS Z w0 H0 γ D) (posE Z w0 H0) n2, ⟨_, rfl, Nat.zero_le _, w1, n1, ρ, s0.trans s1, o1, reA, hx⟩, ?_⟩
  rintro i m σ2 H2 ⟨rfl, hi, w2, n2, ρ2, s2, o2, re2, hrun⟩
  obtain ⟨go, stop, yld⟩ := hW w2 n2 H2 o2 fun q hq => re2.gh q (List.mem_append_left _ hq)
  by_cases hlt : i < xs.length
  · refine .inr ⟨go i hlt, _, fun σ' H' z => ⟨_, Nat.sub_succ_lt_self _ _ hlt, z⟩, fun v H' hy => ?_⟩
    obtain ⟨sm, x, ex, rx⟩ := yld i v H' hlt hy
    have edrop : xs.drop i = x :: xs.drop (i + 1) := by
      rw [List.drop_eq_getElem_cons hlt]
      have := (List.getElem?_eq_some_iff.mp ex).2
      rw [this]
    rw [edrop] at hrun
    have t1 := Stp.of (w := w2) sm
    refine hgs w0 (γ' ++ γ) w2 n2 ρ2 σ2 H' v x _ _ (re2.stp t1 o2.ro) (o2.of sm) rx ((ft x ρ2).mono (fun ρ3 k hk ek σ3 re3 _ => ?_) (fun _ _ z => z) hrun)
    subst ek
    refine ⟨w0, H0, γ' ++ γ, w2, _, ρ3, s2.trans t1, re3, o2.of sm, (g ρ3).mono (fun r n3 hr => ?_) (fun _ _ z => z) hk⟩
    cases r with
    | nx ρ' => exact fun w4 σ4 H4 s4 re4 o4 => ⟨rfl, hlt, w4, n3, ρ', s4, o4, re4, hr⟩
    | ct ρ' => exact fun w4 σ4 H4 s4 re4 o4 => ⟨rfl, hlt, w4, n3, ρ', s4, o4, re4, hr⟩
    | bk ρ' => exact fun w4 σ4 H4 s4 re4 o4 => hr w4 σ4 H4 s4 ⟨re4.sl, re4.un, fun q hq => re4.gh q (List.mem_append_right _ hq)⟩ o4
    | rt y => exact hr
  · have e : i = xs.length := by omega
    subst e
    rw [List.drop_length] at hrun
    exact .inl ⟨stop, hrun w2 σ2 H2 s2 ⟨re2.sl, re2.un, fun q hq => re2.gh q (List.mem_append_right _ hq)⟩ o2⟩
theorem vs_while {c : Expr} {body : List Stmt} {t : Ro → M Bool} {fuel : Nat} (hp : PassesOwn (model X.prog X.w) X.A X.env X.xe) (hc : PT X c (tVB Z t)) (hb : PSs X body (tS Z g)) : PS X (.While c body [] pos) (tS Z (sWhile fuel t g)) := by
  refine ps_use (ps_while hp hc hb) fun D σ H ⟨w0, H0, γ, w, n, ρ, s0, re, o, q⟩ => ?_
  refine ⟨fun m σ2 H2 => ∃ w2 n2 ρ2, Stp w0 H0 w2 H2 ∧ WOk w2 n2 H2 ∧ RE Z.K w0 γ w2 ρ2 σ2 H2 ∧ (whileS t g m ρ2).run (posS Z w0 H0 γ D) (posE Z w0 H0) n2, ⟨fuel, w, n, ρ, s0, o, re, q⟩, ?_⟩
  rintro m σ2 H2 ⟨w2, n2, ρ2, s2, o2, re2, hrun⟩
  cases m with
  | zero => exact hrun.elim
  | succ m =>
    refine ⟨w0, γ, w2, n2, ρ2, re2, o2, (t ρ2).mono (fun b n3 hb H3 w3 s3 o3 => ?_) (posE_stp s2) hrun⟩
    cases b with
    | false => exact iteF (hb w3 σ2 H3 (s2.trans s3) (re2.stp s3 o2.ro) o3)
    | true =>
      refine iteT ⟨_, fun σ' H' z => ⟨m, Nat.lt_succ_self m, z⟩, w0, H0, γ, w3, n3, ρ2, s2.trans s3, re2.stp s3 o2.ro, o3, (g ρ2).mono (fun r n4 hr => ?_) (fun _ _ z => z) hb⟩
      cases r with
      | nx ρ' => exact fun w4 σ4 H4 s4 re4 o4 => ⟨w4, n4, ρ', s4, o4, re4, hr⟩
      | ct ρ' => exact fun w4 σ4 H4 s4 re4 o4 => ⟨w4, n4, ρ', s4, o4, re4, hr⟩
      | bk ρ' => exact hr
      | rt y => exact hr
end
/-! ### a def -/
@[simp] def ro0 (N : Nat) (xs : List Va) : Ro := xs.map Sl.va ++ List.replicate (N - xs.length) .un
@[simp] def endD : Rs → M Va
  | .nx _ => .ret (.da .none)
  | .rt x => .ret x
  | _ => .bad
@[simp] def defM (N : Nat) (g : Ro → M Rs) : List Va → M Va := fun xs => (g (ro0 N xs)).bind endD
theorem repA_at {K : PySem.W.Frag} {C : Hp} {r : List Addr} {vs : List V} {xs : List Va} (h : RepA K C r vs xs) : ∀ {i : Nat} {x : Va}, xs[i]? = some x → ∃ v, vs[i]? = some v ∧ Rep K C r v x := by
  induction h with
  | nil => intro i x e; simp at e
  | cons h _ ih =>
    intro i x e
    cases i with
    | zero =>
      simp at e
      subst e
      exact ⟨_, rfl, h⟩
    | succ i => exact ih (i := i) (by simpa using e)
theorem re_start {K : PySem.W.Frag} {w : Wd} {H : Hp} {N : List Str} {vs : List V} {xs : List Va} (hr : RepA K (core H w) w.reg vs xs) : RE K w [] w (ro0 N.length xs) (L2.start N vs) H := by
  have hl := hr.len
  have at_ : ∀ (i : Nat) s, (ro0 N.length xs)[i]? = some s → (∃ x, s = .va x ∧ xs[i]? = some x) ∨ (s = .un ∧ xs.length ≤ i ∧ i < N.length) := fun i s e => by
    unfold ro0 at e
    by_cases hi : i < xs.length
    · rw [List.getElem?_append_left (by rw [List.length_map]; exact hi), List.getElem?_map] at e
      cases q : xs[i]? with
      | none => rw [q] at e; cases e
      | some x => rw [q] at e; cases e; exact .inl ⟨x, rfl, rfl⟩
    · rw [List.getElem?_append_right (by rw [List.length_map]; omega), List.getElem?_replicate, List.length_map] at e
      split at e
      · cases e; exact .inr ⟨rfl, by omega, by omega⟩
      · cases e
  refine ⟨fun i s e => ?_, fun i j us ys p h1 h2 _ _ => ?_, fun q hq => nomatch hq⟩
  · rcases at_ i s e with ⟨x, rfl, hx⟩ | ⟨rfl, h1, h2⟩
    · obtain ⟨v, hv, r⟩ := repA_at hr hx
      refine ⟨some v, ?_, v, rfl, r⟩
      unfold L2.start
      have : i < vs.length := (List.getElem?_eq_some_iff.mp hv).1
      rw [List.getElem?_append_left (by rw [List.length_map]; exact this), List.getElem?_map, hv]
      rfl
    · refine ⟨none, ?_, trivial⟩
      unfold L2.start
      rw [List.getElem?_append_right (by rw [List.length_map]; omega), List.getElem?_replicate, List.length_map, if_pos (by omega)]
  · rcases at_ i _ h1 with ⟨x, e, _⟩ | ⟨e, _⟩ <;> cases e
theorem vdef {P : Program} {w : World} {K : PySem.W.Frag} {mg : Str → Option Value} {base : Heap} {x qual : Str} {st : Stmt} {f : Addr} {fd : FuncData} {N ps : List Str} {k : Nat} {g : Ro → M Rs} (F : Fun K x qual st f fd) (S : FnScope N ps (defScope st))
    (hb : ∀ (cdv : Value) (A : Around) (outer : List Env) (s : Shared) (H : Hp) (E : XK), Room k (A.deeper (envOfC qual (defScope st) s.heap.objs.size f cdv)) → PSs (cxOf CX0 P w K mg base N qual (defScope st) f cdv A outer s H E).nox (defBody st) (tS ⟨K, mg, E0⟩ g)) :
    FnOk P w K mg base CX0 (k + 1) f fd ps (spV ⟨K, mg, E0⟩ ps.length (defM N.length g)) := by
  refine F.ok S (fun vs H Q E h => h.1) fun cdv A outer s H vs Q E hr h => ⟨_, hb cdv A outer s H E hr, ?_⟩
  obtain ⟨hl, wd, n, xs, o, r, q⟩ := h
  refine ⟨wd, H, [], wd, n, ro0 N.length xs, Stp.refl _ _, re_start r, o, (g _).mono (fun rs n1 hrs => ?_) (fun e n1 he => ?_) q⟩
  · cases rs with
    | nx ρ' => exact fun w1 σ1 H1 s1 re1 o1 => hrs .non H1 w1 s1 o1 .non
    | bk ρ' => exact hrs.elim
    | ct ρ' => exact hrs.elim
    | rt y => exact fun v w1 H1 s1 o1 r1 => hrs v H1 w1 s1 o1 r1
  · exact he.elim
end JN

namespace JN
open TS
/-! ### monomials of d exponents, their sequence, the least ones -/
abbrev B0 : Int := 1099511627776
abbrev cd (p : List Int) : Int := code B0 p
/-- d exponents, none negative, none great -/
def Mon (d : Nat) (p : List Int) : Prop := p.length = d ∧ Bd B0 p
theorem dvd_cons {x y : Int} {l m : List Int} : dvdI (x :: l) (y :: m) = true ↔ x ≤ y ∧ dvdI l m = true := by
  simp [dvdI]
theorem dvd_refl : ∀ p : List Int, dvdI p p = true
  | [] => rfl
  | x :: p => dvd_cons.mpr ⟨Int.le_refl _, dvd_refl p⟩
theorem dvd_trans : ∀ {p q r : List Int}, p.length = q.length → q.length = r.length → dvdI p q = true → dvdI q r = true → dvdI p r = true
  | [], [], [], _, _, _, _ => rfl
  | x :: p, y :: q, z :: r, h1, h2, a, b => by
    obtain ⟨a1, a2⟩ := dvd_cons.mp a
    obtain ⟨b1, b2⟩ := dvd_cons.mp b
    exact dvd_cons.mpr ⟨Int.le_trans a1 b1, dvd_trans (by simpa using h1) (by simpa using h2) a2 b2⟩
theorem cd_le : ∀ {p q : List Int}, p.length = q.length → dvdI p q = true → cd p ≤ cd q
  | [], [], _, _ => Int.le_refl _
  | x :: p, y :: q, h, a => by
    have hl : p.length = q.length := by simpa using h
    obtain ⟨a1, a2⟩ := dvd_cons.mp a
    have ih := cd_le hl a2
    show x * B0 ^ p.length + cd p ≤ y * B0 ^ q.length + cd q
    rw [← hl]
    have pp : (0 : Int) ≤ B0 ^ p.length := Int.pow_nonneg (by decide)
    have := Int.mul_le_mul_of_nonneg_right a1 pp
    omega
theorem cd_inj : ∀ {p q : List Int}, p.length = q.length → Bd B0 p → Bd B0 q → cd p = cd q → p = q
  | [], [], _, _, _, _ => rfl
  | x :: p, y :: q, h, hp, hq, e => by
    have hl : p.length = q.length := by simpa using h
    have exy : x = y := by
      apply Classical.byContradiction
      intro n
      rcases Int.lt_or_gt_of_ne n with c | c
      · exact absurd e (Int.ne_of_lt (code_lt (B := B0) hl hp.tail hq.tail c))
      · exact absurd e.symm (Int.ne_of_lt (code_lt (B := B0) hl.symm hq.tail hp.tail c))
    subst exy
    have e2 : cd p = cd q := by
      have e' : x * B0 ^ p.length + cd p = x * B0 ^ q.length + cd q := e
      rw [hl] at e'
      omega
    rw [cd_inj hl hp.tail hq.tail e2]
theorem dvd_lt {d : Nat} {p q : List Int} (hp : Mon d p) (hq : Mon d q) (h : dvdI p q = true) (n : p ≠ q) : cd p < cd q := by
  have h1 := cd_le (hp.1.trans hq.1.symm) h
  rcases Int.lt_or_eq_of_le h1 with c | c
  · exact c
  · exact absurd (cd_inj (hp.1.trans hq.1.symm) hp.2 hq.2 c) n
theorem cd_nn {d : Nat} {p : List Int} (h : Mon d p) : 0 ≤ cd p := (code_bd p h.2).1
/-- strictly ascending -/
abbrev Asc (R : List (List Int)) : Prop := R.Pairwise fun p q => cd p < cd q
theorem asc_ext {α : Type} {f : α → Int} : ∀ {l m : List α}, l.Pairwise (fun a b => f a < f b) → m.Pairwise (fun a b => f a < f b) → (∀ x, x ∈ l ↔ x ∈ m) → l = m
  | [], [], _, _, _ => rfl
  | [], b :: m, _, _, h => absurd ((h b).mpr List.mem_cons_self) (List.not_mem_nil)
  | a :: l, [], _, _, h => absurd ((h a).mp List.mem_cons_self) (List.not_mem_nil)
  | a :: l, b :: m, hl, hm, h => by
    obtain ⟨l1, l2⟩ := List.pairwise_cons.mp hl
    obtain ⟨m1, m2⟩ := List.pairwise_cons.mp hm
    have eab : a = b := by
      rcases List.mem_cons.mp ((h a).mp List.mem_cons_self) with e | e
      · exact e
      · rcases List.mem_cons.mp ((h b).mpr List.mem_cons_self) with e2 | e2
        · exact e2.symm
        · have := m1 a e
          have := l1 b e2
          omega
    subst eab
    congr 1
    refine asc_ext l2 m2 fun x => ⟨fun hx => ?_, fun hx => ?_⟩
    · rcases List.mem_cons.mp ((h x).mp (List.mem_cons_of_mem _ hx)) with e | e
      · subst e
        have := l1 x hx
        omega
      · exact e
    · rcases List.mem_cons.mp ((h x).mpr (List.mem_cons_of_mem _ hx)) with e | e
      · subst e
        have := m1 x hx
        omega
      · exact e
/-- R lists, ascending, those of ms that no other one divides -/
structure MinOf (ms R : List (List Int)) : Prop where
  asc : Asc R
  mem : ∀ p, p ∈ R ↔ p ∈ ms ∧ ∀ q ∈ ms, dvdI q p = true → q = p
theorem MinOf.uniq {ms ms' R R' : List (List Int)} (a : MinOf ms R) (b : MinOf ms' R') (h : ∀ p, p ∈ ms ↔ p ∈ ms') : R = R' := by
  refine asc_ext a.asc b.asc fun p => ?_
  rw [a.mem, b.mem, h p]
  constructor
  · rintro ⟨h1, h2⟩
    exact ⟨h1, fun q hq => h2 q ((h q).mpr hq)⟩
  · rintro ⟨h1, h2⟩
    exact ⟨h1, fun q hq => h2 q ((h q).mp hq)⟩
theorem MinOf.sub {ms R : List (List Int)} (a : MinOf ms R) {p : List Int} (h : p ∈ R) : p ∈ ms := ((a.mem p).mp h).1
/-- below each one stands a least one -/
theorem min_below {d : Nat} {ms : List (List Int)} (hm : ∀ p ∈ ms, Mon d p) : ∀ (k : Nat) (p : List Int), p ∈ ms → (cd p).toNat ≤ k → ∃ q ∈ ms, dvdI q p = true ∧ ∀ r ∈ ms, dvdI r q = true → r = q := by
  intro k
  induction k with
  | zero =>
    intro p hp hk
    refine ⟨p, hp, dvd_refl p, fun r hr hd => ?_⟩
    apply Classical.byContradiction
    intro n
    have := dvd_lt (hm r hr) (hm p hp) hd n
    have := cd_nn (hm r hr)
    omega
  | succ k ih =>
    intro p hp hk
    rcases Classical.em (∀ r ∈ ms, dvdI r p = true → r = p) with c | c
    · exact ⟨p, hp, dvd_refl p, c⟩
    · obtain ⟨r, hr⟩ := Classical.not_forall.mp c
      obtain ⟨hr1, hr2⟩ := Classical.not_imp.mp hr
      obtain ⟨hr2, hr3⟩ := Classical.not_imp.mp hr2
      have := dvd_lt (hm r hr1) (hm p hp) hr2 hr3
      have := cd_nn (hm r hr1)
      obtain ⟨q, q1, q2, q3⟩ := ih r hr1 (by omega)
      exact ⟨q, q1, dvd_trans ((hm q q1).1.trans (hm r hr1).1.symm) ((hm r hr1).1.trans (hm p hp).1.symm) q2 hr2, q3⟩
theorem MinOf.below {d : Nat} {ms R : List (List Int)} (a : MinOf ms R) (hm : ∀ p ∈ ms, Mon d p) {p : List Int} (h : p ∈ ms) : ∃ q ∈ R, dvdI q p = true := by
  obtain ⟨q, h1, h2, h3⟩ := min_below hm _ p h (Nat.le_refl _)
  exact ⟨q, (a.mem q).mpr ⟨h1, h3⟩, h2⟩
/-- lies in the ideal -/
def inG (gs : List (List Int)) (c : List Int) : Bool := gs.any fun g => dvdI g c
theorem inG_iff {gs : List (List Int)} {c : List Int} : inG gs c = true ↔ ∃ g ∈ gs, dvdI g c = true := by
  simp [inG]
theorem MinOf.inG {d : Nat} {ms R : List (List Int)} (a : MinOf ms R) (hm : ∀ p ∈ ms, Mon d p) {c : List Int} (hc : c.length = d) : inG R c = inG ms c := by
  rw [Bool.eq_iff_iff, inG_iff, inG_iff]
  constructor
  · rintro ⟨g, h1, h2⟩
    exact ⟨g, a.sub h1, h2⟩
  · rintro ⟨g, h1, h2⟩
    obtain ⟨q, q1, q2⟩ := a.below hm h1
    exact ⟨q, q1, dvd_trans ((hm q (a.sub q1)).1.trans (hm g h1).1.symm) ((hm g h1).1.trans hc.symm) q2 h2⟩
/-- an ascending list of which none divides another one is its own least ones, and those of all that lie above and hold it -/
theorem MinOf.of {d : Nat} {ms A : List (List Int)} (hA : Asc A) (self : ∀ p ∈ A, ∀ q ∈ A, dvdI q p = true → q = p) (hm : ∀ p ∈ ms, Mon d p) (sub : ∀ p ∈ A, p ∈ ms) (above : ∀ p ∈ ms, ∃ q ∈ A, dvdI q p = true) : MinOf ms A := by
  refine ⟨hA, fun p => ⟨fun hp => ⟨sub p hp, fun q hq hd => ?_⟩, fun h => ?_⟩⟩
  · obtain ⟨r, r1, r2⟩ := above q hq
    have hl1 := (hm r (sub r r1)).1.trans (hm q hq).1.symm
    have hl2 := (hm q hq).1.trans (hm p (sub p hp)).1.symm
    have e := self p hp r r1 (dvd_trans hl1 hl2 r2 hd)
    subst e
    apply Classical.byContradiction
    intro n
    have a1 := dvd_lt (hm q hq) (hm r (sub r r1)) hd n
    have a2 := cd_le hl1 r2
    omega
  · obtain ⟨r, r1, r2⟩ := above p h.1
    have e := h.2 r (sub r r1) r2
    subst e
    exact r1
theorem MinOf.self {ms R : List (List Int)} (a : MinOf ms R) : ∀ p ∈ R, ∀ q ∈ R, dvdI q p = true → q = p := fun p hp q hq h => ((a.mem p).mp hp).2 q (a.sub hq) h
/-- an ideal's generators: ascending, none divides another one -/
structure Gens (d : Nat) (R : List (List Int)) : Prop where
  asc : Asc R
  mon : ∀ p ∈ R, Mon d p
  self : ∀ p ∈ R, ∀ q ∈ R, dvdI q p = true → q = p
theorem MinOf.gens {d : Nat} {ms R : List (List Int)} (a : MinOf ms R) (hm : ∀ p ∈ ms, Mon d p) : Gens d R := ⟨a.asc, fun p hp => hm p (a.sub hp), a.self⟩
theorem Gens.min {d : Nat} {ms A : List (List Int)} (g : Gens d A) (hm : ∀ p ∈ ms, Mon d p) (sub : ∀ p ∈ A, p ∈ ms) (above : ∀ p ∈ ms, ∃ q ∈ A, dvdI q p = true) : MinOf ms A := MinOf.of g.asc g.self hm sub above
/-- the greedy way: one after another, kept if no kept one divides it -/
def grd : List (List Int) → List (List Int) → List (List Int)
  | acc, [] => acc
  | acc, x :: r => grd (if inG acc x = true then acc else acc ++ [x]) r
theorem grd_step {d : Nat} {pre acc : List (List Int)} {x : List Int} (a : MinOf pre acc) (hm : ∀ p ∈ pre, Mon d p) (hx : Mon d x) (hlt : ∀ p ∈ pre, cd p < cd x) : MinOf (pre ++ [x]) (if inG acc x = true then acc else acc ++ [x]) := by
  have nx : ∀ p ∈ pre, ¬ dvdI x p = true := fun p hp h => by
    have := cd_le (hx.1.trans (hm p hp).1.symm) h
    have := hlt p hp
    omega
  have old : ∀ p, p ∈ acc ↔ p ∈ pre ∧ ∀ q ∈ pre ++ [x], dvdI q p = true → q = p := fun p => by
    rw [a.mem]
    constructor
    · rintro ⟨h1, h2⟩
      refine ⟨h1, fun q hq hd => ?_⟩
      rcases List.mem_append.mp hq with h | h
      · exact h2 q h hd
      · rw [List.mem_singleton.mp h] at hd
        exact absurd hd (nx p h1)
    · rintro ⟨h1, h2⟩
      exact ⟨h1, fun q hq => h2 q (List.mem_append_left _ hq)⟩
  by_cases c : inG acc x = true
  · rw [if_pos c]
    refine ⟨a.asc, fun p => ?_⟩
    rw [old]
    constructor
    · rintro ⟨h1, h2⟩
      exact ⟨List.mem_append_left _ h1, h2⟩
    · rintro ⟨h1, h2⟩
      rcases List.mem_append.mp h1 with h | h
      · exact ⟨h, h2⟩
      · have e := List.mem_singleton.mp h
        subst e
        obtain ⟨g, g1, g2⟩ := inG_iff.mp c
        have := h2 g (List.mem_append_left _ (a.sub g1)) g2
        subst this
        exact ⟨a.sub g1, h2⟩
  · rw [if_neg c]
    refine ⟨?_, fun p => ?_⟩
    · refine List.pairwise_append.mpr ⟨a.asc, List.pairwise_singleton _ _, fun p hp q hq => ?_⟩
      rw [List.mem_singleton.mp hq]
      exact hlt p (a.sub hp)
    · rw [List.mem_append, List.mem_singleton, old]
      constructor
      · rintro (⟨h1, h2⟩ | e)
        · exact ⟨List.mem_append_left _ h1, h2⟩
        · subst e
          refine ⟨List.mem_append_right _ (List.mem_singleton.mpr rfl), fun q hq hd => ?_⟩
          rcases List.mem_append.mp hq with h | h
          · obtain ⟨g, g1, g2⟩ := a.below hm h
            exact absurd (inG_iff.mpr ⟨g, g1, dvd_trans ((hm g (a.sub g1)).1.trans (hm q h).1.symm) ((hm q h).1.trans hx.1.symm) g2 hd⟩) c
          · exact List.mem_singleton.mp h
      · rintro ⟨h1, h2⟩
        rcases List.mem_append.mp h1 with h | h
        · exact .inl ⟨h, h2⟩
        · exact .inr (List.mem_singleton.mp h)
/-- the filter's way -/
theorem min_filter {d : Nat} {L : List (List Int)} (hL : Asc L) : MinOf L (L.filter fun a => decide (L.filter (fun b => !decide (b = a) && dvdI b a) = [])) := by
  refine ⟨hL.filter _, fun p => ?_⟩
  rw [List.mem_filter, decide_eq_true_iff, List.filter_eq_nil_iff]
  constructor
  · rintro ⟨h1, h2⟩
    refine ⟨h1, fun q hq hd => ?_⟩
    have := h2 q hq
    apply Classical.byContradiction
    intro n
    apply this
    rw [hd, decide_eq_false n]
    rfl
  · rintro ⟨h1, h2⟩
    refine ⟨h1, fun q hq h => ?_⟩
    rw [Bool.and_eq_true] at h
    have := h2 q hq h.2
    rw [decide_eq_true this] at h
    exact absurd h.1 (by decide)
/-- from the sort's words: by the code, each once -/
theorem asc_of {α : Type} {f : α → List Int} {d : Nat} {L : List α} (hm : ∀ p ∈ L, Mon d (f p)) (hn : (L.map f).Nodup) (hp : L.Pairwise fun p q => cd (f p) ≤ cd (f q)) : Asc (L.map f) := by
  induction L with
  | nil => exact .nil
  | cons a L ih =>
    obtain ⟨h1, h2⟩ := List.pairwise_cons.mp hp
    rw [List.map_cons] at hn ⊢
    obtain ⟨n1, n2⟩ := List.nodup_cons.mp hn
    refine List.pairwise_cons.mpr ⟨fun q hq => ?_, ih (fun p hp => hm p (List.mem_cons_of_mem _ hp)) n2 h2⟩
    obtain ⟨b, hb, rfl⟩ := List.mem_map.mp hq
    rcases Int.lt_or_eq_of_le (h1 b hb) with c | c
    · exact c
    · have ma := hm a List.mem_cons_self
      have mb := hm b (List.mem_cons_of_mem _ hb)
      exact absurd (cd_inj (ma.1.trans mb.1.symm) ma.2 mb.2 c ▸ hq) n1
/-! sums, meets, products: which monomials lie in them -/
theorem lcm_dvd : ∀ {a b c : List Int}, a.length = c.length → b.length = c.length → (dvdI (List.zipWith mxI a b) c = true ↔ dvdI a c = true ∧ dvdI b c = true)
  | [], [], [], _, _ => by simp [dvdI]
  | [], _ :: _, [], _, h2 => by simp at h2
  | [], _ :: _, _ :: _, h1, _ => by simp at h1
  | _ :: _, [], [], h1, _ => by simp at h1
  | _ :: _, [], _ :: _, _, h2 => by simp at h2
  | x :: a, y :: b, z :: c, h1, h2 => by
    rw [List.zipWith_cons_cons, dvd_cons, dvd_cons, dvd_cons, lcm_dvd (by simpa using h1) (by simpa using h2)]
    have : mxI x y ≤ z ↔ x ≤ z ∧ y ≤ z := by
      unfold mxI
      split <;> omega
    rw [this]
    constructor
    · rintro ⟨⟨a1, a2⟩, a3, a4⟩; exact ⟨⟨a1, a3⟩, a2, a4⟩
    · rintro ⟨⟨a1, a3⟩, a2, a4⟩; exact ⟨⟨a1, a2⟩, a3, a4⟩
theorem lcm_dvd_times : ∀ {a b : List Int}, a.length = b.length → Bd B0 a → Bd B0 b → dvdI (List.zipWith mxI a b) (List.zipWith (· + ·) a b) = true
  | [], [], _, _, _ => rfl
  | [], _ :: _, h, _, _ => by simp at h
  | _ :: _, [], h, _, _ => by simp at h
  | x :: a, y :: b, h, h1, h2 => by
    rw [List.zipWith_cons_cons, List.zipWith_cons_cons, dvd_cons]
    refine ⟨?_, lcm_dvd_times (by simpa using h) h1.tail h2.tail⟩
    have := h1.head
    have := h2.head
    unfold mxI
    split <;> omega
theorem dvd_lcm_left : ∀ {a b : List Int}, a.length = b.length → dvdI a (List.zipWith mxI a b) = true
  | [], [], _ => rfl
  | x :: a, y :: b, h => by
    rw [List.zipWith_cons_cons, dvd_cons]
    refine ⟨?_, dvd_lcm_left (by simpa using h)⟩
    unfold mxI
    split <;> omega
theorem lcm_self : ∀ a : List Int, List.zipWith mxI a a = a
  | [] => rfl
  | x :: a => by
    rw [List.zipWith_cons_cons, lcm_self a]
    congr 1
    unfold mxI
    split <;> omega
theorem lcm_zero : ∀ {a : List Int}, Bd B0 a → List.zipWith mxI a (List.replicate a.length 0) = a
  | [], _ => rfl
  | x :: a, h => by
    rw [List.length_cons, List.replicate_succ, List.zipWith_cons_cons, lcm_zero h.tail]
    congr 1
    have := h.head
    unfold mxI
    split <;> omega
theorem times_zero : ∀ a : List Int, List.zipWith (· + ·) a (List.replicate a.length 0) = a
  | [] => rfl
  | x :: a => by
    rw [List.length_cons, List.replicate_succ, List.zipWith_cons_cons, times_zero a]
    congr 1
    exact Int.add_zero x
theorem add_comm' (x y : Int) : x + y = y + x := Int.add_comm x y
end JN

set_option maxRecDepth 100000
set_option maxHeartbeats 4000000
namespace JN
open PySem PySem.Spec PyProof.Rows L2
/-! ### built-in functions -/
@[simp] def e1s (k : List Va → M Va) (gs : List (Ro → M Va)) : Ro → M Va := fun ρ => (eArgs gs ρ).bind k
def CQok (Z : Zc) (r : List V → Hp → VK → Prop) (k : List Va → M Va) : Prop := ∀ (w : Wd) (n : Nat) (H : Hp) (Q : VK) (vs : List V) (xs : List Va), WOk w n H → RepQA Z.K H w vs xs → (k xs).run (post Z w H Q) (posE Z w H) n → r vs H Q
def CQokF (Z : Zc) (r : List V → Hp → VK → Prop) (k : List Va → M (List PyData)) : Prop := ∀ (w : Wd) (n : Nat) (H : Hp) (Q : VK) (vs : List V) (xs : List Va), WOk w n H → RepQA Z.K H w vs xs → (k xs).run (posF Z w H Q) (posE Z w H) n → r vs H Q
@[simp] def e1sF (k : List Va → M (List PyData)) (gs : List (Ro → M Va)) : Ro → M (List PyData) := fun ρ => (eArgs gs ρ).bind k
theorem posF_stp {Z : Zc} {w w' : Wd} {H H' : Hp} {Q : VK} (s : Stp w H w' H') : ∀ x k, posF Z w H Q x k → posF Z w' H' Q x k := fun x k h p vs H2 w2 s2 o np => h p vs H2 w2 (s.trans s2) o (free_of s np)
section
variable {X : Cx} {Z : Zc} {e : Expr} {es : List Expr} {gs : List (Ro → M Va)} {x : Str} {p pos : Pos} {id T : String} {r : List V → Hp → VK → Prop}
theorem ve_bi {k : List Va → M Va} (hc : CallR X (.builtin id) r) (hk : CQok Z r k) (hg : Gl X x) (hm : X.mg x = none) (hv : bootBuiltins x = some (.builtin id)) (ha : PA X (e :: es) (tQs Z (eArgs gs))) (hn : x ≠ "__name__" := by decide) (hdb : (x == ("__debug__" : Str)) = false := by decide)
    (he : starEach (e :: es) X.env = (false, eval e X.env) :: starEach es X.env := by rfl) (hpl : (backTo pos (starEach es X.env)).any (·.1) = false := by rfl) : PE X (.Call (.Name x p) (e :: es) [] pos) (tV Z (e1s k gs)) := by
  refine pe_use (pe_callB hc hg hm hv ha hn hdb he hpl) fun σ H Q ⟨w0, γ, w, n, ρ, re, o, q⟩ => ?_
  exact ⟨w0, γ, w, n, ρ, re, o, (eArgs gs ρ).mono (fun xs n1 hx vs H1 w1 s1 o1 r1 => hk w1 n1 H1 Q vs xs o1 r1 ((k xs).mono (post_stp s1) (posE_stp s1) hx)) (fun _ _ z => z) q⟩
theorem ve_ty {k : List Va → M Va} (hc : CallR X (.type T) r) (hk : CQok Z r k) (hg : Gl X x) (hm : X.mg x = none) (hv : bootBuiltins x = some (.type T)) (ha : PA X (e :: es) (tQs Z (eArgs gs))) (hn : x ≠ "__name__" := by decide) (hdb : (x == ("__debug__" : Str)) = false := by decide)
    (he : starEach (e :: es) X.env = (false, eval e X.env) :: starEach es X.env := by rfl) (hpl : (backTo pos (starEach es X.env)).any (·.1) = false := by rfl) : PE X (.Call (.Name x p) (e :: es) [] pos) (tV Z (e1s k gs)) := by
  refine pe_use (pe_callTy hc hg hm hv ha hn hdb he hpl) fun σ H Q ⟨w0, γ, w, n, ρ, re, o, q⟩ => ?_
  exact ⟨w0, γ, w, n, ρ, re, o, (eArgs gs ρ).mono (fun xs n1 hx vs H1 w1 s1 o1 r1 => hk w1 n1 H1 Q vs xs o1 r1 ((k xs).mono (post_stp s1) (posE_stp s1) hx)) (fun _ _ z => z) q⟩
theorem vf_bi {k : List Va → M (List PyData)} (hc : CallR X (.builtin id) r) (hk : CQokF Z r k) (hg : Gl X x) (hm : X.mg x = none) (hv : bootBuiltins x = some (.builtin id)) (ha : PA X (e :: es) (tQs Z (eArgs gs))) (hn : x ≠ "__name__" := by decide) (hdb : (x == ("__debug__" : Str)) = false := by decide)
    (he : starEach (e :: es) X.env = (false, eval e X.env) :: starEach es X.env := by rfl) (hpl : (backTo pos (starEach es X.env)).any (·.1) = false := by rfl) : PE X (.Call (.Name x p) (e :: es) [] pos) (tF Z (e1sF k gs)) := by
  refine pe_use (pe_callB hc hg hm hv ha hn hdb he hpl) fun σ H Q ⟨w0, γ, w, n, ρ, re, o, q⟩ => ?_
  exact ⟨w0, γ, w, n, ρ, re, o, (eArgs gs ρ).mono (fun xs n1 hx vs H1 w1 s1 o1 r1 => hk w1 n1 H1 Q vs xs o1 r1 ((k xs).mono (posF_stp s1) (posE_stp s1) hx)) (fun _ _ z => z) q⟩
theorem vf_ty {k : List Va → M (List PyData)} (hc : CallR X (.type T) r) (hk : CQokF Z r k) (hg : Gl X x) (hm : X.mg x = none) (hv : bootBuiltins x = some (.type T)) (ha : PA X (e :: es) (tQs Z (eArgs gs))) (hn : x ≠ "__name__" := by decide) (hdb : (x == ("__debug__" : Str)) = false := by decide)
    (he : starEach (e :: es) X.env = (false, eval e X.env) :: starEach es X.env := by rfl) (hpl : (backTo pos (starEach es X.env)).any (·.1) = false := by rfl) : PE X (.Call (.Name x p) (e :: es) [] pos) (tF Z (e1sF k gs)) := by
  refine pe_use (pe_callTy hc hg hm hv ha hn hdb he hpl) fun σ H Q ⟨w0, γ, w, n, ρ, re, o, q⟩ => ?_
  exact ⟨w0, γ, w, n, ρ, re, o, (eArgs gs ρ).mono (fun xs n1 hx vs H1 w1 s1 o1 r1 => hk w1 n1 H1 Q vs xs o1 r1 ((k xs).mono (posF_stp s1) (posE_stp s1) hx)) (fun _ _ z => z) q⟩
end
/-! what they give -/
@[simp] def kLen : List Va → M Va
  | [.da (.list ds)] => .ret (.da (.int ds.length))
  | [.da (.tuple ds)] => .ret (.da (.int ds.length))
  | _ => .bad
@[simp] def kTuple : List Va → M Va
  | [.da (.list ds)] => .ret (.da (.tuple ds))
  | [.da (.tuple ds)] => .ret (.da (.tuple ds))
  | _ => .bad
@[simp] def kList : List Va → M (List PyData)
  | [.da (.list ds)] => .ret ds
  | [.da (.tuple ds)] => .ret ds
  | _ => .bad
@[simp] def kInt1 : List Va → M Va
  | [.da (.int i)] => .ret (.da (.int i))
  | [.da (.bool b)] => .ret (.da (.int (if b then 1 else 0)))
  | _ => .bad
@[simp] def kMax2 : List Va → M Va
  | [.da (.int i), .da (.int j)] => .ret (.da (.int (if j > i then j else i)))
  | _ => .bad
@[simp] def kMin2 : List Va → M Va
  | [.da (.int i), .da (.int j)] => .ret (.da (.int (if j < i then j else i)))
  | _ => .bad
def intsD : List PyData → Option (List Int)
  | [] => some []
  | .int i :: r => (intsD r).map (i :: ·)
  | _ :: _ => none
def boolsD : List PyData → Option (List Bool)
  | [] => some []
  | .bool i :: r => (boolsD r).map (i :: ·)
  | _ :: _ => none
theorem intsD_map (ns : List Int) : intsD (ns.map .int) = some ns := by
  induction ns with
  | nil => rfl
  | cons n ns ih => rw [List.map_cons, intsD, ih]; rfl
theorem boolsD_map (ns : List Bool) : boolsD (ns.map .bool) = some ns := by
  induction ns with
  | nil => rfl
  | cons n ns ih => rw [List.map_cons, boolsD, ih]; rfl
theorem intsD_eq : ∀ {ds : List PyData} {ns : List Int}, intsD ds = some ns → ds = ns.map .int
  | [], ns, h => by cases h; rfl
  | .int i :: r, ns, h => by
    unfold intsD at h
    cases q : intsD r with
    | none => rw [q] at h; cases h
    | some ms => rw [q] at h; cases h; rw [intsD_eq q]; rfl
  | .none :: r, ns, h => by cases h
  | .bool _ :: r, ns, h => by cases h
  | .str _ :: r, ns, h => by cases h
  | .list _ :: r, ns, h => by cases h
  | .tuple _ :: r, ns, h => by cases h
  | .dict _ :: r, ns, h => by cases h
theorem boolsD_eq : ∀ {ds : List PyData} {ns : List Bool}, boolsD ds = some ns → ds = ns.map .bool
  | [], ns, h => by cases h; rfl
  | .bool i :: r, ns, h => by
    unfold boolsD at h
    cases q : boolsD r with
    | none => rw [q] at h; cases h
    | some ms => rw [q] at h; cases h; rw [boolsD_eq q]; rfl
  | .none :: r, ns, h => by cases h
  | .int _ :: r, ns, h => by cases h
  | .str _ :: r, ns, h => by cases h
  | .list _ :: r, ns, h => by cases h
  | .tuple _ :: r, ns, h => by cases h
  | .dict _ :: r, ns, h => by cases h
theorem dpa_ints {K : PySem.W.Frag} {C : Hp} : ∀ {ns : List Int} {vs : List V}, DqAll K C vs (ns.map .int) → vs = ns.map V.int
  | [], _, h => by cases h; rfl
  | n :: ns, _, h => by
    cases h with
    | cons h1 h2 => cases h1; rw [dpa_ints h2]; rfl
theorem dpa_bools {K : PySem.W.Frag} {C : Hp} : ∀ {ns : List Bool} {vs : List V}, DqAll K C vs (ns.map .bool) → vs = ns.map V.bl
  | [], _, h => by cases h; rfl
  | n :: ns, _, h => by
    cases h with
    | cons h1 h2 => cases h1; rw [dpa_bools h2]; rfl
def kSum : List Va → M Va
  | [.da (.list ds)] => match intsD ds with | some ns => .ret (.da (.int ns.sum)) | none => .bad
  | [.da (.tuple ds)] => match intsD ds with | some ns => .ret (.da (.int ns.sum)) | none => .bad
  | _ => .bad
def kAll : List Va → M Va
  | [.da (.list ds)] => match boolsD ds with | some ns => .ret (.da (.bool (ns.all id))) | none => .bad
  | _ => .bad
def kAny : List Va → M Va
  | [.da (.list ds)] => match boolsD ds with | some ns => .ret (.da (.bool (ns.any id))) | none => .bad
  | _ => .bad
/-- the greatest (least) one -/
def mxL : List Int → Int
  | [] => 0
  | a :: r => r.foldl max a
def mnL : List Int → Int
  | [] => 0
  | a :: r => r.foldl min a
theorem foldl_max_ge (l : List Int) : ∀ a, a ≤ l.foldl max a ∧ (∀ x ∈ l, x ≤ l.foldl max a) ∧ (l.foldl max a = a ∨ l.foldl max a ∈ l) := by
  induction l with
  | nil => intro a; exact ⟨Int.le_refl _, (fun x h => nomatch h), .inl rfl⟩
  | cons b l ih =>
    intro a
    obtain ⟨h1, h2, h3⟩ := ih (max a b)
    refine ⟨by show a ≤ l.foldl max (max a b); omega, fun x h => ?_, ?_⟩
    · rcases List.mem_cons.mp h with e | e
      · show x ≤ l.foldl max (max a b); omega
      · exact h2 x e
    · show l.foldl max (max a b) = a ∨ _
      rcases h3 with e | e
      · by_cases hb : a ≤ b
        · exact .inr (by show l.foldl max (max a b) ∈ _; rw [e, show max a b = b by omega]; exact List.mem_cons_self)
        · exact .inl (by rw [e]; omega)
      · exact .inr (List.mem_cons_of_mem _ e)
theorem foldl_min_le (l : List Int) : ∀ a, l.foldl min a ≤ a ∧ (∀ x ∈ l, l.foldl min a ≤ x) ∧ (l.foldl min a = a ∨ l.foldl min a ∈ l) := by
  induction l with
  | nil => intro a; exact ⟨Int.le_refl _, (fun x h => nomatch h), .inl rfl⟩
  | cons b l ih =>
    intro a
    obtain ⟨h1, h2, h3⟩ := ih (min a b)
    refine ⟨by show l.foldl min (min a b) ≤ a; omega, fun x h => ?_, ?_⟩
    · rcases List.mem_cons.mp h with e | e
      · show l.foldl min (min a b) ≤ x; omega
      · exact h2 x e
    · show l.foldl min (min a b) = a ∨ _
      rcases h3 with e | e
      · by_cases hb : b ≤ a
        · exact .inr (by show l.foldl min (min a b) ∈ _; rw [e, show min a b = b by omega]; exact List.mem_cons_self)
        · exact .inl (by rw [e]; omega)
      · exact .inr (List.mem_cons_of_mem _ e)
theorem mxL_eq {l : List Int} {m : Int} (h : m ∈ l) (g : ∀ y ∈ l, y ≤ m) : m = mxL l := by
  cases l with
  | nil => cases h
  | cons a r =>
    obtain ⟨h1, h2, h3⟩ := foldl_max_ge r a
    have le : m ≤ mxL (a :: r) := by
      rcases List.mem_cons.mp h with e | e
      · rw [e]; exact h1
      · exact h2 m e
    have mem : mxL (a :: r) ∈ a :: r := by
      rcases h3 with e | e
      · show r.foldl max a ∈ _; rw [e]; exact List.mem_cons_self
      · exact List.mem_cons_of_mem _ e
    have := g _ mem
    omega
theorem mnL_eq {l : List Int} {m : Int} (h : m ∈ l) (g : ∀ y ∈ l, m ≤ y) : m = mnL l := by
  cases l with
  | nil => cases h
  | cons a r =>
    obtain ⟨h1, h2, h3⟩ := foldl_min_le r a
    have le : mnL (a :: r) ≤ m := by
      rcases List.mem_cons.mp h with e | e
      · rw [e]; exact h1
      · exact h2 m e
    have mem : mnL (a :: r) ∈ a :: r := by
      rcases h3 with e | e
      · show r.foldl min a ∈ _; rw [e]; exact List.mem_cons_self
      · exact List.mem_cons_of_mem _ e
    have := g _ mem
    omega
def kMx (b : Bool) : List Va → M Va
  | [.da (.list ds)] => if b then .bad else match intsD ds with | some ns => (M.req (0 < ns.length)).bind fun _ => .ret (.da (.int (mxL ns))) | none => .bad
  | [.da (.tuple ds)] => if b then (match intsD ds with | some ns => (M.req (0 < ns.length)).bind fun _ => .ret (.da (.int (mxL ns))) | none => .bad) else .bad
  | _ => .bad
def kMnL : List Va → M Va
  | [.da (.list ds)] => match intsD ds with | some ns => (M.req (0 < ns.length)).bind fun _ => .ret (.da (.int (mnL ns))) | none => .bad
  | _ => .bad
section
variable {X : Cx} {Z : Zc}
theorem posQ_now {w : Wd} {n : Nat} {H : Hp} {Q : VK} {x : Va} {v : V} (h : post Z w H Q x n) (o : WOk w n H) (hs : ∀ C r, Rep Z.K C r v x) : Q v H := post_now h o (hs _ _)
theorem repq1 {K : PySem.W.Frag} {H : Hp} {w : Wd} {vs : List V} {x : Va} (h : RepQA K H w vs [x]) : ∃ v, vs = [v] ∧ RepQ K H w v x := by
  cases h with
  | cons h1 h2 => cases h2; exact ⟨_, rfl, h1⟩
theorem repq2 {K : PySem.W.Frag} {H : Hp} {w : Wd} {vs : List V} {x y : Va} (h : RepQA K H w vs [x, y]) : ∃ v u, vs = [v, u] ∧ RepQ K H w v x ∧ RepQ K H w u y := by
  cases h with
  | cons h1 h2 =>
    cases h2 with
    | cons h2 h3 => cases h3; exact ⟨_, _, rfl, h1, h2⟩
theorem ck_len (hZ : Z.K = X.K) : CQok Z (fun xs H Q => ∃ p ys, xs = [.ref p] ∧ (SqL X.K H p ys ∨ SqT X.K H p ys) ∧ Q (.int ys.length) H) kLen := by
  intro w n H Q vs xs o r h
  unfold kLen at h
  split at h
  · obtain ⟨v, rfl, q1⟩ := repq1 r
    obtain ⟨p, us, rfl, h1, h2⟩ := q1.list
    exact ⟨p, us, rfl, .inl (hZ ▸ h1), by rw [dpaLen h2]; exact post_now h o (.int _)⟩
  · obtain ⟨v, rfl, q1⟩ := repq1 r
    obtain ⟨p, us, rfl, h1, h2⟩ := q1.tuple
    exact ⟨p, us, rfl, .inr (hZ ▸ h1), by rw [dpaLen h2]; exact post_now h o (.int _)⟩
  · exact h.elim
theorem ck_tuple (hZ : Z.K = X.K) : CQok Z (fun xs H Q => ∃ p ys, xs = [.ref p] ∧ ((SqL X.K H p ys ∧ ∀ l, H l = none → Q (.ref l) (upd H l (.tup ys))) ∨ (SqT X.K H p ys ∧ Q (.ref p) H))) kTuple := by
  intro w n H Q vs xs o r h
  unfold kTuple at h
  split at h
  · obtain ⟨v, rfl, q1⟩ := repq1 r
    obtain ⟨p, us, rfl, h1, h2⟩ := q1.list
    exact ⟨p, us, rfl, .inl ⟨hZ ▸ h1, fun l nl => post_tup h o nl h2⟩⟩
  · obtain ⟨v, rfl, q1⟩ := repq1 r
    obtain ⟨p, us, rfl, h1, h2⟩ := q1.tuple
    refine ⟨p, us, rfl, .inr ⟨hZ ▸ h1, post_now h o ?_⟩⟩
    rcases q1 with q1 | ⟨_, _, _, _, e, _⟩
    · exact q1
    · cases e
  · exact h.elim
theorem ck_list (hZ : Z.K = X.K) : CQokF Z (fun xs H Q => ∃ p ys, xs = [.ref p] ∧ (SqL X.K H p ys ∨ SqT X.K H p ys) ∧ ∀ l, H l = none → Q (.ref l) (upd H l (.lst ys))) kList := by
  intro w n H Q vs xs o r h
  unfold kList at h
  split at h
  · obtain ⟨v, rfl, q1⟩ := repq1 r
    obtain ⟨p, us, rfl, h1, h2⟩ := q1.list
    exact ⟨p, us, rfl, .inl (hZ ▸ h1), fun l nl => posF_new h o nl h2⟩
  · obtain ⟨v, rfl, q1⟩ := repq1 r
    obtain ⟨p, us, rfl, h1, h2⟩ := q1.tuple
    exact ⟨p, us, rfl, .inr (hZ ▸ h1), fun l nl => posF_new h o nl h2⟩
  · exact h.elim
theorem ck_int : CQok Z (fun xs H Q => (∃ i, xs = [.int i] ∧ Q (.int i) H) ∨ ∃ k, xs = [.bl k] ∧ Q (.int (if k then 1 else 0)) H) kInt1 := by
  intro w n H Q vs xs o r h
  unfold kInt1 at h
  split at h
  · obtain ⟨v, rfl, q1⟩ := repq1 r
    have := q1.dp
    cases this
    exact .inl ⟨_, rfl, post_now h o (.int _)⟩
  · obtain ⟨v, rfl, q1⟩ := repq1 r
    have := q1.dp
    cases this
    exact .inr ⟨_, rfl, post_now h o (.int _)⟩
  · exact h.elim
theorem ck_max2 : CQok Z (fun xs H Q => ∃ i j, xs = [.int i, .int j] ∧ Q (.int (if j > i then j else i)) H) kMax2 := by
  intro w n H Q vs xs o r h
  unfold kMax2 at h
  split at h
  · obtain ⟨v, u, rfl, r1, r2⟩ := repq2 r
    have := r1.dp
    cases this
    have := r2.dp
    cases this
    exact ⟨_, _, rfl, post_now h o (.int _)⟩
  · exact h.elim
theorem ck_min2 : CQok Z (fun xs H Q => ∃ i j, xs = [.int i, .int j] ∧ Q (.int (if j < i then j else i)) H) kMin2 := by
  intro w n H Q vs xs o r h
  unfold kMin2 at h
  split at h
  · obtain ⟨v, u, rfl, r1, r2⟩ := repq2 r
    have := r1.dp
    cases this
    have := r2.dp
    cases this
    exact ⟨_, _, rfl, post_now h o (.int _)⟩
  · exact h.elim
theorem ck_sumL (hZ : Z.K = X.K) : CQok Z (fun xs H Q => rSum X.K xs H Q ∨ rSumT X.K xs H Q) kSum := by
  intro w n H Q vs xs o r h
  unfold kSum at h
  split at h
  · split at h
    · rename_i ns hn
      obtain ⟨v, rfl, q1⟩ := repq1 r
      obtain ⟨p, us, rfl, h1, h2⟩ := q1.list
      rw [intsD_eq hn] at h2
      rw [dpa_ints h2] at h1
      exact .inl ⟨p, ns, rfl, hZ ▸ h1, post_now h o (.int _)⟩
    · exact h.elim
  · split at h
    · rename_i ns hn
      obtain ⟨v, rfl, q1⟩ := repq1 r
      obtain ⟨p, us, rfl, h1, h2⟩ := q1.tuple
      rw [intsD_eq hn] at h2
      rw [dpa_ints h2] at h1
      exact .inr ⟨p, ns, rfl, hZ ▸ h1, post_now h o (.int _)⟩
    · exact h.elim
  · exact h.elim
theorem CallR.or {f : Value} {r r' : List V → Hp → VK → Prop} (h : CallR X f r) (h' : CallR X f r') : CallR X f fun xs H Q => r xs H Q ∨ r' xs H Q := by
  intro pins s σ H xs us Q I rv q
  rcases q with q | q
  · exact h pins s σ H xs us Q I rv q
  · exact h' pins s σ H xs us Q I rv q
theorem cr_sumA (hc : X.calm = true) : CallR X (.builtin "sum") fun xs H Q => rSum X.K xs H Q ∨ rSumT X.K xs H Q := CallR.or (cr_sum hc) (cr_sumT hc)
theorem ck_all (hZ : Z.K = X.K) : CQok Z (rAll X.K) kAll := by
  intro w n H Q vs xs o r h
  unfold kAll at h
  split at h
  · split at h
    · rename_i ns hn
      obtain ⟨v, rfl, q1⟩ := repq1 r
      obtain ⟨p, us, rfl, h1, h2⟩ := q1.list
      rw [boolsD_eq hn] at h2
      rw [dpa_bools h2] at h1
      exact ⟨p, ns, rfl, hZ ▸ h1, post_now h o (.bl _)⟩
    · exact h.elim
  · exact h.elim
theorem ck_any (hZ : Z.K = X.K) : CQok Z (rAny X.K) kAny := by
  intro w n H Q vs xs o r h
  unfold kAny at h
  split at h
  · split at h
    · rename_i ns hn
      obtain ⟨v, rfl, q1⟩ := repq1 r
      obtain ⟨p, us, rfl, h1, h2⟩ := q1.list
      rw [boolsD_eq hn] at h2
      rw [dpa_bools h2] at h1
      exact ⟨p, ns, rfl, hZ ▸ h1, post_now h o (.bl _)⟩
    · exact h.elim
  · exact h.elim
theorem ck_mxL (hZ : Z.K = X.K) : CQok Z (rMax X.K) (kMx false) := by
  intro w n H Q vs xs o r h
  unfold kMx at h
  split at h
  · simp only [Bool.false_eq_true, if_false] at h
    split at h
    · rename_i ns hn
      obtain ⟨hp, h⟩ := h
      obtain ⟨v, rfl, q1⟩ := repq1 r
      obtain ⟨p, us, rfl, h1, h2⟩ := q1.list
      rw [intsD_eq hn] at h2
      rw [dpa_ints h2] at h1
      exact ⟨p, ns, rfl, hZ ▸ h1, hp, fun m hm hg => by rw [mxL_eq hm hg]; exact post_now h o (.int _)⟩
    · exact h.elim
  · simp only [Bool.false_eq_true, if_false] at h
    exact h.elim
  · exact h.elim
theorem ck_mxT (hZ : Z.K = X.K) : CQok Z (rMaxT X.K) (kMx true) := by
  intro w n H Q vs xs o r h
  unfold kMx at h
  split at h
  · simp only [if_true] at h
    exact h.elim
  · simp only [if_true] at h
    split at h
    · rename_i ns hn
      obtain ⟨hp, h⟩ := h
      obtain ⟨v, rfl, q1⟩ := repq1 r
      obtain ⟨p, us, rfl, h1, h2⟩ := q1.tuple
      rw [intsD_eq hn] at h2
      rw [dpa_ints h2] at h1
      exact ⟨p, ns, rfl, hZ ▸ h1, hp, fun m hm hg => by rw [mxL_eq hm hg]; exact post_now h o (.int _)⟩
    · exact h.elim
  · exact h.elim
theorem ck_mnL (hZ : Z.K = X.K) : CQok Z (rMin X.K) kMnL := by
  intro w n H Q vs xs o r h
  unfold kMnL at h
  split at h
  · split at h
    · rename_i ns hn
      obtain ⟨hp, h⟩ := h
      obtain ⟨v, rfl, q1⟩ := repq1 r
      obtain ⟨p, us, rfl, h1, h2⟩ := q1.list
      rw [intsD_eq hn] at h2
      rw [dpa_ints h2] at h1
      exact ⟨p, ns, rfl, hZ ▸ h1, hp, fun m hm hg => by rw [mnL_eq hm hg]; exact post_now h o (.int _)⟩
    · exact h.elim
  · exact h.elim
end
end JN

set_option maxRecDepth 100000
set_option maxHeartbeats 4000000
namespace JN
open PySem PySem.Spec PyProof.Rows L2
/-! ### repr of data -/
def rReprD (K : PySem.W.Frag) : List V → Hp → VK → Prop := fun xs H Q => ∃ (v : V) (d : PyData), xs = [v] ∧ Dp K H v d ∧ d.showable = true ∧ d.hasDict = false ∧ d.shown.length ≤ sizeLine ∧ d.depth ≤ 20 ∧ ((∃ a, v = .ref a) ∨ ∃ b, v = .bl b) ∧ Q (.str d.shown) H
theorem cr_repr {X : Cx} (hg : X.A.guards = some []) (hu : X.A.units + 64 < cLine) : CallR X (.builtin "repr") (rReprD X.K) := by
  intro pins s σ H xs us Q I r h
  obtain ⟨v, d, rfl, hd, h1, h2, h3, h4, hv, q⟩ := h
  obtain ⟨u, rfl, rx⟩ := vals1 r
  rcases hv with ⟨a, rfl⟩ | ⟨b, rfl⟩
  · obtain rfl : u = Value.ref a := rx
    obtain ⟨as, rd⟩ := Dp.reads I d (.ref a) (.ref a) hd rfl
    exact repr_of_reads' rd h1 (PySem.PyData.noDict_hsm h2) hg (by omega) (fun _ _ e => e) (fun h' u tk k => ⟨.str d.shown, H, I.kept (t' := tk) k, ⟨_, rfl⟩, q⟩) h3
  · obtain rfl : u = Value.bool b := rx
    cases hd
    refine PySem.P.repr_of_bool ⟨.str _, H, I.tok _, ⟨_, rfl⟩, ?_⟩
    simp only [PyData.shown] at q
    exact q
/-! ### a def's body, at one around alone -/
theorem fn_at {CX : CXT} {P : Program} {w : World} {K : PySem.W.Frag} {mg : Str → Option Value} {base : Heap} {k : Nat} {x qual : Str} {st : Stmt} {f : Addr} {fd : FuncData} {N ps : List Str} {A : Around} {outer : List Env} {s : Shared} {H : Hp} {args : Args} {us : List Value} {vs : List V} {Q : VK} {E : XK}
    (F : Fun K x qual st f fd) (S : FnScope N ps (defScope st)) (hl : vs.length = ps.length) (hr : Room (k + 1) A) (e0 : Env0 P w K mg base A outer s H) (hb : BindsTo s fd args (ps.zip us)) (r : Vals vs us)
    (hbody : ∀ (cdv : Value), Room k (A.deeper (envOfC qual (defScope st) s.heap.objs.size f cdv)) → ∃ t, PSs (cxOf CX P w K mg base N qual (defScope st) f cdv A outer s H E).nox (defBody st) t ∧ t { nx := fun _ H' => Q .non H', rt := Q } (L2.start N vs) H) :
    codeAny (model P w) A (.call (.ref f) args) (CR CX outer P w H s Q E) s := by
  obtain ⟨oc, od, kV, doc, pm, an, cdv, ct, osl, rfl, lk, hcd⟩ := F.ex
  let sp : Sp := fun vs' H' Q' E' => vs' = vs ∧ H' = H ∧ Q' = Q ∧ E' = E
  have KX : K.In s.heap := e0.mod.kin.keeps fun b o e => (e0.bs b o e).1
  have lim : s.heap.NoLimit := e0.mod.nolimit.keeps fun b o e => (e0.bs b o e).1
  refine codeAny_call_function hr.depth (KX _ _ lk) rfl S.co S.gen rfl (PySem.W.codeRec_of KX hcd) (hb _ _ _ _ ?_)
  refine wpAny_newFunctionEnv_cells S.kind (fun y hy => ?_) fun env he s1 z => ?_
  · rcases S.par y.1 (List.of_mem_zip (show (y.1, y.2) ∈ _ from hy)).1 with q | q
    · exact .inl q
    · exact .inr ⟨q, PySem.W.cellsFrom_some _ _ _ (.inl q)⟩
  subst he
  refine ⟨lim.keeps z.toInCall.keep, codeAny_func ?_⟩
  obtain ⟨t, ht, hq⟩ := hbody cdv (hr.deeper _)
  have I : Inv (cxOf CX P w K mg base N qual (defScope st) f cdv A outer s H E) [] (L2.start N vs) H s1 := inv_start S hr.hd e0 hl r z
  refine wpAny_mono (ht.nox.run [] s1 (L2.start N vs) H _ I hq) (fun fl s' hs => ?_) fun e s' hs => hs
  have fin : ∀ {σ' : L2.St} {H' : Hp} {v : V} {u : Value}, Inv (cxOf CX P w K mg base N qual (defScope st) f cdv A outer s H E) [] σ' H' s' → RelV v u → Q v H' → CE outer P w H s Q u s' :=
    fun {σ' H' v u} J rv q => ⟨v, H', J.os, J.bare, J.base, J.hok, rv, q⟩
  cases fl with
  | ret u =>
    obtain ⟨v, σ', H', J, rv, q⟩ := hs
    exact fin J rv q
  | next =>
    obtain ⟨σ', H', J, q⟩ := hs
    exact fin (v := V.non) (u := Value.none) J rfl q
  | brk =>
    obtain ⟨_, _, _, q⟩ := hs
    exact False.elim q
  | cont =>
    obtain ⟨_, _, _, q⟩ := hs
    exact False.elim q
/-- what the law's def promises where it is called by the caller alone -/
def AtCaller (P : Program) (w : World) (K : PySem.W.Frag) (mg : Str → Option Value) (base : Heap) (fa : Addr) (sp : Sp) : Prop :=
  ∀ (s : Shared) (H : Hp) (u : Value) (v : V) (Q : VK) (E : XK), Env0 P w K mg base callerA [] s H → RelV v u → sp [v] H Q E → codeAny (model P w) callerA (.call (.ref fa) ⟨[u], []⟩) (CR CX0 [] P w H s Q E) s
/-- as the library's ending for a law's def, but the def is asked at the caller's around alone -/
theorem walk_at {l : PySem.W.OpenLaw} {n : Nat} {q : Program} {loose : List Str} {XP : (Str → Option Value) → Heap → Prop} {YP : World → Heap → Prop} {d : DefRec} {K : Params → PySem.W.Frag} {sp : World → Sp}
    (hn : l.most = some n) (hn2 : n ≤ sizeLine) (hdf : d.params.defaults = []) (hY : ∀ (w : World) (h : Heap), YP w h → (K w.params).In h)
    (F : ∀ (w : World) (mg : Str → Option Value) (fa : Addr) (h : Heap), (K w.params).In h → h.Ns mainGlobals mg → mg d.name = some (.ref fa) →
      ∀ base : Heap, (K w.params).In base → base.Ns mainGlobals mg → AtCaller l.prog w (K w.params) mg base fa (sp w))
    (hsp : ∀ (w : World) (H : Hp) (a : Addr) (ns : List Int), ns.length ≤ n → Only H → SqL (K w.params) H a (ns.map V.int) → sp w [.ref a] H (fun v _ => v = .bl true) fun _ _ _ => False) :
    PySem.W.WalkO q loose XP YP l.row.toRowW d [] (fun f vs => PySem.call f vs) := by
  refine Att.attach_call hn hdf fun w s₀ s₁ mg mb fa o pm cd doc a vs ns G Y ho hd hcd hmg hobj hints hlen hg => ?_
  have KX := hY w _ Y
  have hF := F w mg fa _ KX G.T.g hmg
  have rv := vals_ints hints
  have lenV := hints.length
  have one : ∀ H : Hp, Only H → SqL (K w.params) H a (ns.map V.int) → HOk l.prog w H s₁.heap → (∀ b, H b ≠ none → b = a) → (H a ≠ none → (K w.params).lookup a = none) →
      codeAny (model l.prog w) callerA (.call (.ref fa) ⟨[.ref a], []⟩) (fun r s' => r = .ok (.ret (.bool true)) ∧ OldK s₁.heap s'.heap ∧ s'.os = s₁.os ∧ AllBare s'.gens) s₁ := by
    intro H hO hS hok hA hK
    have free : ∀ {b : Addr}, b ≠ a → H b = none := fun {b} ne => by
      cases z : H b with
      | none => rfl
      | some u => exact absurd (hA b (by rw [z]; simp)) ne
    have dic : ∀ {b : Addr} {ob : Obj} {es : Array DictEntry} {ep : Nat}, s₁.heap.get? b = some ob → ob.data = .dict es ep → H b = none := fun {b ob es ep} e dd => free fun z => by
      subst z
      rw [hobj] at e
      cases e
      have dd' : Data.seq vs.toArray _ = Data.dict es ep := dd
      cases dd'
    have ns' : ∀ {b : Addr} {m : Str → Option Value}, s₁.heap.Ns b m → (hidT s₁.heap H).Ns b m := fun {b m} ⟨ob, es, ep, e, dd, r⟩ => ⟨ob, es, ep, hidT_get e (dic e dd), dd, r⟩
    have kb : (K w.params).In (hidT s₁.heap H) := fun b ob e => by
      refine hidT_get (KX b ob e) ?_
      cases z : H b with
      | none => rfl
      | some u =>
        have eb : b = a := hA b (by rw [z]; simp)
        subst eb
        rw [hK (by rw [z]; simp)] at e
        cases e
    obtain ⟨mc, c1, c2⟩ := G.T.nolimit
    have md : Mod (K w.params) mg (hidT s₁.heap H) := ⟨kb, ns' G.T.g, ⟨mb, ns' G.T.b, G.T.builtins⟩, mc, ns' c1, c2⟩
    have e0 : Env0 l.prog w (K w.params) mg (hidT s₁.heap H) callerA [] s₁ H := ⟨rfl, md, fun b ob e => of_hidT e, Nat.le_of_eq (hidT_size _ _), trivial, fun b hb => absurd (show b ∈ ([] : List Addr) from hb) (by simp), hok, .of_eq hg⟩
    refine codeAny_mono (hF _ kb (ns' G.T.g) s₁ H (.ref a) (.ref a) _ _ e0 rfl (hsp w H a ns hlen hO hS)) fun r s' h => ?_
    cases r with
    | error e => exact False.elim h
    | ok fl =>
      cases fl with
      | next => exact False.elim h
      | brk => exact False.elim h
      | cont => exact False.elim h
      | ret u =>
        obtain ⟨v, H', os, bare, un, hok', r', qv⟩ := h
        obtain rfl : v = .bl true := qv
        obtain rfl : u = Value.bool true := r'
        refine ⟨rfl, OldK.of_keep fun b ob e => ?_, os, bare⟩
        rcases hO b with z | ⟨oz, xs, z⟩
        · exact un.keep b ob e z (by intro y; exact absurd (show b ∈ ([] : List Addr) from y) (by simp)) (by simp)
        · obtain ⟨e1, _⟩ := hok b _ z
          obtain ⟨e2, _⟩ := hok' b _ (un.frzs b oz _ z)
          rw [e] at e1
          cases e1
          exact e2
  cases hk : (K w.params).lookup a with
  | some ob =>
    have e := KX a ob hk
    rw [hobj] at e
    cases e
    exact one (fun _ => none) (fun _ => .inl rfl) (.inr ⟨_, vs.toArray, _, hk, rfl, rfl, rfl, by rw [List.size_toArray, lenV]; exact Nat.le_trans hlen hn2, by simpa using rv⟩) (fun b u z => nomatch (show (none : Option HO) = some u from z)) (fun b z => absurd rfl z) fun z => absurd rfl z
  | none =>
    have at_ : ∀ b u, (if b = a then some (HO.frz { cls := .type "list", data := .seq vs.toArray } (.lst (ns.map V.int))) else none) = some u → b = a ∧ u = HO.frz { cls := .type "list", data := .seq vs.toArray } (.lst (ns.map V.int)) := fun b u z => by
      by_cases hb : b = a
      · rw [if_pos hb] at z
        exact ⟨hb, (Option.some.inj z).symm⟩
      · rw [if_neg hb] at z
        cases z
    refine one (fun b => if b = a then some (.frz { cls := .type "list", data := .seq vs.toArray } (.lst (ns.map V.int))) else none) (fun b => ?_) (.inl (.inr ⟨{ cls := .type "list", data := .seq vs.toArray }, if_pos rfl⟩)) (fun b u z => ?_) (fun b z => ?_) fun _ => hk
    · by_cases hb : b = a
      · exact .inr ⟨_, _, if_pos hb⟩
      · exact .inl (if_neg hb)
    · obtain ⟨rfl, rfl⟩ := at_ b u z
      exact ⟨hobj, by rw [List.length_map]; exact Nat.le_trans hlen hn2, vs, _, rv, hobj⟩
    · by_cases hb : b = a
      · exact hb
      · exact absurd (if_neg hb) z
end JN

set_option maxRecDepth 100000
set_option maxHeartbeats 4000000
namespace JN
open PySem PySem.Spec PyProof.Rows L2
/-! ### tuples and lists joined, repeated -/
abbrev tupI (ns : List Int) : PyData := .tuple (ns.map .int)
def kCatT : Va → Va → M Va
  | .da (.tuple xs), .da (.tuple ys) => (M.req (xs.length + ys.length ≤ sizeLine)).bind fun _ => .ret (.da (.tuple (xs ++ ys)))
  | _, _ => .bad
def kRepT : Va → Va → M Va
  | .da (.tuple [d]), .da (.int k) => (M.req (1 ≤ k ∧ k ≤ 1000)).bind fun _ => .ret (.da (.tuple (List.replicate k.toNat d)))
  | _, _ => .bad
@[simp] def e2F (k : Va → Va → M (List PyData)) (fa fb : Ro → M Va) : Ro → M (List PyData) := fun ρ => (fa ρ).bind fun x => (fb ρ).bind fun y => k x y
def kCatL : Va → Va → M (List PyData)
  | .da (.list xs), .da (.list ys) => (M.req (xs.length + ys.length ≤ sizeLine)).bind fun _ => .ret (xs ++ ys)
  | _, _ => .bad
def kRepL : Va → Va → M (List PyData)
  | .da (.list [d]), .da (.int k) => (M.req (0 ≤ k ∧ k ≤ 1000)).bind fun _ => .ret (List.replicate k.toNat d)
  | _, _ => .bad
theorem dpaNil {K : PySem.W.Frag} {C : Hp} {vs : List V} {ds : List PyData} (h : DqAll K C vs ds) : vs = [] ↔ ds = [] := by
  have := dpaLen h
  cases vs <;> cases ds <;> simp at this ⊢
section
variable {X : Cx} {Z : Zc} {a b : Expr} {fa fb : Ro → M Va} {pos : Pos}
theorem ve_catT (hZ : Z.K = X.K) (ha : PE X a (tV Z fa)) (hb : PE X b (tV Z fb)) : PE X (.BinOp a .Add b pos) (tV Z (e2 kCatT fa fb)) := by
  refine ve_op op_catA (fun w n H Q v u x y o rx ry h => ?_) ha hb
  unfold kCatT at h
  split at h
  · rename_i xs ys
    obtain ⟨hz, h⟩ := h
    obtain ⟨p, vs, rfl, h1, h2⟩ := Rep.tuple rx
    obtain ⟨q, us, rfl, h3, h4⟩ := Rep.tuple ry
    refine ⟨p, q, vs, us, rfl, rfl, hZ ▸ h1, hZ ▸ h3, by rw [dpaLen h2, dpaLen h4]; exact hz, fun e => ?_, fun _ e => ?_, fun _ _ t nt => post_tup h o nt (dpaApp h2 h4)⟩
    · rw [(dpaNil h2).mp e, List.nil_append] at h
      exact post_now h o ry
    · rw [(dpaNil h4).mp e, List.append_nil] at h
      exact post_now h o rx
  · exact h.elim
theorem ve_repT (hZ : Z.K = X.K) (ha : PE X a (tV Z fa)) (hb : PE X b (tV Z fb)) : PE X (.BinOp a .Mult b pos) (tV Z (e2 kRepT fa fb)) := by
  refine ve_op op_repA (fun w n H Q v u x y o rx ry h => ?_) ha hb
  unfold kRepT at h
  split at h
  · rename_i d k
    obtain ⟨⟨hk, hk2⟩, h⟩ := h
    obtain ⟨p, vs, rfl, h1, h2⟩ := Rep.tuple rx
    cases ry
    cases h2 with
    | cons hd ht =>
      cases ht
      rename_i z
      by_cases e : k = 1
      · subst e
        exact .inr ⟨p, [z], rfl, rfl, hZ ▸ h1, post_now h o rx⟩
      · refine .inl ⟨p, k, [z], rfl, rfl, hZ ▸ h1, by simp, by omega, by omega, by simp, fun t nt => ?_⟩
        · rw [List.flatten_replicate_singleton]
          refine post_tup h o nt (dpaOf (by simp) fun i v d' h3 h4 => ?_)
          obtain rfl := (List.mem_replicate.mp (List.mem_of_getElem? h3)).2
          obtain rfl := (List.mem_replicate.mp (List.mem_of_getElem? h4)).2
          exact hd
  · exact h.elim
/-- xs + ys, xs * k of lists that stand in any way -/
def rCatS (K : PySem.W.Frag) : R2 := fun x y H Q => ∃ l b xs zs, x = .ref l ∧ y = .ref b ∧ SqL K H l xs ∧ SqL K H b zs ∧ xs.length + zs.length ≤ sizeLine ∧ ∀ p, H p = none → Q (.ref p) (upd H p (.lst (xs ++ zs)))
theorem op_catS : OpR X (binaryOp .Add) (rCatS X.K) := by
  intro pins s σ H x y v u Q I rx ry h
  obtain ⟨l, b, xs, zs, rfl, rfl, hH, hB, hz, q⟩ := h
  cases rx
  cases ry
  obtain ⟨its, r, ⟨⟨cls, dd, data, sl⟩, n, ho, hc, _, hd⟩, _⟩ := I.list hH
  obtain ⟨its2, r2, ⟨⟨cls2, dd2, data2, sl2⟩, n2, ho2, hc2, _, hd2⟩, _⟩ := I.list hB
  simp only at hc hd hc2 hd2
  subst hc hd hc2 hd2
  have e : its.toArray ++ its2.toArray = (its ++ its2).toArray := by simp
  have l1 := r.length
  have l2 := r2.length
  refine concat_meets ⟨_, ho, rfl⟩ ⟨_, ho2, rfl⟩ noFill_list_add seq_list_add PySem.F.slot_list_add PySem.F.entry_list_add (PySem.F.args_list_add_2 _ _) (list_addW l b its.toArray its2.toArray n n2 dd dd2 sl sl2 (by rw [List.size_toArray, List.size_toArray]; omega)) ⟨ho, ho2, ?_⟩
  rw [e]
  exact ⟨.ref _, _, I.lnew (t' := s.toks) (r.append r2) (by rw [List.length_append]; omega), rfl, q _ I.fresh⟩
theorem vf_catL (hZ : Z.K = X.K) (ha : PE X a (tQ Z fa)) (hb : PE X b (tQ Z fb)) : PE X (.BinOp a .Add b pos) (tF Z (e2F kCatL fa fb)) := by
  refine pe_use (pe_op op_catS ha hb) fun σ H Q ⟨w0, γ, w, n, ρ, re, o, q⟩ => ?_
  refine ⟨w0, γ, w, n, ρ, re, o, (fa ρ).mono (fun x n1 hx v H1 w1 s1 o1 r1 => ?_) (fun _ _ z => z) q⟩
  refine ⟨w0, γ, w1, n1, ρ, re.stp s1 o.ro, o1, (fb ρ).mono (fun y n2 hy u H2 w2 s2 o2 r2 => ?_) (posE_stp s1) hx⟩
  replace r1 := r1.stp s2 o1.ro
  have h := (kCatL x y).mono (posF_stp (s1.trans s2)) (posE_stp (s1.trans s2)) hy
  unfold kCatL at h
  split at h
  · obtain ⟨hz, h⟩ := h
    obtain ⟨p, vs, rfl, h1, h2⟩ := r1.list
    obtain ⟨q, us, rfl, h3, h4⟩ := r2.list
    exact ⟨p, q, vs, us, rfl, rfl, hZ ▸ h1, hZ ▸ h3, by rw [dpaLen h2, dpaLen h4]; exact hz, fun t nt => posF_new h o2 nt (dpaApp h2 h4)⟩
  · exact h.elim
end
/-! ### in, of flat things and of any data -/
def flatD : PyData → Bool
  | .none => true
  | .bool _ => true
  | .int _ => true
  | .str _ => true
  | _ => false
def kIn (neg : Bool) : Va → Va → M Va
  | .da d, .da (.list ds) => (M.req (SeqAt.shaped d = true ∧ SeqAt.shaped (.list ds) = true)).bind fun _ => .ret (.da (.bool (if neg then !(ds.any fun z => PyData.eqv z d) else ds.any fun z => PyData.eqv z d)))
  | _, _ => .bad
def kInI (neg : Bool) : Va → Va → M Va
  | .da (.int i), .da (.tuple ds) => match intsD ds with
    | some ns => .ret (.da (.bool (if neg then !decide (i ∈ ns) else decide (i ∈ ns))))
    | none => .bad
  | .da (.int i), .da (.list ds) => match intsD ds with
    | some ns => .ret (.da (.bool (if neg then !decide (i ∈ ns) else decide (i ∈ ns))))
    | none => .bad
  | _, _ => .bad
theorem flat_ints (ns : List Int) : (ns.map V.int).all flatV = true := by
  rw [List.all_map, List.all_eq_true]
  exact fun _ _ => rfl
theorem inV_ints (i : Int) (ns : List Int) : inV (.int i) (ns.map V.int) = decide (i ∈ ns) := by
  unfold inV
  rw [List.any_map, Bool.eq_iff_iff, List.any_eq_true, decide_eq_true_iff]
  constructor
  · rintro ⟨x, hx, e⟩
    simp [flatV, eqV] at e
    subst e
    exact hx
  · intro h
    exact ⟨i, h, by simp [flatV, eqV]⟩
section
variable {X : Cx} {Z : Zc} {a b : Expr} {fa fb : Ro → M Va} {pos : Pos}
theorem r2_inI (hZ : Z.K = X.K) (neg : Bool) : R2okQ Z (rIn X.K neg) (kInI neg) := by
  intro w n H Q v u x y o rx ry h
  unfold kInI at h
  split at h
  · split at h
    · rename_i ns hn
      obtain ⟨p, us, rfl, h1, h2⟩ := ry.tuple
      rw [intsD_eq hn] at h2
      rw [dpa_ints h2] at h1
      have := rx.dp
      cases this
      refine ⟨p, _, rfl, .inr (hZ ▸ h1), rfl, flat_ints _, ?_⟩
      rw [inV_ints]
      exact post_now h o (.bl _)
    · exact h.elim
  · split at h
    · rename_i ns hn
      obtain ⟨p, us, rfl, h1, h2⟩ := ry.list
      rw [intsD_eq hn] at h2
      rw [dpa_ints h2] at h1
      have := rx.dp
      cases this
      refine ⟨p, _, rfl, .inl (hZ ▸ h1), rfl, flat_ints _, ?_⟩
      rw [inV_ints]
      exact post_now h o (.bl _)
    · exact h.elim
  · exact h.elim
theorem ve_inI (hZ : Z.K = X.K) (ha : PE X a (tQ Z fa)) (hb : PE X b (tQ Z fb)) (hm : behindInMarks .In b = false := by rfl) : PE X (.Compare a [.In] [b] pos) (tV Z (e2 (kInI false) fa fb)) := ve_cmpQ op_in_seq (r2_inI hZ false) ha hb hm
theorem ve_ninI (hZ : Z.K = X.K) (ha : PE X a (tQ Z fa)) (hb : PE X b (tQ Z fb)) (hm : behindInMarks .NotIn b = false := by rfl) : PE X (.Compare a [.NotIn] [b] pos) (tV Z (e2 (kInI true) fa fb)) := ve_cmpQ op_notIn_seq (r2_inI hZ true) ha hb hm
theorem ve_inD {j : Nat} (hr : Room j X.A) (hZ : Z.K = X.K) (ha : PE X a (tQ Z fa)) (hb : PE X b (tQ Z fb)) (hm : behindInMarks .In b = false := by rfl) : PE X (.Compare a [.In] [b] pos) (tV Z (e2 (kIn false) fa fb)) := by
  refine ve_cmpQ (op_inD (by have := hr.un; omega)) (fun w n H Q v u x y o rx ry h => ?_) ha hb hm
  unfold kIn at h
  split at h
  · obtain ⟨⟨s1, s2⟩, h⟩ := h
    exact ⟨_, _, hZ ▸ rx.dp, hZ ▸ ry.dp, s1, s2, post_now h o (.bl _)⟩
  · exact h.elim
theorem ve_ninD {j : Nat} (hr : Room j X.A) (hZ : Z.K = X.K) (ha : PE X a (tQ Z fa)) (hb : PE X b (tQ Z fb)) (hm : behindInMarks .NotIn b = false := by rfl) : PE X (.Compare a [.NotIn] [b] pos) (tV Z (e2 (kIn true) fa fb)) := by
  refine ve_cmpQ (op_notInD (by have := hr.un; omega)) (fun w n H Q v u x y o rx ry h => ?_) ha hb hm
  unfold kIn at h
  split at h
  · obtain ⟨⟨s1, s2⟩, h⟩ := h
    exact ⟨_, _, hZ ▸ rx.dp, hZ ▸ ry.dp, s1, s2, post_now h o (.bl _)⟩
  · exact h.elim
end
/-! ### sorted(set(..)) of few tuples of ints -/
theorem dpa_tupI {K : PySem.W.Frag} {C : Hp} : ∀ {ms : List (List Int)} {vs : List V}, DqAll K C vs (ms.map tupI) → ∃ ks : List (Addr × List Int), vs = ks.map (fun p => V.ref p.1) ∧ ks.map (·.2) = ms ∧ ∀ p ∈ ks, C p.1 = some (.tup (p.2.map V.int))
  | [], _, h => by cases h; exact ⟨[], rfl, rfl, fun p hp => nomatch hp⟩
  | m :: ms, _, h => by
    cases h with
    | cons h1 h2 =>
      obtain ⟨ks, rfl, e2, h3⟩ := dpa_tupI h2
      cases h1 with
      | tup h4 h5 =>
        rename_i a xs
        rw [dpa_ints h5] at h4
        refine ⟨(a, m) :: ks, rfl, by rw [List.map_cons, e2], fun p hp => ?_⟩
        rcases List.mem_cons.mp hp with e | e
        · rw [e]; exact h4
        · exact h3 p e
theorem dpa_of_tupI {K : PySem.W.Frag} {C : Hp} : ∀ {ks : List (Addr × List Int)}, (∀ p ∈ ks, C p.1 = some (.tup (p.2.map V.int))) → DqAll K C (ks.map fun p => V.ref p.1) ((ks.map (·.2)).map tupI)
  | [], _ => .nil
  | k :: ks, h => .cons (.tup (h k List.mem_cons_self) (dpaOf (by simp) fun i v d h1 h2 => by
      rw [List.getElem?_map] at h1 h2
      cases e : k.2[i]? with
      | none => rw [e] at h1; cases h1
      | some n => rw [e] at h1 h2; cases h1; cases h2; exact .int _)) (dpa_of_tupI fun p hp => h p (List.mem_cons_of_mem _ hp))
def rowsD : List PyData → Option (List (List Int))
  | [] => some []
  | .tuple ds :: r => match intsD ds, rowsD r with
    | some ns, some ms => some (ns :: ms)
    | _, _ => none
  | _ :: _ => none
theorem rowsD_map (ms : List (List Int)) : rowsD (ms.map tupI) = some ms := by
  induction ms with
  | nil => rfl
  | cons m ms ih => rw [List.map_cons, rowsD, intsD_map, ih]
theorem rowsD_eq : ∀ {ds : List PyData} {ms : List (List Int)}, rowsD ds = some ms → ds = ms.map tupI
  | [], ms, h => by cases h; rfl
  | .tuple es :: r, ms, h => by
    unfold rowsD at h
    split at h
    · rename_i ns ms' h1 h2
      cases h
      rw [rowsD_eq h2, intsD_eq h1]
      rfl
    · cases h
  | .none :: r, ns, h => by cases h
  | .int _ :: r, ns, h => by cases h
  | .bool _ :: r, ns, h => by cases h
  | .str _ :: r, ns, h => by cases h
  | .list _ :: r, ns, h => by cases h
  | .dict _ :: r, ns, h => by cases h
/-- ascending by the sequence of tuples, each once -/
def insU (p : List Int) : List (List Int) → List (List Int)
  | [] => [p]
  | q :: r => if cd p < cd q then p :: q :: r else if cd q < cd p then q :: insU p r else q :: r
def sset : List (List Int) → List (List Int)
  | [] => []
  | p :: r => insU p (sset r)
theorem insU_mem {d : Nat} {p x : List Int} : ∀ {l : List (List Int)}, Mon d p → (∀ q ∈ l, Mon d q) → (x ∈ insU p l ↔ x = p ∨ x ∈ l)
  | [], _, _ => by simp [insU]
  | q :: r, hp, hl => by
    have hq := hl q List.mem_cons_self
    have ih := insU_mem (l := r) (x := x) hp fun y hy => hl y (List.mem_cons_of_mem _ hy)
    unfold insU
    split
    · exact List.mem_cons
    · split
      · rw [List.mem_cons, List.mem_cons, ih]
        constructor
        · rintro (h | h | h)
          · exact .inr (.inl h)
          · exact .inl h
          · exact .inr (.inr h)
        · rintro (h | h | h)
          · exact .inr (.inl h)
          · exact .inl h
          · exact .inr (.inr h)
      · have : p = q := cd_inj (hp.1.trans hq.1.symm) hp.2 hq.2 (by omega)
        subst this
        rw [List.mem_cons]
        constructor
        · rintro (h | h)
          · exact .inl h
          · exact .inr (.inr h)
        · rintro (h | h | h)
          · exact .inl h
          · exact .inl h
          · exact .inr h
theorem insU_asc {d : Nat} {p : List Int} : ∀ {l : List (List Int)}, Mon d p → (∀ q ∈ l, Mon d q) → Asc l → Asc (insU p l)
  | [], _, _, _ => List.pairwise_singleton _ _
  | q :: r, hp, hl, ha => by
    obtain ⟨a1, a2⟩ := List.pairwise_cons.mp ha
    have hr : ∀ y ∈ r, Mon d y := fun y hy => hl y (List.mem_cons_of_mem _ hy)
    unfold insU
    split
    · rename_i h
      refine List.pairwise_cons.mpr ⟨fun y hy => ?_, ha⟩
      rcases List.mem_cons.mp hy with e | e
      · rw [e]; exact h
      · have := a1 y e; omega
    · split
      · rename_i h
        refine List.pairwise_cons.mpr ⟨fun y hy => ?_, insU_asc hp hr a2⟩
        rcases (insU_mem hp hr).mp hy with e | e
        · rw [e]; exact h
        · exact a1 y e
      · exact ha
theorem sset_mem {d : Nat} {x : List Int} : ∀ {l : List (List Int)}, (∀ q ∈ l, Mon d q) → (x ∈ sset l ↔ x ∈ l)
  | [], _ => Iff.rfl
  | p :: r, h => by
    have ih : ∀ y, y ∈ sset r ↔ y ∈ r := fun y => sset_mem (x := y) fun q hq => h q (List.mem_cons_of_mem _ hq)
    unfold sset
    rw [insU_mem (h p List.mem_cons_self) (fun q hq => h q (List.mem_cons_of_mem _ ((ih q).mp hq))), ih, List.mem_cons]
theorem sset_asc {d : Nat} : ∀ {l : List (List Int)}, (∀ q ∈ l, Mon d q) → Asc (sset l)
  | [], _ => List.Pairwise.nil
  | p :: r, h => by
    have hr : ∀ q ∈ r, Mon d q := fun q hq => h q (List.mem_cons_of_mem _ hq)
    unfold sset
    exact insU_asc (h p List.mem_cons_self) (fun q hq => hr q ((sset_mem hr).mp hq)) (sset_asc hr)
theorem sset_eq {d : Nat} {l L : List (List Int)} (h : ∀ q ∈ l, Mon d q) (ha : Asc L) (hm : ∀ x, x ∈ L ↔ x ∈ l) : L = sset l :=
  asc_ext ha (sset_asc h) fun x => (hm x).trans (sset_mem h).symm
def kSset (x : Va) : M (List PyData) := match x with
  | .da (.list ds) => match rowsD ds with
    | some ms => (M.req ((∃ d, 1 ≤ d ∧ ∀ p ∈ ms, Mon d p) ∧ ms.length < 64)).bind fun _ => .ret ((sset ms).map tupI)
    | none => .bad
  | .da (.tuple ds) => match rowsD ds with
    | some ms => (M.req ((∃ d, 1 ≤ d ∧ ∀ p ∈ ms, Mon d p) ∧ ms.length < 64)).bind fun _ => .ret ((sset ms).map tupI)
    | none => .bad
  | _ => .bad
def eSset (f : Ro → M Va) : Ro → M (List PyData) := fun ρ => (f ρ).bind kSset
section
variable {X : Cx} {Z : Zc}
theorem sset_core {w : Wd} {n : Nat} {H : Hp} {Q : VK} {ms : List (List Int)} {l : Addr} {ks : List (Addr × List Int)} {d : Nat} (hZ : Z.K = X.K) (hc : X.calm = true) (h : posF Z w H Q ((sset ms).map tupI) n) (o : WOk w n H) (e2 : ks.map (·.2) = ms) (hR : ∀ p ∈ ks, core H w p.1 = some (.tup (p.2.map V.int))) (hd : 1 ≤ d) (hm : ∀ p ∈ ms, Mon d p) (h64 : ms.length < 64)
    (hL : SqL X.K H l (ks.map fun p => V.ref p.1) ∨ SqT X.K H l (ks.map fun p => V.ref p.1)) :
    rSetOfA X.K X.prog X.w [.ref l] H fun v H2 => rSortedT X.K X.prog X.w [v] H2 Q := by
  have hm' : ∀ p ∈ ks, Mon d p.2 := fun p hp => hm _ (by rw [← e2]; exact List.mem_map.mpr ⟨p, hp, rfl⟩)
  have hlen : ks.length = ms.length := by rw [← e2, List.length_map]
  refine ⟨l, ks, rfl, hL, fun p hp => (.inl (.inl (dels_same H w.os _ _ (hR p hp)))), by omega, fun a L na hL2 hL3 => ?_⟩
  have s2 := same_new (o := SetTO X.prog X.w a L) na
  refine ⟨a, L, d, B0, rfl, upd_same, fun p hp => (.inl (.inl (s2 _ _ (dels_same H w.os _ _ (hR p (hL2 p hp)))))), hd, fun p hp => hm' p (hL2 p hp), fun L' p pm nd' l64 pw np => ?_⟩
  have hsub : ∀ x ∈ L', x ∈ ks := fun x hx => hL2 x (pm.mem_iff.mp hx)
  have hmem : ∀ x, x ∈ L'.map (·.2) ↔ x ∈ ms := fun x => by
    rw [← e2, List.mem_map, List.mem_map]
    constructor
    · rintro ⟨r, h1, h2⟩; exact ⟨r, hsub r h1, h2⟩
    · rintro ⟨r, h1, h2⟩
      obtain ⟨r', h3, h4⟩ := List.mem_map.mp (hL3 r h1)
      exact ⟨r', pm.mem_iff.mpr h3, h4.trans h2⟩
  have e3 := sset_eq hm (asc_of (fun x hx => hm' x (hsub x hx)) nd' pw) hmem
  rw [← e3] at h
  have st := Stp.of (w := w) s2
  have np0 : H p = none := s2.free np
  exact posF_new (posF_stp st _ _ h) (o.of s2) np (dpa_same (st.core o.ro) _ (dpa_of_tupI fun q hq => hR q (hsub q hq)))
theorem vf_sset {e : Expr} {f : Ro → M Va} {p p2 q pos : Pos} (hZ : Z.K = X.K) (ha : PE X e (tQ Z f)) {j : Nat} (hr : Room j X.A) (hc : X.calm = true) (g1 : Gl X "sorted") (m1 : X.mg "sorted" = none) (g2 : Gl X "set") (m2 : X.mg "set" = none)
    (he : starEach [Expr.Call (.Name "set" p2) [e] [] q] X.env = (false, eval (Expr.Call (.Name "set" p2) [e] [] q) X.env) :: starEach [] X.env := by rfl) (he2 : starEach [e] X.env = (false, eval e X.env) :: starEach [] X.env := by rfl) (hp1 : (backTo pos (starEach [] X.env)).any (·.1) = false := by rfl) (hp2 : (backTo q (starEach [] X.env)).any (·.1) = false := by rfl) :
    PE X (.Call (.Name "sorted" p) [.Call (.Name "set" p2) [e] [] q] [] pos) (tF Z (eSset f)) := by
  have base : PE X (.Call (.Name "sorted" p) [.Call (.Name "set" p2) [e] [] q] [] pos) _ :=
    pe_callB (cr_sortedT hc) g1 m1 (by decide +kernel) (pa_cons (pe_callTy (cr_setOfA hc hr.units) g2 m2 (by decide +kernel) (pa_cons ha pa_nil he2) (by decide) (by decide) he2 hp2) pa_nil he) (by decide) (by decide) he hp1
  refine pe_use base fun σ H Q ⟨w0, γ, w, n, ρ, re, o, q⟩ => ?_
  refine ⟨w0, γ, w, n, ρ, re, o, (f ρ).mono (fun x n1 hx v H1 w1 s1 o1 r1 => ?_) (fun _ _ z => z) q⟩
  have h := (kSset x).mono (posF_stp s1) (posE_stp s1) hx
  unfold kSset at h
  split at h
  · split at h
    · rename_i ms hms
      obtain ⟨⟨⟨d, hd, hm⟩, h64⟩, h⟩ := h
      obtain ⟨l, vs, rfl, h1, h2⟩ := r1.list
      rw [rowsD_eq hms] at h2
      obtain ⟨ks, rfl, e2, hR⟩ := dpa_tupI h2
      exact sset_core hZ hc h o1 e2 hR hd hm h64 (.inl (hZ ▸ h1))
    · exact h.elim
  · split at h
    · rename_i ms hms
      obtain ⟨⟨⟨d, hd, hm⟩, h64⟩, h⟩ := h
      obtain ⟨l, vs, rfl, h1, h2⟩ := r1.tuple
      rw [rowsD_eq hms] at h2
      obtain ⟨ks, rfl, e2, hR⟩ := dpa_tupI h2
      exact sset_core hZ hc h o1 e2 hR hd hm h64 (.inr (hZ ▸ h1))
    · exact h.elim
  · exact h.elim
end
/-! ### repr -/
def kRepr : List Va → M Va
  | [.da (.bool b)] => .ret (.da (.str (PyData.bool b).shown))
  | [.da (.list ds)] => (M.req ((PyData.list ds).showable = true ∧ (PyData.list ds).hasDict = false ∧ (PyData.list ds).shown.length ≤ sizeLine ∧ (PyData.list ds).depth ≤ 20)).bind fun _ => .ret (.da (.str (PyData.list ds).shown))
  | [.da (.tuple ds)] => (M.req ((PyData.tuple ds).showable = true ∧ (PyData.tuple ds).hasDict = false ∧ (PyData.tuple ds).shown.length ≤ sizeLine ∧ (PyData.tuple ds).depth ≤ 20)).bind fun _ => .ret (.da (.str (PyData.tuple ds).shown))
  | _ => .bad
theorem ck_repr {X : Cx} {Z : Zc} (hZ : Z.K = X.K) : CQok Z (rReprD X.K) kRepr := by
  intro w n H Q vs xs o r h
  unfold kRepr at h
  split at h
  · obtain ⟨v, rfl, q1⟩ := repq1 r
    have hq := q1.dp
    cases hq
    exact ⟨_, .bool _, rfl, .bl _, rfl, rfl, by rename_i b; cases b <;> decide +kernel, by rename_i b; cases b <;> decide, .inr ⟨_, rfl⟩, post_now h o (.str _)⟩
  · obtain ⟨⟨h1, h2, h3, h4⟩, h⟩ := h
    obtain ⟨v, rfl, q1⟩ := repq1 r
    have hq := q1.dp
    obtain ⟨p, us, rfl, _⟩ := q1.list
    exact ⟨_, _, rfl, hZ ▸ hq, h1, h2, h3, h4, .inl ⟨_, rfl⟩, post_now h o (.str _)⟩
  · obtain ⟨⟨h1, h2, h3, h4⟩, h⟩ := h
    obtain ⟨v, rfl, q1⟩ := repq1 r
    have hq := q1.dp
    obtain ⟨p, us, rfl, _⟩ := q1.tuple
    exact ⟨_, _, rfl, hZ ▸ hq, h1, h2, h3, h4, .inl ⟨_, rfl⟩, post_now h o (.str _)⟩
  · exact h.elim
/-! ### the draws -/
def vDraw : List Va → M Va
  | [.dw _, .da (.int b)] => (M.req (1 ≤ b ∧ b < 1073741824)).bind fun _ => M.tick.bind fun _ => (M.any fun r : Int => 0 ≤ r ∧ r < b).bind fun r => .ret (.da (.int r))
  | _ => .bad
theorem vDraw_run {a : Addr} {b : Int} {Q : Va → Nat → Prop} {E : Er → Nat → Prop} {n : Nat} (h1 : 1 ≤ b) (h2 : b < 1073741824) (hn : n ≤ 1000000) (h : ∀ r : Int, 0 ≤ r → r < b → Q (.da (.int r)) (n + 1)) : (vDraw [.dw a, .da (.int b)]).run Q E n :=
  ⟨⟨h1, h2⟩, hn, fun r hr => h r hr.1 hr.2⟩
theorem sp_draw {Z : Zc} {vs : List V} {H : Hp} {Q : VK} {E : XK} (h : spV Z 2 vDraw vs H Q E) : spDraw vs H Q E := by
  obtain ⟨hl, w, n, xs, o, r, q⟩ := h
  unfold vDraw at q
  split at q
  · rename_i a b
    obtain ⟨⟨h1, h2⟩, hn, q⟩ := q
    cases r with
    | cons r1 r2 =>
      cases r2 with
      | cons r2 r3 =>
        cases r3
        cases r2
        obtain ⟨rfl, hreg⟩ := r1
        obtain ⟨c, hc, D⟩ := o.dr a hreg
        refine ⟨a, c, b, n, rfl, D, hn, h1, h2, fun x H' x0 x1 kp D' => ?_⟩
        have al : ∀ p, H p ≠ none → H' p ≠ none := fun p hp => by
          by_cases e : p = a
          · obtain ⟨l, s, t, cs, e1, _⟩ := D'
            rw [e, e1]; simp
          · cases z : H p with
            | none => exact absurd z hp
            | some ob => rw [kp p ob z (by simpa using e)]; simp
        refine q x ⟨x0, x1⟩ (.int x) H' w ⟨fun p ob e nr => kp p ob e fun z => nr (by rw [List.mem_singleton.mp z]; exact hreg), al, fun _ z => z, fun _ z => .inl z, fun _ z => z, fun _ z => .inl z, fun _ z => z, fun _ z => .inl z⟩ ⟨fun p hp => al p (o.al p hp), o.ro, fun a' ha' => ?_, fun p hp => al p (o.cl p hp), fun p hp xs e => ?_⟩ (.int x)
        obtain ⟨c', hc', D2⟩ := o.dr a' ha'
        by_cases e : a' = a
        · subst e
          exact ⟨c, hc, D'⟩
        · obtain ⟨l, s, p, cs, e1, e2, e3⟩ := D2
          have nc : c' ≠ a := fun z => by
            obtain ⟨l2, s2, p2, cs2, f1, _⟩ := D
            rw [z, f1] at e2; cases e2
          have k1 := kp a' _ e1 (by simpa using e)
          have k2 := kp c' _ e2 (by simpa using nc)
          obtain ⟨g1, g2, g3, g4, g5, g6, g7⟩ := e3
          exact ⟨c', hc', l, s, p, cs, k1, k2, g1, g2, g3, g4, g5, g6, by omega⟩
        · by_cases ea : p = a
          · obtain ⟨l, s, t, cs, e1, _⟩ := D'
            rw [ea, e1] at e; cases e
          · cases q : H p with
            | none => exact o.al p hp q
            | some u => exact o.nt p hp xs (by rw [q, ← kp p u q (by simpa using ea)]; exact e)
  · exact q.elim
def vBegun : List Va → M Va
  | [.da (.list ds), .da (.int k)] => match intsD ds with
    | some ns => (M.req (ns.length ≤ 63 ∧ 0 ≤ k ∧ k ≤ 100)).bind fun _ => (M.any fun _ : Addr => True).bind fun a => .ret (.dw a)
    | none => .bad
  | _ => .bad
theorem vBegun_run {ns : List Int} {k : Int} {Q : Va → Nat → Prop} {E : Er → Nat → Prop} {n : Nat} (h1 : ns.length ≤ 63) (h2 : 0 ≤ k) (h3 : k ≤ 100) (h : ∀ a, Q (.dw a) n) : (vBegun [.da (.list (ns.map .int)), .da (.int k)]).run Q E n := by
  unfold vBegun
  dsimp only
  rw [intsD_map]
  exact ⟨⟨h1, h2, h3⟩, fun a _ => h a⟩
theorem sp_begun {Z : Zc} {vs : List V} {H : Hp} {Q : VK} {E : XK} (h : spV Z 2 vBegun vs H Q E) : spBegun Z.K vs H Q E := by
  obtain ⟨hl, w, n, xs, o, r, q⟩ := h
  unfold vBegun at q
  split at q
  · split at q
    · rename_i ns hn
      obtain ⟨⟨h1, h2, h3⟩, q⟩ := q
      cases r with
      | cons r1 r2 =>
        cases r2 with
        | cons r2 r3 =>
          cases r3
          cases r2
          obtain ⟨p, us, rfl, k1, k2⟩ := Rep.list r1
          rw [intsD_eq hn] at k2
          rw [dpa_ints k2] at k1
          refine ⟨p, ns, _, rfl, k1, h1, h2, h3, fun d c H' sm nd nc D => ?_⟩
          have st := Stp.of (w := w) sm
          have o' := o.of sm
          have D0 := id D
          obtain ⟨l, s, t, cs, e1, e2, e3⟩ := D0
          refine q d trivial (.ref d) H' ⟨d :: w.os, d :: w.reg, c :: w.cs⟩ ⟨fun b ob e nr => sm b ob e, st.al, fun _ z => List.mem_cons_of_mem _ z, fun b z => ?_, fun _ z => List.mem_cons_of_mem _ z, fun b z => ?_, fun _ z => List.mem_cons_of_mem _ z, fun b z => ?_⟩ ⟨fun b z => ?_, fun b z => ?_, fun b z => ?_, fun b z => ?_, fun b z xs e => ?_⟩ ⟨rfl, List.mem_cons_self⟩
          · exact (List.mem_cons.mp z).elim (fun e => .inr (by rw [e]; exact nd)) .inl
          · exact (List.mem_cons.mp z).elim (fun e => .inr (by rw [e]; exact nd)) .inl
          · exact (List.mem_cons.mp z).elim (fun e => .inr (by rw [e]; exact nc)) .inl
          · exact (List.mem_cons.mp z).elim (fun e => by rw [e, e1]; simp) (o'.al b)
          · exact (List.mem_cons.mp z).elim (fun e => by rw [e]; exact List.mem_cons_self) fun y => List.mem_cons_of_mem _ (o.ro b y)
          · rcases List.mem_cons.mp z with e | y
            · exact ⟨c, List.mem_cons_self, by rw [e]; exact D.same (Same.refl _) (Nat.zero_le _)⟩
            · obtain ⟨c', hc', D2⟩ := o'.dr b y
              exact ⟨c', List.mem_cons_of_mem _ hc', D2⟩
          · exact (List.mem_cons.mp z).elim (fun e => by rw [e, e2]; simp) (o'.cl b)
          · rcases List.mem_cons.mp z with y | y
            · rw [y, e1] at e; cases e
            · exact o'.nt b y xs e
    · exact q.elim
  · exact q.elim
/-- the law's end -/
theorem sp_law {K : PySem.W.Frag} {mg : Str → Option Value} {F : List Va → M Va} (hF : ∀ ns : List Int, ns.length ≤ 63 → (F [.da (.list (ns.map .int))]).run (fun x _ => x = .da (.bool true)) (fun _ _ => False) 0) {a : Addr} {ns : List Int} {H : Hp} {Q : VK} {E : XK} (hl : ns.length ≤ 63) (hS : SqL K H a (ns.map V.int)) (q : ∀ H', Q (.bl true) H') : spV ⟨K, mg, E0⟩ 1 F [.ref a] H Q E := by
  refine ⟨rfl, ⟨[], [], []⟩, 0, _, ⟨fun p h => (nomatch h), fun p h => (nomatch h), fun p h => (nomatch h), fun p h => (nomatch h), fun p h => (nomatch h)⟩, .cons (x := .da (.list (ns.map .int))) (.lst (Same.seq (fun b o e => ?_) hS) (dpaOf (by simp) fun i v d h1 h2 => ?_)) .nil, (F _).mono (fun x k hx v H' w' s' o' r => ?_) (fun _ _ z => z) (hF ns hl)⟩
  · show dels H [] b = _
    rw [dels_of (by simp)]
    exact e
  · rw [List.getElem?_map] at h1 h2
    cases e : ns[i]? with
    | none => rw [e] at h1; cases h1
    | some m => rw [e] at h1 h2; cases h1; cases h2; exact .int _
  · subst hx
    cases r
    exact q H'
end JN

set_option maxRecDepth 100000
set_option maxHeartbeats 4000000
namespace JN
open PySem PySem.Spec PyProof.Rows L2
/-! ### sorted of few tuples of ints, also of the empty tuple alone; of a dict with such keys -/
theorem perm_back {α β : Type} {g : α → β} : ∀ {n m : List β}, n.Perm m → ∀ l : List α, n = l.map g → ∃ l' : List α, l'.Perm l ∧ m = l'.map g := by
  intro n m h
  induction h with
  | nil => exact fun l e => ⟨l, List.Perm.refl _, e⟩
  | cons x _ ih =>
    intro l e
    cases l with
    | nil => cases e
    | cons a l =>
      rw [List.map_cons] at e
      obtain ⟨e1, e2⟩ := List.cons.inj e
      obtain ⟨l', p, q⟩ := ih l e2
      exact ⟨a :: l', p.cons a, by rw [List.map_cons, e1, q]⟩
  | swap x y r =>
    intro l e
    match l, e with
    | a :: b :: l, e =>
      rw [List.map_cons, List.map_cons] at e
      obtain ⟨e1, e2⟩ := List.cons.inj e
      obtain ⟨e3, e4⟩ := List.cons.inj e2
      exact ⟨b :: a :: l, List.Perm.swap _ _ _, by rw [List.map_cons, List.map_cons, e1, e3, e4]⟩
  | trans _ _ i1 i2 =>
    intro l e
    obtain ⟨l1, p1, q1⟩ := i1 l e
    obtain ⟨l2, p2, q2⟩ := i2 l1 q1
    exact ⟨l2, p2.trans p1, q2⟩
section
variable {prog : Program} {w : World} {A : Around} {E : Value → Shared → Prop} {s : Shared}
theorem sort_tups0 {a : Addr} {vs : List Value} {n d : Nat} {B : Int} {P : PySem.Fin → Shared → Prop} (ho : s.heap.get? a = some (seqObj "list" vs.toArray n)) (h64 : vs.length < 64) (hd : 1 ≤ d ∨ vs.length < 2) (x : TS.TupsOk s.heap d B vs)
    (h : ∀ out : Array Value, out.toList.Perm vs → out.toList.Pairwise (fun u v => TS.code B (TS.intsOf s.heap u) ≤ TS.code B (TS.intsOf s.heap v)) → P (.done (.ret .none)) { s with heap := sortedHeap s.heap a vs out }) :
    wpAny (model prog w) A (Builtin.«list.sort» ⟨[.ref a], []⟩) P E s := by
  rcases hd with hd | hd
  · exact TS.sort_tups ho h64 hd x (fun v => TS.code B (TS.intsOf s.heap v)) (fun v _ ns t => by
      show TS.code B (TS.intsOf s.heap v) = TS.code B ns
      rw [t.ints]) h
  · refine SrtO.list_sort_ord (ltv := fun _ _ => false) ⟨fun _ _ e => rfl, fun _ _ _ _ _ => rfl⟩ ho (by rw [sizeLine_eq]; omega) (fun h2 => absurd h2 (by omega)) fun out _ hb => ?_
    refine h out.toArray (by simpa using hb.perm) ?_
    have hl : out.length < 2 := by rw [hb.perm.length_eq]; exact hd
    match out, hl with
    | [], _ => exact .nil
    | [y], _ => exact List.pairwise_singleton _ _
    | _ :: _ :: _, hl => exact absurd hl (by show ¬ (_ + 1 + 1 < 2); omega)
end
abbrev refs' (ks : List (Addr × List Int)) : List V := ks.map fun p => V.ref p.1
abbrev TupI (H : Hp) (a : Addr) (g : List Int) : Prop := H a = some (.tup (g.map V.int))
/-- sorted(xs), xs a list of few tuples of d ints (or of at most one tuple) -/
def rSortL (K : PySem.W.Frag) (B : Int) : List V → Hp → VK → Prop := fun vs H Q => ∃ (a : Addr) (ks : List (Addr × List Int)) (d : Nat), vs = [V.ref a] ∧ SqL K H a (refs' ks) ∧ (∀ p ∈ ks, SqT K H p.1 (p.2.map V.int)) ∧ (∀ p ∈ ks, p.2.length = d ∧ TS.Bd B p.2) ∧ ks.length < 64 ∧ (1 ≤ d ∨ ks.length < 2) ∧
  ∀ (p : Addr) (ks' : List (Addr × List Int)), H p = none → ks'.Perm ks → ks'.Pairwise (fun q r => TS.code B q.2 ≤ TS.code B r.2) → Q (.ref p) (upd H p (.lst (refs' ks')))
/-- sorted(d), d a dict whose keys are such tuples -/
def rSortDT (B : Int) : List V → Hp → VK → Prop := fun vs H Q => ∃ (a : Addr) (kvs : List (List Key × V)) (gs : List (List Int)) (d : Nat), vs = [V.ref a] ∧ H a = some (.dT kvs) ∧ kvs.map (·.1) = gs.map (fun g => g.map Sum.inl) ∧ (∀ g ∈ gs, g.length = d ∧ TS.Bd B g) ∧ gs.length < 64 ∧ (1 ≤ d ∨ gs.length < 2) ∧
  ∀ (p : Addr) (ks' : List (Addr × List Int)), H p = none → (ks'.map (·.2)).Perm gs → (∀ q ∈ ks', TupI H q.1 q.2) → ks'.Pairwise (fun q r => TS.code B q.2 ≤ TS.code B r.2) → Q (.ref p) (upd H p (.lst (refs' ks')))
theorem kv_ints (g : List Int) : (g.map Sum.inl).map kV = g.map V.int := by
  rw [List.map_map]
  rfl
theorem vals_refs' (ks : List (Addr × List Int)) : Vals (refs' ks) (ks.map fun p => Value.ref p.1) := by
  induction ks with
  | nil => exact .nil
  | cons p r ih => exact .cons rfl ih
section
variable {X : Cx} {pins : List (Addr × Obj)} {σ : L2.St} {H : Hp} {s : Shared} {Q : VK} {B : Int} {d : Nat}
/-- the end of both: the values are collected; a new list of them is made and sorted -/
theorem sorted_tail {h' : Heap} {tk : Nat} {vs : List Value} (kh : ∀ b o, s.heap.get? b = some o → h'.get? b = some o) (I : Inv X pins σ H s) (ks : List (Addr × List Int)) (ev : vs = ks.map fun p => Value.ref p.1) (hR : ∀ p ∈ ks, SqT X.K H p.1 (p.2.map V.int)) (hB : ∀ p ∈ ks, p.2.length = d ∧ TS.Bd B p.2) (h64 : ks.length < 64) (hd : 1 ≤ d ∨ ks.length < 2)
    (q : ∀ (p : Addr) (ks' : List (Addr × List Int)), H p = none → ks'.Perm ks → ks'.Pairwise (fun q r => TS.code B q.2 ≤ TS.code B r.2) → Q (.ref p) (upd H p (.lst (refs' ks')))) {A : Around} {E : Value → Shared → Prop} {β : Type} {f : Value → Sem β} {R : β → Shared → Prop}
    (hf : ∀ (l : Value) s', EP X pins σ Q l s' → wpAny (model X.prog X.w) A (f l) R E s') :
    wpAny (model X.prog X.w) A (do
      let l ← newList vs
      let _ ← holding [l] (call (.builtin "list.sort") [l])
      f l) R E { s with heap := h', toks := tk } := by
  have I1 : Inv X pins σ H { s with heap := h', toks := tk } := I.kept kh
  have hvl : vs.length < 64 := by rw [ev, List.length_map]; exact h64
  refine wpAny_bind (wpAny_newList ?_ (by rw [sizeLine_eq]; omega))
  have hoL : (h'.push (seqObj "list" vs.toArray 0)).get? h'.objs.size = some (seqObj "list" vs.toArray 0) := Heap.get?_push_size _ rfl
  have tkk : ∀ p ∈ ks, TS.TupInts (h'.push (seqObj "list" vs.toArray 0)) (.ref p.1) p.2 := fun p hp => by
    obtain ⟨its, rv, ⟨o, ho, hc, n, hdd⟩, hz⟩ := I1.tuple (hR p hp)
    exact ⟨p.1, its.toArray, rfl, ⟨o, Heap.get?_push_of_some _ ho, hc, n, hdd⟩, intsAre_of rv⟩
  have x : TS.TupsOk (h'.push (seqObj "list" vs.toArray 0)) d B vs := fun v hv => by
    rw [ev] at hv
    obtain ⟨p, hp, e⟩ := List.mem_map.mp hv
    rw [← e]
    exact ⟨p.2, tkk p hp, (hB p hp).1, (hB p hp).2⟩
  show wpAny _ _ _ _ _ { s with heap := h'.push (seqObj "list" vs.toArray 0), toks := tk }
  refine wpAny_bind (wpAny_holding (wpAny_call_entry slot_list_sort ⟨_, hoL, rfl⟩ entry_list_sort
    (sort_tups0 (s := { s with heap := h'.push (seqObj "list" vs.toArray 0), toks := tk }) hoL hvl (by rw [ev, List.length_map]; exact hd) x fun out a1 a2 => ⟨_, rfl, ?_⟩) (args_list_sort _)))
  obtain ⟨c, hc⟩ := sortedHeap_at (vs := vs) (out := out) hoL
  obtain ⟨ks', pm, e'⟩ := perm_back (g := fun p : Addr × List Int => Value.ref p.1) a1.symm ks ev
  have pw : ks'.Pairwise (fun q r => TS.code B q.2 ≤ TS.code B r.2) := by
    rw [e'] at a2
    refine List.Pairwise.imp_of_mem (fun {q r} hq hr hle => ?_) (List.pairwise_map.mp a2)
    have f1 := (tkk q (pm.mem_iff.mp hq)).ints
    have f2 := (tkk r (pm.mem_iff.mp hr)).ints
    rw [← f1, ← f2]
    exact hle
  have hlen : (refs' ks').length ≤ sizeLine := by rw [List.length_map, pm.length_eq, sizeLine_eq]; omega
  refine hf _ _ ⟨.ref h'.objs.size, upd H h'.objs.size (.lst (refs' ks')), I1.laid (t' := tk) (fun b u e => ?_) (Nat.le_refl _)
    (show ObjOk X.prog X.w _ _ _ (.lst (refs' ks')) from ⟨hlen, out.toList, c, by rw [e']; exact vals_refs' ks', by rw [Array.toArray_toList]; exact hc⟩), rfl, q _ ks' (I1.hok.fresh (Nat.le_refl _)) pm pw⟩
  have hb : b < h'.objs.size := Heap.lt_size e
  rw [sortedHeap_old (Nat.ne_of_lt hb) (by rw [size_push']; exact Nat.lt_succ_of_lt hb)]
  exact Heap.get?_push_of_some _ e
end
section
variable {X : Cx} {B : Int}
theorem cr_sortL : CallR X (.builtin "sorted") (rSortL X.K B) := by
  intro pins s σ H vs us Q I r h
  obtain ⟨a, ks, d, rfl, hs, hR, hB, h64, hd, q⟩ := h
  obtain ⟨its, rv, hl, hz1⟩ := I.list hs
  have hz0 : its.length ≤ sizeLine := by rw [← rv.length]; exact hz1
  rw [Vals.ref1 r]
  have ev : its = ks.map fun p => Value.ref p.1 := by simpa using refs_of_vals rv
  refine Calls.call_function_entry kind_sorted plain_sorted entry_sorted (args_sorted1 _) ?_
  unfold Builtin.«sorted»
  refine wpAny_bind (m := checkCount "sorted" 1 1 _) (wpAny_pure ?_)
  refine wpAny_bind (collect_list hl.isList ?_ (by have := hz0; omega))
  have hkeep : ∀ b o, s.heap.get? b = some o → ((s.heap.push (seqObj "list" #[] 0)).update s.heap.objs.size (Obj.mapSeq (· ++ its.toArray))).get? b = some o := fun b o e => by
    rw [Heap.get?_update_ne _ _ _ _ (Nat.ne_of_lt (Heap.lt_size e))]
    exact Heap.get?_push_of_some _ e
  exact sorted_tail (Q := Q) (tk := s.toks) hkeep I ks (by simpa using ev) hR hB h64 hd q fun v s' z => wpAny_pure ⟨_, rfl, z⟩
theorem cr_sortDT (hc : X.calm = true) : CallR X (.builtin "sorted") (rSortDT B) := by
  intro pins s σ H vs us Q I r h
  obtain ⟨a, kvs, gs, d, rfl, hdT, hkg, hB, h64, hd, q⟩ := h
  rw [Vals.ref1 r]
  obtain ⟨z, hs, xs, pr, o, es, ep, ho, hx, hdt, he, hn⟩ := I.hok a _ hdT
  have l1 : es.size = xs.length := size_of_entries he
  have l2 : kvs.length = xs.length := Paired.length pr
  refine Calls.call_function_entry kind_sorted plain_sorted entry_sorted (args_sorted1 _) ?_
  unfold Builtin.«sorted»
  refine wpAny_bind (m := checkCount "sorted" 1 1 _) (wpAny_pure ?_)
  refine wpAny_bind (PySem.W.kdu_collect (A := X.A.in1) (kdl_raw hs hx hdt) (I.ok.hd hc) ho (by omega) fun h' tk acc kh it => ?_)
  have ea : acc.toList = xs.map fun x => Value.ref x.2.1 := by
    have hl : acc.toList.length = xs.length := by rw [Array.length_toList, it.1]; exact l1
    apply List.ext_getElem?
    intro j
    rw [List.getElem?_map]
    cases hj : acc.toList[j]? with
    | none =>
      have h1 := List.getElem?_eq_none_iff.mp hj
      rw [List.getElem?_eq_none (by omega)]
      all_goals rfl
    | some v =>
      obtain ⟨en, hen, hv⟩ := it.2 j v (by rw [← Array.getElem?_toList]; exact hj)
      have qe := entry_at he j
      rw [hen] at qe
      cases hb : xs[j]? with
      | none =>
        rw [hb] at qe
        exact nomatch (show some en = none from qe)
      | some b =>
        rw [hb] at qe
        have e2 : en = entryOfKey (tupleKind (mixKind X.prog X.w)) b := Option.some.inj qe
        rw [hv, e2]
        all_goals rfl
  have pair : ∀ (kvs : List (List Key × V)) (xs : List (List Key × Addr × Value)) (gs : List (List Int)), Paired (fun (p : List Key × V) (q : List Key × Addr × Value) => p.1 = q.1 ∧ H q.2.1 = some (.tup (p.1.map kV)) ∧ RelV p.2 q.2.2) kvs xs → kvs.map (·.1) = gs.map (fun g => g.map Sum.inl) →
      ∃ ks : List (Addr × List Int), ks.map (·.2) = gs ∧ (xs.map fun x => Value.ref x.2.1) = ks.map (fun p => Value.ref p.1) ∧ ∀ p ∈ ks, TupI H p.1 p.2 := by
    intro kvs xs gs pr
    induction pr generalizing gs with
    | nil =>
      intro e
      cases gs with
      | nil => exact ⟨[], rfl, rfl, fun p hp => nomatch hp⟩
      | cons _ _ => cases e
    | cons h0 t ih =>
      intro e
      cases gs with
      | nil => cases e
      | cons g gs =>
        rw [List.map_cons, List.map_cons] at e
        obtain ⟨e1, e2⟩ := List.cons.inj e
        obtain ⟨ks, k1, k2, k3⟩ := ih gs e2
        obtain ⟨_, g2, _⟩ := h0
        refine ⟨(_, g) :: ks, by rw [List.map_cons, k1], by rw [List.map_cons, List.map_cons, k2], fun p hp => ?_⟩
        rcases List.mem_cons.mp hp with y | y
        · subst y
          rw [e1, kv_ints] at g2
          exact g2
        · exact k3 p y
  obtain ⟨ks, k1, k2, k3⟩ := pair kvs xs gs pr hkg
  have kl : ks.length = gs.length := by rw [← k1, List.length_map]
  have kB : ∀ p ∈ ks, p.2.length = d ∧ TS.Bd B p.2 := fun p hp => hB _ (by rw [← k1]; exact List.mem_map.mpr ⟨p, hp, rfl⟩)
  exact sorted_tail (Q := Q) (tk := tk) kh I ks (ea.trans k2) (fun p hp => .inl (.inl (k3 p hp))) kB (by rw [kl]; exact h64) (by rw [kl]; exact hd)
    (fun p ks' np pm pw => q p ks' np (k1 ▸ pm.map (·.2)) (fun x hx => k3 x (pm.mem_iff.mp hx)) pw) fun v s' z => wpAny_pure ⟨_, rfl, z⟩
end
end JN

set_option maxRecDepth 100000
set_option maxHeartbeats 4000000
namespace JN
open PySem PySem.Spec PyProof.Rows L2
/-! ### dicts that a name alone has, their keys tuples -/
def keyD : List PyData → Option (List Key)
  | [] => some []
  | .int i :: r => (keyD r).map (Sum.inl i :: ·)
  | .str s :: r => (keyD r).map (Sum.inr s :: ·)
  | _ :: _ => none
theorem keyD_rep {K : PySem.W.Frag} {C : Hp} : ∀ {ds : List PyData} {vs : List V} {k : List Key}, keyD ds = some k → DqAll K C vs ds → vs = k.map kV
  | [], _, _, e, h => by cases h; cases e; rfl
  | .int i :: ds, _, _, e, h => by
    cases h with
    | cons h1 h2 =>
      cases h1
      unfold keyD at e
      cases q : keyD ds with
      | none => rw [q] at e; cases e
      | some r => rw [q] at e; cases e; rw [keyD_rep q h2]; rfl
  | .str s :: ds, _, _, e, h => by
    cases h with
    | cons h1 h2 =>
      cases h1
      unfold keyD at e
      cases q : keyD ds with
      | none => rw [q] at e; cases e
      | some r => rw [q] at e; cases e; rw [keyD_rep q h2]; rfl
  | .none :: _, _, _, e, _ => by cases e
  | .bool _ :: _, _, _, e, _ => by cases e
  | .list _ :: _, _, _, e, _ => by cases e
  | .tuple _ :: _, _, _, e, _ => by cases e
  | .dict _ :: _, _, _, e, _ => by cases e
theorem keyD_map (ns : List Int) : keyD (ns.map .int) = some (ns.map Sum.inl) := by
  induction ns with
  | nil => rfl
  | cons n ns ih => rw [List.map_cons, keyD, ih]; rfl
def getP {κ : Type} [DecidableEq κ] (es : List (κ × PyData)) (k : κ) : Option PyData := (es.find? fun e => decide (e.1 = k)).map (·.2)
def putP {κ : Type} [DecidableEq κ] (es : List (κ × PyData)) (k : κ) (d : PyData) : List (κ × PyData) :=
  if es.any (fun e => decide (e.1 = k)) then es.map (fun e => if e.1 = k then (e.1, d) else e) else es ++ [(k, d)]
section
variable {κ : Type} [DecidableEq κ] {K : PySem.W.Frag} {C : Hp}
/-- the same keys, the values as told -/
def KvR (K : PySem.W.Frag) (C : Hp) (kvs : List (κ × V)) (es : List (κ × PyData)) : Prop := kvs.map (·.1) = es.map (·.1) ∧ DqAll K C (kvs.map (·.2)) (es.map (·.2))
theorem kvr_nil : KvR K C ([] : List (κ × V)) [] := ⟨rfl, .nil⟩
theorem kvr_cons {p : κ × V} {q : κ × PyData} {kvs : List (κ × V)} {es : List (κ × PyData)} : KvR K C (p :: kvs) (q :: es) ↔ p.1 = q.1 ∧ Dq K C p.2 q.2 ∧ KvR K C kvs es := by
  unfold KvR
  constructor
  · rintro ⟨h1, h2⟩
    obtain ⟨e1, e2⟩ := List.cons.inj h1
    cases h2 with
    | cons h2 h3 => exact ⟨e1, h2, e2, h3⟩
  · rintro ⟨h1, h2, h3, h4⟩
    exact ⟨by rw [List.map_cons, List.map_cons, h1, h3], .cons h2 h4⟩
theorem kvr_get {k : κ} : ∀ {kvs : List (κ × V)} {es : List (κ × PyData)}, KvR K C kvs es → (valV kvs k = none ∧ getP es k = none) ∨ ∃ v d, valV kvs k = some v ∧ getP es k = some d ∧ Dq K C v d
  | [], [], _ => .inl ⟨rfl, rfl⟩
  | [], _ :: _, h => by cases h.1
  | _ :: _, [], h => by cases h.1
  | p :: kvs, q :: es, h => by
    obtain ⟨e, hd, hr⟩ := kvr_cons.mp h
    by_cases c : p.1 = k
    · have c2 : q.1 = k := e ▸ c
      exact .inr ⟨p.2, q.2, by simp [valV, c], by simp [getP, c2], hd⟩
    · have c2 : ¬ q.1 = k := fun z => c (e.trans z)
      have ih := kvr_get (k := k) hr
      simp only [valV, getP, List.find?_cons, c, c2, decide_false] at ih ⊢
      exact ih
theorem kvr_any {k : κ} : ∀ {kvs : List (κ × V)} {es : List (κ × PyData)}, KvR K C kvs es → kvs.any (fun e => decide (e.1 = k)) = es.any (fun e => decide (e.1 = k))
  | [], [], _ => rfl
  | [], _ :: _, h => by cases h.1
  | _ :: _, [], h => by cases h.1
  | p :: kvs, q :: es, h => by
    obtain ⟨e, hd, hr⟩ := kvr_cons.mp h
    rw [List.any_cons, List.any_cons, e, kvr_any hr]
theorem kvr_map {k : κ} {v : V} {d : PyData} (hv : Dq K C v d) : ∀ {kvs : List (κ × V)} {es : List (κ × PyData)}, KvR K C kvs es → KvR K C (kvs.map fun e => if e.1 = k then (e.1, v) else e) (es.map fun e => if e.1 = k then (e.1, d) else e)
  | [], [], h => h
  | [], _ :: _, h => by cases h.1
  | _ :: _, [], h => by cases h.1
  | p :: kvs, q :: es, h => by
    obtain ⟨e, hd, hr⟩ := kvr_cons.mp h
    rw [List.map_cons, List.map_cons]
    refine kvr_cons.mpr ?_
    by_cases c : p.1 = k
    · rw [if_pos c, if_pos (e ▸ c)]
      exact ⟨e, hv, kvr_map hv hr⟩
    · rw [if_neg c, if_neg fun z => c (e.trans z)]
      exact ⟨e, hd, kvr_map hv hr⟩
theorem kvr_put {k : κ} {v : V} {d : PyData} {kvs : List (κ × V)} {es : List (κ × PyData)} (h : KvR K C kvs es) (hv : Dq K C v d) : KvR K C (putK kvs k v) (putP es k d) := by
  unfold putK putP
  rw [← kvr_any h]
  split
  · have := kvr_map (k := k) hv h
    simpa using this
  · exact ⟨by rw [List.map_append, List.map_append, h.1]; rfl, by rw [List.map_append, List.map_append]; exact dpaApp h.2 (.cons hv .nil)⟩
theorem kvr_len {kvs : List (κ × V)} {es : List (κ × PyData)} (h : KvR K C kvs es) : kvs.length = es.length := by
  have := congrArg List.length h.1
  rwa [List.length_map, List.length_map] at this
theorem kvr_same {C' : Hp} {kvs : List (κ × V)} {es : List (κ × PyData)} (s : Same C C') (h : KvR K C kvs es) : KvR K C' kvs es := ⟨h.1, dpa_same s _ h.2⟩
end
theorem own_dT {K : PySem.W.Frag} {C : Hp} {u : HO} {es : List (List Key × PyData)} (h : OcR K C u (.dT es)) : ∃ kvs, u = .dT kvs ∧ KvR K C kvs es := by
  cases u with
  | dT kvs => exact ⟨kvs, rfl, h⟩
  | _ => exact (show False from h).elim
/-- the key that a value is -/
@[simp] def kKey : Va → M (List Key)
  | .da (.tuple ds) => match keyD ds with
    | some k => .ret k
    | none => .bad
  | _ => .bad
theorem kKey_run {x : Va} {Q : List Key → Nat → Prop} {E : Er → Nat → Prop} {n : Nat} (h : (kKey x).run Q E n) : ∃ ds k, x = .da (.tuple ds) ∧ keyD ds = some k ∧ Q k n := by
  unfold kKey at h
  split at h
  · split at h
    · exact ⟨_, _, rfl, by assumption, h⟩
    · exact h.elim
  · exact h.elim
theorem key_rep {K : PySem.W.Frag} {w : Wd} {H : Hp} {r : List Addr} {v : V} {ds : List PyData} {k : List Key} (e : keyD ds = some k) (h : Rep K (core H w) r v (.da (.tuple ds))) : ∃ b, v = .ref b ∧ H b = some (.tup (k.map kV)) := by
  cases h with
  | tup h1 h2 =>
    rw [keyD_rep e h2] at h1
    exact ⟨_, rfl, dels_same H w.os _ _ h1⟩
@[simp] def sNewT (i : Nat) : Ro → M Rs := fun ρ => .ret (.nx (ρ.set i (.ow (.dT []))))
@[simp] def dT? (ρ : Ro) (i : Nat) : Option (List (List Key × PyData)) := match ρ[i]? with
  | some (.ow (.dT es)) => some es
  | _ => none
theorem dT_at {ρ : Ro} {i : Nat} {es : List (List Key × PyData)} (h : dT? ρ i = some es) : ρ[i]? = some (.ow (.dT es)) := by
  unfold dT? at h
  split at h
  · rename_i e; cases h; exact e
  · cases h
@[simp] def kO {α : Type} : Option α → M α
  | some a => .ret a
  | none => .bad
theorem kO_run {α : Type} {x : Option α} {Q : α → Nat → Prop} {E : Er → Nat → Prop} {n : Nat} (h : (kO x).run Q E n) : ∃ a, x = some a ∧ Q a n := by
  cases x with
  | none => exact h.elim
  | some a => exact ⟨a, rfl, h⟩
@[simp] def sPutT (i : Nat) (fk fv : Ro → M Va) : Ro → M Rs := fun ρ => (kO (dT? ρ i)).bind fun es => (fv ρ).bind fun v => (kD v).bind fun d => (fk ρ).bind fun x => (kKey x).bind fun k => (M.req (es.length < sizeLine)).bind fun _ => .ret (.nx (ρ.set i (.ow (.dT (putP es k d)))))
@[simp] def eGetT (i : Nat) (fk : Ro → M Va) : Ro → M Va := fun ρ => (kO (dT? ρ i)).bind fun es => (fk ρ).bind fun x => (kKey x).bind fun k => (kO (getP es k)).bind fun d => .ret (.da d)
@[simp] def eGet2T (i : Nat) (fk fx : Ro → M Va) : Ro → M Va := fun ρ => (kO (dT? ρ i)).bind fun es => (fk ρ).bind fun x => (kKey x).bind fun k => (fx ρ).bind fun y => (kD y).bind fun z => .ret (.da ((getP es k).getD z))
def eInT (i : Nat) (neg : Bool) (fk : Ro → M Va) : Ro → M Va := fun ρ => (kO (dT? ρ i)).bind fun es => (fk ρ).bind fun x => (kKey x).bind fun k => .ret (.da (.bool (if neg then !(getP es k).isSome else (getP es k).isSome)))
section
variable {X : Cx} {Z : Zc} {e o : Expr} {f fx : Ro → M Va} {i : Nat} {pos : Pos}
theorem vs_newT {x : Str} {pos' dpos : Pos} (hN : X.N.Nodup) (hi : X.N[i]? = some x) (hx : Loc X.env.scope x) (hs : swapsWith (.Dict [] [] dpos) (some (.Name x pos')) pos.line X.env = pure false := by rfl) (hf : X.fn x = true ∨ X.env.scope.names.lookup x = some .local := by first | exact .inl rfl | exact .inr rfl | assumption) :
    PS X (.Assign [.Name x pos'] (.Dict [] [] dpos) pos) (tS Z (sNewT i)) := by
  refine ps_use (ps_set hN hi hx pe_dnewT hs hf) fun D σ H ⟨w0, H0, γ, w, n, ρ, s0, re, o, q⟩ => ?_
  intro d nd
  have s1 := stp_own (o := .dT []) o nd
  obtain ⟨n1, n2, n3⟩ := new_out o nd
  refine q (JN.own w d) _ _ (s0.trans s1) ((re.stp s1 o.ro).setF List.mem_cons_self n2 n3 (fun z => n1 (s0.os _ z)) upd_same ⟨rfl, .nil⟩ fun j ys e1 e2 => ?_) (wok_own o nd fun _ z => nomatch z)
  obtain ⟨o2, h2, p', us, e3, b1, b2, b3, b4, b5, b6⟩ := re.sl j _ e1
  rw [h2] at e2
  cases e2
  cases e3
  rw [nd] at b5
  cases b5
theorem dT_read {ρ : Ro} {w0 w : Wd} {γ : List (V × Va)} {σ : L2.St} {H : Hp} {es : List (List Key × PyData)} (re : RE Z.K w0 γ w ρ σ H) (h : dT? ρ i = some es) : ∃ p kvs, σ[i]? = some (some (.ref p)) ∧ p ∈ w.os ∧ p ∉ w.reg ∧ p ∉ w.cs ∧ p ∉ w0.os ∧ H p = some (.dT kvs) ∧ KvR Z.K (core H w) kvs es := by
  obtain ⟨ov, h1, p, u, rfl, a1, a2, a3, a4, a5, a6⟩ := re.sl _ _ (dT_at h)
  obtain ⟨kvs, rfl, a6⟩ := own_dT a6
  exact ⟨p, kvs, h1, a1, a2, a3, a4, a5, a6⟩
theorem vs_putT {k v : Expr} {fk fv : Ro → M Va} {pos' : Pos} (hu : X.A.units + 1 < cLine) (ho : PE X o (tVar i)) (hk : PE X k (tV Z fk)) (hv : PE X v (tV Z fv)) (hs : swapsWith v (some (.Subscript o k pos')) pos.line X.env = pure false := by rfl) :
    PS X (.Assign [.Subscript o k pos'] v pos) (tS Z (sPutT i fk fv)) := by
  refine ps_use (ps_dput hu ho hk hv hs) fun D σ H ⟨w0, H0, γ, w, n, ρ, s0, re, o, q⟩ => ?_
  obtain ⟨es, hes, q⟩ := kO_run q
  refine ⟨w0, γ, w, n, ρ, re, o, (fv ρ).mono (fun y n1 hy u H1 w1 s1 o1 r1 => ?_) (posE_stp s0) q⟩
  obtain ⟨d, rfl, hy⟩ := kD_run hy
  have re1 := re.stp s1 o.ro
  obtain ⟨p, kvs, h1, a1, a2, a3, a4, a5, a6⟩ := dT_read re1 hes
  refine ⟨_, h1, w0, γ, w1, n1, ρ, re1, o1, (fk ρ).mono (fun x n2 hx u2 H2 w2 s2 o2 r2 => ?_) (posE_stp (s0.trans s1)) hy⟩
  obtain ⟨ds, key, rfl, ek, hz, hx⟩ := kKey_run hx
  have re2 := re1.stp s2 o1.ro
  obtain ⟨p', kvs2, h1', b1, b2, b3, b4, b5, b6⟩ := dT_read re2 hes
  rw [h1] at h1'
  cases h1'
  obtain ⟨b, rfl, hb⟩ := key_rep ek r2
  have S := (s0.trans s1).trans s2
  have np : H0 p = none := (S.osN p b1).resolve_left b4
  have rd := r1.stp s2 o1.ro
  refine ⟨p, _, rfl, DPut.t b5 hb (by rw [kvr_len b6]; exact hz), hx w2 σ _ (S.put np) (re2.mut (dT_at hes) h1 (kvr_put b6 rd)) (o2.put b2 b3 fun _ z => nomatch z)⟩
theorem ve_getT {k : Expr} (hu : X.A.units + 1 < cLine) (ho : PE X o (tVar i)) (hk : PE X k (tV Z f)) (hs : NoSl k := by intro _ _; rfl) : PE X (.Subscript o k pos) (tV Z (eGetT i f)) := by
  refine pe_use (pe_dget hu ho hk hs) fun σ H Q ⟨w0, γ, w, n, ρ, re, o, q⟩ => ?_
  obtain ⟨es, hes, q⟩ := kO_run q
  obtain ⟨p, kvs, h1, a1, a2, a3, a4, a5, a6⟩ := dT_read re hes
  refine ⟨_, h1, w0, γ, w, n, ρ, re, o, (f ρ).mono (fun x n2 hx u2 H2 w2 s2 o2 r2 => ?_) (fun _ _ z => z) q⟩
  obtain ⟨ds, key, rfl, ek, hx⟩ := kKey_run hx
  obtain ⟨d, hd, hx⟩ := kO_run hx
  obtain ⟨b, rfl, hb⟩ := key_rep ek r2
  have k6 := kvr_same (s2.core o.ro) a6
  rcases kvr_get (k := key) k6 with ⟨_, e⟩ | ⟨v, d', e1, e2, e3⟩
  · rw [e] at hd; cases hd
  · rw [e2] at hd
    cases hd
    refine ⟨p, v, rfl, ?_, hx v H2 w2 s2 o2 e3⟩
    rw [← e1]
    exact DGet.t (s2.keep _ _ a5 a2) hb
theorem ve_get2T {k d : Expr} {apos cpos : Pos} (hu : X.A.units + 1 < cLine) (ho : PE X o (tVar i)) (hk : PE X k (tV Z f)) (hd : PE X d (tV Z fx)) (m : M2 X o "get" apos k d cpos) : PE X (.Call (.Attribute o "get" apos) [k, d] [] cpos) (tV Z (eGet2T i f fx)) := by
  refine pe_use (pe_dget2 hu ho hk hd m) fun σ H Q ⟨w0, γ, w, n, ρ, re, o, q⟩ => ?_
  obtain ⟨es, hes, q⟩ := kO_run q
  obtain ⟨p, kvs, h1, a1, a2, a3, a4, a5, a6⟩ := dT_read re hes
  refine ⟨_, h1, p, rfl, .inr ⟨kvs, .inl a5⟩, w0, γ, w, n, ρ, re, o, (f ρ).mono (fun x n2 hx u2 H2 w2 s2 o2 r2 => ?_) (fun _ _ z => z) q⟩
  obtain ⟨ds, key, rfl, ek, hx⟩ := kKey_run hx
  refine ⟨w0, γ, w2, n2, ρ, re.stp s2 o.ro, o2, (fx ρ).mono (fun y n3 hy u3 H3 w3 s3 o3 r3 => ?_) (posE_stp s2) hx⟩
  obtain ⟨z, rfl, hy⟩ := kD_run hy
  obtain ⟨b, rfl, hb⟩ := key_rep ek (r2.stp s3 o2.ro)
  have S := s2.trans s3
  have k6 := kvr_same (S.core o.ro) a6
  refine ⟨_, DGet.t (S.keep _ _ a5 a2) hb, ?_⟩
  rcases kvr_get (k := key) k6 with ⟨e0, e⟩ | ⟨v, d', e1, e2, e3⟩
  · rw [e] at hy
    rw [e0]
    exact hy _ H3 w3 S o3 r3
  · rw [e2] at hy
    rw [e1]
    exact hy _ H3 w3 S o3 e3
theorem ve_inT {k : Expr} (hu : X.A.units + 1 < cLine) (ho : PE X o (tVar i)) (hk : PE X k (tV Z f)) (hp : ∀ {ty td : TE}, PE X k ty → PE X o td → PE X (.Compare k [.In] [o] pos) (tDIn ty td)) : PE X (.Compare k [.In] [o] pos) (tV Z (eInT i false f)) := by
  refine pe_use (hp hk ho) fun σ H Q ⟨w0, γ, w, n, ρ, re, o, q⟩ => ?_
  obtain ⟨es, hes, q⟩ := kO_run q
  refine ⟨w0, γ, w, n, ρ, re, o, (f ρ).mono (fun x n2 hx u2 H2 w2 s2 o2 r2 => ?_) (fun _ _ z => z) q⟩
  obtain ⟨ds, key, rfl, ek, hx⟩ := kKey_run hx
  obtain ⟨p, kvs, h1, a1, a2, a3, a4, a5, a6⟩ := dT_read (re.stp s2 o.ro) hes
  obtain ⟨b, rfl, hb⟩ := key_rep ek r2
  refine ⟨_, h1, p, _, rfl, DGet.t a5 hb, ?_⟩
  rcases kvr_get (k := key) a6 with ⟨e0, e⟩ | ⟨v, d', e1, e2, e3⟩
  · rw [e0]
    dsimp only at hx
    rw [e] at hx
    exact hx _ H2 w2 s2 o2 (.bl _)
  · rw [e1]
    dsimp only at hx
    rw [e2] at hx
    exact hx _ H2 w2 s2 o2 (.bl _)
end
/-! ### the keys of a dict, ascending -/
def unK : List Key → Option (List Int)
  | [] => some []
  | .inl i :: r => (unK r).map (i :: ·)
  | .inr _ :: _ => none
theorem unK_map (ns : List Int) : unK (ns.map Sum.inl) = some ns := by
  induction ns with
  | nil => rfl
  | cons n ns ih => rw [List.map_cons, unK, ih]; rfl
theorem unK_eq : ∀ {k : List Key} {ns : List Int}, unK k = some ns → k = ns.map Sum.inl
  | [], _, h => by cases h; rfl
  | .inl i :: r, _, h => by
    unfold unK at h
    cases q : unK r with
    | none => rw [q] at h; cases h
    | some ms => rw [q] at h; cases h; rw [unK_eq q]; rfl
  | .inr _ :: _, _, h => by cases h
def unKs : List (List Key) → Option (List (List Int))
  | [] => some []
  | k :: r => match unK k, unKs r with
    | some n, some m => some (n :: m)
    | _, _ => none
theorem unKs_map (ms : List (List Int)) : unKs (ms.map fun m => m.map Sum.inl) = some ms := by
  induction ms with
  | nil => rfl
  | cons m ms ih => rw [List.map_cons, unKs, unK_map, ih]
theorem unKs_eq : ∀ {ks : List (List Key)} {ms : List (List Int)}, unKs ks = some ms → ks = ms.map fun m => m.map Sum.inl
  | [], _, h => by cases h; rfl
  | k :: r, _, h => by
    unfold unKs at h
    split at h
    · rename_i n m h1 h2
      cases h
      rw [List.map_cons, ← unKs_eq h2, ← unK_eq h1]
    · cases h
/-- the rows ascending (each one once, all of one length; the empty row stands alone) -/
def kRows (ms : List (List Int)) : M (List PyData) := (M.req ((∃ d, (∀ p ∈ ms, Mon d p) ∧ (1 ≤ d ∨ ms.length < 2)) ∧ ms.length < 64 ∧ ms.Nodup)).bind fun _ => .ret ((sset ms).map tupI)
def eKeysT (i : Nat) : Ro → M (List PyData) := fun ρ => (kO (dT? ρ i)).bind fun es => (kO (unKs (es.map (·.1)))).bind kRows
def eSortR (f : Ro → M Va) : Ro → M (List PyData) := fun ρ => (f ρ).bind fun x => match x with
  | .da (.list ds) => (kO (rowsD ds)).bind kRows
  | _ => .bad
theorem asc_of' {d : Nat} {L : List (List Int)} (hm : ∀ p ∈ L, Mon d p) (hn : L.Nodup) (hp : L.Pairwise fun p q => cd p ≤ cd q) : Asc L := by
  have := asc_of (α := List Int) (f := id) (d := d) (L := L) hm (by simpa using hn) hp
  simpa using this
section
variable {X : Cx} {Z : Zc} {f : Ro → M Va} {i : Nat}
theorem rows_end {w : Wd} {n : Nat} {H : Hp} {Q : VK} {ms : List (List Int)} {d : Nat} (h : posF Z w H Q ((sset ms).map tupI) n) (o : WOk w n H) (hm : ∀ p ∈ ms, Mon d p) (nd : ms.Nodup) {p : Addr} {ks' : List (Addr × List Int)} (np : H p = none) (pm : (ks'.map (·.2)).Perm ms) (hR : ∀ q ∈ ks', core H w q.1 = some (.tup (q.2.map V.int))) (pw : ks'.Pairwise (fun q r => TS.code B0 q.2 ≤ TS.code B0 r.2)) : Q (.ref p) (upd H p (.lst (refs' ks'))) := by
  have e3 : ks'.map (·.2) = sset ms := sset_eq hm (asc_of' (d := d) (fun x hx => hm x (pm.mem_iff.mp hx)) (pm.nodup_iff.mpr nd) (List.pairwise_map.mpr pw)) fun x => pm.mem_iff
  rw [← e3] at h
  exact posF_new h o np (dpa_of_tupI hR)
theorem vf_sortR {e : Expr} {p pos : Pos} (hZ : Z.K = X.K) (ha : PE X e (tQ Z f)) (hg : Gl X "sorted") (hm : X.mg "sorted" = none) (he : starEach [e] X.env = (false, eval e X.env) :: starEach [] X.env := by rfl) (hpl : (backTo pos (starEach [] X.env)).any (·.1) = false := by rfl) :
    PE X (.Call (.Name "sorted" p) [e] [] pos) (tF Z (eSortR f)) := by
  refine pe_use (pe_callB (cr_sortL (B := B0)) hg hm (by decide +kernel) (pa_cons ha pa_nil he) (by decide) (by decide) he hpl) fun σ H Q ⟨w0, γ, w, n, ρ, re, o, q⟩ => ?_
  refine ⟨w0, γ, w, n, ρ, re, o, (f ρ).mono (fun x n1 hx v H1 w1 s1 o1 r1 => ?_) (fun _ _ z => z) q⟩
  dsimp only at hx
  split at hx
  · rename_i ds
    obtain ⟨ms, hms, ⟨⟨d, hm, hd⟩, h64, nd⟩, hx⟩ := kO_run hx
    obtain ⟨l, vs, rfl, h1, h2⟩ := r1.list
    rw [rowsD_eq hms] at h2
    obtain ⟨ks, rfl, rfl, hR⟩ := dpa_tupI h2
    rw [List.length_map] at h64 hd
    refine ⟨l, ks, d, rfl, hZ ▸ h1, fun p hp => .inl (.inl (dels_same H1 w1.os _ _ (hR p hp))), fun p hp => hm _ (List.mem_map.mpr ⟨p, hp, rfl⟩), h64, hd, fun p ks' np pm pw => ?_⟩
    exact rows_end (posF_stp s1 _ _ hx) o1 hm nd np (pm.map _) (fun q hq => hR q (pm.mem_iff.mp hq)) pw
  · exact hx.elim
/-- what stands at a key's place in the core -/
theorem key_core {w : Wd} {n : Nat} {H : Hp} {b : Addr} {xs : List V} (o : WOk w n H) (h : H b = some (.tup xs)) : core H w b = some (.tup xs) := by
  show dels H w.os b = _
  rw [dels_of fun z => o.nt b z xs h]
  exact h
theorem vf_keysT {e : Expr} {p pos : Pos} (hc : X.calm = true) (ho : PE X e (tVar i)) (hg : Gl X "sorted") (hm : X.mg "sorted" = none) (he : starEach [e] X.env = (false, eval e X.env) :: starEach [] X.env := by rfl) (hpl : (backTo pos (starEach [] X.env)).any (·.1) = false := by rfl) :
    PE X (.Call (.Name "sorted" p) [e] [] pos) (tF Z (eKeysT i)) := by
  refine pe_use (pe_callB (cr_sortDT (B := B0) hc) hg hm (by decide +kernel) (pa_cons ho pa_nil he) (by decide) (by decide) he hpl) fun σ H Q ⟨w0, γ, w, n, ρ, re, o, q⟩ => ?_
  obtain ⟨es, hes, q⟩ := kO_run q
  obtain ⟨ms, hms, ⟨⟨d, hm, hd⟩, h64, nd⟩, q⟩ := kO_run q
  obtain ⟨p, kvs, h1, a1, a2, a3, a4, a5, a6⟩ := dT_read re hes
  refine ⟨_, h1, p, kvs, ms, d, rfl, a5, a6.1.trans (unKs_eq hms), hm, h64, hd, fun l ks' np pm hT pw => ?_⟩
  exact rows_end q o hm nd np pm (fun q hq => key_core o (hT q hq)) pw
theorem vf_listKeysT {e : Expr} {p p2 q2 pos : Pos} (hc : X.calm = true) (ho : PE X e (tVar i)) (hg : Gl X "sorted") (hm : X.mg "sorted" = none) (hg2 : Gl X "list") (hm2 : X.mg "list" = none)
    (he : starEach [Expr.Call (.Name "list" p2) [e] [] q2] X.env = (false, eval (Expr.Call (.Name "list" p2) [e] [] q2) X.env) :: starEach [] X.env := by rfl) (he2 : starEach [e] X.env = (false, eval e X.env) :: starEach [] X.env := by rfl) (hpl : (backTo pos (starEach [] X.env)).any (·.1) = false := by rfl) (hpl2 : (backTo q2 (starEach [] X.env)).any (·.1) = false := by rfl) :
    PE X (.Call (.Name "sorted" p) [.Call (.Name "list" p2) [e] [] q2] [] pos) (tF Z (eKeysT i)) := by
  refine pe_use (pe_callB (cr_sortL (B := B0)) hg hm (by decide +kernel) (pa_cons (pe_callTy (call_list_dT hc) hg2 hm2 (by decide +kernel) (pa_cons ho pa_nil he2) (by decide) (by decide) he2 hpl2) pa_nil he) (by decide) (by decide) he hpl) fun σ H Q ⟨w0, γ, w, n, ρ, re, o, q⟩ => ?_
  obtain ⟨es, hes, q⟩ := kO_run q
  obtain ⟨ms, hms, ⟨⟨d, hm, hd⟩, h64, nd⟩, q⟩ := kO_run q
  obtain ⟨p, kvs, h1, a1, a2, a3, a4, a5, a6⟩ := dT_read re hes
  have ek : kvs.map (·.1) = ms.map fun m => m.map Sum.inl := a6.1.trans (unKs_eq hms)
  refine ⟨_, h1, p, kvs, rfl, .inl a5, fun l bs nl hk => ?_⟩
  have pair : ∀ (kvs : List (List Key × V)) (bs : List Addr) (ms : List (List Int)), IsKeys H kvs bs → kvs.map (·.1) = ms.map (fun m => m.map Sum.inl) → ∃ ks : List (Addr × List Int), ks.map (·.2) = ms ∧ bs.map V.ref = refs' ks ∧ ∀ p ∈ ks, H p.1 = some (.tup (p.2.map V.int)) := by
    intro kvs bs ms pr
    unfold IsKeys at pr
    induction pr generalizing ms with
    | nil =>
      intro e
      cases ms with
      | nil => exact ⟨[], rfl, rfl, fun p hp => nomatch hp⟩
      | cons _ _ => cases e
    | cons h0 t ih =>
      intro e
      cases ms with
      | nil => cases e
      | cons g gs =>
        rw [List.map_cons, List.map_cons] at e
        obtain ⟨e1, e2⟩ := List.cons.inj e
        obtain ⟨ks, k1, k2, k3⟩ := ih gs e2
        refine ⟨(_, g) :: ks, by rw [List.map_cons, k1], by rw [List.map_cons, k2]; rfl, fun p hp => ?_⟩
        rcases List.mem_cons.mp hp with y | y
        · subst y
          rw [e1, kv_ints] at h0
          exact h0
        · exact k3 p y
  obtain ⟨ks, rfl, k2, k3⟩ := pair kvs bs ms hk ek
  rw [List.length_map] at h64 hd
  have sl := same_new (o := .lst (bs.map V.ref)) nl
  refine ⟨l, ks, d, rfl, .inl (.inl (by rw [upd_same, k2])), fun p hp => .inl (.inl (sl _ _ (k3 p hp))), fun p hp => hm _ (List.mem_map.mpr ⟨p, hp, rfl⟩), h64, hd, fun l2 ks' np pm pw => ?_⟩
  have st := Stp.of (w := w) sl
  exact rows_end (posF_stp st _ _ q) (o.of sl) hm nd np (pm.map _) (fun q hq => key_core (o.of sl) (sl _ _ (k3 q (pm.mem_iff.mp hq)))) pw
end
end JN

set_option maxRecDepth 100000
set_option maxHeartbeats 4000000
namespace JN
open PySem PySem.Spec PyProof.Rows L2
theorem f_of_v {Z : Zc} {f : Ro → M (List PyData)} (σ : L2.St) (H : Hp) (Q : VK) (h : tV Z (eF f) σ H Q) : tF Z f σ H Q := by
  obtain ⟨w0, γ, w, n, ρ, re, o, q⟩ := h
  exact ⟨w0, γ, w, n, ρ, re, o, (f ρ).mono (fun ds k hx p vs H' w' s o' hp h1 h2 h3 h4 h5 => by
    have np : p ∉ w.os := fun z => o.al p z hp
    exact hx (.ref p) H' (less w' p) (s.less np) (o'.less h2) (.lst (.inl (.inl (less_at h4))) (dpa_same core_less _ h5))) (fun _ _ z => z) q⟩
section
variable {X : Cx} {Z : Zc}
theorem vs_lcF {i : Nat} {y : Str} {py : Pos} {elt tg iter : Expr} {ifs : List Expr} {scope : Scope} {own : List (Str × Nat)} {pos spos : Pos} {fi : Ro → M (List Va)} {g : TG} {ft : Va → Ro → M Ro} {is : List Nat} {tt : Ro → M Bool} {fe : Ro → M Va} (hc : X.calm = true) (hN : X.N.Nodup) (hy : X.N[i]? = some y) (hyl : X.env.scope.names.lookup y = some .local)
    (hsw : swapsWith (.ListComp elt [⟨tg, iter, ifs, 0⟩] scope pos) (some (.Name y py)) spos.line X.env = pure true) (hi : PI X tg iter (tIQ Z fi)) (ok : BlkOk X.N X.env.scope scope own)
    (hg : ∀ (s : Shared) (H : Hp) (C : Addr) (cl : List (Str × Addr)) (fp : List Addr), PG (X.blk s H scope (compEnvC scope cl C X.env) fp) tg g) (hgs : GS Z.q g ft is) (his : ∀ i ∈ is, i ∈ own.map (·.2))
    (ht : ∀ (s : Shared) (H : Hp) (C : Addr) (cl : List (Str × Addr)) (fp : List Addr), PTs (X.blk s H scope (compEnvC scope cl C X.env) fp) ifs (tVB Z.q tt)) (he : ∀ (s : Shared) (H : Hp) (C : Addr) (cl : List (Str × Addr)) (fp : List Addr), PE (X.blk s H scope (compEnvC scope cl C X.env) fp) elt (tV Z.q fe))
    (hs : ∀ x, foldedSetIterable iter X.env x = pure x := by intro _; rfl) : PS X (.Assign [.Name y py] (.ListComp elt [⟨tg, iter, ifs, 0⟩] scope pos) spos) (tS Z (sSetF i (eComp (own.map (·.2)) fi ft tt fe))) :=
  ps_use (ps_setLc hc hN hy hyl hsw hi ok hg ht he hs) fun D σ H h => lc_read hgs his σ H _ (setF_read D σ H h)
theorem vs_lc {i : Nat} {y : Str} {py : Pos} {elt tg iter : Expr} {ifs : List Expr} {scope : Scope} {own : List (Str × Nat)} {pos spos : Pos} {fi : Ro → M (List Va)} {g : TG} {ft : Va → Ro → M Ro} {is : List Nat} {tt : Ro → M Bool} {fe : Ro → M Va} (hc : X.calm = true) (hN : X.N.Nodup) (hy : X.N[i]? = some y) (hyl : X.env.scope.names.lookup y = some .local)
    (hsw : swapsWith (.ListComp elt [⟨tg, iter, ifs, 0⟩] scope pos) (some (.Name y py)) spos.line X.env = pure true) (hi : PI X tg iter (tIQ Z fi)) (ok : BlkOk X.N X.env.scope scope own)
    (hg : ∀ (s : Shared) (H : Hp) (C : Addr) (cl : List (Str × Addr)) (fp : List Addr), PG (X.blk s H scope (compEnvC scope cl C X.env) fp) tg g) (hgs : GS Z.q g ft is) (his : ∀ i ∈ is, i ∈ own.map (·.2))
    (ht : ∀ (s : Shared) (H : Hp) (C : Addr) (cl : List (Str × Addr)) (fp : List Addr), PTs (X.blk s H scope (compEnvC scope cl C X.env) fp) ifs (tVB Z.q tt)) (he : ∀ (s : Shared) (H : Hp) (C : Addr) (cl : List (Str × Addr)) (fp : List Addr), PE (X.blk s H scope (compEnvC scope cl C X.env) fp) elt (tV Z.q fe))
    (hs : ∀ x, foldedSetIterable iter X.env x = pure x := by intro _; rfl) : PS X (.Assign [.Name y py] (.ListComp elt [⟨tg, iter, ifs, 0⟩] scope pos) spos) (tS Z (sSet i (eF (eComp (own.map (·.2)) fi ft tt fe)))) :=
  ps_use (ps_setLc hc hN hy hyl hsw hi ok hg ht he hs) fun D σ H h => lc_read hgs his σ H _ (f_of_v σ H _ (set_read D σ H h))
end
/-! ### extend, stores by place -/
@[simp] def lst? (ρ : Ro) (i : Nat) : Option (List PyData) := match ρ[i]? with
  | some (.ow (.lst xs)) => some xs
  | _ => none
theorem lst_at {ρ : Ro} {i : Nat} {xs : List PyData} (h : lst? ρ i = some xs) : ρ[i]? = some (.ow (.lst xs)) := by
  unfold lst? at h
  split at h
  · rename_i e; cases h; exact e
  · cases h
theorem lst_read {Z : Zc} {i : Nat} {ρ : Ro} {w0 w : Wd} {γ : List (V × Va)} {σ : L2.St} {H : Hp} {xs : List PyData} (re : RE Z.K w0 γ w ρ σ H) (h : lst? ρ i = some xs) : ∃ p vs, σ[i]? = some (some (.ref p)) ∧ p ∈ w.os ∧ p ∉ w.reg ∧ p ∉ w.cs ∧ p ∉ w0.os ∧ H p = some (.lst vs) ∧ DqAll Z.K (core H w) vs xs := by
  obtain ⟨ov, h1, p, u, rfl, a1, a2, a3, a4, a5, a6⟩ := re.sl _ _ (lst_at h)
  cases u with
  | lst vs => exact ⟨p, vs, h1, a1, a2, a3, a4, a5, a6⟩
  | _ => exact (show False from a6).elim
@[simp] def sExt (i : Nat) (f : Ro → M (List PyData)) : Ro → M Rs := fun ρ => (kO (lst? ρ i)).bind fun xs => (f ρ).bind fun ds => (M.req (xs.length + ds.length ≤ sizeLine)).bind fun _ => .ret (.nx (ρ.set i (.ow (.lst (xs ++ ds)))))
/-- x[k] = v -/
def sPutL (i : Nat) (fk fv : Ro → M Va) : Ro → M Rs := fun ρ => (kO (lst? ρ i)).bind fun xs => (fv ρ).bind fun v => (kD v).bind fun d => (fk ρ).bind fun k => match k with
  | .da (.int z) => (kO (ixN xs.length z)).bind fun j => .ret (.nx (ρ.set i (.ow (.lst (xs.set j d)))))
  | _ => .bad
theorem dpaSet {K : PySem.W.Frag} {C : Hp} {v : V} {d : PyData} (h : Dq K C v d) : ∀ {vs : List V} {ds : List PyData} (j : Nat), DqAll K C vs ds → DqAll K C (vs.set j v) (ds.set j d)
  | _, _, _, .nil => .nil
  | _, _, 0, .cons _ t => .cons h t
  | _, _, j + 1, .cons q t => .cons q (dpaSet h j t)
section
variable {X : Cx} {Z : Zc} {e o : Expr} {i : Nat} {pos : Pos}
theorem vs_ext {f : Ro → M (List PyData)} {apos cpos epos : Pos} (ho : PE X o (tVar i)) (he : PE X e (tF Z f))
    (hpe : ∀ {to : TE} {t : TA}, PE X o to → PA X [e] t → PE X (.Call (.Attribute o "extend" apos) [e] [] cpos) (tBM X.K "list" rExtend to t) := by exact fun h1 h2 => pe_bm PySem.F.plainAttrs_list PySem.F.slot_list_extend PySem.F.type_list_extend mt_extend h1 h2)
    (hse : starEach [e] X.env = (false, eval e X.env) :: starEach [] X.env := by rfl) (hs : swapsWith (.Call (.Attribute o "extend" apos) [e] [] cpos) none epos.line X.env = pure false := by rfl) : PS X (.Expr (.Call (.Attribute o "extend" apos) [e] [] cpos) epos) (tS Z (sExt i f)) := by
  refine ps_use (ps_expr (hpe ho (pa_cons he pa_nil hse)) hs) fun D σ H ⟨w0, H0, γ, w, n, ρ, s0, re, o, q⟩ => ?_
  obtain ⟨xs, hxs, q⟩ := kO_run q
  obtain ⟨p, vs, h1, a1, a2, a3, a4, a5, a6⟩ := lst_read re hxs
  refine ⟨_, h1, .inl ⟨rfl, _, .inl (.inl a5)⟩, w0, γ, w, n, ρ, re, o, (f ρ).mono (fun ds n1 hx b us H1 w1 s1 o1 nb b1 b2 b3 b4 b5 => ?_) (posE_stp s0) q⟩
  obtain ⟨hz, hx⟩ := hx
  have re1 := re.stp s1 o.ro
  obtain ⟨p', vs', h1', c1, c2, c3, c4, c5, c6⟩ := lst_read re1 hxs
  rw [h1] at h1'
  cases h1'
  have np : H0 p = none := (s0.osN p a1).resolve_left a4
  exact ⟨p, b, vs', us, rfl, rfl, c5, b4, by rw [dpaLen c6, dpaLen b5]; exact hz, hx w1 σ _ ((s0.trans s1).put np) (re1.mut (lst_at hxs) h1 (dpaApp c6 b5)) (o1.put c2 c3 fun _ z => nomatch z)⟩
theorem vs_putL {k v : Expr} {fk fv : Ro → M Va} {pos' : Pos} (ho : PE X o (tVar i)) (hk : PE X k (tV Z fk)) (hv : PE X v (tV Z fv))
    (hps : ∀ {te to ti : TE}, PE X v te → PE X o to → PE X k ti → PS X (.Assign [.Subscript o k pos'] v pos) (tAsg te (gSub to ti rSetL)) := by exact fun h1 h2 h3 => ps_asg h1 (pg_sub h2 h3 set_list)) :
    PS X (.Assign [.Subscript o k pos'] v pos) (tS Z (sPutL i fk fv)) := by
  refine ps_use (hps hv ho hk) fun D σ H ⟨w0, H0, γ, w, n, ρ, s0, re, o, q⟩ => ?_
  obtain ⟨xs, hxs, q⟩ := kO_run q
  refine ⟨w0, γ, w, n, ρ, re, o, (fv ρ).mono (fun y n1 hy u H1 w1 s1 o1 r1 => ?_) (posE_stp s0) q⟩
  obtain ⟨d, rfl, hy⟩ := kD_run hy
  have re1 := re.stp s1 o.ro
  obtain ⟨p, vs, h1, a1, a2, a3, a4, a5, a6⟩ := lst_read re1 hxs
  refine ⟨_, h1, w0, γ, w1, n1, ρ, re1, o1, (fk ρ).mono (fun x n2 hx u2 H2 w2 s2 o2 r2 => ?_) (posE_stp (s0.trans s1)) hy⟩
  dsimp only at hx
  split at hx
  · rename_i z
    obtain ⟨j, hj, hx⟩ := kO_run hx
    cases r2
    have re2 := re1.stp s2 o1.ro
    obtain ⟨p', vs2, h1', b1, b2, b3, b4, b5, b6⟩ := lst_read re2 hxs
    rw [h1] at h1'
    cases h1'
    have S := (s0.trans s1).trans s2
    have np : H0 p = none := (S.osN p b1).resolve_left b4
    exact ⟨p, vs2, z, j, rfl, rfl, b5, by rw [dpaLen b6]; exact hj, hx w2 σ _ (S.put np) (re2.mut (lst_at hxs) h1 (dpaSet (r1.stp s2 o1.ro) j b6)) (o2.put b2 b3 fun _ z => nomatch z)⟩
  · exact hx.elim
end
/-! ### list(range(..)), tuple(range(..)) -/
def rgD (a b : Int) : List PyData := (List.range (b - a).toNat).map fun i => .int (a + (i : Nat))
theorem dpa_rg {K : PySem.W.Frag} {C : Hp} {a b : Int} : DqAll K C (rgV a b) (rgD a b) := by
  unfold rgV rgD
  refine dpaOf (by simp) fun i v d h1 h2 => ?_
  rw [List.getElem?_map] at h1 h2
  cases e : (List.range (b - a).toNat)[i]? with
  | none => rw [e] at h1; cases h1
  | some m => rw [e] at h1 h2; cases h1; cases h2; exact .int _
def eRg1 (f : Ro → M Va) : Ro → M (List PyData) := fun ρ => (f ρ).bind fun x => match x with
  | .da (.int n) => (M.req (RgOk 0 n)).bind fun _ => .ret (rgD 0 n)
  | _ => .bad
def eRg2 (f g : Ro → M Va) : Ro → M (List PyData) := fun ρ => (f ρ).bind fun x => (g ρ).bind fun y => match x, y with
  | .da (.int a), .da (.int b) => (M.req (RgOk a b)).bind fun _ => .ret (rgD a b)
  | _, _ => .bad
section
variable {X : Cx} {Z : Zc} {a b : Expr} {f g : Ro → M Va} {p p2 q pos : Pos}
theorem vf_rg1 (hc : X.calm = true) (hg : Gl X "list") (hm : X.mg "list" = none) (hg2 : Gl X "range") (hm2 : X.mg "range" = none) (ha : PE X a (tV Z f)) (na : starEach [a] X.env = (false, eval a X.env) :: starEach [] X.env := by rfl)
    (ne : starEach [Expr.Call (.Name "range" p2) [a] [] q] X.env = (false, eval (Expr.Call (.Name "range" p2) [a] [] q) X.env) :: starEach [] X.env := by rfl) : PE X (.Call (.Name "list" p) [.Call (.Name "range" p2) [a] [] q] [] pos) (tF Z (eRg1 f)) := by
  refine pe_use (pe_listRg hc hg hm (prg_1 hg2 hm2 ha na) ne) fun σ H Q ⟨w0, γ, w, n, ρ, re, o, q⟩ => ?_
  refine ⟨w0, γ, w, n, ρ, re, o, (f ρ).mono (fun x n1 hx v H1 w1 s1 o1 r1 => ?_) (fun _ _ z => z) q⟩
  dsimp only at hx
  split at hx
  · cases r1
    obtain ⟨hr, hx⟩ := hx
    exact ⟨_, rfl, hr, fun l nl => posF_new (posF_stp s1 _ _ hx) o1 nl dpa_rg⟩
  · exact hx.elim
theorem vf_rg2 (hc : X.calm = true) (hg : Gl X "list") (hm : X.mg "list" = none) (hg2 : Gl X "range") (hm2 : X.mg "range" = none) (ha : PE X a (tV Z f)) (hb : PE X b (tV Z g)) (na : starEach [a, b] X.env = (false, eval a X.env) :: starEach [b] X.env := by rfl) (nb : starEach [b] X.env = (false, eval b X.env) :: starEach [] X.env := by rfl) (hp : (backTo q (starEach [b] X.env)).any (·.1) = false := by rfl)
    (ne : starEach [Expr.Call (.Name "range" p2) [a, b] [] q] X.env = (false, eval (Expr.Call (.Name "range" p2) [a, b] [] q) X.env) :: starEach [] X.env := by rfl) : PE X (.Call (.Name "list" p) [.Call (.Name "range" p2) [a, b] [] q] [] pos) (tF Z (eRg2 f g)) := by
  refine pe_use (pe_listRg hc hg hm (prg_2 hg2 hm2 ha hb na nb hp) ne) fun σ H Q ⟨w0, γ, w, n, ρ, re, o, q⟩ => ?_
  refine ⟨w0, γ, w, n, ρ, re, o, (f ρ).mono (fun x n1 hx v H1 w1 s1 o1 r1 => ?_) (fun _ _ z => z) q⟩
  refine ⟨w0, γ, w1, n1, ρ, re.stp s1 o.ro, o1, (g ρ).mono (fun y n2 hy u H2 w2 s2 o2 r2 => ?_) (posE_stp s1) hx⟩
  dsimp only at hy
  split at hy
  · cases r1
    cases r2
    obtain ⟨hr, hy⟩ := hy
    exact ⟨_, _, rfl, rfl, hr, fun l nl => posF_new (posF_stp (s1.trans s2) _ _ hy) o2 nl dpa_rg⟩
  · exact hy.elim
end
end JN
namespace JN
open PySem PySem.Spec PyProof.Rows L2
@[simp] def kNeg : Va → M Va
  | .da (.int i) => .ret (.da (.int (-i)))
  | _ => .bad
@[simp] def isN : PyData → Bool
  | .none => true
  | _ => false
@[simp] def kIsN (neg : Bool) : Va → M Va
  | .da d => .ret (.da (.bool (if neg then !isN d else isN d)))
  | _ => .bad
section
variable {X : Cx} {Z : Zc} {a : Expr} {f : Ro → M Va} {pos pos' : Pos} {j : Nat}
theorem ve_neg' (ha : PE X a (tV Z f)) : PE X (.UnaryOp .USub a pos) (tV Z (e1 kNeg f)) := by
  refine pe_use (pe_un un_neg ha) fun σ H Q ⟨w0, γ, w, n, ρ, re, o, q⟩ => ?_
  refine ⟨w0, γ, w, n, ρ, re, o, (f ρ).mono (fun x n1 hx v H1 w1 s1 o1 r1 => ?_) (fun _ _ z => z) q⟩
  unfold kNeg at hx
  split at hx
  · cases r1
    exact ⟨_, rfl, hx _ H1 w1 s1 o1 (.int _)⟩
  · exact hx.elim
theorem isN_dec {K : PySem.W.Frag} {C : Hp} {v : V} {d : PyData} (h : Dq K C v d) : decide (v = V.non) = isN d := by cases h <;> rfl
theorem ve_is (ha : PE X a (tV Z f)) : PE X (.Compare a [.Is] [.Constant .none j pos'] pos) (tV Z (e1 (kIsN false) f)) := by
  refine pe_use (pe_cmpR op_isN ha pe_non (nomark _)) fun σ H Q ⟨w0, γ, w, n, ρ, re, o, q⟩ => ?_
  refine ⟨w0, γ, w, n, ρ, re, o, (f ρ).mono (fun x n1 hx v H1 w1 s1 o1 r1 => ?_) (fun _ _ z => z) q⟩
  cases x with
  | dw a => exact hx.elim
  | da d => exact ⟨rfl, by rw [isN_dec r1]; exact hx _ H1 w1 s1 o1 (.bl _)⟩
theorem ve_isNot (ha : PE X a (tV Z f)) : PE X (.Compare a [.IsNot] [.Constant .none j pos'] pos) (tV Z (e1 (kIsN true) f)) := by
  refine pe_use (pe_cmpR op_notN ha pe_non (nomark _)) fun σ H Q ⟨w0, γ, w, n, ρ, re, o, q⟩ => ?_
  refine ⟨w0, γ, w, n, ρ, re, o, (f ρ).mono (fun x n1 hx v H1 w1 s1 o1 r1 => ?_) (fun _ _ z => z) q⟩
  cases x with
  | dw a => exact hx.elim
  | da d => exact ⟨rfl, by rw [isN_dec r1]; exact hx _ H1 w1 s1 o1 (.bl _)⟩
end
end JN

set_option maxRecDepth 100000
set_option maxHeartbeats 4000000
namespace JN
open PySem PySem.Spec PyProof.Rows L2
/-! ### comparisons as tests -/
theorem tvb_tv {Z : Zc} {f : Ro → M Va} {σ : L2.St} {H : Hp} {Q : Bool → Hp → Prop} (h : tVB Z (bB f) σ H Q) : tV Z f σ H fun x H' => ∃ k, x = .bl k ∧ Q k H' := by
  obtain ⟨w0, γ, w, n, ρ, re, o, q⟩ := h
  refine ⟨w0, γ, w, n, ρ, re, o, (f ρ).mono (fun x n1 hx v H1 w1 s1 o1 r1 => ?_) (fun _ _ z => z) q⟩
  obtain ⟨b, rfl, hx⟩ := kB_run hx
  cases r1
  exact ⟨_, rfl, hx H1 w1 s1 o1⟩
section
variable {X : Cx} {Z : Zc} {a b : Expr} {fa fb : Ro → M Va} {pos : Pos}
theorem vt_cmpG {op : CmpOp} {r : R2} {k : Va → Va → M Va} (ho : OpR X (compareOp op) r) (hr : R2ok Z r k) (ha : PE X a (tV Z fa)) (hb : PE X b (tV Z fb)) (hm : behindInMarks op b = false) : PT X (.Compare a [op] [b] pos) (tVB Z (bB (e2 k fa fb))) := pt_use (pt_cmpR ho ha hb hm) fun σ H Q h => tv2 hr σ H _ (tvb_tv h)
theorem vt_cmpQ {op : CmpOp} {r : R2} {k : Va → Va → M Va} (ho : OpR X (compareOp op) r) (hr : R2okQ Z r k) (ha : PE X a (tQ Z fa)) (hb : PE X b (tQ Z fb)) (hm : behindInMarks op b = false) : PT X (.Compare a [op] [b] pos) (tVB Z (bB (e2 k fa fb))) := pt_use (pt_cmpR ho ha hb hm) fun σ H Q h => tq2 hr σ H _ (tvb_tv h)
theorem vt_lt (ha : PE X a (tV Z fa)) (hb : PE X b (tV Z fb)) : PT X (.Compare a [.Lt] [b] pos) (tVB Z (bB (e2 kLt fa fb))) := vt_cmpG op_lt (r2_I fun _ _ _ => .bl _) ha hb (nomark _)
theorem vt_le (ha : PE X a (tV Z fa)) (hb : PE X b (tV Z fb)) : PT X (.Compare a [.LtE] [b] pos) (tVB Z (bB (e2 kLe fa fb))) := vt_cmpG op_le (r2_I fun _ _ _ => .bl _) ha hb (nomark _)
theorem vt_gt (ha : PE X a (tV Z fa)) (hb : PE X b (tV Z fb)) : PT X (.Compare a [.Gt] [b] pos) (tVB Z (bB (e2 kGt fa fb))) := vt_cmpG op_gt (r2_I fun _ _ _ => .bl _) ha hb (nomark _)
theorem vt_ge (ha : PE X a (tV Z fa)) (hb : PE X b (tV Z fb)) : PT X (.Compare a [.GtE] [b] pos) (tVB Z (bB (e2 kGe fa fb))) := vt_cmpG op_ge (r2_I fun _ _ _ => .bl _) ha hb (nomark _)
theorem r2q_eq (hZ : Z.K = X.K) : R2okQ Z (rEqD X.K) kEq := by
  intro w n H Q v u x y o rx ry h
  unfold kEq at h
  split at h
  · obtain ⟨⟨s1, s2⟩, h⟩ := h
    exact ⟨_, _, hZ ▸ rx.dp, hZ ▸ ry.dp, s1, s2, post_now h o (.bl _)⟩
  · exact h.elim
theorem r2q_ne (hZ : Z.K = X.K) : R2okQ Z (rNeD X.K) kNe := by
  intro w n H Q v u x y o rx ry h
  unfold kNe at h
  split at h
  · obtain ⟨⟨s1, s2⟩, h⟩ := h
    exact ⟨_, _, hZ ▸ rx.dp, hZ ▸ ry.dp, s1, s2, post_now h o (.bl _)⟩
  · exact h.elim
theorem r2q_in (hZ : Z.K = X.K) : R2okQ Z (rInD X.K) (kIn false) := by
  intro w n H Q v u x y o rx ry h
  unfold kIn at h
  split at h
  · obtain ⟨⟨s1, s2⟩, h⟩ := h
    exact ⟨_, _, hZ ▸ rx.dp, hZ ▸ ry.dp, s1, s2, post_now h o (.bl _)⟩
  · exact h.elim
theorem r2q_nin (hZ : Z.K = X.K) : R2okQ Z (rNotInD X.K) (kIn true) := by
  intro w n H Q v u x y o rx ry h
  unfold kIn at h
  split at h
  · obtain ⟨⟨s1, s2⟩, h⟩ := h
    exact ⟨_, _, hZ ▸ rx.dp, hZ ▸ ry.dp, s1, s2, post_now h o (.bl _)⟩
  · exact h.elim
theorem vt_eq {j : Nat} (hr : Room j X.A) (hZ : Z.K = X.K) (ha : PE X a (tQ Z fa)) (hb : PE X b (tQ Z fb)) : PT X (.Compare a [.Eq] [b] pos) (tVB Z (bB (e2 kEq fa fb))) := vt_cmpQ (op_eqD hr.units) (r2q_eq hZ) ha hb (nomark _)
theorem vt_ne {j : Nat} (hr : Room j X.A) (hZ : Z.K = X.K) (ha : PE X a (tQ Z fa)) (hb : PE X b (tQ Z fb)) : PT X (.Compare a [.NotEq] [b] pos) (tVB Z (bB (e2 kNe fa fb))) := vt_cmpQ (op_neD hr.units) (r2q_ne hZ) ha hb (nomark _)
theorem vt_inD {j : Nat} (hr : Room j X.A) (hZ : Z.K = X.K) (ha : PE X a (tQ Z fa)) (hb : PE X b (tQ Z fb)) (hm : behindInMarks .In b = false := by rfl) : PT X (.Compare a [.In] [b] pos) (tVB Z (bB (e2 (kIn false) fa fb))) := vt_cmpQ (op_inD (by have := hr.un; omega)) (r2q_in hZ) ha hb hm
theorem vt_ninD {j : Nat} (hr : Room j X.A) (hZ : Z.K = X.K) (ha : PE X a (tQ Z fa)) (hb : PE X b (tQ Z fb)) (hm : behindInMarks .NotIn b = false := by rfl) : PT X (.Compare a [.NotIn] [b] pos) (tVB Z (bB (e2 (kIn true) fa fb))) := vt_cmpQ (op_notInD (by have := hr.un; omega)) (r2q_nin hZ) ha hb hm
theorem vt_inI (hZ : Z.K = X.K) (ha : PE X a (tQ Z fa)) (hb : PE X b (tQ Z fb)) (hm : behindInMarks .In b = false := by rfl) : PT X (.Compare a [.In] [b] pos) (tVB Z (bB (e2 (kInI false) fa fb))) := vt_cmpQ op_in_seq (r2_inI hZ false) ha hb hm
theorem vt_ninI (hZ : Z.K = X.K) (ha : PE X a (tQ Z fa)) (hb : PE X b (tQ Z fb)) (hm : behindInMarks .NotIn b = false := by rfl) : PT X (.Compare a [.NotIn] [b] pos) (tVB Z (bB (e2 (kInI true) fa fb))) := vt_cmpQ op_notIn_seq (r2_inI hZ true) ha hb hm
/-! tuples of ints by their sequence -/
def kLtT : Va → Va → M Va
  | .da (.tuple xs), .da (.tuple ys) => match intsD xs, intsD ys with
    | some ns, some ms => .ret (.da (.bool (HT.lexLt ns ms)))
    | _, _ => .bad
  | _, _ => .bad
def leI (ns ms : List Int) : Bool := Ob.lexAt (fun j => decide (ns.getD j 0 = ms.getD j 0)) (fun j => decide (ns.getD j 0 ≤ ms.getD j 0)) (decide (ns.length ≤ ms.length)) 0 (min ns.length ms.length)
def kLeT : Va → Va → M Va
  | .da (.tuple xs), .da (.tuple ys) => match intsD xs, intsD ys with
    | some ns, some ms => .ret (.da (.bool (leI ns ms)))
    | _, _ => .bad
  | _, _ => .bad
theorem r2_ltT (hZ : Z.K = X.K) : R2ok Z (rLtT X.K) kLtT := by
  intro w n H Q v u x y o rx ry h
  unfold kLtT at h
  split at h
  · split at h
    · rename_i ns ms h1 h2
      obtain ⟨p, us, rfl, k1, k2⟩ := Rep.tuple rx
      obtain ⟨q, vs, rfl, k3, k4⟩ := Rep.tuple ry
      rw [intsD_eq h1] at k2
      rw [intsD_eq h2] at k4
      rw [dpa_ints k2] at k1
      rw [dpa_ints k4] at k3
      exact ⟨p, q, ns, ms, rfl, rfl, hZ ▸ k1, hZ ▸ k3, post_now h o (.bl _)⟩
    · exact h.elim
  · exact h.elim
theorem r2_leT (hZ : Z.K = X.K) : R2ok Z (rLeT X.K) kLeT := by
  intro w n H Q v u x y o rx ry h
  unfold kLeT at h
  split at h
  · split at h
    · rename_i ns ms h1 h2
      obtain ⟨p, us, rfl, k1, k2⟩ := Rep.tuple rx
      obtain ⟨q, vs, rfl, k3, k4⟩ := Rep.tuple ry
      rw [intsD_eq h1] at k2
      rw [intsD_eq h2] at k4
      rw [dpa_ints k2] at k1
      rw [dpa_ints k4] at k3
      exact ⟨p, q, ns, ms, rfl, rfl, hZ ▸ k1, hZ ▸ k3, post_now h o (.bl _)⟩
    · exact h.elim
  · exact h.elim
theorem ve_ltT {j : Nat} (hr : Room j X.A) (hZ : Z.K = X.K) (ha : PE X a (tV Z fa)) (hb : PE X b (tV Z fb)) : PE X (.Compare a [.Lt] [b] pos) (tV Z (e2 kLtT fa fb)) := ve_cmp (op_ltT hr.units0) (r2_ltT hZ) ha hb (nomark _)
theorem ve_leT {j : Nat} (hr : Room j X.A) (hZ : Z.K = X.K) (ha : PE X a (tV Z fa)) (hb : PE X b (tV Z fb)) : PE X (.Compare a [.LtE] [b] pos) (tV Z (e2 kLeT fa fb)) := ve_cmp (op_leT hr.units0) (r2_leT hZ) ha hb (nomark _)
theorem vt_ltT {j : Nat} (hr : Room j X.A) (hZ : Z.K = X.K) (ha : PE X a (tV Z fa)) (hb : PE X b (tV Z fb)) : PT X (.Compare a [.Lt] [b] pos) (tVB Z (bB (e2 kLtT fa fb))) := vt_cmpG (op_ltT hr.units0) (r2_ltT hZ) ha hb (nomark _)
theorem vt_leT {j : Nat} (hr : Room j X.A) (hZ : Z.K = X.K) (ha : PE X a (tV Z fa)) (hb : PE X b (tV Z fb)) : PT X (.Compare a [.LtE] [b] pos) (tVB Z (bB (e2 kLeT fa fb))) := vt_cmpG (op_leT hr.units0) (r2_leT hZ) ha hb (nomark _)
/-! None, chains -/
variable {f g h : Ro → M Va} {pos' : Pos} {j : Nat}
theorem vt_is (ha : PE X a (tV Z f)) : PT X (.Compare a [.Is] [.Constant .none j pos'] pos) (tVB Z (bB (e1 (kIsN false) f))) := by
  refine pt_use (pt_cmpR op_isN ha pe_non (nomark _)) fun σ H Q ⟨w0, γ, w, n, ρ, re, o, q⟩ => ?_
  refine ⟨w0, γ, w, n, ρ, re, o, (f ρ).mono (fun x n1 hx v H1 w1 s1 o1 r1 => ?_) (fun _ _ z => z) q⟩
  cases x with
  | dw a => exact hx.elim
  | da d => exact ⟨rfl, _, rfl, by rw [isN_dec r1]; exact hx H1 w1 s1 o1⟩
theorem vt_isNot (ha : PE X a (tV Z f)) : PT X (.Compare a [.IsNot] [.Constant .none j pos'] pos) (tVB Z (bB (e1 (kIsN true) f))) := by
  refine pt_use (pt_cmpR op_notN ha pe_non (nomark _)) fun σ H Q ⟨w0, γ, w, n, ρ, re, o, q⟩ => ?_
  refine ⟨w0, γ, w, n, ρ, re, o, (f ρ).mono (fun x n1 hx v H1 w1 s1 o1 r1 => ?_) (fun _ _ z => z) q⟩
  cases x with
  | dw a => exact hx.elim
  | da d => exact ⟨rfl, _, rfl, by rw [isN_dec r1]; exact hx H1 w1 s1 o1⟩
theorem vt_chain {cE : Expr} {op op' : CmpOp} {p q : Int → Int → Bool} (ho : OpR X (compareOp op) (rI0 fun i j => .bl (p i j))) (ho' : OpR X (compareOp op') (rI0 fun i j => .bl (q i j))) (ha : PE X a (tV Z f)) (hb : PE X b (tV Z g)) (hc : PE X cE (tV Z h))
    (hm : lastMarks [op, op'] [b, cE] = false := by with_unfolding_all rfl) : PT X (.Compare a [op, op'] [b, cE] pos) (tVB Z (bB (eChain p q f g h))) := by
  refine pt_use (pt_chain ho ho' ha hb hc hm) fun σ H Q hh => ?_
  obtain ⟨w0, γ, w, n, ρ, re, o, qq⟩ := tvb_tv hh
  refine ⟨w0, γ, w, n, ρ, re, o, (f ρ).mono (fun x n1 hx v H1 w1 s1 o1 r1 => ?_) (fun _ _ z => z) qq⟩
  refine ⟨w0, γ, w1, n1, ρ, re.stp s1 o.ro, o1, (g ρ).mono (fun y n2 hy u H2 w2 s2 o2 r2 => ?_) (posE_stp s1) hx⟩
  dsimp only at hy
  split at hy
  · rename_i i j
    cases r1
    cases r2
    refine ⟨i, j, rfl, rfl, _, rfl, ?_⟩
    split at hy
    · rename_i hp
      rw [if_pos hp]
      refine ⟨w0, γ, w2, n2, ρ, (re.stp s1 o.ro).stp s2 o1.ro, o2, (h ρ).mono (fun z n3 hz t H3 w3 s3 o3 r3 => ?_) (posE_stp (s1.trans s2)) hy⟩
      dsimp only at hz
      split at hz
      · cases r3
        exact ⟨_, _, rfl, rfl, hz _ H3 w3 ((s1.trans s2).trans s3) o3 (.bl _)⟩
      · exact hz.elim
    · rename_i hp
      rw [if_neg hp]
      exact hy _ H2 w2 (s1.trans s2) o2 (.bl _)
  · exact hy.elim
end
end JN
/-! texts compared -/
namespace JN
open PySem PySem.Spec PyProof.Rows L2
@[simp] def kEqS (neg : Bool) : Va → Va → M Va
  | .da (.str a), .da (.str b) => .ret (.da (.bool (if neg then !decide (a = b) else decide (a = b))))
  | _, _ => .bad
section
variable {X : Cx} {Z : Zc} {a b : Expr} {fa fb : Ro → M Va} {pos : Pos}
theorem str_dec (a b : Str) : decide (V.str a = V.str b) = decide (a = b) := by
  by_cases e : a = b
  · rw [decide_eq_true e, decide_eq_true (by rw [e])]
  · rw [decide_eq_false e, decide_eq_false fun z => e (by cases z; rfl)]
theorem r2q_eqS : R2ok Z rEq (kEqS false) := by
  intro w n H Q v u x y o rx ry h
  unfold kEqS at h
  split at h
  · cases rx
    cases ry
    refine ⟨rfl, ?_⟩
    rw [str_dec]
    exact post_now h o (.bl _)
  · exact h.elim
theorem r2q_neS : R2ok Z rNe (kEqS true) := by
  intro w n H Q v u x y o rx ry h
  unfold kEqS at h
  split at h
  · cases rx
    cases ry
    refine ⟨rfl, ?_⟩
    rw [str_dec]
    exact post_now h o (.bl _)
  · exact h.elim
theorem ve_eqS (ha : PE X a (tV Z fa)) (hb : PE X b (tV Z fb)) : PE X (.Compare a [.Eq] [b] pos) (tV Z (e2 (kEqS false) fa fb)) := ve_cmp op_eq r2q_eqS ha hb (nomark _)
theorem ve_neS (ha : PE X a (tV Z fa)) (hb : PE X b (tV Z fb)) : PE X (.Compare a [.NotEq] [b] pos) (tV Z (e2 (kEqS true) fa fb)) := ve_cmp op_ne r2q_neS ha hb (nomark _)
theorem vt_eqS (ha : PE X a (tV Z fa)) (hb : PE X b (tV Z fb)) : PT X (.Compare a [.Eq] [b] pos) (tVB Z (bB (e2 (kEqS false) fa fb))) := vt_cmpG op_eq r2q_eqS ha hb (nomark _)
theorem vt_neS (ha : PE X a (tV Z fa)) (hb : PE X b (tV Z fb)) : PT X (.Compare a [.NotEq] [b] pos) (tVB Z (bB (e2 (kEqS true) fa fb))) := vt_cmpG op_ne r2q_neS ha hb (nomark _)
end
end JN

set_option maxRecDepth 100000
set_option maxHeartbeats 4000000
namespace JN
open PySem PySem.Spec PyProof.Rows L2
/-- a def whose body is asked at the caller's around alone -/
theorem vdefAt {P : Program} {w : World} {K : PySem.W.Frag} {mg : Str → Option Value} {base : Heap} {x qual : Str} {st : Stmt} {f : Addr} {fd : FuncData} {N ps : List Str} {k : Nat} {g : Ro → M Rs} (F : Fun K x qual st f fd) (bi : Binds K fd ps []) (S : FnScope N ps (defScope st))
    (hb : ∀ (cdv : Value) (s : Shared) (H : Hp) (E : XK), Room k (callerA.deeper (envOfC qual (defScope st) s.heap.objs.size f cdv)) → (callerA.deeper (envOfC qual (defScope st) s.heap.objs.size f cdv)).guards = some [] → PSs (cxOf CX0 P w K mg base N qual (defScope st) f cdv callerA [] s H E).nox (defBody st) (tS ⟨K, mg, E0⟩ g))
    (hk : k ≤ 40 := by decide) : AtCaller P w K mg base f (spV ⟨K, mg, E0⟩ ps.length (defM N.length g)) := by
  intro s H u v Q E e0 rv h
  have hr : Room (k + 1) callerA := Room.mono (k := 41) ⟨rfl, by decide, by decide⟩ (by omega)
  obtain ⟨hl, wd, n, xs, o, r, q⟩ := h
  refine fn_at (us := [u]) (vs := [v]) F S hl hr e0 (by
    have := bi s [u] (e0.mod.kin.keeps fun b ob e => (e0.bs b ob e).1) (by rw [List.append_nil]; exact hl)
    rw [List.append_nil] at this
    exact this) (.cons rv .nil) fun cdv hr' => ⟨_, hb cdv s H E hr' rfl, ?_⟩
  refine ⟨wd, H, [], wd, n, ro0 N.length xs, Stp.refl _ _, re_start r, o, (g _).mono (fun rs n1 hrs => ?_) (fun e n1 he => ?_) q⟩
  · cases rs with
    | nx ρ' => exact fun w1 σ1 H1 s1 re1 o1 => hrs .non H1 w1 s1 o1 .non
    | bk ρ' => exact hrs.elim
    | ct ρ' => exact hrs.elim
    | rt y => exact fun v w1 H1 s1 o1 r1 => hrs v H1 w1 s1 o1 r1
  · exact he.elim
end JN

set_option maxRecDepth 100000
set_option maxHeartbeats 4000000
namespace JN
open PySem PySem.Spec PyProof.Rows L2
/-! ### reckoning with what pieces of program do -/
theorem M.req_bind {α : Type} {P : Prop} (h : P) (k : Unit → M α) : (M.req P).bind k = k () := by rw [M.req_of h, M.bind_ret]
@[simp] theorem M.req_true : M.req True = M.ret () := M.req_of trivial
@[simp] theorem M.ite_bind {α β : Type} {c : Prop} [Decidable c] (a b : M α) (k : α → M β) : (if c then a else b).bind k = if c then a.bind k else b.bind k := by
  split <;> rfl
@[simp] theorem M.ite_quiet {α : Type} {c : Prop} [Decidable c] (a b : M α) : (if c then a else b).quiet = if c then a.quiet else b.quiet := by
  split <;> rfl
theorem M.run_of {α : Type} {m : M α} {a : α} (h : m = .ret a) {Q : α → Nat → Prop} {E : Er → Nat → Prop} {n : Nat} (q : Q a n) : m.run Q E n := by rw [h]; exact q
/-- a piece that only gives a value, ahead of the rest -/
theorem M.bind_of {α β : Type} {m : M α} {a : α} (h : m = .ret a) (k : α → M β) : m.bind k = k a := by rw [h]; rfl
@[simp] theorem sh_int (i : Int) : SeqAt.shaped (.int i) = true := by unfold SeqAt.shaped PyData.canLay0 PyData.depth; rfl
@[simp] theorem sh_bool (b : Bool) : SeqAt.shaped (.bool b) = true := by unfold SeqAt.shaped PyData.canLay0 PyData.depth; rfl
@[simp] theorem sh_none : SeqAt.shaped .none = true := by unfold SeqAt.shaped PyData.canLay0 PyData.depth; rfl
@[simp] theorem eqv_int (i j : Int) : PyData.eqv (.int i) (.int j) = decide (i = j) := by rw [Bool.eq_iff_iff]; simp [PyData.eqv]
@[simp] theorem kEq_int (i j : Int) : kEq (.da (.int i)) (.da (.int j)) = .ret (.da (.bool (decide (i = j)))) := by simp [kEq, M.req_bind]
@[simp] theorem kNe_int (i j : Int) : kNe (.da (.int i)) (.da (.int j)) = .ret (.da (.bool (!decide (i = j)))) := by simp [kNe, M.req_bind]
/-! comprehensions that only give values -/
theorem compM_map {α : Type} {ft : Va → Ro → M Ro} {tt : Ro → M Bool} {fe : Ro → M Va} {ρ : Ro} {g : α → Va} (ρ1 : α → Ro) (b : α → Bool) (y : α → PyData) : ∀ {l : List α}, (∀ a ∈ l, ft (g a) ρ = .ret (ρ1 a)) → (∀ a ∈ l, tt (ρ1 a) = .ret (b a)) → (∀ a ∈ l, b a = true → fe (ρ1 a) = .ret (.da (y a))) → compM ft tt fe (l.map g) ρ = .ret ((l.filter b).map y)
  | [], _, _, _ => rfl
  | a :: l, h1, h2, h3 => by
    have ih := compM_map (g := g) ρ1 b y (l := l) (fun x hx => h1 x (List.mem_cons_of_mem _ hx)) (fun x hx => h2 x (List.mem_cons_of_mem _ hx)) (fun x hx => h3 x (List.mem_cons_of_mem _ hx))
    rw [List.map_cons]
    unfold compM
    rw [h1 a List.mem_cons_self, M.bind_ret, h2 a List.mem_cons_self, M.bind_ret]
    cases hb : b a with
    | false =>
      rw [if_neg (by simp), ih, List.filter_cons_of_neg (by simp [hb])]
    | true =>
      rw [if_pos rfl, h3 a List.mem_cons_self hb, M.bind_ret, ih, List.filter_cons_of_pos hb]
      rfl
theorem compM_all {α : Type} {ft : Va → Ro → M Ro} {fe : Ro → M Va} {ρ : Ro} {g : α → Va} (ρ1 : α → Ro) (y : α → PyData) {l : List α} (h1 : ∀ a ∈ l, ft (g a) ρ = .ret (ρ1 a)) (h3 : ∀ a ∈ l, fe (ρ1 a) = .ret (.da (y a))) : compM ft (fun _ => .ret true) fe (l.map g) ρ = .ret (l.map y) := by
  rw [compM_map ρ1 (fun _ => true) y h1 (fun _ _ => rfl) (fun a ha _ => h3 a ha), List.filter_eq_self.mpr fun _ _ => rfl]
/-! loops: a state and its step -/
theorem loopS_fold {α S : Type} {ft : Va → Ro → M Ro} {gb : Ro → M Rs} {g : α → Va} (st : S → Ro) (step : S → α → S) (I : S → Prop) : ∀ {l : List α} {s : S}, I s → (∀ s a, I s → a ∈ l → (ft (g a) (st s)).bind gb = .ret (.nx (st (step s a))) ∧ I (step s a)) → loopS ft gb (l.map g) (st s) = .ret (.nx (st (l.foldl step s)))
  | [], _, _, _ => rfl
  | a :: l, s, h0, h => by
    obtain ⟨h1, h2⟩ := h s a h0 List.mem_cons_self
    have ih := loopS_fold (g := g) st step I (l := l) (s := step s a) h2 fun s x hs hx => h s x hs (List.mem_cons_of_mem _ hx)
    rw [List.map_cons, List.foldl_cons]
    unfold loopS
    have : ∀ k : Rs → M Rs, ((ft (g a) (st s)).bind fun ρ1 => (gb ρ1).bind k) = k (.nx (st (step s a))) := fun k => by
      rw [← M.bind_bind, h1]; rfl
    rw [this]
    exact ih
/-- .. by what holds ahead of each turn -/
theorem loopS_inv {ft : Va → Ro → M Ro} {gb : Ro → M Rs} {E : Er → Nat → Prop} {Q : Rs → Nat → Prop} (xs : List Va) (I : Nat → Ro → Nat → Prop)
    (h : ∀ i x ρ n, xs[i]? = some x → I i ρ n → (ft x ρ).run (fun ρ1 n1 => (gb ρ1).run (fun r n2 => match r with | .nx ρ' => I (i + 1) ρ' n2 | .ct ρ' => I (i + 1) ρ' n2 | .bk ρ' => Q (.nx ρ') n2 | .rt y => Q (.rt y) n2) E n1) E n)
    (hq : ∀ ρ n, I xs.length ρ n → Q (.nx ρ) n) {ρ : Ro} {n : Nat} (h0 : I 0 ρ n) : (loopS ft gb xs ρ).run Q E n := by
  have key : ∀ (k i : Nat) (ρ : Ro) (n : Nat), xs.length - i = k → i ≤ xs.length → I i ρ n → (loopS ft gb (xs.drop i) ρ).run Q E n := by
    intro k
    induction k with
    | zero =>
      intro i ρ n hk hi hI
      have e : i = xs.length := by omega
      subst e
      rw [List.drop_length]
      exact hq ρ n hI
    | succ k ih =>
      intro i ρ n hk hi hI
      have hlt : i < xs.length := by omega
      rw [List.drop_eq_getElem_cons hlt]
      unfold loopS
      refine (ft _ ρ).mono (fun ρ1 n1 h1 => (gb ρ1).mono (fun r n2 h2 => ?_) (fun _ _ z => z) h1) (fun _ _ z => z) (h i xs[i] ρ n (by simp [hlt]) hI)
      cases r with
      | nx ρ' => exact ih (i + 1) ρ' n2 (by omega) (by omega) h2
      | ct ρ' => exact ih (i + 1) ρ' n2 (by omega) (by omega) h2
      | bk ρ' => exact h2
      | rt y => exact h2
  have := key xs.length 0 ρ n (by omega) (by omega) h0
  rwa [List.drop_zero] at this
theorem six_lo {n d k : Nat} (h : k ≤ n) : HT.sIx n d (some ((k : Nat) : Int)) = k := by rw [HT.sIx_nat]; omega
theorem cutD_lo {f : List PyData} {k : Nat} (h : k ≤ f.length) : cutD f none (some (k : Int)) = f.take k := by
  unfold cutD
  rw [six_lo h, show HT.sIx f.length 0 none = 0 from rfl, List.drop_zero, Nat.sub_zero]
theorem cutD_hi {f : List PyData} {k : Nat} (h : k ≤ f.length) : cutD f (some (k : Int)) none = f.drop k := by
  unfold cutD
  rw [six_lo h, show HT.sIx f.length f.length none = f.length from rfl, List.take_of_length_le (by rw [List.length_drop]; omega)]
theorem rng_map (n : Nat) : rng 0 n = (List.range n).map fun i => Va.da (.int (i : Nat)) := by
  unfold rng
  simp
theorem sizeLine_big {n : Nat} (h : n ≤ 1000) : n ≤ sizeLine := Nat.le_of_lt (small1000 h)
@[simp] theorem sz (n : Nat) : (n ≤ sizeLine) = (n ≤ 16777216) := by rw [sizeLine_eq]
@[simp] theorem szl (n : Nat) : (n < sizeLine) = (n < 16777216) := by rw [sizeLine_eq]
/-- a loop whose turns go from R s to R (step s a) -/
theorem loopS_ex {α S : Type} {ft : Va → Ro → M Ro} {gb : Ro → M Rs} {g : α → Va} (R : S → Ro → Prop) (step : S → α → S) (I : S → Prop) : ∀ {l : List α} {s : S} {ρ : Ro}, I s → R s ρ → (∀ s a ρ, I s → a ∈ l → R s ρ → ∃ ρ', (ft (g a) ρ).bind gb = .ret (.nx ρ') ∧ R (step s a) ρ' ∧ I (step s a)) →
    ∃ ρ', loopS ft gb (l.map g) ρ = .ret (.nx ρ') ∧ R (l.foldl step s) ρ' ∧ I (l.foldl step s)
  | [], s, ρ, h0, hr, _ => ⟨ρ, rfl, hr, h0⟩
  | a :: l, s, ρ, h0, hr, h => by
    obtain ⟨ρ1, h1, h2, h3⟩ := h s a ρ h0 List.mem_cons_self hr
    obtain ⟨ρ2, k1, k2, k3⟩ := loopS_ex (g := g) R step I (l := l) h3 h2 fun s x ρ hs hx hr => h s x ρ hs (List.mem_cons_of_mem _ hx) hr
    refine ⟨ρ2, ?_, k2, k3⟩
    rw [List.map_cons]
    unfold loopS
    have : ∀ k : Rs → M Rs, ((ft (g a) ρ).bind fun ρ1 => (gb ρ1).bind k) = k (.nx ρ1) := fun k => by
      rw [← M.bind_bind, h1]; rfl
    rw [this]
    exact k1
end JN

set_option maxRecDepth 100000
set_option maxHeartbeats 8000000
namespace JN
open PySem PySem.Spec PyProof.Rows L2
def topS (i : Nat) : Stmt := PySem.Challenge.pw_jointneeds_k37_chains_and_boundaries.main.body.getD i (.Pass ⟨0, 0, 0, 0⟩)
abbrev S_residue : Stmt := topS 1
abbrev S_signed_parts : Stmt := topS 3
abbrev S_boundary : Stmt := topS 4
abbrev S_is_cycle : Stmt := topS 5
abbrev S_law_begun : Stmt := topS 7
abbrev S_law_draw : Stmt := topS 8
abbrev S_law_of : Stmt := topS 9
abbrev S_law_subsets : Stmt := topS 10
abbrev S_law_boundary : Stmt := topS 11
abbrev S_law_chain : Stmt := topS 12
abbrev S_law_plus : Stmt := topS 13
abbrev S_law : Stmt := topS 14
end JN
namespace JN
open PySem PySem.Spec PyProof.Rows L2
/-- the built-in names that the text uses are free -/
structure Bt (mg : Str → Option Value) : Prop where
  int : mg "int" = none
  len : mg "len" = none
  tuple : mg "tuple" = none
  list : mg "list" = none
  range : mg "range" = none
  max : mg "max" = none
  min : mg "min" = none
  sum : mg "sum" = none
  sorted : mg "sorted" = none
  set : mg "set" = none
  zip : mg "zip" = none
  enumerate : mg "enumerate" = none
  all : mg "all" = none
  any : mg "any" = none
  isinstance : mg "isinstance" = none
  str : mg "str" = none
  abs : mg "abs" = none
  repr : mg "repr" = none
/-- a def of the text, how it binds, where its name stands -/
structure At (K : PySem.W.Frag) (mg : Str → Option Value) (x : Str) (st : Stmt) (ps : List Str) (f : Addr) (fd : FuncData) : Prop where
  fn : Fun K x x st f fd
  bi : Binds K fd ps []
  gl : mg x = some (.ref f)
def B_residue : Ro → M Rs := (sSeq (sIf (bB (e2 kEq (eVarQ 1) (eC (.int 0)))) (sRet (eVar 0)) sPass)
    (sRet (e2 kMod (eVar 0) (eVar 1))))
def F_residue : List Va → M Va := defM 2 B_residue
theorem sc_residue : FnScope ["number", "prime"] ["number", "prime"] (defScope S_residue) := ⟨rfl, rfl, rfl, by decide +kernel, rfl, by decide +kernel, by decide +kernel⟩
theorem ok_residue {P : Program} {w : World} {K : PySem.W.Frag} {mg : Str → Option Value} {base : Heap} {f : Addr} {fd : FuncData} (F : Fun K "residue" "residue" S_residue f fd) (B : Bt mg) : FnOk P w K mg base CX0 1 f fd ["number", "prime"] (spV ⟨K, mg, E0⟩ 2 F_residue) := by
  have nd := sc_residue.nd
  refine vdef F sc_residue fun cdv A outer s H E hr => ?_
  have hu := hu_of hr
  exact vs_cons (vs_if (vt_eq hr rfl (vq_var (pv 1)) (ve_q ve_int)) (vs_one (vs_ret (ve_var (pv 0)))) (vs_nil))
    (vs_one (vs_ret (ve_mod (ve_var (pv 0)) (ve_var (pv 1)))))
def B_signed_parts : Ro → M Rs := (sRet (eF (eComp [1] (iR1 (e1s kLen [(eVarQ 0)])) (fName 1) (fun _ => .ret true) (eTup [(e2 kCatT (eSlT (eVar 0) oN (oS (eVar 1))) (eSlT (eVar 0) (oS (e2 kAdd (eVar 1) (eC (.int 1)))) oN)), (e2 kSub (eC (.int 1)) (e2 kMul (eC (.int 2)) (e2 kMod (eVar 1) (eC (.int 2)))))]))))
def F_signed_parts : List Va → M Va := defM 2 B_signed_parts
theorem sc_signed_parts : FnScope ["face", "k"] ["face"] (defScope S_signed_parts) := ⟨rfl, rfl, rfl, by decide +kernel, rfl, by decide +kernel, by decide +kernel⟩
theorem ok_signed_parts {P : Program} {w : World} {K : PySem.W.Frag} {mg : Str → Option Value} {base : Heap} {f : Addr} {fd : FuncData} (F : Fun K "signed_parts" "signed_parts" S_signed_parts f fd) (B : Bt mg) : FnOk P w K mg base CX0 1 f fd ["face"] (spV ⟨K, mg, E0⟩ 1 F_signed_parts) := by
  have nd := sc_signed_parts.nd
  refine vdef F sc_signed_parts fun cdv A outer s H E hr => ?_
  have hu := hu_of hr
  exact vs_one (vs_ret (ve_f (vf_lc (own := [("k", 1)]) (g := gName 1) (by rfl) nd (vi_q (vi_r1 (by rfl) B.range (ve_bi call_len_seq (ck_len rfl) (by rfl) B.len PySem.boot_len (vqa_cons (vq_var (pv 0)) vqa_nil)))) (blkOk_by (own := [("k", 1)]) (N := ["face", "k"]) (sc := defScope S_signed_parts) (by decide +kernel)) (fun _ _ _ _ _ => pg_name (i := 1) nd rfl (.inl rfl)) (gs_name) (by decide) (fun _ _ _ _ _ => vts_nil) (fun _ _ _ _ _ => ve_tup (va_cons (ve_catT rfl (ve_slT rfl (ve_var (pv 0)) vo_n (vo_s (ve_var (pv 1)))) (ve_slT rfl (ve_var (pv 0)) (vo_s (ve_add (ve_var (pv 1)) ve_int)) vo_n)) (va_cons (ve_sub ve_int (ve_mul ve_int (ve_mod (ve_var (pv 1)) ve_int))) va_nil))))))
def B_boundary : Ro → M Rs := (sSeq (sNewT 2)
    (sSeq (sFor (iT (eVar 0)) (fTup 2 (fCons (fName 3) (fCons (fName 4) fNil)))
      (sFor (iL (eCall F_signed_parts [(eVar 3)])) (fTup 2 (fCons (fName 5) (fCons (fName 6) fNil)))
        (sPutT 2 (eVar 5) (eCall F_residue [(e2 kAdd (eGet2T 2 (eVar 5) (eC (.int 0))) (e2 kMul (eVar 6) (eVar 4))), (eVar 1)]))))
    (sRet (e1s kTuple [(eF (eComp [5] (iL (eF (eKeysT 2))) (fName 5) (bB (e2 kNe (eGetT 2 (eVar 5)) (eC (.int 0)))) (eTup [(eVar 5), (eGetT 2 (eVar 5))])))]))))
def F_boundary : List Va → M Va := defM 7 B_boundary
theorem sc_boundary : FnScope ["chain", "prime", "sums", "face", "coefficient", "part", "sign"] ["chain", "prime"] (defScope S_boundary) := ⟨rfl, rfl, rfl, by decide +kernel, rfl, by decide +kernel, by decide +kernel⟩
theorem ok_boundary {P : Program} {w : World} {K : PySem.W.Frag} {mg : Str → Option Value} {base : Heap} {f : Addr} {fd : FuncData} (F : Fun K "boundary" "boundary" S_boundary f fd) (B : Bt mg) {f_signed_parts : Addr} {d_signed_parts : FuncData} (A_signed_parts : At K mg "signed_parts" S_signed_parts ["face"] f_signed_parts d_signed_parts) (G_signed_parts : FnOk P w K mg base CX0 1 f_signed_parts d_signed_parts ["face"] (spV ⟨K, mg, E0⟩ 1 F_signed_parts)) {f_residue : Addr} {d_residue : FuncData} (A_residue : At K mg "residue" S_residue ["number", "prime"] f_residue d_residue) (G_residue : FnOk P w K mg base CX0 1 f_residue d_residue ["number", "prime"] (spV ⟨K, mg, E0⟩ 2 F_residue)) : FnOk P w K mg base CX0 2 f fd ["chain", "prime"] (spV ⟨K, mg, E0⟩ 2 F_boundary) := by
  have nd := sc_boundary.nd
  refine vdef F sc_boundary fun cdv A outer s H E hr => ?_
  have hu := hu_of hr
  exact vs_cons (vs_newT (i := 2) nd rfl (.inr rfl))
    (vs_cons (vs_for (tgt := gTup K 2 (gCons (gName 3) (gCons (gName 4) gNil))) PassesOwn.never rfl (vi_tup rfl (ve_var (pv 0))) (pg_tup (by rfl) (pgs_cons (pg_name (i := 3) nd rfl (.inl rfl)) (pgs_cons (pg_name (i := 4) nd rfl (.inl rfl)) pgs_nil))) (gs_tup (gs_cons (gs_name) (gs_cons (gs_name) (gs_nil) fn_name) fn_name))
      (vs_one (vs_for (tgt := gTup K 2 (gCons (gName 5) (gCons (gName 6) gNil))) PassesOwn.never rfl (vi_list rfl (ve_call G_signed_parts hr (by rfl) A_signed_parts.gl A_signed_parts.fn.kp A_signed_parts.bi (va_cons (ve_var (pv 3)) va_nil))) (pg_tup (by rfl) (pgs_cons (pg_name (i := 5) nd rfl (.inl rfl)) (pgs_cons (pg_name (i := 6) nd rfl (.inl rfl)) pgs_nil))) (gs_tup (gs_cons (gs_name) (gs_cons (gs_name) (gs_nil) fn_name) fn_name))
        (vs_one (vs_putT hu (pv 2) (ve_var (pv 5)) (ve_call G_residue hr (by rfl) A_residue.gl A_residue.fn.kp A_residue.bi (va_cons (ve_add (ve_get2T hu (pv 2) (ve_var (pv 5)) ve_int ⟨by rfl, by rfl, by rfl, by rfl⟩) (ve_mul (ve_var (pv 6)) (ve_var (pv 4)))) (va_cons (ve_var (pv 1)) va_nil))))))))
    (vs_one (vs_ret (ve_ty call_tuple_of (ck_tuple rfl) (by rfl) B.tuple (by decide +kernel) (vqa_cons (ve_q (ve_f (vf_lc (own := [("part", 5)]) (g := gName 5) (by rfl) nd (vi_q (vi_list rfl (ve_f (vf_keysT rfl (pv 2) (by rfl) B.sorted)))) (blkOk_by (own := [("part", 5)]) (N := ["chain", "prime", "sums", "face", "coefficient", "part", "sign"]) (sc := defScope S_boundary) (by decide +kernel)) (fun _ _ _ _ _ => pg_name (i := 5) nd rfl (.inl rfl)) (gs_name) (by decide) (fun _ _ _ _ _ => vts_one (vt_ne hr rfl (ve_q (ve_getT hu (pv 2) (ve_var (pv 5)) (fun _ _ => rfl))) (ve_q ve_int))) (fun _ _ _ _ _ => ve_tup (va_cons (ve_var (pv 5)) (va_cons (ve_getT hu (pv 2) (ve_var (pv 5)) (fun _ _ => rfl)) va_nil)))))) vqa_nil)))))
def B_is_cycle : Ro → M Rs := (sRet (e2 kEq (eCall F_boundary [(eVar 0), (eVar 1)]) (eTup [])))
def F_is_cycle : List Va → M Va := defM 2 B_is_cycle
theorem sc_is_cycle : FnScope ["chain", "prime"] ["chain", "prime"] (defScope S_is_cycle) := ⟨rfl, rfl, rfl, by decide +kernel, rfl, by decide +kernel, by decide +kernel⟩
theorem ok_is_cycle {P : Program} {w : World} {K : PySem.W.Frag} {mg : Str → Option Value} {base : Heap} {f : Addr} {fd : FuncData} (F : Fun K "is_cycle" "is_cycle" S_is_cycle f fd) (B : Bt mg) {f_boundary : Addr} {d_boundary : FuncData} (A_boundary : At K mg "boundary" S_boundary ["chain", "prime"] f_boundary d_boundary) (G_boundary : FnOk P w K mg base CX0 2 f_boundary d_boundary ["chain", "prime"] (spV ⟨K, mg, E0⟩ 2 F_boundary)) : FnOk P w K mg base CX0 3 f fd ["chain", "prime"] (spV ⟨K, mg, E0⟩ 2 F_is_cycle) := by
  have nd := sc_is_cycle.nd
  refine vdef F sc_is_cycle fun cdv A outer s H E hr => ?_
  have hu := hu_of hr
  exact vs_one (vs_ret (ve_eq hr rfl (ve_q (ve_call G_boundary hr (by rfl) A_boundary.gl A_boundary.fn.kp A_boundary.bi (va_cons (ve_var (pv 0)) (va_cons (ve_var (pv 1)) va_nil)))) (ve_q (ve_tup va_nil))))
def B_law_of : Ro → M Rs := (sRet (e2 kIx (eVarQ 1) (eCall vDraw [(eVar 0), (e1s kLen [(eVarQ 1)])])))
def F_law_of : List Va → M Va := defM 2 B_law_of
theorem sc_law_of : FnScope ["m", "some"] ["m", "some"] (defScope S_law_of) := ⟨rfl, rfl, rfl, by decide +kernel, rfl, by decide +kernel, by decide +kernel⟩
theorem ok_law_of {P : Program} {w : World} {K : PySem.W.Frag} {mg : Str → Option Value} {base : Heap} {f : Addr} {fd : FuncData} (F : Fun K "_law_of" "_law_of" S_law_of f fd) (B : Bt mg) {f_law_draw : Addr} {d_law_draw : FuncData} (A_law_draw : At K mg "_law_draw" S_law_draw ["m", "below"] f_law_draw d_law_draw) (G_law_draw : FnOk P w K mg base CX0 1 f_law_draw d_law_draw ["m", "below"] (spV ⟨K, mg, E0⟩ 2 vDraw)) : FnOk P w K mg base CX0 2 f fd ["m", "some"] (spV ⟨K, mg, E0⟩ 2 F_law_of) := by
  have nd := sc_law_of.nd
  refine vdef F sc_law_of fun cdv A outer s H E hr => ?_
  have hu := hu_of hr
  exact vs_one (vs_ret (ve_ix rfl (vq_var (pv 1)) (ve_call G_law_draw hr (by rfl) A_law_draw.gl A_law_draw.fn.kp A_law_draw.bi (va_cons (ve_var (pv 0)) (va_cons (ve_bi call_len_seq (ck_len rfl) (by rfl) B.len PySem.boot_len (vqa_cons (vq_var (pv 1)) vqa_nil)) va_nil))) (fun _ _ => rfl)))
def B_law_subsets : Ro → M Rs := (sSeq (sSetF 1 (eLst [(eTup [])]))
    (sSeq (sFor (iL (eVar 0)) (fName 2)
      (sExt 1 (eComp [3] (iL (eVarQ 1)) (fName 3) (fun _ => .ret true) (e2 kCatT (eVar 3) (eTup [(eVar 2)])))))
    (frz 1 (sRet (eVar 1)))))
def F_law_subsets : List Va → M Va := defM 4 B_law_subsets
theorem sc_law_subsets : FnScope ["some", "found", "one", "a"] ["some"] (defScope S_law_subsets) := ⟨rfl, rfl, rfl, by decide +kernel, rfl, by decide +kernel, by decide +kernel⟩
theorem ok_law_subsets {P : Program} {w : World} {K : PySem.W.Frag} {mg : Str → Option Value} {base : Heap} {f : Addr} {fd : FuncData} (F : Fun K "_law_subsets" "_law_subsets" S_law_subsets f fd) (B : Bt mg) : FnOk P w K mg base CX0 1 f fd ["some"] (spV ⟨K, mg, E0⟩ 1 F_law_subsets) := by
  have nd := sc_law_subsets.nd
  refine vdef F sc_law_subsets fun cdv A outer s H E hr => ?_
  have hu := hu_of hr
  exact vs_cons (vs_setF (i := 1) nd rfl (.inl rfl) (vf_lst (va_cons (ve_tup va_nil) va_nil)))
    (vs_cons (vs_for (tgt := gName 2) PassesOwn.never rfl (vi_list rfl (ve_var (pv 0))) (pg_name (i := 2) nd rfl (.inr rfl)) (gs_name)
      (vs_one (vs_ext (i := 1) (pv 1) (vf_lc (own := [("a", 3)]) (g := gName 3) (by rfl) nd (vi_listQ rfl (vq_var (pv 1))) (blkOk_by (own := [("a", 3)]) (N := ["some", "found", "one", "a"]) (sc := defScope S_law_subsets) (by decide +kernel)) (fun _ _ _ _ _ => pg_name (i := 3) nd rfl (.inl rfl)) (gs_name) (by decide) (fun _ _ _ _ _ => vts_nil) (fun _ _ _ _ _ => ve_catT rfl (ve_var (pv 3)) (ve_tup (va_cons (ve_var (pv 2)) va_nil)))))))
    (vs_one (vs_frz (i := 1) (vs_ret (ve_var (pv 1))))))
def B_law_boundary : Ro → M Rs := (sSeq (sNewT 2)
    (sSeq (sFor (iT (eVar 0)) (fTup 2 (fCons (fName 3) (fCons (fName 4) fNil)))
      (sFor (iR1 (e1s kLen [(eVarQ 3)])) (fName 5)
        (sSeq (sSet 6 (e2 kCatT (eSlT (eVar 3) oN (oS (eVar 5))) (eSlT (eVar 3) (oS (e2 kAdd (eVar 5) (eC (.int 1)))) oN)))
        (sPutT 2 (eVar 6) (e2 kAdd (eGet2T 2 (eVar 6) (eC (.int 0))) (eIf (bB (e2 kEq (e2 kMod (e1s kInt1 [(eVarQ 5)]) (eC (.int 2))) (eC (.int 0)))) (eVar 4) (e2 kSub (eC (.int 0)) (eVar 4))))))))
    (sRet (e1s kTuple [(eF (eComp [3] (iL (eF (eKeysT 2))) (fName 3) (bB (e2 kNe (e2 kMod (e1s kInt1 [(eGetT 2 (eVar 3))]) (eVar 1)) (eC (.int 0)))) (eTup [(eVar 3), (e2 kMod (e1s kInt1 [(eGetT 2 (eVar 3))]) (eVar 1))])))]))))
def F_law_boundary : List Va → M Va := defM 7 B_law_boundary
theorem sc_law_boundary : FnScope ["chain", "prime", "found", "face", "entry", "k", "border"] ["chain", "prime"] (defScope S_law_boundary) := ⟨rfl, rfl, rfl, by decide +kernel, rfl, by decide +kernel, by decide +kernel⟩
theorem ok_law_boundary {P : Program} {w : World} {K : PySem.W.Frag} {mg : Str → Option Value} {base : Heap} {f : Addr} {fd : FuncData} (F : Fun K "_law_boundary" "_law_boundary" S_law_boundary f fd) (B : Bt mg) : FnOk P w K mg base CX0 1 f fd ["chain", "prime"] (spV ⟨K, mg, E0⟩ 2 F_law_boundary) := by
  have nd := sc_law_boundary.nd
  refine vdef F sc_law_boundary fun cdv A outer s H E hr => ?_
  have hu := hu_of hr
  exact vs_cons (vs_newT (i := 2) nd rfl (.inr rfl))
    (vs_cons (vs_for (tgt := gTup K 2 (gCons (gName 3) (gCons (gName 4) gNil))) PassesOwn.never rfl (vi_tup rfl (ve_var (pv 0))) (pg_tup (by rfl) (pgs_cons (pg_name (i := 3) nd rfl (.inl rfl)) (pgs_cons (pg_name (i := 4) nd rfl (.inl rfl)) pgs_nil))) (gs_tup (gs_cons (gs_name) (gs_cons (gs_name) (gs_nil) fn_name) fn_name))
      (vs_one (vs_for (tgt := gName 5) PassesOwn.never rfl (vi_r1 (by rfl) B.range (ve_bi call_len_seq (ck_len rfl) (by rfl) B.len PySem.boot_len (vqa_cons (vq_var (pv 3)) vqa_nil))) (pg_name (i := 5) nd rfl (.inl rfl)) (gs_name)
        (vs_cons (vs_set (i := 6) nd rfl (.inl rfl) (ve_catT rfl (ve_slT rfl (ve_var (pv 3)) vo_n (vo_s (ve_var (pv 5)))) (ve_slT rfl (ve_var (pv 3)) (vo_s (ve_add (ve_var (pv 5)) ve_int)) vo_n)))
        (vs_one (vs_putT hu (pv 2) (ve_var (pv 6)) (ve_add (ve_get2T hu (pv 2) (ve_var (pv 6)) ve_int ⟨by rfl, by rfl, by rfl, by rfl⟩) (ve_if (vt_eq hr rfl (ve_q (ve_mod (ve_ty call_int1 (ck_int) (by rfl) B.int (by decide +kernel) (vqa_cons (vq_var (pv 5)) vqa_nil)) ve_int)) (ve_q ve_int)) (ve_var (pv 4)) (ve_sub ve_int (ve_var (pv 4)))))))))))
    (vs_one (vs_ret (ve_ty call_tuple_of (ck_tuple rfl) (by rfl) B.tuple (by decide +kernel) (vqa_cons (ve_q (ve_f (vf_lc (own := [("face", 3)]) (g := gName 3) (by rfl) nd (vi_q (vi_list rfl (ve_f (vf_listKeysT rfl (pv 2) (by rfl) B.sorted (by rfl) B.list)))) (blkOk_by (own := [("face", 3)]) (N := ["chain", "prime", "found", "face", "entry", "k", "border"]) (sc := defScope S_law_boundary) (by decide +kernel)) (fun _ _ _ _ _ => pg_name (i := 3) nd rfl (.inl rfl)) (gs_name) (by decide) (fun _ _ _ _ _ => vts_one (vt_ne hr rfl (ve_q (ve_mod (ve_ty call_int1 (ck_int) (by rfl) B.int (by decide +kernel) (vqa_cons (ve_q (ve_getT hu (pv 2) (ve_var (pv 3)) (fun _ _ => rfl))) vqa_nil)) (ve_var (pv 1)))) (ve_q ve_int))) (fun _ _ _ _ _ => ve_tup (va_cons (ve_var (pv 3)) (va_cons (ve_mod (ve_ty call_int1 (ck_int) (by rfl) B.int (by decide +kernel) (vqa_cons (ve_q (ve_getT hu (pv 2) (ve_var (pv 3)) (fun _ _ => rfl))) vqa_nil)) (ve_var (pv 1))) va_nil)))))) vqa_nil)))))
def B_law_chain : Ro → M Rs := (sSeq (sSet 3 (eF (eSortR (eF (eComp [6] (iL (eCall F_law_subsets [(eF (eRg1 (eC (.int 7))))])) (fName 6) (bB (e2 kEq (e1s kLen [(eVarQ 6)]) (eVarQ 1))) (eVar 6))))))
    (sSeq (sNewT 4)
    (sSeq (sFor (iR1 (eCall vDraw [(eVar 0), (eC (.int 7))])) (fName 5)
      (sPutT 4 (eCall F_law_of [(eVar 0), (eVar 3)]) (e2 kAdd (eC (.int 1)) (eCall vDraw [(eVar 0), (e2 kSub (eVar 2) (eC (.int 1)))]))))
    (sRet (e1s kTuple [(eF (eComp [6] (iL (eF (eKeysT 4))) (fName 6) (fun _ => .ret true) (eTup [(eVar 6), (eGetT 4 (eVar 6))])))])))))
def F_law_chain : List Va → M Va := defM 7 B_law_chain
theorem sc_law_chain : FnScope ["m", "size", "prime", "every", "found", "k", "face"] ["m", "size", "prime"] (defScope S_law_chain) := ⟨rfl, rfl, rfl, by decide +kernel, rfl, by decide +kernel, by decide +kernel⟩
theorem ok_law_chain {P : Program} {w : World} {K : PySem.W.Frag} {mg : Str → Option Value} {base : Heap} {f : Addr} {fd : FuncData} (F : Fun K "_law_chain" "_law_chain" S_law_chain f fd) (B : Bt mg) {f_law_subsets : Addr} {d_law_subsets : FuncData} (A_law_subsets : At K mg "_law_subsets" S_law_subsets ["some"] f_law_subsets d_law_subsets) (G_law_subsets : FnOk P w K mg base CX0 1 f_law_subsets d_law_subsets ["some"] (spV ⟨K, mg, E0⟩ 1 F_law_subsets)) {f_law_draw : Addr} {d_law_draw : FuncData} (A_law_draw : At K mg "_law_draw" S_law_draw ["m", "below"] f_law_draw d_law_draw) (G_law_draw : FnOk P w K mg base CX0 1 f_law_draw d_law_draw ["m", "below"] (spV ⟨K, mg, E0⟩ 2 vDraw)) {f_law_of : Addr} {d_law_of : FuncData} (A_law_of : At K mg "_law_of" S_law_of ["m", "some"] f_law_of d_law_of) (G_law_of : FnOk P w K mg base CX0 2 f_law_of d_law_of ["m", "some"] (spV ⟨K, mg, E0⟩ 2 F_law_of)) : FnOk P w K mg base CX0 3 f fd ["m", "size", "prime"] (spV ⟨K, mg, E0⟩ 3 F_law_chain) := by
  have nd := sc_law_chain.nd
  refine vdef F sc_law_chain fun cdv A outer s H E hr => ?_
  have hu := hu_of hr
  exact vs_cons (vs_set (i := 3) nd rfl (.inl rfl) (ve_f (vf_sortR rfl (ve_q (ve_f (vf_lc (own := [("face", 6)]) (g := gName 6) (by rfl) nd (vi_q (vi_list rfl (ve_call G_law_subsets (hr.mono (by decide)) (by rfl) A_law_subsets.gl A_law_subsets.fn.kp A_law_subsets.bi (va_cons (ve_f (vf_rg1 rfl (by rfl) B.list (by rfl) B.range ve_int)) va_nil)))) (blkOk_by (own := [("face", 6)]) (N := ["m", "size", "prime", "every", "found", "k", "face"]) (sc := defScope S_law_chain) (by decide +kernel)) (fun _ _ _ _ _ => pg_name (i := 6) nd rfl (.inl rfl)) (gs_name) (by decide) (fun _ _ _ _ _ => vts_one (vt_eq hr rfl (ve_q (ve_bi call_len_seq (ck_len rfl) (by rfl) B.len PySem.boot_len (vqa_cons (vq_var (pv 6)) vqa_nil))) (vq_var (pv 1)))) (fun _ _ _ _ _ => ve_var (pv 6))))) (by rfl) B.sorted)))
    (vs_cons (vs_newT (i := 4) nd rfl (.inr rfl))
    (vs_cons (vs_for (tgt := gName 5) PassesOwn.never rfl (vi_r1 (by rfl) B.range (ve_call G_law_draw (hr.mono (by decide)) (by rfl) A_law_draw.gl A_law_draw.fn.kp A_law_draw.bi (va_cons (ve_var (pv 0)) (va_cons ve_int va_nil)))) (pg_name (i := 5) nd rfl (.inl rfl)) (gs_name)
      (vs_one (vs_putT hu (pv 4) (ve_call G_law_of hr (by rfl) A_law_of.gl A_law_of.fn.kp A_law_of.bi (va_cons (ve_var (pv 0)) (va_cons (ve_var (pv 3)) va_nil))) (ve_add ve_int (ve_call G_law_draw (hr.mono (by decide)) (by rfl) A_law_draw.gl A_law_draw.fn.kp A_law_draw.bi (va_cons (ve_var (pv 0)) (va_cons (ve_sub (ve_var (pv 2)) ve_int) va_nil)))))))
    (vs_one (vs_ret (ve_ty call_tuple_of (ck_tuple rfl) (by rfl) B.tuple (by decide +kernel) (vqa_cons (ve_q (ve_f (vf_lc (own := [("face", 6)]) (g := gName 6) (by rfl) nd (vi_q (vi_list rfl (ve_f (vf_listKeysT rfl (pv 4) (by rfl) B.sorted (by rfl) B.list)))) (blkOk_by (own := [("face", 6)]) (N := ["m", "size", "prime", "every", "found", "k", "face"]) (sc := defScope S_law_chain) (by decide +kernel)) (fun _ _ _ _ _ => pg_name (i := 6) nd rfl (.inl rfl)) (gs_name) (by decide) (fun _ _ _ _ _ => vts_nil) (fun _ _ _ _ _ => ve_tup (va_cons (ve_var (pv 6)) (va_cons (ve_getT hu (pv 4) (ve_var (pv 6)) (fun _ _ => rfl)) va_nil)))))) vqa_nil))))))
def B_law_plus : Ro → M Rs := (sSeq (sNewT 4)
    (sSeq (sFor (iT (eVar 0)) (fTup 2 (fCons (fName 5) (fCons (fName 6) fNil)))
      (sPutT 4 (eVar 5) (eVar 6)))
    (sSeq (sFor (iT (eVar 1)) (fTup 2 (fCons (fName 5) (fCons (fName 6) fNil)))
      (sPutT 4 (eVar 5) (e2 kAdd (eGet2T 4 (eVar 5) (eC (.int 0))) (e2 kMul (eVar 2) (eVar 6)))))
    (sRet (e1s kTuple [(eF (eComp [5] (iL (eF (eKeysT 4))) (fName 5) (bB (e2 kNe (e2 kMod (e1s kInt1 [(eGetT 4 (eVar 5))]) (eVar 3)) (eC (.int 0)))) (eTup [(eVar 5), (e2 kMod (e1s kInt1 [(eGetT 4 (eVar 5))]) (eVar 3))])))])))))
def F_law_plus : List Va → M Va := defM 7 B_law_plus
theorem sc_law_plus : FnScope ["one", "other", "factor", "prime", "found", "face", "entry"] ["one", "other", "factor", "prime"] (defScope S_law_plus) := ⟨rfl, rfl, rfl, by decide +kernel, rfl, by decide +kernel, by decide +kernel⟩
theorem ok_law_plus {P : Program} {w : World} {K : PySem.W.Frag} {mg : Str → Option Value} {base : Heap} {f : Addr} {fd : FuncData} (F : Fun K "_law_plus" "_law_plus" S_law_plus f fd) (B : Bt mg) : FnOk P w K mg base CX0 1 f fd ["one", "other", "factor", "prime"] (spV ⟨K, mg, E0⟩ 4 F_law_plus) := by
  have nd := sc_law_plus.nd
  refine vdef F sc_law_plus fun cdv A outer s H E hr => ?_
  have hu := hu_of hr
  exact vs_cons (vs_newT (i := 4) nd rfl (.inr rfl))
    (vs_cons (vs_for (tgt := gTup K 2 (gCons (gName 5) (gCons (gName 6) gNil))) PassesOwn.never rfl (vi_tup rfl (ve_var (pv 0))) (pg_tup (by rfl) (pgs_cons (pg_name (i := 5) nd rfl (.inl rfl)) (pgs_cons (pg_name (i := 6) nd rfl (.inl rfl)) pgs_nil))) (gs_tup (gs_cons (gs_name) (gs_cons (gs_name) (gs_nil) fn_name) fn_name))
      (vs_one (vs_putT hu (pv 4) (ve_var (pv 5)) (ve_var (pv 6)))))
    (vs_cons (vs_for (tgt := gTup K 2 (gCons (gName 5) (gCons (gName 6) gNil))) PassesOwn.never rfl (vi_tup rfl (ve_var (pv 1))) (pg_tup (by rfl) (pgs_cons (pg_name (i := 5) nd rfl (.inl rfl)) (pgs_cons (pg_name (i := 6) nd rfl (.inl rfl)) pgs_nil))) (gs_tup (gs_cons (gs_name) (gs_cons (gs_name) (gs_nil) fn_name) fn_name))
      (vs_one (vs_putT hu (pv 4) (ve_var (pv 5)) (ve_add (ve_get2T hu (pv 4) (ve_var (pv 5)) ve_int ⟨by rfl, by rfl, by rfl, by rfl⟩) (ve_mul (ve_var (pv 2)) (ve_var (pv 6)))))))
    (vs_one (vs_ret (ve_ty call_tuple_of (ck_tuple rfl) (by rfl) B.tuple (by decide +kernel) (vqa_cons (ve_q (ve_f (vf_lc (own := [("face", 5)]) (g := gName 5) (by rfl) nd (vi_q (vi_list rfl (ve_f (vf_listKeysT rfl (pv 4) (by rfl) B.sorted (by rfl) B.list)))) (blkOk_by (own := [("face", 5)]) (N := ["one", "other", "factor", "prime", "found", "face", "entry"]) (sc := defScope S_law_plus) (by decide +kernel)) (fun _ _ _ _ _ => pg_name (i := 5) nd rfl (.inl rfl)) (gs_name) (by decide) (fun _ _ _ _ _ => vts_one (vt_ne hr rfl (ve_q (ve_mod (ve_ty call_int1 (ck_int) (by rfl) B.int (by decide +kernel) (vqa_cons (ve_q (ve_getT hu (pv 4) (ve_var (pv 5)) (fun _ _ => rfl))) vqa_nil)) (ve_var (pv 3)))) (ve_q ve_int))) (fun _ _ _ _ _ => ve_tup (va_cons (ve_var (pv 5)) (va_cons (ve_mod (ve_ty call_int1 (ck_int) (by rfl) B.int (by decide +kernel) (vqa_cons (ve_q (ve_getT hu (pv 4) (ve_var (pv 5)) (fun _ _ => rfl))) vqa_nil)) (ve_var (pv 3))) va_nil)))))) vqa_nil))))))
def B_law : Ro → M Rs := (sSeq (sFor (iR1 (e1s kMax2 [(eC (.int 1)), (e1s kMin2 [(eC (.int 3)), (e1s kLen [(eVarQ 0)])])])) (fName 1)
      (sSeq (sSet 2 (eCall vBegun [(eVar 0), (eVar 1)]))
      (sSeq (sPar 3 4 (eCall vDraw [(eVar 2), (eC (.int 6))]) (eCall F_law_of [(eVar 2), (eF (eLst [(eC (.int 2)), (eC (.int 3)), (eC (.int 5)), (eC (.int 7))]))]))
      (sSeq (sPar 5 6 (eCall F_law_chain [(eVar 2), (eVar 3), (eVar 4)]) (eCall F_law_chain [(eVar 2), (eVar 3), (eVar 4)]))
      (sSeq (sPar 7 8 (e1s kRepr [(eVarQ 5)]) (eCall F_law_boundary [(eVar 5), (eVar 4)]))
      (sSeq (sIf (bOr (bB (e2 (kEqS true) (e1s kRepr [(eCall F_boundary [(eVar 5), (eVar 4)])]) (e1s kRepr [(eVarQ 8)]))) (bB (e2 (kEqS true) (e1s kRepr [(eCall F_is_cycle [(eVar 5), (eVar 4)])]) (e1s kRepr [(e2 kEq (eVarQ 8) (eTup []))])))) (sRet (eC (.bool false))) sPass)
      (sSeq (sIf (bOr (bB (e2 (kEqS true) (e1s kRepr [(eCall F_boundary [(eVar 8), (eVar 4)])]) (e1s kRepr [(eTup [])]))) (bB (e2 (kEqS true) (e1s kRepr [(eCall F_is_cycle [(eVar 8), (eVar 4)])]) (e1s kRepr [(eC (.bool true))])))) (sRet (eC (.bool false))) sPass)
      (sSeq (sSet 9 (e2 kAdd (eC (.int 1)) (eCall vDraw [(eVar 2), (e2 kSub (eVar 4) (eC (.int 1)))])))
      (sSeq (sSet 10 (eCall F_law_plus [(eVar 5), (eVar 6), (eVar 9), (eVar 4)]))
      (sSeq (sSet 11 (eCall F_law_plus [(eVar 8), (eCall F_law_boundary [(eVar 6), (eVar 4)]), (eVar 9), (eVar 4)]))
      (sIf (bOr (bB (e2 (kEqS true) (e1s kRepr [(eCall F_boundary [(eVar 10), (eVar 4)])]) (e1s kRepr [(eVarQ 11)]))) (bB (e2 (kEqS true) (e1s kRepr [(eVarQ 5)]) (eVar 7)))) (sRet (eC (.bool false))) sPass)))))))))))
    (sSeq (sSet 12 (eF (eLst [(eCall F_boundary [(eTup []), (eC (.int 3))]), (eCall F_boundary [(eTup [(eTup [(eTup []), (eC (.int 2))])]), (eC (.int 3))]), (eCall F_boundary [(eTup [(eTup [(eTup [(eC (.int 4))]), (eC (.int 2))])]), (eC (.int 3))]), (eCall F_boundary [(eTup [(eTup [(eTup [(eC (.int 0)), (eC (.int 1))]), (eC (.int 1))])]), (eC (.int 3))])])))
    (sSeq (sIf (bB (e2 (kEqS true) (e1s kRepr [(eVarQ 12)]) (e1s kRepr [(eF (eLst [(eTup []), (eTup []), (eTup [(eTup [(eTup []), (eC (.int 2))])]), (eTup [(eTup [(eTup [(eC (.int 0))]), (eC (.int 2))]), (eTup [(eTup [(eC (.int 1))]), (eC (.int 1))])])]))]))) (sRet (eC (.bool false))) sPass)
    (sSeq (sSet 12 (eF (eLst [(eCall F_is_cycle [(eTup []), (eC (.int 2))]), (eCall F_is_cycle [(eTup [(eTup [(eTup []), (eC (.int 1))])]), (eC (.int 2))]), (eCall F_is_cycle [(eTup [(eTup [(eTup [(eC (.int 1))]), (eC (.int 1))]), (eTup [(eTup [(eC (.int 2))]), (eC (.int 1))])]), (eC (.int 2))])])))
    (sRet (e2 (kEqS false) (e1s kRepr [(eVarQ 12)]) (e1s kRepr [(eF (eLst [(eC (.bool true)), (eC (.bool true)), (eC (.bool true))]))])))))))
def F_law : List Va → M Va := defM 13 B_law
theorem sc_law : FnScope ["script", "turn", "m", "size", "prime", "one", "other", "kept", "due", "factor", "both", "far", "told"] ["script"] (defScope S_law) := ⟨rfl, rfl, rfl, by decide +kernel, rfl, by decide +kernel, by decide +kernel⟩
theorem at_law {P : Program} {w : World} {K : PySem.W.Frag} {mg : Str → Option Value} {base : Heap} {f : Addr} {fd : FuncData} (F : At K mg "law" S_law ["script"] f fd) (B : Bt mg) {f_law_begun : Addr} {d_law_begun : FuncData} (A_law_begun : At K mg "_law_begun" S_law_begun ["script", "k"] f_law_begun d_law_begun) (G_law_begun : FnOk P w K mg base CX0 1 f_law_begun d_law_begun ["script", "k"] (spV ⟨K, mg, E0⟩ 2 vBegun)) {f_law_draw : Addr} {d_law_draw : FuncData} (A_law_draw : At K mg "_law_draw" S_law_draw ["m", "below"] f_law_draw d_law_draw) (G_law_draw : FnOk P w K mg base CX0 1 f_law_draw d_law_draw ["m", "below"] (spV ⟨K, mg, E0⟩ 2 vDraw)) {f_law_of : Addr} {d_law_of : FuncData} (A_law_of : At K mg "_law_of" S_law_of ["m", "some"] f_law_of d_law_of) (G_law_of : FnOk P w K mg base CX0 2 f_law_of d_law_of ["m", "some"] (spV ⟨K, mg, E0⟩ 2 F_law_of)) {f_law_chain : Addr} {d_law_chain : FuncData} (A_law_chain : At K mg "_law_chain" S_law_chain ["m", "size", "prime"] f_law_chain d_law_chain) (G_law_chain : FnOk P w K mg base CX0 3 f_law_chain d_law_chain ["m", "size", "prime"] (spV ⟨K, mg, E0⟩ 3 F_law_chain)) {f_law_boundary : Addr} {d_law_boundary : FuncData} (A_law_boundary : At K mg "_law_boundary" S_law_boundary ["chain", "prime"] f_law_boundary d_law_boundary) (G_law_boundary : FnOk P w K mg base CX0 1 f_law_boundary d_law_boundary ["chain", "prime"] (spV ⟨K, mg, E0⟩ 2 F_law_boundary)) {f_boundary : Addr} {d_boundary : FuncData} (A_boundary : At K mg "boundary" S_boundary ["chain", "prime"] f_boundary d_boundary) (G_boundary : FnOk P w K mg base CX0 2 f_boundary d_boundary ["chain", "prime"] (spV ⟨K, mg, E0⟩ 2 F_boundary)) {f_is_cycle : Addr} {d_is_cycle : FuncData} (A_is_cycle : At K mg "is_cycle" S_is_cycle ["chain", "prime"] f_is_cycle d_is_cycle) (G_is_cycle : FnOk P w K mg base CX0 3 f_is_cycle d_is_cycle ["chain", "prime"] (spV ⟨K, mg, E0⟩ 2 F_is_cycle)) {f_law_plus : Addr} {d_law_plus : FuncData} (A_law_plus : At K mg "_law_plus" S_law_plus ["one", "other", "factor", "prime"] f_law_plus d_law_plus) (G_law_plus : FnOk P w K mg base CX0 1 f_law_plus d_law_plus ["one", "other", "factor", "prime"] (spV ⟨K, mg, E0⟩ 4 F_law_plus)) : AtCaller P w K mg base f (spV ⟨K, mg, E0⟩ 1 F_law) := by
  have nd := sc_law.nd
  refine vdefAt (k := 3) F.fn F.bi sc_law fun cdv s H E hr hg => ?_
  have hu := hu_of hr
  exact vs_cons (vs_for (tgt := gName 1) PassesOwn.never rfl (vi_r1 (by rfl) B.range (ve_bi (call_max2 (by rfl)) ck_max2 (by rfl) B.max (by decide +kernel) (vqa_cons (ve_q ve_int) (vqa_cons (ve_q (ve_bi (call_min2 (by rfl)) ck_min2 (by rfl) B.min (by decide +kernel) (vqa_cons (ve_q ve_int) (vqa_cons (ve_q (ve_bi call_len_seq (ck_len rfl) (by rfl) B.len PySem.boot_len (vqa_cons (vq_var (pv 0)) vqa_nil))) vqa_nil)))) vqa_nil)))) (pg_name (i := 1) nd rfl (.inl rfl)) (gs_name)
      (vs_cons (vs_set (i := 2) nd rfl (.inl rfl) (ve_call G_law_begun (hr.mono (by decide)) (by rfl) A_law_begun.gl A_law_begun.fn.kp A_law_begun.bi (va_cons (ve_var (pv 0)) (va_cons (ve_var (pv 1)) va_nil))))
      (vs_cons (ps_use (ps_par (i := 3) (j := 4) (by rfl) nd rfl rfl (by decide) rfl rfl (va_cons (ve_call G_law_draw (hr.mono (by decide)) (by rfl) A_law_draw.gl A_law_draw.fn.kp A_law_draw.bi (va_cons (ve_var (pv 2)) (va_cons ve_int va_nil))) (va_cons (ve_call G_law_of (hr.mono (by decide)) (by rfl) A_law_of.gl A_law_of.fn.kp A_law_of.bi (va_cons (ve_var (pv 2)) (va_cons (ve_f (vf_lst (va_cons ve_int (va_cons ve_int (va_cons ve_int (va_cons ve_int va_nil)))))) va_nil))) va_nil)) (by rfl)) par_read)
      (vs_cons (ps_use (ps_par (i := 5) (j := 6) (by rfl) nd rfl rfl (by decide) rfl rfl (va_cons (ve_call G_law_chain hr (by rfl) A_law_chain.gl A_law_chain.fn.kp A_law_chain.bi (va_cons (ve_var (pv 2)) (va_cons (ve_var (pv 3)) (va_cons (ve_var (pv 4)) va_nil)))) (va_cons (ve_call G_law_chain hr (by rfl) A_law_chain.gl A_law_chain.fn.kp A_law_chain.bi (va_cons (ve_var (pv 2)) (va_cons (ve_var (pv 3)) (va_cons (ve_var (pv 4)) va_nil)))) va_nil)) (by rfl)) par_read)
      (vs_cons (ps_use (ps_par (i := 7) (j := 8) (by rfl) nd rfl rfl (by decide) rfl rfl (va_cons (ve_bi (cr_repr hg hr.units) (ck_repr rfl) (by rfl) B.repr (by decide +kernel) (vqa_cons (vq_var (pv 5)) vqa_nil)) (va_cons (ve_call G_law_boundary (hr.mono (by decide)) (by rfl) A_law_boundary.gl A_law_boundary.fn.kp A_law_boundary.bi (va_cons (ve_var (pv 5)) (va_cons (ve_var (pv 4)) va_nil))) va_nil)) (by rfl)) par_read)
      (vs_cons (vs_if (PW.pt (vw_or (vt_neS (ve_bi (cr_repr hg hr.units) (ck_repr rfl) (by rfl) B.repr (by decide +kernel) (vqa_cons (ve_q (ve_call G_boundary (hr.mono (by decide)) (by rfl) A_boundary.gl A_boundary.fn.kp A_boundary.bi (va_cons (ve_var (pv 5)) (va_cons (ve_var (pv 4)) va_nil)))) vqa_nil)) (ve_bi (cr_repr hg hr.units) (ck_repr rfl) (by rfl) B.repr (by decide +kernel) (vqa_cons (vq_var (pv 8)) vqa_nil))) (vw_one (vt_neS (ve_bi (cr_repr hg hr.units) (ck_repr rfl) (by rfl) B.repr (by decide +kernel) (vqa_cons (ve_q (ve_call G_is_cycle hr (by rfl) A_is_cycle.gl A_is_cycle.fn.kp A_is_cycle.bi (va_cons (ve_var (pv 5)) (va_cons (ve_var (pv 4)) va_nil)))) vqa_nil)) (ve_bi (cr_repr hg hr.units) (ck_repr rfl) (by rfl) B.repr (by decide +kernel) (vqa_cons (ve_q (ve_eq hr rfl (vq_var (pv 8)) (ve_q (ve_tup va_nil)))) vqa_nil)))))) (vs_one (vs_ret ve_bl)) (vs_nil))
      (vs_cons (vs_if (PW.pt (vw_or (vt_neS (ve_bi (cr_repr hg hr.units) (ck_repr rfl) (by rfl) B.repr (by decide +kernel) (vqa_cons (ve_q (ve_call G_boundary (hr.mono (by decide)) (by rfl) A_boundary.gl A_boundary.fn.kp A_boundary.bi (va_cons (ve_var (pv 8)) (va_cons (ve_var (pv 4)) va_nil)))) vqa_nil)) (ve_bi (cr_repr hg hr.units) (ck_repr rfl) (by rfl) B.repr (by decide +kernel) (vqa_cons (ve_q (ve_tup va_nil)) vqa_nil))) (vw_one (vt_neS (ve_bi (cr_repr hg hr.units) (ck_repr rfl) (by rfl) B.repr (by decide +kernel) (vqa_cons (ve_q (ve_call G_is_cycle hr (by rfl) A_is_cycle.gl A_is_cycle.fn.kp A_is_cycle.bi (va_cons (ve_var (pv 8)) (va_cons (ve_var (pv 4)) va_nil)))) vqa_nil)) (ve_bi (cr_repr hg hr.units) (ck_repr rfl) (by rfl) B.repr (by decide +kernel) (vqa_cons (ve_q ve_bl) vqa_nil)))))) (vs_one (vs_ret ve_bl)) (vs_nil))
      (vs_cons (vs_set (i := 9) nd rfl (.inl rfl) (ve_add ve_int (ve_call G_law_draw (hr.mono (by decide)) (by rfl) A_law_draw.gl A_law_draw.fn.kp A_law_draw.bi (va_cons (ve_var (pv 2)) (va_cons (ve_sub (ve_var (pv 4)) ve_int) va_nil)))))
      (vs_cons (vs_set (i := 10) nd rfl (.inl rfl) (ve_call G_law_plus (hr.mono (by decide)) (by rfl) A_law_plus.gl A_law_plus.fn.kp A_law_plus.bi (va_cons (ve_var (pv 5)) (va_cons (ve_var (pv 6)) (va_cons (ve_var (pv 9)) (va_cons (ve_var (pv 4)) va_nil))))))
      (vs_cons (vs_set (i := 11) nd rfl (.inl rfl) (ve_call G_law_plus (hr.mono (by decide)) (by rfl) A_law_plus.gl A_law_plus.fn.kp A_law_plus.bi (va_cons (ve_var (pv 8)) (va_cons (ve_call G_law_boundary (hr.mono (by decide)) (by rfl) A_law_boundary.gl A_law_boundary.fn.kp A_law_boundary.bi (va_cons (ve_var (pv 6)) (va_cons (ve_var (pv 4)) va_nil))) (va_cons (ve_var (pv 9)) (va_cons (ve_var (pv 4)) va_nil))))))
      (vs_one (vs_if (PW.pt (vw_or (vt_neS (ve_bi (cr_repr hg hr.units) (ck_repr rfl) (by rfl) B.repr (by decide +kernel) (vqa_cons (ve_q (ve_call G_boundary (hr.mono (by decide)) (by rfl) A_boundary.gl A_boundary.fn.kp A_boundary.bi (va_cons (ve_var (pv 10)) (va_cons (ve_var (pv 4)) va_nil)))) vqa_nil)) (ve_bi (cr_repr hg hr.units) (ck_repr rfl) (by rfl) B.repr (by decide +kernel) (vqa_cons (vq_var (pv 11)) vqa_nil))) (vw_one (vt_neS (ve_bi (cr_repr hg hr.units) (ck_repr rfl) (by rfl) B.repr (by decide +kernel) (vqa_cons (vq_var (pv 5)) vqa_nil)) (ve_var (pv 7)))))) (vs_one (vs_ret ve_bl)) (vs_nil)))))))))))))
    (vs_cons (vs_set (i := 12) nd rfl (.inl rfl) (ve_f (vf_lst (va_cons (ve_call G_boundary (hr.mono (by decide)) (by rfl) A_boundary.gl A_boundary.fn.kp A_boundary.bi (va_cons (ve_tup va_nil) (va_cons ve_int va_nil))) (va_cons (ve_call G_boundary (hr.mono (by decide)) (by rfl) A_boundary.gl A_boundary.fn.kp A_boundary.bi (va_cons (ve_tup (va_cons (ve_tup (va_cons (ve_tup va_nil) (va_cons ve_int va_nil))) va_nil)) (va_cons ve_int va_nil))) (va_cons (ve_call G_boundary (hr.mono (by decide)) (by rfl) A_boundary.gl A_boundary.fn.kp A_boundary.bi (va_cons (ve_tup (va_cons (ve_tup (va_cons (ve_tup (va_cons ve_int va_nil)) (va_cons ve_int va_nil))) va_nil)) (va_cons ve_int va_nil))) (va_cons (ve_call G_boundary (hr.mono (by decide)) (by rfl) A_boundary.gl A_boundary.fn.kp A_boundary.bi (va_cons (ve_tup (va_cons (ve_tup (va_cons (ve_tup (va_cons ve_int (va_cons ve_int va_nil))) (va_cons ve_int va_nil))) va_nil)) (va_cons ve_int va_nil))) va_nil)))))))
    (vs_cons (vs_if (vt_neS (ve_bi (cr_repr hg hr.units) (ck_repr rfl) (by rfl) B.repr (by decide +kernel) (vqa_cons (vq_var (pv 12)) vqa_nil)) (ve_bi (cr_repr hg hr.units) (ck_repr rfl) (by rfl) B.repr (by decide +kernel) (vqa_cons (ve_q (ve_f (vf_lst (va_cons (ve_tup va_nil) (va_cons (ve_tup va_nil) (va_cons (ve_tup (va_cons (ve_tup (va_cons (ve_tup va_nil) (va_cons ve_int va_nil))) va_nil)) (va_cons (ve_tup (va_cons (ve_tup (va_cons (ve_tup (va_cons ve_int va_nil)) (va_cons ve_int va_nil))) (va_cons (ve_tup (va_cons (ve_tup (va_cons ve_int va_nil)) (va_cons ve_int va_nil))) va_nil))) va_nil))))))) vqa_nil))) (vs_one (vs_ret ve_bl)) (vs_nil))
    (vs_cons (vs_set (i := 12) nd rfl (.inl rfl) (ve_f (vf_lst (va_cons (ve_call G_is_cycle hr (by rfl) A_is_cycle.gl A_is_cycle.fn.kp A_is_cycle.bi (va_cons (ve_tup va_nil) (va_cons ve_int va_nil))) (va_cons (ve_call G_is_cycle hr (by rfl) A_is_cycle.gl A_is_cycle.fn.kp A_is_cycle.bi (va_cons (ve_tup (va_cons (ve_tup (va_cons (ve_tup va_nil) (va_cons ve_int va_nil))) va_nil)) (va_cons ve_int va_nil))) (va_cons (ve_call G_is_cycle hr (by rfl) A_is_cycle.gl A_is_cycle.fn.kp A_is_cycle.bi (va_cons (ve_tup (va_cons (ve_tup (va_cons (ve_tup (va_cons ve_int va_nil)) (va_cons ve_int va_nil))) (va_cons (ve_tup (va_cons (ve_tup (va_cons ve_int va_nil)) (va_cons ve_int va_nil))) va_nil))) (va_cons ve_int va_nil))) va_nil))))))
    (vs_one (vs_ret (ve_eqS (ve_bi (cr_repr hg hr.units) (ck_repr rfl) (by rfl) B.repr (by decide +kernel) (vqa_cons (vq_var (pv 12)) vqa_nil)) (ve_bi (cr_repr hg hr.units) (ck_repr rfl) (by rfl) B.repr (by decide +kernel) (vqa_cons (ve_q (ve_f (vf_lst (va_cons ve_bl (va_cons ve_bl (va_cons ve_bl va_nil)))))) vqa_nil))))))))
end JN

set_option maxRecDepth 100000
set_option maxHeartbeats 4000000
namespace JN
open PySem PySem.Spec PyProof.Rows L2
/-! ### reckoning by terms: statements that only give values -/
theorem sSeq_of {g h : Ro → M Rs} {ρ ρ' : Ro} (e : g ρ = .ret (.nx ρ')) : sSeq g h ρ = h ρ' := by simp only [sSeq, e, M.bind_ret]
theorem sSeq_rt {g h : Ro → M Rs} {ρ : Ro} {x : Va} (e : g ρ = .ret (.rt x)) : sSeq g h ρ = .ret (.rt x) := by simp only [sSeq, e, M.bind_ret]
theorem sRet_of {f : Ro → M Va} {ρ : Ro} {x : Va} (e : f ρ = .ret x) : sRet f ρ = .ret (.rt x) := by simp only [sRet, e, M.bind_ret]
theorem sSet_of {i : Nat} {f : Ro → M Va} {ρ : Ro} {x : Va} (e : f ρ = .ret x) : sSet i f ρ = .ret (.nx (ρ.set i (.va x))) := by simp only [sSet, e, M.bind_ret]
theorem sSetF_of {i : Nat} {f : Ro → M (List PyData)} {ρ : Ro} {x : List PyData} (e : f ρ = .ret x) : sSetF i f ρ = .ret (.nx (ρ.set i (.ow (.lst x)))) := by simp only [sSetF, e, M.bind_ret]
theorem sPar_of {i j : Nat} {fa fb : Ro → M Va} {ρ : Ro} {x y : Va} (e : fa ρ = .ret x) (e' : fb ρ = .ret y) : sPar i j fa fb ρ = .ret (.nx ((ρ.set i (.va x)).set j (.va y))) := by simp only [sPar, e, e', M.bind_ret]
theorem sIf_of {c : Ro → M Bool} {g h : Ro → M Rs} {ρ : Ro} {b : Bool} (e : c ρ = .ret b) : sIf c g h ρ = if b = true then g ρ else h ρ := by simp only [sIf, e, M.bind_ret]
theorem sIf_no {c : Ro → M Bool} {g h : Ro → M Rs} {ρ : Ro} (e : c ρ = .ret false) : sIf c g h ρ = h ρ := by simp [sIf, e, M.bind_ret]
theorem sIf_ok {c : Ro → M Bool} {g h : Ro → M Rs} {ρ : Ro} (e : c ρ = .ret true) : sIf c g h ρ = g ρ := by simp [sIf, e, M.bind_ret]
theorem sFor_of {fi : Ro → M (List Va)} {ft : Va → Ro → M Ro} {gb : Ro → M Rs} {ρ : Ro} {xs : List Va} {r : M Rs} (e : fi ρ = .ret xs) (e' : loopS ft gb xs ρ = r) : sFor fi ft gb ρ = r := by simp only [sFor, e, e', M.bind_ret]
theorem defM_of {N : Nat} {g : Ro → M Rs} {xs : List Va} {x : Va} (e : g (ro0 N xs) = .ret (.rt x)) : defM N g xs = .ret x := by simp only [defM, e, M.bind_ret, endD]
theorem eCall1_of {F : List Va → M Va} {f : Ro → M Va} {ρ : Ro} {x r : Va} (h0 : f ρ = .ret x) (e' : F [x] = .ret r) : eCall F [f] ρ = .ret r := by simp [eCall, h0, e', M.bind_ret]
theorem eCall1_run {F : List Va → M Va} {f : Ro → M Va} {ρ : Ro} {x : Va} {Q : Va → Nat → Prop} {E : Er → Nat → Prop} {n : Nat} (h0 : f ρ = .ret x) (e' : (F [x]).run Q (fun _ _ => False) n) : (eCall F [f] ρ).run Q E n := by simp only [eCall, eArgs, eCons, eNil, h0, M.bind_ret]; exact e'
theorem eCall2_of {F : List Va → M Va} {f g : Ro → M Va} {ρ : Ro} {x y r : Va} (h0 : f ρ = .ret x) (h1 : g ρ = .ret y) (e' : F [x, y] = .ret r) : eCall F [f, g] ρ = .ret r := by simp [eCall, h0, h1, e', M.bind_ret]
theorem eCall2_run {F : List Va → M Va} {f g : Ro → M Va} {ρ : Ro} {x y : Va} {Q : Va → Nat → Prop} {E : Er → Nat → Prop} {n : Nat} (h0 : f ρ = .ret x) (h1 : g ρ = .ret y) (e' : (F [x, y]).run Q (fun _ _ => False) n) : (eCall F [f, g] ρ).run Q E n := by simp only [eCall, eArgs, eCons, eNil, h0, h1, M.bind_ret]; exact e'
theorem eCall3_of {F : List Va → M Va} {f g h : Ro → M Va} {ρ : Ro} {x y z r : Va} (h0 : f ρ = .ret x) (h1 : g ρ = .ret y) (h2 : h ρ = .ret z) (e' : F [x, y, z] = .ret r) : eCall F [f, g, h] ρ = .ret r := by simp [eCall, h0, h1, h2, e', M.bind_ret]
theorem eCall3_run {F : List Va → M Va} {f g h : Ro → M Va} {ρ : Ro} {x y z : Va} {Q : Va → Nat → Prop} {E : Er → Nat → Prop} {n : Nat} (h0 : f ρ = .ret x) (h1 : g ρ = .ret y) (h2 : h ρ = .ret z) (e' : (F [x, y, z]).run Q (fun _ _ => False) n) : (eCall F [f, g, h] ρ).run Q E n := by simp only [eCall, eArgs, eCons, eNil, h0, h1, h2, M.bind_ret]; exact e'
theorem eCall4_of {F : List Va → M Va} {f g h i : Ro → M Va} {ρ : Ro} {x y z u r : Va} (h0 : f ρ = .ret x) (h1 : g ρ = .ret y) (h2 : h ρ = .ret z) (h3 : i ρ = .ret u) (e' : F [x, y, z, u] = .ret r) : eCall F [f, g, h, i] ρ = .ret r := by simp [eCall, h0, h1, h2, h3, e', M.bind_ret]
theorem eCall4_run {F : List Va → M Va} {f g h i : Ro → M Va} {ρ : Ro} {x y z u : Va} {Q : Va → Nat → Prop} {E : Er → Nat → Prop} {n : Nat} (h0 : f ρ = .ret x) (h1 : g ρ = .ret y) (h2 : h ρ = .ret z) (h3 : i ρ = .ret u) (e' : (F [x, y, z, u]).run Q (fun _ _ => False) n) : (eCall F [f, g, h, i] ρ).run Q E n := by simp only [eCall, eArgs, eCons, eNil, h0, h1, h2, h3, M.bind_ret]; exact e'
theorem e2_of {k : Va → Va → M Va} {f g : Ro → M Va} {ρ : Ro} {x y : Va} {r : M Va} (e : f ρ = .ret x) (e' : g ρ = .ret y) (h : k x y = r) : e2 k f g ρ = r := by simp [e2, e, e', h, M.bind_ret]
theorem eVar_of {i : Nat} {ρ : Ro} {x : Va} (h : ρ[i]? = some (.va x)) : eVar i ρ = .ret x := by simp [eVar, h]
/-! .. and the same with draws: by what holds afterwards -/
theorem run_bind {α β : Type} {m : M α} {k : α → M β} {Q : β → Nat → Prop} {E : Er → Nat → Prop} {n : Nat} (h : m.run (fun a n1 => (k a).run Q E n1) E n) : (m.bind k).run Q E n := h
theorem run_mono {α : Type} {m : M α} {Q Q' : α → Nat → Prop} {E : Er → Nat → Prop} {n : Nat} (h : m.run Q E n) (q : ∀ a k, Q a k → Q' a k) : m.run Q' E n := m.mono q (fun _ _ z => z) h
theorem run_eq {α : Type} {m m' : M α} {Q : α → Nat → Prop} {E : Er → Nat → Prop} {n : Nat} (e : m = m') (h : m'.run Q E n) : m.run Q E n := e ▸ h
theorem sSeq_run {g h : Ro → M Rs} {ρ ρ' : Ro} {Q : Rs → Nat → Prop} {E : Er → Nat → Prop} {n : Nat} (e : g ρ = .ret (.nx ρ')) (r : (h ρ').run Q E n) : (sSeq g h ρ).run Q E n := by rw [sSeq_of e]; exact r
theorem sSeq_runS {g h : Ro → M Rs} {ρ : Ro} {Q : Rs → Nat → Prop} {E : Er → Nat → Prop} {n : Nat} (r : (g ρ).run (fun r k => match r with | .nx ρ' => (h ρ').run Q E k | r => Q r k) E n) : (sSeq g h ρ).run Q E n :=
  (g ρ).mono (fun r k z => by cases r <;> exact z) (fun _ _ z => z) r
theorem sFor_run {fi : Ro → M (List Va)} {ft : Va → Ro → M Ro} {gb : Ro → M Rs} {ρ : Ro} {Q : Rs → Nat → Prop} {E : Er → Nat → Prop} {n : Nat} (r : (fi ρ).run (fun xs k => (loopS ft gb xs ρ).run Q E k) E n) : (sFor fi ft gb ρ).run Q E n := r
theorem defM_run {N : Nat} {g : Ro → M Rs} {xs : List Va} {Q : Va → Nat → Prop} {E : Er → Nat → Prop} {n : Nat} (r : (g (ro0 N xs)).run (fun r k => (endD r).run Q E k) E n) : (defM N g xs).run Q E n := r
theorem sRet_run {f : Ro → M Va} {ρ : Ro} {x : Va} {Q : Rs → Nat → Prop} {E : Er → Nat → Prop} {n : Nat} (e : f ρ = .ret x) (q : Q (.rt x) n) : (sRet f ρ).run Q E n := by rw [sRet_of e]; exact q
theorem iR1_of {f : Ro → M Va} {ρ : Ro} {j : Nat} (e : f ρ = .ret (.da (.int j))) (h : j ≤ 1000000) : iR1 f ρ = .ret (rng 0 j) := by
  simp only [iR1, e, M.bind_ret]
  rw [M.req_bind ⟨by omega, by omega⟩, Int.toNat_natCast]
theorem draw_of {a : Addr} {b : Int} {f g : Ro → M Va} {ρ : Ro} {Q : Va → Nat → Prop} {E : Er → Nat → Prop} {n : Nat} (e : f ρ = .ret (.dw a)) (e' : g ρ = .ret (.da (.int b))) (h1 : 1 ≤ b) (h2 : b < 1073741824) (hn : n ≤ 1000000) (h : ∀ r : Int, 0 ≤ r → r < b → Q (.da (.int r)) (n + 1)) : (eCall vDraw [f, g] ρ).run Q E n :=
  eCall2_run e e' (vDraw_run h1 h2 hn h)
theorem ne_rr {fx fy : Ro → M Va} {ρ : Ro} {s : Str} (h1 : fx ρ = .ret (.da (.str s))) (h2 : fy ρ = .ret (.da (.str s))) : bB (e2 (kEqS true) fx fy) ρ = .ret false := by simp [h1, h2, kB]
theorem bOr_no {f g : Ro → M Bool} {ρ : Ro} (h1 : f ρ = .ret false) (h2 : g ρ = .ret false) : bOr f g ρ = .ret false := by simp [h1, h2]
theorem eVarQ_of {i : Nat} {ρ : Ro} {x : Va} (h : ρ[i]? = some (.va x)) : eVarQ i ρ = .ret x := by simp [eVarQ, h]
theorem e1s1_of {k : List Va → M Va} {f : Ro → M Va} {ρ : Ro} {x : Va} {r : M Va} (e : f ρ = .ret x) (h : k [x] = r) : e1s k [f] ρ = r := by simp [e, h]
theorem sPar_run {i j : Nat} {fa fb : Ro → M Va} {ρ : Ro} {Q : Rs → Nat → Prop} {E : Er → Nat → Prop} {n : Nat} (h : (fa ρ).run (fun x k => (fb ρ).run (fun y l => Q (.nx ((ρ.set i (.va x)).set j (.va y))) l) E k) E n) : (sPar i j fa fb ρ).run Q E n := h
theorem sSet_run {i : Nat} {f : Ro → M Va} {ρ : Ro} {Q : Rs → Nat → Prop} {E : Er → Nat → Prop} {n : Nat} (h : (f ρ).run (fun x k => Q (.nx (ρ.set i (.va x))) k) E n) : (sSet i f ρ).run Q E n := h
theorem run_ret {α : Type} {a : α} {Q : α → Nat → Prop} {E : Er → Nat → Prop} {n : Nat} (q : Q a n) : (M.ret a).run Q E n := q
theorem run_of {α : Type} {m : M α} {a : α} {Q : α → Nat → Prop} {E : Er → Nat → Prop} {n : Nat} (e : m = .ret a) (q : Q a n) : m.run Q E n := by rw [e]; exact q
theorem e2_run {k : Va → Va → M Va} {f g : Ro → M Va} {ρ : Ro} {x : Va} {Q : Va → Nat → Prop} {E : Er → Nat → Prop} {n : Nat} (e : f ρ = .ret x) (h : (g ρ).run (fun y l => (k x y).run Q E l) E n) : (e2 k f g ρ).run Q E n := by simp only [e2, e, M.bind_ret]; exact h
end JN

set_option maxRecDepth 100000
set_option maxHeartbeats 4000000
namespace JN
open PySem PySem.Spec PyProof.Rows L2
/-! the text isn't long -/
structure Fit (n m : Nat) (d : PyData) : Prop where
  sh : d.showable = true
  nd : d.hasDict = false
  lv : d.leavesShort 8 = true
  dp : d.depth ≤ n
  bk : d.bulk ≤ m
  ly : d.canLay0 = true
theorem Fit.all {n m : Nat} : ∀ ds : List PyData, (∀ d ∈ ds, Fit n m d) → PyData.showableAll ds = true ∧ PyData.hasDictAll ds = false ∧ PyData.leavesShortAll 8 ds = true ∧ PyData.depthAll ds ≤ n ∧ PyData.bulkAll ds ≤ ds.length * (m + 1) ∧ PyData.canLayAll0 ds = true
  | [], _ => by simp [PyData.showableAll, PyData.hasDictAll, PyData.leavesShortAll, PyData.depthAll, PyData.bulkAll, PyData.canLayAll0]
  | d :: ds, h => by
    obtain ⟨h1, h2, h3, h4, h5, h6⟩ := Fit.all ds fun x hx => h x (List.mem_cons_of_mem _ hx)
    have f := h d List.mem_cons_self
    refine ⟨by simp [PyData.showableAll, h1, f.sh], by simp [PyData.hasDictAll, h2, f.nd], by simp [PyData.leavesShortAll, h3, f.lv], ?_, ?_, by simp [PyData.canLayAll0, h6, f.ly]⟩
    · rw [PyData.depthAll]
      have := f.dp
      omega
    · rw [PyData.bulkAll, List.length_cons, Nat.add_mul]
      have := f.bk
      omega
theorem Fit.tup {n m k : Nat} {ds : List PyData} (h : ∀ d ∈ ds, Fit n m d) (hl : ds.length ≤ k) : Fit (n + 1) (k * (m + 1)) (.tuple ds) := by
  obtain ⟨h1, h2, h3, h4, h5, h6⟩ := Fit.all ds h
  exact ⟨by rw [PyData.showable]; exact h1, by rw [PyData.hasDict]; exact h2, by rw [PyData.leavesShort]; exact h3, by rw [PyData.depth]; omega, by rw [PyData.bulk]; exact Nat.le_trans h5 (Nat.mul_le_mul_right _ hl), by rw [PyData.canLay0]; exact h6⟩
theorem Fit.lst {n m k : Nat} {ds : List PyData} (h : ∀ d ∈ ds, Fit n m d) (hl : ds.length ≤ k) : Fit (n + 1) (k * (m + 1)) (.list ds) := by
  obtain ⟨h1, h2, h3, h4, h5, h6⟩ := Fit.all ds h
  exact ⟨by rw [PyData.showable]; exact h1, by rw [PyData.hasDict]; exact h2, by rw [PyData.leavesShort]; exact h3, by rw [PyData.depth]; omega, by rw [PyData.bulk]; exact Nat.le_trans h5 (Nat.mul_le_mul_right _ hl), by rw [PyData.canLay0]; exact h6⟩
theorem Fit.mono {n m n' m' : Nat} {d : PyData} (h : Fit n m d) (a : n ≤ n') (b : m ≤ m') : Fit n' m' d := ⟨h.sh, h.nd, h.lv, Nat.le_trans h.dp a, Nat.le_trans h.bk b, h.ly⟩
theorem fit_int {i : Int} (h0 : 0 ≤ i) (h1 : i < 7) : Fit 0 0 (.int i) := by
  have e : i = 0 ∨ i = 1 ∨ i = 2 ∨ i = 3 ∨ i = 4 ∨ i = 5 ∨ i = 6 := by omega
  refine ⟨?_, by rw [PyData.hasDict], ?_, by rw [PyData.depth]; exact Nat.le_refl _, by rw [PyData.bulk]; exact Nat.le_refl _, by rw [PyData.canLay0]⟩
  · rw [PyData.showable]
    rcases e with rfl | rfl | rfl | rfl | rfl | rfl | rfl <;> decide +kernel
  · rw [PyData.leavesShort]
    refine decide_eq_true ?_
    rcases e with rfl | rfl | rfl | rfl | rfl | rfl | rfl <;> decide +kernel
theorem fit_bool (b : Bool) : Fit 0 0 (.bool b) := ⟨by rw [PyData.showable], by rw [PyData.hasDict], by rw [PyData.leavesShort], by rw [PyData.depth]; exact Nat.le_refl _, by rw [PyData.bulk]; exact Nat.le_refl _, by rw [PyData.canLay0]⟩
theorem Fit.shp {n m : Nat} {d : PyData} (h : Fit n m d) (hn : n ≤ 64) : SeqAt.shaped d = true := by
  unfold SeqAt.shaped
  rw [h.ly, decide_eq_true (Nat.le_trans h.dp hn)]
  rfl
theorem Fit.len {n m : Nat} {d : PyData} (h : Fit n m d) (hm : m ≤ 100000) : d.shown.length ≤ sizeLine := by
  have := PyData.shown_le_bulk 8 (by decide) d h.lv
  have := h.bk
  rw [sizeLine_eq]
  omega
theorem Fit.repr_t {n m : Nat} {ds : List PyData} (h : Fit n m (.tuple ds)) (hn : n ≤ 20) (hm : m ≤ 100000) : kRepr [.da (.tuple ds)] = .ret (.da (.str (PyData.tuple ds).shown)) := by
  unfold kRepr
  dsimp only
  rw [M.req_bind ⟨h.sh, h.nd, h.len hm, Nat.le_trans h.dp hn⟩]
theorem Fit.repr_l {n m : Nat} {ds : List PyData} (h : Fit n m (.list ds)) (hn : n ≤ 20) (hm : m ≤ 100000) : kRepr [.da (.list ds)] = .ret (.da (.str (PyData.list ds).shown)) := by
  unfold kRepr
  dsimp only
  rw [M.req_bind ⟨h.sh, h.nd, h.len hm, Nat.le_trans h.dp hn⟩]
theorem fit_nil : Fit 1 0 (.tuple []) := by
  have := Fit.tup (n := 0) (m := 0) (k := 0) (ds := []) (fun d hd => nomatch hd) (Nat.le_refl _)
  exact this
end JN

set_option maxRecDepth 100000
set_option maxHeartbeats 4000000
namespace JN
open PySem PySem.Spec PyProof.Rows L2
/-! ### chains: formal sums of faces -/
abbrev Ch := List (List Int × Int)
def lin (φ : List Int → Int) : Ch → Int
  | [] => 0
  | x :: r => x.2 * φ x.1 + lin φ r
theorem lin_app {φ : List Int → Int} : ∀ a b : Ch, lin φ (a ++ b) = lin φ a + lin φ b
  | [], b => by simp [lin]
  | x :: r, b => by
    show x.2 * φ x.1 + lin φ (r ++ b) = x.2 * φ x.1 + lin φ r + lin φ b
    rw [lin_app r b]; omega
theorem lin_perm {φ : List Int → Int} {a b : Ch} (h : a.Perm b) : lin φ a = lin φ b := by
  induction h with
  | nil => rfl
  | cons x _ ih => show x.2 * φ x.1 + _ = x.2 * φ x.1 + _; rw [ih]
  | swap x y r => show y.2 * φ y.1 + (x.2 * φ x.1 + lin φ r) = x.2 * φ x.1 + (y.2 * φ y.1 + lin φ r); omega
  | trans _ _ i1 i2 => exact i1.trans i2
theorem lin_sub {φ ψ : List Int → Int} : ∀ c : Ch, lin (fun g => φ g - ψ g) c = lin φ c - lin ψ c
  | [] => rfl
  | x :: r => by
    show x.2 * (φ x.1 - ψ x.1) + lin (fun g => φ g - ψ g) r = x.2 * φ x.1 + lin φ r - (x.2 * ψ x.1 + lin ψ r)
    rw [lin_sub r, Int.mul_sub]; omega
theorem lin_zero {φ : List Int → Int} (h : ∀ g, φ g = 0) : ∀ c : Ch, lin φ c = 0
  | [] => rfl
  | x :: r => by
    show x.2 * φ x.1 + lin φ r = 0
    rw [h, lin_zero h r]; omega
/-- the parts of a face, with signs -/
def sp : List Int → Ch
  | [] => []
  | a :: f => (f, 1) :: (sp f).map fun x => (a :: x.1, -x.2)
def dl (φ : List Int → Int) (f : List Int) : Int := lin φ (sp f)
theorem lin_map {φ : List Int → Int} (a : Int) : ∀ c : Ch, lin φ (c.map fun x => (a :: x.1, -x.2)) = - lin (fun g => φ (a :: g)) c
  | [] => rfl
  | x :: r => by
    show -x.2 * φ (a :: x.1) + lin φ (r.map fun x => (a :: x.1, -x.2)) = -(x.2 * φ (a :: x.1) + lin (fun g => φ (a :: g)) r)
    rw [lin_map a r, Int.neg_mul]; omega
theorem dl_cons (φ : List Int → Int) (a : Int) (f : List Int) : dl φ (a :: f) = φ f - dl (fun g => φ (a :: g)) f := by
  show 1 * φ f + lin φ ((sp f).map fun x => (a :: x.1, -x.2)) = _
  rw [lin_map, Int.one_mul]
  rfl
theorem dl_sub {φ ψ : List Int → Int} (f : List Int) : dl (fun g => φ g - ψ g) f = dl φ f - dl ψ f := lin_sub _
theorem dl_dl (φ : List Int → Int) : ∀ f : List Int, dl (dl φ) f = 0 := by
  intro f
  induction f generalizing φ with
  | nil => rfl
  | cons a f ih =>
    have e : (fun g => dl φ (a :: g)) = fun g => φ g - dl (fun h => φ (a :: h)) g := funext fun g => dl_cons φ a g
    rw [dl_cons, e, dl_sub, show dl (fun h => dl (fun h' => φ (a :: h')) h) f = 0 from ih _]
    omega
theorem lin_dd (φ : List Int → Int) (c : Ch) : lin (dl (dl φ)) c = 0 := lin_zero (dl_dl φ) c
theorem sp_len : ∀ f : List Int, (sp f).length = f.length
  | [] => rfl
  | a :: f => by
    show ((sp f).map _).length + 1 = f.length + 1
    rw [List.length_map, sp_len f]
def sg (k : Nat) : Int := if k % 2 = 0 then 1 else -1
theorem sp_at : ∀ (f : List Int) (k : Nat), k < f.length → (sp f)[k]? = some (f.take k ++ f.drop (k + 1), sg k)
  | [], k, h => absurd h (Nat.not_lt_zero _)
  | a :: f, 0, _ => rfl
  | a :: f, k + 1, h => by
    show ((sp f).map fun x => (a :: x.1, -x.2))[k]? = _
    rw [List.getElem?_map, sp_at f k (by simpa using h)]
    show some (a :: (f.take k ++ f.drop (k + 1)), - sg k) = some (a :: (f.take k ++ f.drop (k + 1)), sg (k + 1))
    have : - sg k = sg (k + 1) := by
      unfold sg
      rcases Nat.mod_two_eq_zero_or_one k with e | e
      · rw [if_pos e, if_neg (by omega)]
      · rw [if_neg (by omega), if_pos (by omega)]; rfl
    rw [this]
/-! ### tables: the last value of a key counts -/
def keys (D : Ch) : List (List Int) := D.map (·.1)
def gt (D : Ch) (g : List Int) : Option Int := match D with
  | [] => none
  | x :: r => if x.1 = g then some x.2 else gt r g
def pt (D : Ch) (g : List Int) (n : Int) : Ch := match D with
  | [] => [(g, n)]
  | x :: r => if x.1 = g then (g, n) :: r else x :: pt r g n
theorem lin_pt {φ : List Int → Int} {g : List Int} {n : Int} : ∀ D : Ch, lin φ (pt D g n) = lin φ D + (n - (gt D g).getD 0) * φ g
  | [] => by
    show n * φ g + 0 = 0 + (n - 0) * φ g
    rw [Int.sub_zero]; omega
  | x :: r => by
    unfold pt gt
    by_cases e : x.1 = g
    · rw [if_pos e, if_pos e]
      show n * φ g + lin φ r = x.2 * φ x.1 + lin φ r + (n - x.2) * φ g
      rw [e, Int.sub_mul]; omega
    · rw [if_neg e, if_neg e]
      show x.2 * φ x.1 + lin φ (pt r g n) = x.2 * φ x.1 + lin φ r + (n - (gt r g).getD 0) * φ g
      rw [lin_pt r]; omega
theorem keys_pt {g : List Int} {n : Int} : ∀ (D : Ch) (y : List Int), y ∈ keys (pt D g n) → y ∈ keys D ∨ y = g
  | [], y, h => .inr (by simpa [keys, pt] using h)
  | x :: r, y, h => by
    unfold pt at h
    by_cases e : x.1 = g
    · rw [if_pos e] at h
      rcases List.mem_cons.mp h with z | z
      · exact .inr z
      · exact .inl (List.mem_cons_of_mem _ z)
    · rw [if_neg e] at h
      rcases List.mem_cons.mp h with z | z
      · exact .inl (z ▸ List.mem_cons_self)
      · rcases keys_pt r y z with q | q
        · exact .inl (List.mem_cons_of_mem _ q)
        · exact .inr q
theorem nd_pt {g : List Int} {n : Int} : ∀ D : Ch, (keys D).Nodup → (keys (pt D g n)).Nodup
  | [], _ => by simp [keys, pt]
  | x :: r, h => by
    obtain ⟨h1, h2⟩ := List.nodup_cons.mp h
    unfold pt
    by_cases e : x.1 = g
    · rw [if_pos e]
      exact List.nodup_cons.mpr ⟨by rw [← e]; exact h1, h2⟩
    · rw [if_neg e]
      refine List.nodup_cons.mpr ⟨fun m => ?_, nd_pt r h2⟩
      rcases keys_pt r _ m with q | q
      · exact h1 q
      · exact e q
theorem gt_mem {g : List Int} {n : Int} : ∀ D : Ch, (keys D).Nodup → (gt D g = some n ↔ (g, n) ∈ D)
  | [], _ => by simp [gt]
  | x :: r, h => by
    obtain ⟨h1, h2⟩ := List.nodup_cons.mp h
    unfold gt
    by_cases e : x.1 = g
    · rw [if_pos e]
      constructor
      · intro z
        have z2 := Option.some.inj z
        exact List.mem_cons.mpr (.inl (by rw [← e, ← z2]))
      · intro z
        rcases List.mem_cons.mp z with q | q
        · rw [← q]
        · exact absurd (List.mem_map.mpr ⟨_, q, rfl⟩) (by rw [← e]; exact h1)
    · rw [if_neg e, gt_mem r h2]
      constructor
      · exact fun z => List.mem_cons_of_mem _ z
      · intro z
        rcases List.mem_cons.mp z with q | q
        · exact absurd (by rw [← q]) e
        · exact q
theorem gt_key {g : List Int} : ∀ D : Ch, g ∈ keys D → ∃ n, gt D g = some n
  | [], h => by cases h
  | x :: r, h => by
    unfold gt
    by_cases e : x.1 = g
    · exact ⟨x.2, if_pos e⟩
    · rw [if_neg e]
      rcases List.mem_cons.mp h with z | z
      · exact absurd z.symm e
      · exact gt_key r z
/-- the table as the program keeps it -/
def enc (D : Ch) : List (List Key × V) := D.map fun x => (x.1.map Sum.inl, V.int x.2)
theorem inl_inj : ∀ {a b : List Int}, a.map (Sum.inl : Int → Key) = b.map Sum.inl → a = b
  | [], [], _ => rfl
  | [], _ :: _, h => by cases h
  | _ :: _, [], h => by cases h
  | x :: a, y :: b, h => by
    rw [List.map_cons, List.map_cons] at h
    obtain ⟨h1, h2⟩ := List.cons.inj h
    rw [Sum.inl.inj h1, inl_inj h2]
theorem val_enc {g : List Int} : ∀ D : Ch, valV (enc D) (g.map Sum.inl) = (gt D g).map V.int
  | [] => rfl
  | x :: r => by
    show valV ((x.1.map Sum.inl, V.int x.2) :: enc r) _ = _
    unfold gt
    by_cases e : x.1 = g
    · rw [if_pos e, e]
      simp [valV]
    · rw [if_neg e, ← val_enc r]
      have ne : ¬ ((x.1.map Sum.inl : List Key) = g.map Sum.inl) := fun z => e (inl_inj z)
      simp [valV, ne]
theorem put_absent {k : List Key} {v : V} {kvs : List (List Key × V)} (h : ∀ x ∈ kvs, x.1 ≠ k) : kvs.map (fun kv => if kv.1 = k then (kv.1, v) else kv) = kvs := by
  induction kvs with
  | nil => rfl
  | cons x r ih =>
    rw [List.map_cons, ih fun y hy => h y (List.mem_cons_of_mem _ hy), if_neg (h x List.mem_cons_self)]
theorem any_absent {k : List Key} {kvs : List (List Key × V)} (h : ∀ x ∈ kvs, x.1 ≠ k) : kvs.any (fun kv => decide (kv.1 = k)) = false := by
  rw [List.any_eq_false]
  exact fun x hx => by simpa using h x hx
theorem put_enc {g : List Int} {n : Int} : ∀ D : Ch, (keys D).Nodup → putK (enc D) (g.map Sum.inl) (V.int n) = enc (pt D g n)
  | [], _ => rfl
  | x :: r, h => by
    obtain ⟨h1, h2⟩ := List.nodup_cons.mp h
    show putK ((x.1.map Sum.inl, V.int x.2) :: enc r) _ _ = _
    have ih := put_enc (g := g) (n := n) r h2
    unfold pt
    by_cases e : x.1 = g
    · have no : ∀ y ∈ enc r, y.1 ≠ (g.map Sum.inl : List Key) := fun y hy z => by
        obtain ⟨u, hu, rfl⟩ := List.mem_map.mp hy
        exact h1 (List.mem_map.mpr ⟨u, hu, (inl_inj z).trans e.symm⟩)
      rw [if_pos e, e]
      unfold putK
      rw [List.any_cons, decide_eq_true rfl, Bool.true_or, if_pos rfl, List.map_cons, if_pos rfl, put_absent no]
      rfl
    · have ne : ¬ ((x.1.map Sum.inl : List Key) = g.map Sum.inl) := fun z => e (inl_inj z)
      rw [if_neg e]
      show _ = (x.1.map Sum.inl, V.int x.2) :: enc (pt r g n)
      rw [← ih]
      unfold putK
      rw [List.any_cons, decide_eq_false ne, Bool.false_or]
      by_cases a : (enc r).any (fun kv => decide (kv.1 = (g.map Sum.inl : List Key))) = true
      · rw [if_pos a, if_pos a, List.map_cons, if_neg ne]
      · rw [if_neg a, if_neg a]
        rfl
theorem enc_keys (D : Ch) : (enc D).map (·.1) = (keys D).map (fun g => g.map Sum.inl) := by
  unfold enc keys
  rw [List.map_map, List.map_map]
  rfl
/-! ### faces of at most seven vertices -/
def Face (d : Nat) (g : List Int) : Prop := g.length = d ∧ g.Pairwise (· < ·) ∧ ∀ x ∈ g, 0 ≤ x ∧ x < 7
theorem Face.mon {d : Nat} {g : List Int} (h : Face d g) : Mon d g := ⟨h.1, fun x hx => ⟨(h.2.2 x hx).1, Int.lt_trans (h.2.2 x hx).2 (by decide)⟩⟩
theorem Face.part {d : Nat} {g : List Int} (h : Face d g) (k : Nat) (hk : k < g.length) : Face (d - 1) (g.take k ++ g.drop (k + 1)) := by
  have sb : (g.take k ++ g.drop (k + 1)).Sublist g := by
    have e : (g.take k ++ g.drop k).Sublist g := by rw [List.take_append_drop]; exact List.Sublist.refl _
    refine List.Sublist.trans ?_ e
    refine List.Sublist.append (List.Sublist.refl _) ?_
    rw [show g.drop (k + 1) = (g.drop k).drop 1 by rw [List.drop_drop]]
    exact List.drop_sublist _ _
  refine ⟨?_, h.2.1.sublist sb, fun x hx => h.2.2 x (sb.subset hx)⟩
  rw [List.length_append, List.length_take, List.length_drop, ← h.1]
  omega
def subs : Nat → Int → List (List Int)
  | 0, _ => [[]]
  | n + 1, k => (subs n (k + 1)).map (k :: ·) ++ subs n (k + 1)
theorem face_subs : ∀ (n : Nat) (k : Int) (g : List Int), g.Pairwise (· < ·) → (∀ x ∈ g, k ≤ x ∧ x < k + n) → g ∈ subs n k
  | 0, k, [], _, _ => by simp [subs]
  | 0, k, x :: g, _, h => by
    have := h x List.mem_cons_self
    omega
  | n + 1, k, [], _, _ => List.mem_append_right _ (face_subs n (k + 1) [] .nil fun x hx => nomatch hx)
  | n + 1, k, x :: g, h, hb => by
    obtain ⟨h1, h2⟩ := List.pairwise_cons.mp h
    have bx := hb x List.mem_cons_self
    by_cases e : x = k
    · refine List.mem_append_left _ (List.mem_map.mpr ⟨g, face_subs n (k + 1) g h2 fun y hy => ?_, by rw [e]⟩)
      have := h1 y hy
      have := hb y (List.mem_cons_of_mem _ hy)
      omega
    · refine List.mem_append_right _ (face_subs n (k + 1) (x :: g) h fun y hy => ?_)
      have := hb y hy
      rcases List.mem_cons.mp hy with z | z
      · omega
      · have := h1 y z
        omega
theorem subs_few : ∀ d : Nat, d < 8 → ((subs 7 0).filter fun g => decide (g.length = d)).length ≤ 35 := by decide +kernel
theorem nodup_le {α : Type} [DecidableEq α] : ∀ {l m : List α}, l.Nodup → (∀ x ∈ l, x ∈ m) → l.length ≤ m.length
  | [], m, _, _ => Nat.zero_le _
  | x :: l, m, h, hs => by
    obtain ⟨h1, h2⟩ := List.nodup_cons.mp h
    have hx := hs x List.mem_cons_self
    have ih := nodup_le (m := m.erase x) h2 fun y hy => (List.mem_erase_of_ne (fun e : y = x => h1 (e ▸ hy))).mpr (hs y (List.mem_cons_of_mem _ hy))
    rw [List.length_erase_of_mem hx] at ih
    have := List.length_pos_of_mem hx
    show l.length + 1 ≤ m.length
    omega
theorem faces_few {d : Nat} {L : List (List Int)} (hd : d < 8) (h : ∀ g ∈ L, Face d g) (nd : L.Nodup) : L.length ≤ 35 := by
  refine Nat.le_trans (nodup_le nd fun g hg => ?_) (subs_few d hd)
  have f := h g hg
  exact List.mem_filter.mpr ⟨face_subs 7 0 g f.2.1 fun x hx => by have := f.2.2 x hx; omega, decide_eq_true f.1⟩
theorem faces_one {L : List (List Int)} (h : ∀ g ∈ L, Face 0 g) (nd : L.Nodup) : L.length < 2 := by
  have : L.length ≤ [([] : List Int)].length := nodup_le nd fun g hg => by
    have := (h g hg).1
    rw [List.length_eq_zero_iff.mp this]
    exact List.mem_singleton.mpr rfl
  simpa using Nat.lt_succ_of_le this
theorem few_or {d : Nat} {L : List (List Int)} (h : ∀ g ∈ L, Face d g) (nd : L.Nodup) : 1 ≤ d ∨ L.length < 2 := by
  rcases Nat.eq_zero_or_pos d with e | e
  · subst e
    exact .inr (faces_one h nd)
  · exact .inl e
/-! ### tables of faces, sums as they are told -/
structure Tbl (d : Nat) (D : Ch) : Prop where
  nd : (keys D).Nodup
  face : ∀ g ∈ keys D, Face d g
theorem Tbl.nil {d : Nat} : Tbl d [] := ⟨List.nodup_nil, fun g h => (nomatch h)⟩
theorem Tbl.put {d : Nat} {D : Ch} (h : Tbl d D) {g : List Int} {n : Int} (f : Face d g) : Tbl d (pt D g n) := ⟨nd_pt D h.nd, fun y hy => by
  rcases keys_pt D y hy with z | z
  · exact h.face y z
  · rw [z]; exact f⟩
theorem keys_len (D : Ch) : (keys D).length = D.length := List.length_map _
theorem Tbl.few {d : Nat} {D : Ch} (h : Tbl d D) (hd : d < 8) : D.length ≤ 35 := by rw [← keys_len]; exact faces_few hd h.face h.nd
def Cg (p a b : Int) : Prop := ∃ z, a = b + p * z
theorem Cg.refl {p : Int} (a : Int) : Cg p a a := ⟨0, by omega⟩
theorem Cg.of {p a b : Int} (e : a = b) : Cg p a b := e ▸ Cg.refl a
theorem Cg.symm {p a b : Int} : Cg p a b → Cg p b a | ⟨z, e⟩ => ⟨-z, by rw [Int.mul_neg]; omega⟩
theorem Cg.trans {p a b c : Int} : Cg p a b → Cg p b c → Cg p a c | ⟨z, e⟩, ⟨y, f⟩ => ⟨z + y, by rw [Int.mul_add]; omega⟩
theorem Cg.add {p a b c d : Int} : Cg p a b → Cg p c d → Cg p (a + c) (b + d) | ⟨z, e⟩, ⟨y, f⟩ => ⟨z + y, by rw [Int.mul_add]; omega⟩
theorem Cg.mul {p a b : Int} (c : Int) : Cg p a b → Cg p (c * a) (c * b) | ⟨z, e⟩ => ⟨c * z, by
  rw [e, Int.mul_add, ← Int.mul_assoc, ← Int.mul_assoc, Int.mul_comm c p]⟩
theorem Cg.mod {p a : Int} : Cg p (a % p) a := ⟨-(a / p), by
  have := Int.emod_add_mul_ediv a p
  rw [Int.mul_neg]; omega⟩
theorem Cg.eq {p a b : Int} (h : Cg p a b) (a0 : 0 ≤ a) (a1 : a < p) (b0 : 0 ≤ b) (b1 : b < p) : a = b := by
  obtain ⟨z, e⟩ := h
  have h1 : a % p = a := Int.emod_eq_of_lt a0 a1
  have h2 : b % p = b := Int.emod_eq_of_lt b0 b1
  rw [← h1, ← h2, e, Int.add_mul_emod_self_left]
/-- strictly rising faces, entries from 1 to p - 1 -/
structure Norm (d : Nat) (p : Int) (R : Ch) : Prop where
  asc : Asc (keys R)
  face : ∀ g ∈ keys R, Face d g
  pos : ∀ x ∈ R, 0 < x.2 ∧ x.2 < p
theorem Norm.nil {d : Nat} {p : Int} : Norm d p [] := ⟨.nil, fun g h => (nomatch h), fun g h => (nomatch h)⟩
theorem asc_nd {L : List (List Int)} (h : Asc L) : L.Nodup := List.Pairwise.imp (fun {a b} h e => by rw [e] at h; omega) h
theorem Norm.tbl {d : Nat} {p : Int} {R : Ch} (h : Norm d p R) : Tbl d R := ⟨asc_nd h.asc, h.face⟩
def ind (g h : List Int) : Int := if h = g then 1 else 0
theorem lin_no {g : List Int} : ∀ R : Ch, g ∉ keys R → lin (ind g) R = 0
  | [], _ => rfl
  | x :: r, h => by
    show x.2 * ind g x.1 + lin (ind g) r = 0
    rw [lin_no r fun m => h (List.mem_cons_of_mem _ m)]
    have : ind g x.1 = 0 := if_neg fun e => h (by rw [← e]; exact List.mem_cons_self)
    rw [this]; omega
theorem lin_ind {g : List Int} : ∀ R : Ch, (keys R).Nodup → lin (ind g) R = (gt R g).getD 0
  | [], _ => rfl
  | x :: r, h => by
    obtain ⟨h1, h2⟩ := List.nodup_cons.mp h
    show x.2 * ind g x.1 + lin (ind g) r = _
    unfold gt
    by_cases e : x.1 = g
    · rw [if_pos e, lin_no r (by rw [← e]; exact h1)]
      have : ind g x.1 = 1 := if_pos e
      rw [this]
      show x.2 * 1 + 0 = x.2
      omega
    · rw [if_neg e, lin_ind r h2]
      have : ind g x.1 = 0 := if_neg e
      rw [this]; omega
theorem Norm.val {d : Nat} {p : Int} {R : Ch} (h : Norm d p R) (hp : 0 < p) (g : List Int) : 0 ≤ (gt R g).getD 0 ∧ (gt R g).getD 0 < p ∧ ∀ n, (g, n) ∈ R ↔ n ≠ 0 ∧ (gt R g).getD 0 = n := by
  have nd := h.tbl.nd
  cases e : gt R g with
  | none =>
    refine ⟨Int.le_refl _, hp, fun n => ⟨fun m => ?_, fun m => absurd m.2.symm m.1⟩⟩
    rw [(gt_mem R nd).mpr m] at e
    cases e
  | some k =>
    have mk := (gt_mem R nd).mp e
    have pk := h.pos _ mk
    refine ⟨Int.le_of_lt pk.1, pk.2, fun n => ⟨fun m => ?_, fun m => ?_⟩⟩
    · have := (gt_mem R nd).mpr m
      rw [e] at this
      have := Option.some.inj this
      subst this
      exact ⟨fun z => by have := pk.1; omega, rfl⟩
    · have e2 : k = n := m.2
      rw [← e2]; exact mk
theorem Norm.uniq {d d' : Nat} {p : Int} {R S : Ch} (a : Norm d p R) (b : Norm d' p S) (hp : 0 < p) (h : ∀ φ, Cg p (lin φ R) (lin φ S)) : R = S := by
  refine asc_ext (f := fun x : List Int × Int => cd x.1) ((List.pairwise_map (f := fun x : List Int × Int => x.1)).mp a.asc) ((List.pairwise_map (f := fun x : List Int × Int => x.1)).mp b.asc) fun x => ?_
  obtain ⟨g, n⟩ := x
  obtain ⟨a0, a1, a2⟩ := a.val hp g
  obtain ⟨b0, b1, b2⟩ := b.val hp g
  have e := h (ind g)
  rw [lin_ind R a.tbl.nd, lin_ind S b.tbl.nd] at e
  rw [a2, b2, e.eq a0 a1 b0 b1]
/-- what a table tells, its faces in sequence -/
def told (D : Ch) (p : Int) (L : List (List Int)) : Ch := L.filterMap fun g => if ((gt D g).getD 0) % p ≠ 0 then some (g, ((gt D g).getD 0) % p) else none
def full (D : Ch) (L : List (List Int)) : Ch := L.map fun g => (g, (gt D g).getD 0)
theorem full_self {D : Ch} (h : (keys D).Nodup) : full D (keys D) = D := by
  unfold full keys
  rw [List.map_map]
  conv => rhs; rw [← List.map_id D]
  refine List.map_congr_left fun x hx => ?_
  show (x.1, (gt D x.1).getD 0) = x
  rw [(gt_mem (g := x.1) (n := x.2) D h).mpr hx]
  rfl
theorem lin_full {φ : List Int → Int} {D : Ch} {L : List (List Int)} (h : (keys D).Nodup) (pm : L.Perm (keys D)) : lin φ (full D L) = lin φ D := by
  conv => rhs; rw [← full_self h]
  exact lin_perm (pm.map _)
theorem lin_told {φ : List Int → Int} {D : Ch} {p : Int} : ∀ L : List (List Int), Cg p (lin φ (told D p L)) (lin φ (full D L))
  | [] => Cg.refl _
  | g :: L => by
    have ih := lin_told (φ := φ) (D := D) (p := p) L
    have m : Cg p (((gt D g).getD 0) % p * φ g) ((gt D g).getD 0 * φ g) := by
      rw [Int.mul_comm _ (φ g), Int.mul_comm _ (φ g)]
      exact Cg.mod.mul _
    unfold told
    rw [List.filterMap_cons]
    by_cases e : ((gt D g).getD 0) % p ≠ 0
    · rw [if_pos e]
      exact m.add ih
    · rw [if_neg e]
      have e0 : ((gt D g).getD 0) % p = 0 := Decidable.not_not.mp e
      rw [e0, Int.zero_mul] at m
      have := m.add ih
      rw [Int.zero_add] at this
      exact this
theorem told_keys {D : Ch} {p : Int} : ∀ L : List (List Int), (keys (told D p L)).Sublist L
  | [] => List.Sublist.refl _
  | g :: L => by
    unfold told
    rw [List.filterMap_cons]
    by_cases e : ((gt D g).getD 0) % p ≠ 0
    · rw [if_pos e]
      exact (told_keys L).cons₂ g
    · rw [if_neg e]
      exact (told_keys L).cons g
theorem told_norm {d : Nat} {D : Ch} {p : Int} {L : List (List Int)} (T : Tbl d D) (hp : 0 < p) (pm : L.Perm (keys D)) (as : Asc L) : Norm d p (told D p L) ∧ ∀ φ, Cg p (lin φ (told D p L)) (lin φ D) := by
  refine ⟨⟨as.sublist (told_keys L), fun g hg => T.face g (pm.mem_iff.mp ((told_keys L).subset hg)), fun x hx => ?_⟩, fun φ => ?_⟩
  · obtain ⟨g, _, e⟩ := List.mem_filterMap.mp hx
    by_cases z : ((gt D g).getD 0) % p ≠ 0
    · rw [if_pos z] at e
      cases e
      have h1 := Int.emod_nonneg ((gt D g).getD 0) (Int.ne_of_gt hp)
      have h2 := Int.emod_lt_of_pos ((gt D g).getD 0) hp
      exact ⟨by show 0 < ((gt D g).getD 0) % p; omega, h2⟩
    · rw [if_neg z] at e
      cases e
  · rw [← lin_full T.nd pm]
    exact lin_told L
theorem full_norm {d : Nat} {D : Ch} {p : Int} {L : List (List Int)} (T : Tbl d D) (pm : L.Perm (keys D)) (as : Asc L) (hv : ∀ x ∈ D, 0 < x.2 ∧ x.2 < p) : Norm d p (full D L) := by
  have ek : keys (full D L) = L := by
    unfold keys full
    rw [List.map_map]
    exact List.map_id' L
  refine ⟨by rw [ek]; exact as, fun g hg => T.face g (pm.mem_iff.mp (by rw [ek] at hg; exact hg)), fun x hx => ?_⟩
  obtain ⟨g, hg, rfl⟩ := List.mem_map.mp hx
  obtain ⟨n, hn⟩ := gt_key D (pm.mem_iff.mp hg)
  show 0 < (gt D g).getD 0 ∧ (gt D g).getD 0 < p
  rw [hn]
  exact hv (g, n) ((gt_mem D T.nd).mp hn)
theorem mem_pt {g : List Int} {n : Int} : ∀ (D : Ch) (x : List Int × Int), x ∈ pt D g n → x ∈ D ∨ x = (g, n)
  | [], x, h => .inr (by simpa [pt] using h)
  | y :: r, x, h => by
    unfold pt at h
    by_cases e : y.1 = g
    · rw [if_pos e] at h
      rcases List.mem_cons.mp h with z | z
      · exact .inr z
      · exact .inl (List.mem_cons_of_mem _ z)
    · rw [if_neg e] at h
      rcases List.mem_cons.mp h with z | z
      · exact .inl (z ▸ List.mem_cons_self)
      · rcases mem_pt r x z with q | q
        · exact .inl (List.mem_cons_of_mem _ q)
        · exact .inr q
/-- the boundary of c, told by R -/
def Bnd (d : Nat) (p : Int) (c R : Ch) : Prop := Norm (d - 1) p R ∧ ∀ φ, Cg p (lin φ R) (lin (dl φ) c)
theorem Bnd.uniq {d d' : Nat} {p : Int} {c R S : Ch} (a : Bnd d p c R) (b : Bnd d' p c S) (hp : 0 < p) : R = S := a.1.uniq b.1 hp fun φ => (a.2 φ).trans (b.2 φ).symm
/-- a boundary has no boundary -/
theorem Bnd.twice {d : Nat} {p : Int} {c R S : Ch} (a : Bnd d p c R) (b : Bnd (d - 1) p R S) (hp : 0 < p) : S = [] :=
  b.1.uniq (Norm.nil (d := 0)) hp fun φ => (b.2 φ).trans ((a.2 (dl φ)).trans (Cg.of (lin_dd φ c)))
/-- the sum of one and f times other -/
def Plus (d : Nat) (p f : Int) (c e R : Ch) : Prop := Norm d p R ∧ ∀ φ, Cg p (lin φ R) (lin φ c + f * lin φ e)
theorem plus_bnd {d : Nat} {p f : Int} {c e B R S T U : Ch} (hB : Plus d p f c e B) (hR : Bnd d p c R) (hS : Bnd d p e S) (hT : Plus (d - 1) p f R S T) (hU : Bnd d p B U) (hp : 0 < p) : U = T :=
  hU.1.uniq hT.1 hp fun φ => ((hU.2 φ).trans (hB.2 (dl φ))).trans (((hR.2 φ).add ((hS.2 φ).mul f)).symm.trans (hT.2 φ).symm)
/-! ### the law's own subsets -/
def sbs : Nat → List (List Int)
  | 0 => [[]]
  | i + 1 => sbs i ++ (sbs i).map (· ++ [(i : Int)])
def faceB (g : List Int) : Bool := decide (g.Pairwise (· < ·)) && g.all fun x => decide (0 ≤ x) && decide (x < 7)
theorem sbs_face : (sbs 7).all faceB = true := by decide +kernel
theorem sbs_some : ∀ d : Nat, d < 6 → 1 ≤ ((sbs 7).filter fun g => decide (g.length = d)).length ∧ ((sbs 7).filter fun g => decide (g.length = d)).length ≤ 35 := by decide +kernel
theorem sbs_zero : ((sbs 7).filter fun g => decide (g.length = 0)).length < 2 := by decide +kernel
theorem sbs_nd : (sbs 7).Nodup := by decide +kernel
theorem sbs_is {g : List Int} (h : g ∈ sbs 7) : Face g.length g := by
  have := List.all_eq_true.mp sbs_face g h
  unfold faceB at this
  rw [Bool.and_eq_true, List.all_eq_true] at this
  exact ⟨rfl, of_decide_eq_true this.1, fun x hx => by have := this.2 x hx; rw [Bool.and_eq_true] at this; exact ⟨of_decide_eq_true this.1, of_decide_eq_true this.2⟩⟩
theorem sbs_len : ∀ i, i ≤ 7 → (sbs i).length ≤ 128 := by decide +kernel
/-! the data -/
def dF (g : List Int) : PyData := .tuple (g.map .int)
def dC (R : Ch) : PyData := .tuple (R.map fun x => .tuple [dF x.1, .int x.2])
def dL (cs : List Ch) : PyData := .list (cs.map dC)
structure SmC (R : Ch) : Prop where
  len : R.length ≤ 64
  face : ∀ x ∈ R, x.1.length ≤ 7 ∧ ∀ y ∈ x.1, 0 ≤ y ∧ y < 7
  val : ∀ x ∈ R, 0 ≤ x.2 ∧ x.2 < 7
theorem SmC.fit {R : Ch} (h : SmC R) : Fit 3 1152 (dC R) := by
  refine (Fit.tup (n := 2) (m := 16) (k := 64) (fun d hd => ?_) (by rw [List.length_map]; exact h.len)).mono (Nat.le_refl _) (by decide)
  obtain ⟨x, hx, rfl⟩ := List.mem_map.mp hd
  obtain ⟨f1, f2⟩ := h.face x hx
  obtain ⟨v1, v2⟩ := h.val x hx
  refine (Fit.tup (n := 1) (m := 7) (k := 2) (fun d hd => ?_) (Nat.le_refl _)).mono (Nat.le_refl _) (by decide)
  rcases List.mem_cons.mp hd with z | z
  · rw [z]
    refine (Fit.tup (n := 0) (m := 0) (k := 7) (fun d hd => ?_) (by rw [List.length_map]; exact f1)).mono (Nat.le_refl _) (by decide)
    obtain ⟨y, hy, rfl⟩ := List.mem_map.mp hd
    exact fit_int (f2 y hy).1 (f2 y hy).2
  · rw [List.mem_singleton.mp z]
    exact (fit_int v1 v2).mono (Nat.zero_le _) (Nat.zero_le _)
theorem Norm.sm {d : Nat} {p : Int} {R : Ch} (h : Norm d p R) (hd : d < 8) (hp : p ≤ 7) : SmC R := by
  refine ⟨Nat.le_trans (h.tbl.few hd) (by decide), fun x hx => ?_, fun x hx => ?_⟩
  · have f := h.face x.1 (List.mem_map.mpr ⟨x, hx, rfl⟩)
    exact ⟨by rw [f.1]; omega, f.2.2⟩
  · have := h.pos x hx
    omega
end JN

set_option maxRecDepth 100000
set_option maxHeartbeats 4000000
namespace JN
open PySem PySem.Spec PyProof.Rows L2
theorem residue_eq {a p : Int} (h : 0 < p) : F_residue [.da (.int a), .da (.int p)] = .ret (.da (.int (a % p))) := by
  have : ¬ p = 0 := by omega
  simp [F_residue, B_residue, this, kIc, M.req_bind h]
def dP (x : List Int × Int) : PyData := .tuple [dF x.1, .int x.2]
theorem dC_eq (R : Ch) : dC R = .tuple (R.map dP) := rfl
theorem parts_eq {f : List Int} (hf : f.length ≤ 1000) : F_signed_parts [.da (dF f)] = .ret (.da (.list ((sp f).map dP))) := by
  have hl : (f.length : Int) < 4611686018427387904 := by omega
  have key : compM (fName 1) (fun _ => .ret true) (eTup [e2 kCatT (eSlT (eVar 0) oN (oS (eVar 1))) (eSlT (eVar 0) (oS (e2 kAdd (eVar 1) (eC (.int 1)))) oN), e2 kSub (eC (.int 1)) (e2 kMul (eC (.int 2)) (e2 kMod (eVar 1) (eC (.int 2))))]) ((List.range f.length).map fun i => Va.da (.int (i : Nat))) [Sl.va (.da (dF f)), Sl.un] = .ret ((sp f).map dP) := by
    rw [compM_all (fun i => [Sl.va (.da (dF f)), Sl.va (.da (.int (i : Nat)))]) (fun i => dP (f.take i ++ f.drop (i + 1), 1 - 2 * ((i : Int) % 2))) (fun i hi => by simp) (fun i hi => ?_)]
    · congr 1
      apply List.ext_getElem?
      intro i
      rw [List.getElem?_map, List.getElem?_map]
      by_cases hi : i < f.length
      · rw [sp_at f i hi]
        simp only [List.getElem?_range hi, Option.map_some]
        congr 2
        unfold sg
        have : (1 : Int) - 2 * ((i : Int) % 2) = if i % 2 = 0 then 1 else -1 := by split <;> omega
        rw [this]
      · rw [List.getElem?_eq_none (by simpa using hi), List.getElem?_eq_none (by rw [sp_len]; omega)]
        rfl
    · have hi : i < f.length := List.mem_range.mp hi
      have c1 : cutD (f.map PyData.int) none (some (i : Int)) = (f.take i).map PyData.int := by rw [cutD_lo (by rw [List.length_map]; omega), List.map_take]
      have c2 : cutD (f.map PyData.int) (some ((i : Int) + 1)) none = (f.drop (i + 1)).map PyData.int := by
        rw [show (i : Int) + 1 = ((i + 1 : Nat) : Int) by omega, cutD_hi (by rw [List.length_map]; omega), List.map_drop]
      have h3 : min i f.length + (f.length - (i + 1)) ≤ 16777216 := by omega
      have h4 : CMul 2 ((i : Int) % 2) := .inl ⟨by decide, by decide⟩
      simp [kCatT, c1, c2, M.req_bind, h3, h4, dF, dP]
  simp [F_signed_parts, B_signed_parts, eComp, dF]
  rw [M.req_bind (by omega), rng_map]
  simp [wipeR]
  rw [M.req_bind (by omega)]
  show ((compM _ _ _ _ [Sl.va (.da (dF f)), Sl.un]).quiet).bind _ = _
  rw [key]
  rfl
end JN

set_option maxRecDepth 100000
set_option maxHeartbeats 4000000
namespace JN
open PySem PySem.Spec PyProof.Rows L2
/-! tables as the program keeps them -/
def encD (D : Ch) : List (List Key × PyData) := D.map fun x => (x.1.map Sum.inl, .int x.2)
theorem getP_enc {g : List Int} : ∀ D : Ch, getP (encD D) (g.map Sum.inl) = (gt D g).map PyData.int
  | [] => rfl
  | x :: r => by
    have ih := getP_enc (g := g) r
    unfold gt
    by_cases e : x.1 = g
    · rw [if_pos e, ← e]
      simp [encD, getP]
    · rw [if_neg e, ← ih]
      have ne : ¬ ((x.1.map Sum.inl : List Key) = g.map Sum.inl) := fun z => e (inl_inj z)
      simp [encD, getP, ne]
theorem putP_enc {g : List Int} {n : Int} : ∀ D : Ch, (keys D).Nodup → putP (encD D) (g.map Sum.inl) (.int n) = encD (pt D g n)
  | [], _ => rfl
  | x :: r, h => by
    obtain ⟨h1, h2⟩ := List.nodup_cons.mp h
    have ih := putP_enc (g := g) (n := n) r h2
    unfold pt
    by_cases e : x.1 = g
    · rw [if_pos e]
      have no : ∀ y ∈ r, ¬ ((y.1.map Sum.inl : List Key) = g.map Sum.inl) := fun y hy z => h1 (List.mem_map.mpr ⟨y, hy, (inl_inj z).trans e.symm⟩)
      have hm : (encD r).map (fun e => if e.1 = (g.map Sum.inl : List Key) then (e.1, PyData.int n) else e) = encD r := by
        conv => rhs; rw [← List.map_id (encD r)]
        refine List.map_congr_left fun y hy => ?_
        obtain ⟨u, hu, rfl⟩ := List.mem_map.mp hy
        rw [if_neg (no u hu)]
        rfl
      show putP ((x.1.map Sum.inl, PyData.int x.2) :: encD r) _ _ = _
      unfold putP
      rw [List.any_cons, decide_eq_true (by rw [e]), Bool.true_or, if_pos rfl, List.map_cons, hm, if_pos (by rw [e]), e]
      rfl
    · have ne : ¬ ((x.1.map Sum.inl : List Key) = g.map Sum.inl) := fun z => e (inl_inj z)
      rw [if_neg e]
      show putP ((x.1.map Sum.inl, PyData.int x.2) :: encD r) _ _ = (x.1.map Sum.inl, PyData.int x.2) :: encD (pt r g n)
      rw [← ih]
      unfold putP
      rw [List.any_cons, decide_eq_false ne, Bool.false_or]
      split
      · rw [List.map_cons, if_neg ne]
      · rfl
theorem enc_len (D : Ch) : (encD D).length = D.length := List.length_map _
theorem enc_keys' (D : Ch) : unKs ((encD D).map (·.1)) = some (keys D) := by
  have : (encD D).map (·.1) = (keys D).map fun g => g.map Sum.inl := by
    unfold encD keys
    rw [List.map_map, List.map_map]
    rfl
  rw [this, unKs_map]
theorem keys_eq {D : Ch} {d : Nat} {ρ : Ro} {i : Nat} (hd : d < 8) (T : Tbl d D) (h : ρ[i]? = some (.ow (.dT (encD D)))) : eKeysT i ρ = .ret ((sset (keys D)).map dF) := by
  have hf := faces_few hd T.face T.nd
  unfold eKeysT
  simp [h, enc_keys', kRows]
  rw [M.req_bind ⟨⟨d, fun p hp => (T.face p hp).mon, few_or T.face T.nd⟩, by omega, T.nd⟩]
  rfl
theorem sset_perm {D : Ch} {d : Nat} (T : Tbl d D) : (sset (keys D)).Perm (keys D) ∧ Asc (sset (keys D)) := by
  have hm : ∀ p ∈ keys D, Mon d p := fun p hp => (T.face p hp).mon
  have ha := sset_asc hm
  exact ⟨(List.perm_ext_iff_of_nodup (asc_nd ha) T.nd).mpr fun x => sset_mem hm, ha⟩
/-! boundary -/
def istep (co p : Int) (D : Ch) (y : List Int × Int) : Ch := pt D y.1 (((gt D y.1).getD 0 + y.2 * co) % p)
def ostep (p : Int) (D : Ch) (x : List Int × Int) : Ch := (sp x.1).foldl (istep x.2 p) D
theorem sp_face {d : Nat} {g : List Int} (h : Face d g) : ∀ y ∈ sp g, Face (d - 1) y.1 ∧ (y.2 = 1 ∨ y.2 = -1) := fun y hy => by
  obtain ⟨k, hk, e⟩ := List.getElem_of_mem hy
  rw [sp_len] at hk
  have := sp_at g k hk
  have e2 : (sp g)[k]? = some y := by rw [List.getElem?_eq_some_iff]; exact ⟨by rw [sp_len]; exact hk, e⟩
  rw [e2] at this
  cases this
  refine ⟨h.part k hk, ?_⟩
  show sg k = 1 ∨ sg k = -1
  unfold sg
  split
  · exact .inl rfl
  · exact .inr rfl
theorem getD_lt {d : Nat} {D : Ch} {p : Int} {g : List Int} (hv : ∀ x ∈ D, 0 ≤ x.2 ∧ x.2 < p) (hp : 0 < p) (nd : (keys D).Nodup) : 0 ≤ (gt D g).getD 0 ∧ (gt D g).getD 0 < p := by
  cases e : gt D g with
  | none => exact ⟨Int.le_refl _, hp⟩
  | some n => exact hv _ ((gt_mem D nd).mp e)
theorem inner_eq {d : Nat} {p co : Int} {c : Ch} {f : List Int} {D : Ch} {z3 z4 z5 z6 : Sl} (hd : d < 8) (hp : 0 < p) (hco : 0 ≤ co ∧ co < 1000) (hf : Face d f) (T : Tbl (d - 1) D) (hz3 : z3 = .va (.da (dF f))) (hz4 : z4 = .va (.da (.int co))) :
    ∃ z5' z6', loopS (fTup 2 (fCons (fName 5) (fCons (fName 6) fNil))) (sPutT 2 (eVar 5) (eCall F_residue [(e2 kAdd (eGet2T 2 (eVar 5) (eC (.int 0))) (e2 kMul (eVar 6) (eVar 4))), (eVar 1)])) (((sp f).map dP).map Va.da) [.va (.da (dC c)), .va (.da (.int p)), .ow (.dT (encD D)), z3, z4, z5, z6]
      = .ret (.nx [.va (.da (dC c)), .va (.da (.int p)), .ow (.dT (encD ((sp f).foldl (istep co p) D))), z3, z4, z5', z6']) ∧ Tbl (d - 1) ((sp f).foldl (istep co p) D) := by
  rw [List.map_map]
  have step : ∀ (D : Ch) (y : List Int × Int) (ρ : Ro), Tbl (d - 1) D → y ∈ sp f → (∃ z5 z6, ρ = [.va (.da (dC c)), .va (.da (.int p)), .ow (.dT (encD D)), z3, z4, z5, z6]) →
      ∃ ρ', (fTup 2 (fCons (fName 5) (fCons (fName 6) fNil)) ((Va.da ∘ dP) y) ρ).bind (sPutT 2 (eVar 5) (eCall F_residue [(e2 kAdd (eGet2T 2 (eVar 5) (eC (.int 0))) (e2 kMul (eVar 6) (eVar 4))), (eVar 1)])) = .ret (.nx ρ') ∧ (∃ z5 z6, ρ' = [.va (.da (dC c)), .va (.da (.int p)), .ow (.dT (encD (istep co p D y))), z3, z4, z5, z6]) ∧ Tbl (d - 1) (istep co p D y) := by
    intro D y ρ T hy hr
    obtain ⟨z5, z6, rfl⟩ := hr
    obtain ⟨fy, sy⟩ := sp_face hf y hy
    have hl : D.length ≤ 35 := T.few (by omega)
    have hm : CMul y.2 co := .inl (by rcases sy with e | e <;> rw [e] <;> decide)
    refine ⟨_, ?_, ⟨.va (.da (dF y.1)), .va (.da (.int y.2)), rfl⟩, T.put fy⟩
    subst hz3 hz4
    simp [dP, dF, kKey, keyD_map, getP_enc, M.req_bind, hm]
    simp [residue_eq hp, enc_len]
    rw [M.req_bind (by omega), putP_enc _ T.nd]
    rfl
  obtain ⟨ρ', h1, ⟨z5', z6', rfl⟩, h3⟩ := loopS_ex (g := Va.da ∘ dP) (l := sp f) (s := D) (fun D ρ => ∃ z5 z6, ρ = [.va (.da (dC c)), .va (.da (.int p)), .ow (.dT (encD D)), z3, z4, z5, z6]) (istep co p) (fun D => Tbl (d - 1) D) T ⟨z5, z6, rfl⟩ step
  exact ⟨z5', z6', h1, h3⟩
/-! what the sums are worth -/
theorem pt_cg {D : Ch} {g : List Int} {n m p : Int} (h : Cg p n ((gt D g).getD 0 + m)) (φ : List Int → Int) : Cg p (lin φ (pt D g n)) (lin φ D + m * φ g) := by
  rw [lin_pt]
  refine (Cg.refl _).add ?_
  rw [Int.mul_comm _ (φ g), Int.mul_comm m]
  refine Cg.mul _ ?_
  obtain ⟨z, e⟩ := h
  exact ⟨z, by rw [e]; omega⟩
theorem istep_cg {co p : Int} (φ : List Int → Int) : ∀ (l : Ch) (D : Ch), Cg p (lin φ (l.foldl (istep co p) D)) (lin φ D + co * lin φ l)
  | [], D => by
    show Cg p (lin φ D) (lin φ D + co * 0)
    exact Cg.of (by omega)
  | y :: l, D => by
    rw [List.foldl_cons]
    refine (istep_cg φ l _).trans ?_
    have h1 : Cg p (lin φ (istep co p D y)) (lin φ D + y.2 * co * φ y.1) := pt_cg Cg.mod φ
    have := h1.add (Cg.refl (p := p) (co * lin φ l))
    refine this.trans (Cg.of ?_)
    show lin φ D + y.2 * co * φ y.1 + co * lin φ l = lin φ D + co * (y.2 * φ y.1 + lin φ l)
    rw [Int.mul_add, Int.mul_comm y.2 co, Int.mul_assoc]
    omega
theorem ostep_cg {p : Int} (φ : List Int → Int) : ∀ (c : Ch) (D : Ch), Cg p (lin φ (c.foldl (ostep p) D)) (lin φ D + lin (dl φ) c)
  | [], D => by
    show Cg p (lin φ D) (lin φ D + 0)
    exact Cg.of (by omega)
  | x :: c, D => by
    rw [List.foldl_cons]
    refine (ostep_cg φ c _).trans ?_
    refine ((istep_cg φ (sp x.1) D).add (Cg.refl _)).trans (Cg.of ?_)
    show lin φ D + x.2 * lin φ (sp x.1) + lin (dl φ) c = lin φ D + (x.2 * dl φ x.1 + lin (dl φ) c)
    unfold dl
    omega
theorem istep_val {co p : Int} (hp : 0 < p) : ∀ (l : Ch) (D : Ch), (∀ x ∈ D, 0 ≤ x.2 ∧ x.2 < p) → ∀ x ∈ l.foldl (istep co p) D, 0 ≤ x.2 ∧ x.2 < p
  | [], D, h => h
  | y :: l, D, h => by
    rw [List.foldl_cons]
    refine istep_val hp l _ fun x hx => ?_
    rcases mem_pt D x hx with z | z
    · exact h x z
    · rw [z]
      exact ⟨Int.emod_nonneg _ (by omega), Int.emod_lt_of_pos _ hp⟩
theorem ostep_val {p : Int} (hp : 0 < p) : ∀ (c : Ch) (D : Ch), (∀ x ∈ D, 0 ≤ x.2 ∧ x.2 < p) → ∀ x ∈ c.foldl (ostep p) D, 0 ≤ x.2 ∧ x.2 < p
  | [], D, h => h
  | y :: c, D, h => by
    rw [List.foldl_cons]
    exact ostep_val hp c _ (istep_val hp _ D h)
/-- a chain that a def is handed -/
structure Chn (d : Nat) (c : Ch) : Prop where
  face : ∀ x ∈ c, Face d x.1
  val : ∀ x ∈ c, 0 ≤ x.2 ∧ x.2 < 1000
theorem outer_eq {d : Nat} {p : Int} {c0 c : Ch} (hd : d < 8) (hp : 0 < p) (hc : Chn d c) {z3 z4 z5 z6 : Sl} :
    ∃ z3' z4' z5' z6', loopS (fTup 2 (fCons (fName 3) (fCons (fName 4) fNil)))
      (sFor (iL (eCall F_signed_parts [(eVar 3)])) (fTup 2 (fCons (fName 5) (fCons (fName 6) fNil)))
        (sPutT 2 (eVar 5) (eCall F_residue [(e2 kAdd (eGet2T 2 (eVar 5) (eC (.int 0))) (e2 kMul (eVar 6) (eVar 4))), (eVar 1)]))) ((c.map dP).map Va.da) [.va (.da (dC c0)), .va (.da (.int p)), .ow (.dT (encD [])), z3, z4, z5, z6]
      = .ret (.nx [.va (.da (dC c0)), .va (.da (.int p)), .ow (.dT (encD (c.foldl (ostep p) []))), z3', z4', z5', z6']) ∧ Tbl (d - 1) (c.foldl (ostep p) []) := by
  rw [List.map_map]
  have step : ∀ (D : Ch) (x : List Int × Int) (ρ : Ro), Tbl (d - 1) D → x ∈ c → (∃ z3 z4 z5 z6, ρ = [.va (.da (dC c0)), .va (.da (.int p)), .ow (.dT (encD D)), z3, z4, z5, z6]) →
      ∃ ρ', (fTup 2 (fCons (fName 3) (fCons (fName 4) fNil)) ((Va.da ∘ dP) x) ρ).bind (sFor (iL (eCall F_signed_parts [(eVar 3)])) (fTup 2 (fCons (fName 5) (fCons (fName 6) fNil)))
        (sPutT 2 (eVar 5) (eCall F_residue [(e2 kAdd (eGet2T 2 (eVar 5) (eC (.int 0))) (e2 kMul (eVar 6) (eVar 4))), (eVar 1)]))) = .ret (.nx ρ') ∧ (∃ z3 z4 z5 z6, ρ' = [.va (.da (dC c0)), .va (.da (.int p)), .ow (.dT (encD (ostep p D x))), z3, z4, z5, z6]) ∧ Tbl (d - 1) (ostep p D x) := by
    intro D x ρ T hx hr
    obtain ⟨z3, z4, z5, z6, rfl⟩ := hr
    obtain ⟨z5', z6', h1, h2⟩ := inner_eq (c := c0) (z5 := z5) (z6 := z6) hd hp (hc.val x hx) (hc.face x hx) T rfl rfl
    refine ⟨_, ?_, ⟨.va (.da (dF x.1)), .va (.da (.int x.2)), z5', z6', rfl⟩, h2⟩
    have hl : x.1.length ≤ 1000 := by rw [(hc.face x hx).1]; omega
    have e : eCall F_signed_parts [eVar 3] [.va (.da (dC c0)), .va (.da (.int p)), .ow (.dT (encD D)), .va (.da (dF x.1)), .va (.da (.int x.2)), z5, z6] = .ret (.da (.list ((sp x.1).map dP))) := by
      simp [parts_eq hl]
    simp only [dP, Function.comp, fTup, List.length_cons, List.length_nil, fCons, fNil, fName, M.bind_ret, if_true, List.set, sFor, iL, e, kItL, Nat.zero_add]
    exact h1
  obtain ⟨ρ', h1, ⟨z3', z4', z5', z6', rfl⟩, h3⟩ := loopS_ex (g := Va.da ∘ dP) (l := c) (s := []) (fun D ρ => ∃ z3 z4 z5 z6, ρ = [.va (.da (dC c0)), .va (.da (.int p)), .ow (.dT (encD D)), z3, z4, z5, z6]) (ostep p) (fun D => Tbl (d - 1) D) Tbl.nil ⟨z3, z4, z5, z6, rfl⟩ step
  exact ⟨z3', z4', z5', z6', h1, h3⟩
/-- a table told: the comprehension at the end -/
theorem told_map {D : Ch} {p : Int} (L : List (List Int)) : (L.filter fun g => decide (((gt D g).getD 0) % p ≠ 0)).map (fun g => dP (g, ((gt D g).getD 0) % p)) = (told D p L).map dP := by
  unfold told
  induction L with
  | nil => rfl
  | cons g L ih =>
    rw [List.filterMap_cons]
    by_cases e : ((gt D g).getD 0) % p ≠ 0
    · rw [List.filter_cons_of_pos (by simpa using e), if_pos e, List.map_cons, ih]
      rfl
    · rw [List.filter_cons_of_neg (by simpa using e), if_neg e, ih]
theorem boundary_eq {d : Nat} {p : Int} {c : Ch} (hd : d < 8) (hp : 0 < p) (hc : Chn d c) : ∃ R, F_boundary [.da (dC c), .da (.int p)] = .ret (.da (dC R)) ∧ Bnd d p c R := by
  obtain ⟨z3, z4, z5, z6, h1, T⟩ := outer_eq (c0 := c) (z3 := .un) (z4 := .un) (z5 := .un) (z6 := .un) hd hp hc
  obtain ⟨pm, as⟩ := sset_perm T
  have hv := ostep_val hp c [] fun x hx => nomatch hx
  have tn := told_norm T hp pm as
  refine ⟨told (c.foldl (ostep p) []) p (sset (keys (c.foldl (ostep p) []))), ?_, tn.1, fun φ => (tn.2 φ).trans ?_⟩
  · generalize hD : c.foldl (ostep p) [] = D at *
    have hm : ∀ g : List Int, ((gt D g).getD 0) % p = (gt D g).getD 0 := fun g => by
      obtain ⟨a, b⟩ := getD_lt (d := d) (g := g) hv hp T.nd
      exact Int.emod_eq_of_lt a b
    have k1 := keys_eq (i := 2) (ρ := [.va (.da (dC c)), .va (.da (.int p)), .ow (.dT (encD D)), z3, z4, z5, z6]) (by omega) T rfl
    have lk : (sset (keys D)).length ≤ 35 := by rw [pm.length_eq]; exact faces_few (d := d - 1) (by omega) T.face T.nd
    have k2 : compM (fName 5) (bB (e2 kNe (eGetT 2 (eVar 5)) (eC (.int 0)))) (eTup [(eVar 5), (eGetT 2 (eVar 5))]) ((sset (keys D)).map fun g => Va.da (dF g)) [.va (.da (dC c)), .va (.da (.int p)), .ow (.dT (encD D)), z3, z4, .un, z6] = .ret ((told D p (sset (keys D))).map dP) := by
      have gs : ∀ g ∈ sset (keys D), gt D g = some ((gt D g).getD 0) := fun g hg => by
        obtain ⟨n, hn⟩ := gt_key D (pm.mem_iff.mp hg)
        rw [hn]
        rfl
      rw [compM_map (fun g => [.va (.da (dC c)), .va (.da (.int p)), .ow (.dT (encD D)), z3, z4, .va (.da (dF g)), z6]) (fun g => decide ((gt D g).getD 0 ≠ 0)) (fun g => dP (g, (gt D g).getD 0)) (fun g hg => by simp) (fun g hg => ?_) (fun g hg _ => ?_)]
      · rw [← told_map]
        simp only [hm]
      · have := gs g hg
        simp [dF, kKey, keyD_map, getP_enc]
        rw [this]
        simp
      · have := gs g hg
        simp [dF, kKey, keyD_map, getP_enc]
        rw [this]
        simp [M.req_bind, dP, dF]
    simp only [F_boundary, B_boundary, defM, ro0, List.map_cons, List.map_nil, List.length_cons, List.length_nil, List.replicate, List.cons_append, List.nil_append, sSeq, sNewT, M.bind_ret, List.set, sFor, iT, eVar, List.getElem?_cons_zero, kItT, dC_eq, Nat.zero_add]
    rw [show ([] : List (List Key × PyData)) = encD [] from rfl, ← dC_eq, h1]
    simp only [M.bind_ret, sRet, e1s, eArgs, eCons, eNil, eF, eComp, iL, k1, kItL, M.bind_bind]
    rw [List.map_map, M.req_bind (by rw [List.length_map]; exact small1000 (by omega))]
    rw [show wipeR [.va (.da (dC c)), .va (.da (.int p)), .ow (.dT (encD D)), z3, z4, z5, z6] [5] = [.va (.da (dC c)), .va (.da (.int p)), .ow (.dT (encD D)), z3, z4, .un, z6] from rfl, show (Va.da ∘ dF) = fun g => Va.da (dF g) from rfl, k2]
    rfl
  · exact (ostep_cg φ c []).trans (Cg.of (by show 0 + _ = _; omega))
end JN

set_option maxRecDepth 100000
set_option maxHeartbeats 4000000
namespace JN
open PySem PySem.Spec PyProof.Rows L2
/-! the law's own boundary: each part's sum, not reduced on the way -/
def lstep (co : Int) (D : Ch) (y : List Int × Int) : Ch := pt D y.1 ((gt D y.1).getD 0 + y.2 * co)
def lostep (D : Ch) (x : List Int × Int) : Ch := (sp x.1).foldl (lstep x.2) D
theorem lstep_cg {co p : Int} (φ : List Int → Int) : ∀ (l : Ch) (D : Ch), Cg p (lin φ (l.foldl (lstep co) D)) (lin φ D + co * lin φ l)
  | [], D => by
    show Cg p (lin φ D) (lin φ D + co * 0)
    exact Cg.of (by omega)
  | y :: l, D => by
    rw [List.foldl_cons]
    refine (lstep_cg φ l _).trans ?_
    have h1 : Cg p (lin φ (lstep co D y)) (lin φ D + y.2 * co * φ y.1) := pt_cg (Cg.refl _) φ
    have := h1.add (Cg.refl (p := p) (co * lin φ l))
    refine this.trans (Cg.of ?_)
    show lin φ D + y.2 * co * φ y.1 + co * lin φ l = lin φ D + co * (y.2 * φ y.1 + lin φ l)
    rw [Int.mul_add, Int.mul_comm y.2 co, Int.mul_assoc]
    omega
theorem lostep_cg {p : Int} (φ : List Int → Int) : ∀ (c : Ch) (D : Ch), Cg p (lin φ (c.foldl lostep D)) (lin φ D + lin (dl φ) c)
  | [], D => by
    show Cg p (lin φ D) (lin φ D + 0)
    exact Cg.of (by omega)
  | x :: c, D => by
    rw [List.foldl_cons]
    refine (lostep_cg φ c _).trans ?_
    refine ((lstep_cg φ (sp x.1) D).add (Cg.refl _)).trans (Cg.of ?_)
    show lin φ D + x.2 * lin φ (sp x.1) + lin (dl φ) c = lin φ D + (x.2 * dl φ x.1 + lin (dl φ) c)
    unfold dl
    omega
theorem sp_eq (f : List Int) : sp f = (List.range f.length).map fun k => (f.take k ++ f.drop (k + 1), sg k) := by
  apply List.ext_getElem?
  intro k
  rw [List.getElem?_map]
  by_cases h : k < f.length
  · rw [sp_at f k h, List.getElem?_range h]; rfl
  · rw [List.getElem?_eq_none (by rw [sp_len]; omega), List.getElem?_eq_none (by simpa using h)]; rfl
theorem cutF_lo {f : List Int} {i : Nat} (hi : i < f.length) : cutD (f.map PyData.int) none (some (i : Int)) = (f.take i).map PyData.int := by rw [cutD_lo (by rw [List.length_map]; omega), List.map_take]
theorem cutF_hi {f : List Int} {i : Nat} (hi : i < f.length) : cutD (f.map PyData.int) (some ((i : Int) + 1)) none = (f.drop (i + 1)).map PyData.int := by
  rw [show (i : Int) + 1 = ((i + 1 : Nat) : Int) by omega, cutD_hi (by rw [List.length_map]; omega), List.map_drop]
abbrev lbody : Ro → M Rs := (sSeq (sSet 6 (e2 kCatT (eSlT (eVar 3) oN (oS (eVar 5))) (eSlT (eVar 3) (oS (e2 kAdd (eVar 5) (eC (.int 1)))) oN)))
        (sPutT 2 (eVar 6) (e2 kAdd (eGet2T 2 (eVar 6) (eC (.int 0))) (eIf (bB (e2 kEq (e2 kMod (e1s kInt1 [(eVarQ 5)]) (eC (.int 2))) (eC (.int 0)))) (eVar 4) (e2 kSub (eC (.int 0)) (eVar 4))))))
theorem linner_eq {d : Nat} {p co : Int} {c : Ch} {f : List Int} {D : Ch} {z5 z6 : Sl} (hd : d < 8) (hf : Face d f) (T : Tbl (d - 1) D) :
    ∃ z5' z6', loopS (fName 5) lbody (rng 0 f.length) [.va (.da (dC c)), .va (.da (.int p)), .ow (.dT (encD D)), .va (.da (dF f)), .va (.da (.int co)), z5, z6]
      = .ret (.nx [.va (.da (dC c)), .va (.da (.int p)), .ow (.dT (encD ((sp f).foldl (lstep co) D))), .va (.da (dF f)), .va (.da (.int co)), z5', z6']) ∧ Tbl (d - 1) ((sp f).foldl (lstep co) D) := by
  rw [sp_eq, List.foldl_map, rng_map]
  have step : ∀ (D : Ch) (k : Nat) (ρ : Ro), Tbl (d - 1) D → k ∈ List.range f.length → (∃ z5 z6, ρ = [.va (.da (dC c)), .va (.da (.int p)), .ow (.dT (encD D)), .va (.da (dF f)), .va (.da (.int co)), z5, z6]) →
      ∃ ρ', (fName 5 (.da (.int (k : Nat))) ρ).bind lbody = .ret (.nx ρ') ∧ (∃ z5 z6, ρ' = [.va (.da (dC c)), .va (.da (.int p)), .ow (.dT (encD (lstep co D (f.take k ++ f.drop (k + 1), sg k)))), .va (.da (dF f)), .va (.da (.int co)), z5, z6]) ∧ Tbl (d - 1) (lstep co D (f.take k ++ f.drop (k + 1), sg k)) := by
    intro D k ρ T hk hr
    obtain ⟨z5, z6, rfl⟩ := hr
    have hk : k < f.length := List.mem_range.mp hk
    have hl : D.length ≤ 35 := T.few (by omega)
    have hfl : f.length ≤ 7 := by rw [hf.1]; omega
    refine ⟨_, ?_, ⟨.va (.da (.int (k : Nat))), .va (.da (dF (f.take k ++ f.drop (k + 1)))), rfl⟩, T.put (hf.part k hk)⟩
    have h3 : min k f.length + (f.length - (k + 1)) ≤ 16777216 := by omega
    have hkm : keyD ((f.take k ++ f.drop (k + 1)).map PyData.int) = some ((f.take k ++ f.drop (k + 1)).map Sum.inl) := keyD_map _
    have hg : getP (encD D) ((f.take k ++ f.drop (k + 1)).map Sum.inl) = (gt D (f.take k ++ f.drop (k + 1))).map PyData.int := getP_enc D
    rw [List.map_append] at hkm
    have hs : (if (k : Int) % 2 = 0 then co else 0 - co) = sg k * co := by
      unfold sg
      by_cases e : k % 2 = 0
      · rw [if_pos e, if_pos (by omega)]; omega
      · rw [if_neg e, if_neg (by omega)]; omega
    have hput := putP_enc (g := f.take k ++ f.drop (k + 1)) (n := (gt D (f.take k ++ f.drop (k + 1))).getD 0 + sg k * co) D T.nd
    simp [dF, kCatT, cutF_lo hk, cutF_hi hk, M.req_bind, h3, kKey]
    simp only [← List.map_take, ← List.map_drop, ← List.map_append, keyD_map]
    generalize f.take k ++ f.drop (k + 1) = g at *
    by_cases e : (k : Int) % 2 = 0
    · rw [if_pos e] at hs
      have hs := hs
      simp [e, enc_len, hg, lstep]
      rw [← hs] at hput
      rw [M.req_bind (by omega), hput, ← hs]
    · rw [if_neg e] at hs
      simp [e, enc_len, hg]
      rw [M.req_bind (by omega), show -co = sg k * co by omega]
      simp [lstep, ← hput]
  obtain ⟨ρ', h1, ⟨z5', z6', rfl⟩, h3⟩ := loopS_ex (g := fun i : Nat => Va.da (.int (i : Nat))) (l := List.range f.length) (s := D) (fun D ρ => ∃ z5 z6, ρ = [.va (.da (dC c)), .va (.da (.int p)), .ow (.dT (encD D)), .va (.da (dF f)), .va (.da (.int co)), z5, z6]) (fun D k => lstep co D (f.take k ++ f.drop (k + 1), sg k)) (fun D => Tbl (d - 1) D) T ⟨z5, z6, rfl⟩ step
  exact ⟨z5', z6', h1, h3⟩
end JN

set_option maxRecDepth 100000
set_option maxHeartbeats 4000000
namespace JN
open PySem PySem.Spec PyProof.Rows L2
theorem louter_eq {d : Nat} {p : Int} {c0 c : Ch} (hd : d < 8) (hc : ∀ x ∈ c, Face d x.1) {z3 z4 z5 z6 : Sl} :
    ∃ z3' z4' z5' z6', loopS (fTup 2 (fCons (fName 3) (fCons (fName 4) fNil)))
      (sFor (iR1 (e1s kLen [(eVarQ 3)])) (fName 5) lbody) ((c.map dP).map Va.da) [.va (.da (dC c0)), .va (.da (.int p)), .ow (.dT (encD [])), z3, z4, z5, z6]
      = .ret (.nx [.va (.da (dC c0)), .va (.da (.int p)), .ow (.dT (encD (c.foldl lostep []))), z3', z4', z5', z6']) ∧ Tbl (d - 1) (c.foldl lostep []) := by
  rw [List.map_map]
  have step : ∀ (D : Ch) (x : List Int × Int) (ρ : Ro), Tbl (d - 1) D → x ∈ c → (∃ z3 z4 z5 z6, ρ = [.va (.da (dC c0)), .va (.da (.int p)), .ow (.dT (encD D)), z3, z4, z5, z6]) →
      ∃ ρ', (fTup 2 (fCons (fName 3) (fCons (fName 4) fNil)) ((Va.da ∘ dP) x) ρ).bind (sFor (iR1 (e1s kLen [(eVarQ 3)])) (fName 5) lbody) = .ret (.nx ρ') ∧ (∃ z3 z4 z5 z6, ρ' = [.va (.da (dC c0)), .va (.da (.int p)), .ow (.dT (encD (lostep D x))), z3, z4, z5, z6]) ∧ Tbl (d - 1) (lostep D x) := by
    intro D x ρ T hx hr
    obtain ⟨z3, z4, z5, z6, rfl⟩ := hr
    obtain ⟨z5', z6', h1, h2⟩ := linner_eq (c := c0) (p := p) (co := x.2) (z5 := z5) (z6 := z6) hd (hc x hx) T
    refine ⟨_, ?_, ⟨.va (.da (dF x.1)), .va (.da (.int x.2)), z5', z6', rfl⟩, h2⟩
    have hl : x.1.length ≤ 1000 := by rw [(hc x hx).1]; omega
    have e : iR1 (e1s kLen [(eVarQ 3)]) [.va (.da (dC c0)), .va (.da (.int p)), .ow (.dT (encD D)), .va (.da (dF x.1)), .va (.da (.int x.2)), z5, z6] = .ret (rng 0 x.1.length) := by
      simp [dF]
      rw [M.req_bind (by omega)]
    simp only [dP, Function.comp, fTup, List.length_cons, List.length_nil, fCons, fNil, fName, M.bind_ret, if_true, List.set, sFor, e]
    exact h1
  obtain ⟨ρ', h1, ⟨z3', z4', z5', z6', rfl⟩, h3⟩ := loopS_ex (g := Va.da ∘ dP) (l := c) (s := []) (fun D ρ => ∃ z3 z4 z5 z6, ρ = [.va (.da (dC c0)), .va (.da (.int p)), .ow (.dT (encD D)), z3, z4, z5, z6]) lostep (fun D => Tbl (d - 1) D) Tbl.nil ⟨z3, z4, z5, z6, rfl⟩ step
  exact ⟨z3', z4', z5', z6', h1, h3⟩
/-- the comprehension over a table's keys at the end of both -/
theorem tail_eq {d : Nat} {D : Ch} {p : Int} {i j q : Nat} {ρ : Ro} (hd : d < 8) (hp : 0 < p) (T : Tbl d D) (hi : ρ[i]? = some (.ow (.dT (encD D)))) (hq : ρ[q]? = some (.va (.da (.int p)))) (hij : j ≠ i) (hqj : j ≠ q) (hj : j < ρ.length) :
    e1s kTuple [(eF (eComp [j] (iL (eF (eKeysT i))) (fName j) (bB (e2 kNe (e2 kMod (e1s kInt1 [(eGetT i (eVar j))]) (eVar q)) (eC (.int 0)))) (eTup [(eVar j), (e2 kMod (e1s kInt1 [(eGetT i (eVar j))]) (eVar q))])))] ρ = .ret (.da (dC (told D p (sset (keys D))))) := by
  obtain ⟨pm, as⟩ := sset_perm T
  have k1 := keys_eq (i := i) (ρ := ρ) hd T hi
  have lk : (sset (keys D)).length ≤ 35 := by rw [pm.length_eq]; exact faces_few hd T.face T.nd
  have p0 : ¬ p = 0 := by omega
  have hi' : ∀ x : Sl, (ρ.set j x)[i]? = some (.ow (.dT (encD D))) := fun x => by rw [List.getElem?_set_ne hij, hi]
  have hq' : ∀ x : Sl, (ρ.set j x)[q]? = some (.va (.da (.int p))) := fun x => by rw [List.getElem?_set_ne hqj, hq]
  have hj' : ∀ x : Sl, (ρ.set j x)[j]? = some x := fun x => by rw [List.getElem?_set_self hj]
  have k2 : compM (fName j) (bB (e2 kNe (e2 kMod (e1s kInt1 [(eGetT i (eVar j))]) (eVar q)) (eC (.int 0)))) (eTup [(eVar j), (e2 kMod (e1s kInt1 [(eGetT i (eVar j))]) (eVar q))]) ((sset (keys D)).map fun g => Va.da (dF g)) (ρ.set j .un) = .ret ((told D p (sset (keys D))).map dP) := by
    have gs : ∀ g ∈ sset (keys D), gt D g = some ((gt D g).getD 0) := fun g hg => by
      obtain ⟨n, hn⟩ := gt_key D (pm.mem_iff.mp hg)
      rw [hn]
      rfl
    rw [compM_map (fun g => ρ.set j (.va (.da (dF g)))) (fun g => decide (((gt D g).getD 0) % p ≠ 0)) (fun g => dP (g, ((gt D g).getD 0) % p)) (fun g hg => by simp) (fun g hg => ?_) (fun g hg _ => ?_)]
    · rw [← told_map]
    · have := gs g hg
      simp [dF, kKey, keyD_map, getP_enc, hi', hq', hj', p0]
      rw [this]
      simp [p0, M.req_bind hp]
    · have := gs g hg
      simp [dF, kKey, keyD_map, getP_enc, hi', hq', hj', p0]
      rw [this]
      simp [p0, M.req_bind hp, M.req_bind, dP, dF]
  simp only [e1s, eArgs, eCons, eNil, eF, eComp, iL, k1, kItL, M.bind_bind, M.bind_ret]
  rw [List.map_map, M.req_bind (by rw [List.length_map]; exact small1000 (by omega))]
  rw [show wipeR ρ [j] = ρ.set j .un from rfl, show (Va.da ∘ dF) = fun g => Va.da (dF g) from rfl, k2]
  rfl
end JN

set_option maxRecDepth 100000
set_option maxHeartbeats 4000000
namespace JN
open PySem PySem.Spec PyProof.Rows L2
theorem law_boundary_eq {d : Nat} {p : Int} {c : Ch} (hd : d < 8) (hp : 0 < p) (hc : ∀ x ∈ c, Face d x.1) : ∃ R, F_law_boundary [.da (dC c), .da (.int p)] = .ret (.da (dC R)) ∧ Bnd d p c R := by
  obtain ⟨z3, z4, z5, z6, h1, T⟩ := louter_eq (c0 := c) (p := p) (z3 := .un) (z4 := .un) (z5 := .un) (z6 := .un) hd hc
  obtain ⟨pm, as⟩ := sset_perm T
  have tn := told_norm T hp pm as
  refine ⟨told (c.foldl lostep []) p (sset (keys (c.foldl lostep []))), ?_, tn.1, fun φ => (tn.2 φ).trans ?_⟩
  · generalize hD : c.foldl lostep [] = D at *
    have t := tail_eq (i := 2) (j := 3) (q := 1) (ρ := [.va (.da (dC c)), .va (.da (.int p)), .ow (.dT (encD D)), z3, z4, z5, z6]) (by omega) hp T rfl rfl (by decide) (by decide) (by show 3 < 7; decide)
    exact defM_of ((sSeq_of rfl).trans ((sSeq_of (sFor_of rfl h1)).trans (sRet_of t)))
  · exact (lostep_cg φ c []).trans (Cg.of (by show 0 + _ = _; omega))
/-! plus -/
def pst (D : Ch) (x : List Int × Int) : Ch := pt D x.1 x.2
def qst (f : Int) (D : Ch) (x : List Int × Int) : Ch := pt D x.1 ((gt D x.1).getD 0 + f * x.2)
theorem gt_no {g : List Int} : ∀ D : Ch, g ∉ keys D → gt D g = none
  | [], _ => rfl
  | x :: r, h => by
    unfold gt
    rw [if_neg (fun e : x.1 = g => h (by rw [← e]; exact List.mem_cons_self)), gt_no r fun z => h (List.mem_cons_of_mem _ z)]
theorem pst_lin (φ : List Int → Int) : ∀ (c D : Ch), (keys c).Nodup → (∀ g ∈ keys c, g ∉ keys D) → lin φ (c.foldl pst D) = lin φ D + lin φ c
  | [], D, _, _ => by show lin φ D = lin φ D + 0; omega
  | x :: c, D, nd, h => by
    obtain ⟨h1, h2⟩ := List.nodup_cons.mp nd
    rw [List.foldl_cons, pst_lin φ c (pst D x) h2 fun g hg m => ?_]
    · unfold pst
      rw [lin_pt, gt_no D (h x.1 List.mem_cons_self)]
      show lin φ D + (x.2 - 0) * φ x.1 + lin φ c = lin φ D + (x.2 * φ x.1 + lin φ c)
      rw [Int.sub_zero]
      omega
    · rcases keys_pt D g m with z | z
      · exact h g (List.mem_cons_of_mem _ hg) z
      · exact h1 (by rw [z] at hg; exact hg)
theorem qst_lin (f : Int) (φ : List Int → Int) : ∀ (c D : Ch), lin φ (c.foldl (qst f) D) = lin φ D + f * lin φ c
  | [], D => by show lin φ D = lin φ D + f * 0; omega
  | x :: c, D => by
    rw [List.foldl_cons, qst_lin f φ c]
    unfold qst
    rw [lin_pt]
    show lin φ D + ((gt D x.1).getD 0 + f * x.2 - (gt D x.1).getD 0) * φ x.1 + f * lin φ c = lin φ D + f * (x.2 * φ x.1 + lin φ c)
    rw [Int.mul_add, Int.add_comm ((gt D x.1).getD 0), Int.add_sub_cancel, Int.mul_assoc]
    omega
theorem plus_eq {d : Nat} {p f : Int} {c e : Ch} (hd : d < 8) (hp : 0 < p) (hf : 0 ≤ f ∧ f < 1000) (hc : Norm d p c) (he : Norm d p e) : ∃ R, F_law_plus [.da (dC c), .da (dC e), .da (.int f), .da (.int p)] = .ret (.da (dC R)) ∧ Plus d p f c e R := by
  have fc : ∀ x ∈ c, Face d x.1 := fun x hx => hc.face x.1 (List.mem_map.mpr ⟨x, hx, rfl⟩)
  have fe : ∀ x ∈ e, Face d x.1 := fun x hx => he.face x.1 (List.mem_map.mpr ⟨x, hx, rfl⟩)
  have step1 : ∀ (D : Ch) (x : List Int × Int) (ρ : Ro), Tbl d D → x ∈ c → (∃ z5 z6, ρ = [.va (.da (dC c)), .va (.da (dC e)), .va (.da (.int f)), .va (.da (.int p)), .ow (.dT (encD D)), z5, z6]) →
      ∃ ρ', (fTup 2 (fCons (fName 5) (fCons (fName 6) fNil)) ((Va.da ∘ dP) x) ρ).bind (sPutT 4 (eVar 5) (eVar 6)) = .ret (.nx ρ') ∧ (∃ z5 z6, ρ' = [.va (.da (dC c)), .va (.da (dC e)), .va (.da (.int f)), .va (.da (.int p)), .ow (.dT (encD (pst D x))), z5, z6]) ∧ Tbl d (pst D x) := by
    intro D x ρ T hx hr
    obtain ⟨z5, z6, rfl⟩ := hr
    have hl : D.length ≤ 35 := T.few hd
    refine ⟨_, ?_, ⟨.va (.da (dF x.1)), .va (.da (.int x.2)), rfl⟩, T.put (fc x hx)⟩
    have hput := putP_enc (g := x.1) (n := x.2) D T.nd
    simp [dP, dF, kKey, keyD_map, enc_len]
    rw [M.req_bind (by omega), hput]
    rfl
  obtain ⟨ρ', h1, ⟨z5, z6, rfl⟩, T1⟩ := loopS_ex (g := Va.da ∘ dP) (l := c) (s := []) (fun D ρ => ∃ z5 z6, ρ = [.va (.da (dC c)), .va (.da (dC e)), .va (.da (.int f)), .va (.da (.int p)), .ow (.dT (encD D)), z5, z6]) pst (fun D => Tbl d D) Tbl.nil ⟨.un, .un, rfl⟩ step1
  have step2 : ∀ (D : Ch) (x : List Int × Int) (ρ : Ro), Tbl d D → x ∈ e → (∃ z5 z6, ρ = [.va (.da (dC c)), .va (.da (dC e)), .va (.da (.int f)), .va (.da (.int p)), .ow (.dT (encD D)), z5, z6]) →
      ∃ ρ', (fTup 2 (fCons (fName 5) (fCons (fName 6) fNil)) ((Va.da ∘ dP) x) ρ).bind (sPutT 4 (eVar 5) (e2 kAdd (eGet2T 4 (eVar 5) (eC (.int 0))) (e2 kMul (eVar 2) (eVar 6)))) = .ret (.nx ρ') ∧ (∃ z5 z6, ρ' = [.va (.da (dC c)), .va (.da (dC e)), .va (.da (.int f)), .va (.da (.int p)), .ow (.dT (encD (qst f D x))), z5, z6]) ∧ Tbl d (qst f D x) := by
    intro D x ρ T hx hr
    obtain ⟨z5, z6, rfl⟩ := hr
    have hl : D.length ≤ 35 := T.few hd
    have hv := he.pos x hx
    refine ⟨_, ?_, ⟨.va (.da (dF x.1)), .va (.da (.int x.2)), rfl⟩, T.put (fe x hx)⟩
    have hput := putP_enc (g := x.1) (n := (gt D x.1).getD 0 + f * x.2) D T.nd
    have hm : CMul f x.2 := .inl ⟨by omega, by omega⟩
    simp [dP, dF, kKey, keyD_map, getP_enc, enc_len, M.req_bind, hm]
    rw [M.req_bind (by omega), hput]
    rfl
  obtain ⟨ρ', h2, ⟨z5', z6', rfl⟩, T2⟩ := loopS_ex (g := Va.da ∘ dP) (l := e) (s := c.foldl pst []) (fun D ρ => ∃ z5 z6, ρ = [.va (.da (dC c)), .va (.da (dC e)), .va (.da (.int f)), .va (.da (.int p)), .ow (.dT (encD D)), z5, z6]) (qst f) (fun D => Tbl d D) T1 ⟨z5, z6, rfl⟩ step2
  rw [← List.map_map] at h1 h2
  obtain ⟨pm, as⟩ := sset_perm T2
  have tn := told_norm T2 hp pm as
  refine ⟨_, ?_, tn.1, fun φ => (tn.2 φ).trans (Cg.of ?_)⟩
  · generalize hD : e.foldl (qst f) (c.foldl pst []) = D at *
    have t := tail_eq (i := 4) (j := 5) (q := 3) (ρ := [.va (.da (dC c)), .va (.da (dC e)), .va (.da (.int f)), .va (.da (.int p)), .ow (.dT (encD D)), z5', z6']) hd hp T2 rfl rfl (by decide) (by decide) (by show 5 < 7; decide)
    exact defM_of ((sSeq_of rfl).trans ((sSeq_of (sFor_of rfl h1)).trans ((sSeq_of (sFor_of rfl h2)).trans (sRet_of t))))
  · rw [qst_lin, pst_lin φ c [] (asc_nd hc.asc) fun g _ m => nomatch m]
    show 0 + _ + _ = _
    omega
/-! is_cycle -/
def nilB (R : Ch) : Bool := R.isEmpty
theorem eqv_nil (R : Ch) : PyData.eqv (dC R) (.tuple []) = R.isEmpty := by
  cases R <;> simp [dC, PyData.eqv, PyData.eqvAll]
end JN

set_option maxRecDepth 100000
set_option maxHeartbeats 4000000
namespace JN
open PySem PySem.Spec PyProof.Rows L2
theorem cyc_eq {c R : Ch} {p : Int} (h : F_boundary [.da (dC c), .da (.int p)] = .ret (.da (dC R))) (s : SeqAt.shaped (dC R) = true) : F_is_cycle [.da (dC c), .da (.int p)] = .ret (.da (.bool R.isEmpty)) := by
  refine defM_of (sRet_of (e2_of (eCall2_of (eVar_of rfl) (eVar_of rfl) h) (y := .da (.tuple [])) (by simp [eTup]) ?_))
  show kEq (.da (dC R)) (.da (.tuple [])) = _
  unfold kEq
  dsimp only
  rw [M.req_bind ⟨s, fit_nil.shp (by decide)⟩, eqv_nil]
theorem of_run {m : Addr} {L : List PyData} {n : Nat} {Q : Va → Nat → Prop} (h1 : 1 ≤ L.length) (h2 : L.length ≤ 1000000) (hn : n ≤ 1000000) (q : ∀ x ∈ L, Q (.da x) (n + 1)) : (F_law_of [.dw m, .da (.list L)]).run Q (fun _ _ => False) n := by
  refine defM_run ?_
  show ((e2 kIx (eVarQ 1) (eCall vDraw [(eVar 0), (e1s kLen [(eVarQ 1)])])) [.va (.dw m), .va (.da (.list L))]).run (fun x k => Q x k) _ n
  show ((eVarQ 1 [.va (.dw m), .va (.da (.list L))]).bind fun x => (eCall vDraw [(eVar 0), (e1s kLen [(eVarQ 1)])] [.va (.dw m), .va (.da (.list L))]).bind fun y => kIx x y).run (fun x k => Q x k) _ n
  rw [show eVarQ 1 [.va (.dw m), .va (.da (.list L))] = .ret (.da (.list L)) from rfl, M.bind_ret]
  refine run_bind ?_
  refine draw_of (a := m) (b := L.length) (f := eVar 0) (g := e1s kLen [(eVarQ 1)]) (ρ := [.va (.dw m), .va (.da (.list L))]) (eVar_of rfl) (by simp [kLen]) (by omega) (by omega) hn fun r h0 hr => ?_
  obtain ⟨k, rfl⟩ : ∃ k : Nat, r = k := ⟨r.toNat, by omega⟩
  have hk : k < L.length := by omega
  have e : kIx (.da (.list L)) (.da (.int (k : Nat))) = .ret (.da L[k]) := by
    unfold kIx atI
    dsimp only
    rw [show ixN L.length ((k : Nat) : Int) = some k by unfold ixN; simp [hk]]
    simp [hk]
  show (kIx (.da (.list L)) (.da (.int (k : Nat)))).run _ _ _
  rw [e]
  exact q _ (List.getElem_mem hk)
/-! the law's subsets -/
def sstep (s : List (List Int)) (i : Nat) : List (List Int) := s ++ s.map (· ++ [(i : Int)])
abbrev d7 : PyData := .list ((List.range 7).map fun i => PyData.int (i : Nat))
theorem sbs_short : ∀ j, j ≤ 7 → ((sbs j).all fun g => decide (g.length ≤ 7)) = true := by decide +kernel
theorem subs_loop : ∀ (k j : Nat) (z : Sl), j + k ≤ 7 → ∃ z', loopS (fName 2) (sExt 1 (eComp [3] (iL (eVarQ 1)) (fName 3) (fun _ => .ret true) (e2 kCatT (eVar 3) (eTup [(eVar 2)])))) ((List.range' j k).map fun i => Va.da (.int (i : Nat))) [.va (.da d7), .ow (.lst ((sbs j).map dF)), z, .un] = .ret (.nx [.va (.da d7), .ow (.lst ((sbs (j + k)).map dF)), z', .un])
  | 0, j, z, _ => ⟨z, rfl⟩
  | k + 1, j, z, h => by
    obtain ⟨z', ih⟩ := subs_loop k (j + 1) (.va (.da (.int (j : Nat)))) (by omega)
    refine ⟨z', ?_⟩
    rw [show j + 1 + k = j + (k + 1) by omega] at ih
    rw [← ih, List.range'_succ, List.map_cons]
    have hl := sbs_len j (by omega)
    have key : compM (fName 3) (fun _ => .ret true) (e2 kCatT (eVar 3) (eTup [(eVar 2)])) ((sbs j).map fun g => Va.da (dF g)) [.va (.da d7), .ow (.lst ((sbs j).map dF)), .va (.da (.int (j : Nat))), .un] = .ret (((sbs j).map (· ++ [(j : Int)])).map dF) := by
      rw [compM_all (fun g => [.va (.da d7), .ow (.lst ((sbs j).map dF)), .va (.da (.int (j : Nat))), .va (.da (dF g))]) (fun g => dF (g ++ [(j : Int)])) (fun g hg => by simp) (fun g hg => ?_), List.map_map]
      · rfl
      · have f : g.length ≤ 7 := of_decide_eq_true (List.all_eq_true.mp (sbs_short j (by omega)) g hg)
        simp [kCatT, dF, eTup]
        rw [M.req_bind (by omega)]
    conv => lhs; unfold loopS
    simp [eComp, -List.map_map]
    rw [M.req_bind (by omega), List.map_map, show wipeR [Sl.va (Va.da d7), Sl.ow (Oc.lst (List.map dF (sbs j))), Sl.va (Va.da (PyData.int (j : Nat))), Sl.un] [3] = [Sl.va (Va.da d7), Sl.ow (Oc.lst (List.map dF (sbs j))), Sl.va (Va.da (PyData.int (j : Nat))), Sl.un] from rfl, show Va.da ∘ dF = fun g => Va.da (dF g) from rfl, key, M.quiet_ret, M.bind_ret, M.req_bind (by simp; omega), ← List.map_append]
    rfl
theorem subs_eq : F_law_subsets [.da d7] = .ret (.da (.list ((sbs 7).map dF))) := by
  obtain ⟨z', h⟩ := subs_loop 7 0 .un (by decide)
  rw [Nat.zero_add] at h
  refine defM_of ((sSeq_of (sSetF_of (x := [dF []]) (by simp [eLst, eTup, dF]))).trans ((sSeq_of (sFor_of (xs := (List.range' 0 7).map fun i => Va.da (.int (i : Nat))) ?_ h)).trans ?_))
  · simp; rfl
  · rfl
/-! a drawn chain -/
def faces (d : Nat) : List (List Int) := (sbs 7).filter fun g => decide (g.length = d)
theorem faces_face {d : Nat} {g : List Int} (h : g ∈ faces d) : Face d g := by
  obtain ⟨h1, h2⟩ := List.mem_filter.mp h
  have e := of_decide_eq_true h2
  rw [← e]
  exact sbs_is h1
theorem faces_nd (d : Nat) : (faces d).Nodup := sbs_nd.filter _
theorem tupI_dF : tupI = dF := rfl
theorem rows_of {d : Nat} {L : List (List Int)} (hd : d < 8) (hf : ∀ g ∈ L, Face d g) (nd : L.Nodup) : kRows L = .ret ((sset L).map dF) := by
  have := faces_few hd hf nd
  unfold kRows
  rw [M.req_bind ⟨⟨d, fun p hp => (hf p hp).mon, few_or hf nd⟩, by omega, nd⟩]
  rfl
theorem rg7 : RgOk 0 7 := by unfold RgOk; decide +kernel
theorem every_eq {m : Addr} {d : Nat} {p : Int} (hd : d < 8) : eF (eSortR (eF (eComp [6] (iL (eCall F_law_subsets [(eF (eRg1 (eC (.int 7))))])) (fName 6) (bB (e2 kEq (e1s kLen [(eVarQ 6)]) (eVarQ 1))) (eVar 6)))) [.va (.dw m), .va (.da (.int (d : Nat))), .va (.da (.int p)), .un, .un, .un, .un] = .ret (.da (.list ((sset (faces d)).map dF))) := by
  have e1 : eCall F_law_subsets [(eF (eRg1 (eC (.int 7))))] [.va (.dw m), .va (.da (.int (d : Nat))), .va (.da (.int p)), .un, .un, .un, .un] = .ret (.da (.list ((sbs 7).map dF))) := by
    refine eCall1_of (x := .da d7) ?_ subs_eq
    simp [eRg1]
    rw [M.req_bind rg7]
    rfl
  have key : compM (fName 6) (bB (e2 kEq (e1s kLen [(eVarQ 6)]) (eVarQ 1))) (eVar 6) ((sbs 7).map fun g => Va.da (dF g)) [.va (.dw m), .va (.da (.int (d : Nat))), .va (.da (.int p)), .un, .un, .un, .un] = .ret ((faces d).map dF) := by
    rw [compM_map (fun g => [.va (.dw m), .va (.da (.int (d : Nat))), .va (.da (.int p)), .un, .un, .un, .va (.da (dF g))]) (fun g => decide (g.length = d)) dF (fun g hg => by simp) (fun g hg => ?_) (fun g hg _ => ?_)]
    · rfl
    · have f : g.length ≤ 7 := of_decide_eq_true (List.all_eq_true.mp (sbs_short 7 (by omega)) g hg)
      simp [dF, kLen]
      exact congrArg M.ret (by rw [Bool.eq_iff_iff, decide_eq_true_iff, decide_eq_true_iff]; omega)
    · simp
  have l128 := sbs_len 7 (by omega)
  simp only [eF, eSortR, eComp, iL, e1, M.bind_ret, kItL]
  rw [M.req_bind (by rw [List.length_map, List.length_map]; exact small1000 (by omega)), List.map_map, show wipeR [Sl.va (.dw m), .va (.da (.int (d : Nat))), .va (.da (.int p)), .un, .un, .un, .un] [6] = [Sl.va (.dw m), .va (.da (.int (d : Nat))), .va (.da (.int p)), .un, .un, .un, .un] from rfl, show Va.da ∘ dF = fun g => Va.da (dF g) from rfl, key]
  simp only [M.quiet_ret, M.bind_ret]
  rw [← tupI_dF, rowsD_map]
  show (((kRows (faces d)).bind fun ds => M.ret (Va.da (.list ds)))) = _
  rw [rows_of hd (fun g hg => faces_face hg) (faces_nd d)]
  rfl
end JN

set_option maxRecDepth 100000
set_option maxHeartbeats 4000000
namespace JN
open PySem PySem.Spec PyProof.Rows L2
theorem full_eq {d : Nat} {D : Ch} {ρ : Ro} (hd : d < 8) (T : Tbl d D) (hi : ρ[4]? = some (.ow (.dT (encD D)))) (hj : 6 < ρ.length) :
    e1s kTuple [(eF (eComp [6] (iL (eF (eKeysT 4))) (fName 6) (fun _ => .ret true) (eTup [(eVar 6), (eGetT 4 (eVar 6))])))] ρ = .ret (.da (dC (full D (sset (keys D))))) := by
  obtain ⟨pm, as⟩ := sset_perm T
  have k1 := keys_eq (i := 4) (ρ := ρ) hd T hi
  have lk : (sset (keys D)).length ≤ 35 := by rw [pm.length_eq]; exact faces_few hd T.face T.nd
  have hi' : ∀ x : Sl, (ρ.set 6 x)[4]? = some (.ow (.dT (encD D))) := fun x => by rw [List.getElem?_set_ne (by decide), hi]
  have hj' : ∀ x : Sl, (ρ.set 6 x)[6]? = some x := fun x => by rw [List.getElem?_set_self hj]
  have k2 : compM (fName 6) (fun _ => .ret true) (eTup [(eVar 6), (eGetT 4 (eVar 6))]) ((sset (keys D)).map fun g => Va.da (dF g)) (ρ.set 6 .un) = .ret ((full D (sset (keys D))).map dP) := by
    have gs : ∀ g ∈ sset (keys D), gt D g = some ((gt D g).getD 0) := fun g hg => by
      obtain ⟨n, hn⟩ := gt_key D (pm.mem_iff.mp hg)
      rw [hn]
      rfl
    rw [compM_all (fun g => ρ.set 6 (.va (.da (dF g)))) (fun g => dP (g, (gt D g).getD 0)) (fun g hg => by simp) (fun g hg => ?_)]
    · unfold full
      rw [List.map_map]
      rfl
    · have := gs g hg
      simp [dF, kKey, keyD_map, getP_enc, hi', hj']
      rw [this]
      simp [dP, dF]
  simp only [e1s, eArgs, eCons, eNil, eF, eComp, iL, k1, kItL, M.bind_bind, M.bind_ret]
  rw [List.map_map, M.req_bind (by rw [List.length_map]; exact small1000 (by omega))]
  rw [show wipeR ρ [6] = ρ.set 6 .un from rfl, show (Va.da ∘ dF) = fun g => Va.da (dF g) from rfl, k2]
  rfl
theorem chain_run {m : Addr} {d : Nat} {p : Int} {n : Nat} {Q : Va → Nat → Prop} (hd : d < 6) (hp : 2 ≤ p ∧ p ≤ 7) (hn : n ≤ 900000) (q : ∀ R k, Norm d p R → k ≤ n + 20 → Q (.da (dC R)) k) : (F_law_chain [.dw m, .da (.int (d : Nat)), .da (.int p)]).run Q (fun _ _ => False) n := by
  have fm : ∀ p ∈ faces d, Mon d p := fun p hp => (faces_face hp).mon
  have em : ∀ g, g ∈ sset (faces d) ↔ g ∈ faces d := fun g => sset_mem fm
  have el : 1 ≤ (sset (faces d)).length ∧ (sset (faces d)).length ≤ 35 := by
    have pm : (sset (faces d)).Perm (faces d) := (List.perm_ext_iff_of_nodup (asc_nd (sset_asc fm)) (faces_nd d)).mpr fun x => sset_mem fm
    rw [pm.length_eq]
    exact sbs_some d hd
  refine defM_run (sSeq_run (sSet_of (every_eq (by omega))) (sSeq_run rfl (sSeq_runS (sFor_run ?_))))
  show ((eCall vDraw [(eVar 0), (eC (.int 7))] [.va (.dw m), .va (.da (.int (d : Nat))), .va (.da (.int p)), .va (.da (.list ((sset (faces d)).map dF))), .ow (.dT []), .un, .un]).bind fun x => match x with
    | .da (.int j) => (M.req (-(2 ^ 62) ≤ j ∧ j < 2 ^ 62)).bind fun _ => .ret (rng 0 j.toNat)
    | _ => .bad).run _ _ n
  refine run_bind (draw_of (eVar_of rfl) (rfl : eC (.int 7) _ = .ret (.da (.int 7))) (by decide) (by decide) (by omega) fun r h0 h7 => ?_)
  show ((M.req (-(2 ^ 62) ≤ r ∧ r < 2 ^ 62)).bind fun _ => .ret (rng 0 r.toNat)).run _ _ _
  rw [M.req_bind ⟨by omega, by omega⟩]
  show (loopS _ _ (rng 0 r.toNat) _).run _ _ (n + 1)
  refine loopS_inv (rng 0 r.toNat) (fun i ρ k => ∃ D z5 z6, ρ = [.va (.dw m), .va (.da (.int (d : Nat))), .va (.da (.int p)), .va (.da (.list ((sset (faces d)).map dF))), .ow (.dT (encD D)), z5, z6] ∧ Tbl d D ∧ (∀ x ∈ D, 0 < x.2 ∧ x.2 < p) ∧ k ≤ n + 1 + 2 * i) ?_ ?_ ?_
  · rintro i x ρ k hx ⟨D, z5, z6, rfl, T, hv, hk⟩
    have hi : i < 7 := by
      have := (List.getElem?_eq_some_iff.mp hx).1
      rw [rng_map, List.length_map, List.length_range] at this
      omega
    have hl : D.length ≤ 35 := T.few (by omega)
    show (sPutT 4 (eCall F_law_of [(eVar 0), (eVar 3)]) (e2 kAdd (eC (.int 1)) (eCall vDraw [(eVar 0), (e2 kSub (eVar 2) (eC (.int 1)))])) [.va (.dw m), .va (.da (.int (d : Nat))), .va (.da (.int p)), .va (.da (.list ((sset (faces d)).map dF))), .ow (.dT (encD D)), .va x, z6]).run _ _ k
    simp only [sPutT, e2, eC, dT?, M.bind_ret, List.getElem?_cons_succ, List.getElem?_cons_zero, kO]
    refine run_bind (run_bind (draw_of (b := p - 1) (eVar_of rfl) (by simp) (by omega) (by omega) (by omega) fun c c0 c1 => ?_))
    show ((((eCall F_law_of [(eVar 0), (eVar 3)]) [.va (.dw m), .va (.da (.int (d : Nat))), .va (.da (.int p)), .va (.da (.list ((sset (faces d)).map dF))), .ow (.dT (encD D)), .va x, z6]).bind fun y => (kKey y).bind fun kk => (M.req ((encD D).length < sizeLine)).bind fun _ => M.ret (Rs.nx (List.set [.va (.dw m), .va (.da (.int (d : Nat))), .va (.da (.int p)), .va (.da (.list ((sset (faces d)).map dF))), .ow (.dT (encD D)), .va x, z6] 4 (.ow (.dT (putP (encD D) kk (.int (1 + c)))))))).run _ _ (k + 1))
    refine run_bind (eCall2_run (eVar_of rfl) (eVar_of rfl) (of_run (by rw [List.length_map]; exact el.1) (by rw [List.length_map]; omega) (by omega) fun y hy => ?_))
    obtain ⟨g, hg, rfl⟩ := List.mem_map.mp hy
    have fg := faces_face ((em g).mp hg)
    show (((kKey (.da (dF g))).bind _).run _ _ _)
    rw [show kKey (.da (dF g)) = .ret (g.map Sum.inl) by simp [dF, kKey, keyD_map], M.bind_ret, enc_len, M.req_bind (by rw [sizeLine_eq]; omega), putP_enc D T.nd]
    refine ⟨pt D g (1 + c), .va x, z6, rfl, T.put fg, fun y hy => ?_, by omega⟩
    rcases mem_pt D y hy with z | z
    · exact hv y z
    · rw [z]
      show 0 < 1 + c ∧ 1 + c < p
      omega
  · rintro ρ k ⟨D, z5, z6, rfl, T, hv, hk⟩
    obtain ⟨pm, as⟩ := sset_perm T
    have hl : (rng 0 r.toNat).length ≤ 7 := by rw [rng_map, List.length_map, List.length_range]; omega
    exact sRet_run (full_eq (by omega) T rfl (by show 6 < 7; decide)) (q _ k (full_norm T pm as hv) (by omega))
  · exact ⟨[], .un, .un, rfl, Tbl.nil, fun x hx => (nomatch hx), by omega⟩
end JN

set_option maxRecDepth 100000
set_option maxHeartbeats 4000000
namespace JN
open PySem PySem.Spec PyProof.Rows L2
theorem rp_of {f : Ro → M Va} {ρ : Ro} {R : Ch} (h : f ρ = .ret (.da (dC R))) (s : SmC R) : e1s kRepr [f] ρ = .ret (.da (.str (dC R).shown)) :=
  e1s1_of h (s.fit.repr_t (by decide) (by decide))
theorem rpb_of {f : Ro → M Va} {ρ : Ro} {b : Bool} (h : f ρ = .ret (.da (.bool b))) : e1s kRepr [f] ρ = .ret (.da (.str (PyData.bool b).shown)) := e1s1_of h rfl
theorem eqnil_of {i : Nat} {ρ : Ro} {R : Ch} (h : ρ[i]? = some (.va (.da (dC R)))) (s : SmC R) : e2 kEq (eVarQ i) (eTup []) ρ = .ret (.da (.bool R.isEmpty)) := by
  refine e2_of (eVarQ_of h) (y := .da (.tuple [])) (by simp [eTup]) ?_
  unfold kEq
  dsimp only
  rw [M.req_bind ⟨s.fit.shp (by decide), fit_nil.shp (by decide)⟩]
  show M.ret (Va.da (.bool (PyData.eqv (dC R) (.tuple [])))) = _
  rw [eqv_nil]
theorem Norm.chn {d : Nat} {p : Int} {R : Ch} (h : Norm d p R) (hp : p ≤ 7) : Chn d R := ⟨fun x hx => h.face x.1 (List.mem_map.mpr ⟨x, hx, rfl⟩), fun x hx => by have := h.pos x hx; omega⟩
abbrev lawB : Ro → M Rs := (sSeq (sSet 2 (eCall vBegun [(eVar 0), (eVar 1)]))
      (sSeq (sPar 3 4 (eCall vDraw [(eVar 2), (eC (.int 6))]) (eCall F_law_of [(eVar 2), (eF (eLst [(eC (.int 2)), (eC (.int 3)), (eC (.int 5)), (eC (.int 7))]))]))
      (sSeq (sPar 5 6 (eCall F_law_chain [(eVar 2), (eVar 3), (eVar 4)]) (eCall F_law_chain [(eVar 2), (eVar 3), (eVar 4)]))
      (sSeq (sPar 7 8 (e1s kRepr [(eVarQ 5)]) (eCall F_law_boundary [(eVar 5), (eVar 4)]))
      (sSeq (sIf (bOr (bB (e2 (kEqS true) (e1s kRepr [(eCall F_boundary [(eVar 5), (eVar 4)])]) (e1s kRepr [(eVarQ 8)]))) (bB (e2 (kEqS true) (e1s kRepr [(eCall F_is_cycle [(eVar 5), (eVar 4)])]) (e1s kRepr [(e2 kEq (eVarQ 8) (eTup []))])))) (sRet (eC (.bool false))) sPass)
      (sSeq (sIf (bOr (bB (e2 (kEqS true) (e1s kRepr [(eCall F_boundary [(eVar 8), (eVar 4)])]) (e1s kRepr [(eTup [])]))) (bB (e2 (kEqS true) (e1s kRepr [(eCall F_is_cycle [(eVar 8), (eVar 4)])]) (e1s kRepr [(eC (.bool true))])))) (sRet (eC (.bool false))) sPass)
      (sSeq (sSet 9 (e2 kAdd (eC (.int 1)) (eCall vDraw [(eVar 2), (e2 kSub (eVar 4) (eC (.int 1)))])))
      (sSeq (sSet 10 (eCall F_law_plus [(eVar 5), (eVar 6), (eVar 9), (eVar 4)]))
      (sSeq (sSet 11 (eCall F_law_plus [(eVar 8), (eCall F_law_boundary [(eVar 6), (eVar 4)]), (eVar 9), (eVar 4)]))
      (sIf (bOr (bB (e2 (kEqS true) (e1s kRepr [(eCall F_boundary [(eVar 10), (eVar 4)])]) (e1s kRepr [(eVarQ 11)]))) (bB (e2 (kEqS true) (e1s kRepr [(eVarQ 5)]) (eVar 7)))) (sRet (eC (.bool false))) sPass))))))))))
theorem body_run {ns : List Int} {i : Nat} (hl : ns.length ≤ 63) (hi : i < 3) {z1 z2 z3 z4 z5 z6 z7 z8 z9 z10 z11 z12 : Sl} {n : Nat} (hn : n ≤ 50 * i) :
    ((fName 1 (.da (.int (i : Nat))) [.va (.da (.list (ns.map .int))), z1, z2, z3, z4, z5, z6, z7, z8, z9, z10, z11, z12])).run (fun ρ1 n1 => (lawB ρ1).run (fun r n2 => (∃ y1 y2 y3 y4 y5 y6 y7 y8 y9 y10 y11 y12, r = .nx [.va (.da (.list (ns.map .int))), y1, y2, y3, y4, y5, y6, y7, y8, y9, y10, y11, y12]) ∧ n2 ≤ 50 * (i + 1)) (fun _ _ => False) n1) (fun _ _ => False) n := by
  show (lawB [.va (.da (.list (ns.map .int))), .va (.da (.int (i : Nat))), z2, z3, z4, z5, z6, z7, z8, z9, z10, z11, z12]).run _ _ n
  refine sSeq_runS (sSet_run (eCall2_run (eVar_of rfl) (eVar_of rfl) (vBegun_run hl (by omega) (by omega) fun m => ?_)))
  show (_ : M Rs).run _ _ n
  refine sSeq_runS (sPar_run (draw_of (b := 6) (eVar_of rfl) rfl (by decide) (by decide) (by omega) fun r r0 r6 => ?_))
  obtain ⟨d, rfl⟩ : ∃ d : Nat, r = d := ⟨r.toNat, by omega⟩
  refine eCall2_run (x := .dw m) (y := .da (.list [.int 2, .int 3, .int 5, .int 7])) (eVar_of rfl) (by simp [eLst]) (of_run (by decide) (by decide) (by omega) fun y hy => ?_)
  obtain ⟨p, hp, rfl⟩ : ∃ p : Int, (2 ≤ p ∧ p ≤ 7) ∧ y = .int p := by
    simp at hy
    rcases hy with rfl | rfl | rfl | rfl <;> exact ⟨_, by decide, rfl⟩
  refine sSeq_runS (sPar_run (eCall3_run (x := .dw m) (y := .da (.int (d : Nat))) (z := .da (.int p)) (eVar_of rfl) (eVar_of rfl) (eVar_of rfl) (chain_run (by omega) hp (by omega) fun one k1 h1 q1 => ?_)))
  refine eCall3_run (x := .dw m) (y := .da (.int (d : Nat))) (z := .da (.int p)) (eVar_of rfl) (eVar_of rfl) (eVar_of rfl) (chain_run (by omega) hp (by omega) fun other k2 h2 q2 => ?_)
  have p0 : 0 < p := by omega
  have d8 : d < 8 := by omega
  obtain ⟨R, b1, B1⟩ := law_boundary_eq d8 p0 (h1.chn hp.2).face
  obtain ⟨S, b2, B2⟩ := law_boundary_eq d8 p0 (h2.chn hp.2).face
  obtain ⟨R', c1, C1⟩ := boundary_eq d8 p0 (h1.chn hp.2)
  have e1 := C1.uniq B1 p0
  subst e1
  obtain ⟨N, c2, C2⟩ := boundary_eq (d := d - 1) (by omega) p0 (B1.1.chn hp.2)
  have e2 := B1.twice C2 p0
  subst e2
  have s1 := h1.sm d8 hp.2
  have sR := B1.1.sm (by omega) hp.2
  have sN : SmC [] := Norm.nil (d := 0) (p := p) |>.sm (by decide) hp.2
  refine sSeq_run (sPar_of (rp_of (eVarQ_of rfl) s1) (eCall2_of (eVar_of rfl) (eVar_of rfl) b1)) ?_
  refine sSeq_run (sIf_no (bOr_no (ne_rr (rp_of (eCall2_of (eVar_of rfl) (eVar_of rfl) c1) sR) (rp_of (eVarQ_of rfl) sR)) (ne_rr (rpb_of (eCall2_of (eVar_of rfl) (eVar_of rfl) (cyc_eq c1 (sR.fit.shp (by decide))))) (rpb_of (eqnil_of rfl sR))))) ?_
  refine sSeq_run (sIf_no (bOr_no (ne_rr (rp_of (eCall2_of (eVar_of rfl) (eVar_of rfl) c2) sN) (rp_of (R := []) (by simp [eTup, dC]) sN)) (ne_rr (rpb_of (eCall2_of (eVar_of rfl) (eVar_of rfl) (cyc_eq c2 (sN.fit.shp (by decide))))) (rpb_of (b := true) rfl)))) ?_
  refine sSeq_runS (sSet_run (e2_run (x := .da (.int 1)) rfl (draw_of (b := p - 1) (eVar_of rfl) (by simp) (by omega) (by omega) (by omega) fun f f0 f1 => ?_)))
  refine run_of (a := .da (.int (1 + f))) rfl ?_
  obtain ⟨B, g1, G1⟩ := plus_eq (f := 1 + f) d8 p0 (by omega) h1 h2
  obtain ⟨T, g2, G2⟩ := plus_eq (f := 1 + f) (d := d - 1) (by omega) p0 (by omega) B1.1 B2.1
  obtain ⟨U, g3, G3⟩ := boundary_eq d8 p0 (G1.1.chn hp.2)
  have e3 := plus_bnd G1 B1 B2 G2 G3 p0
  subst e3
  have sU := G2.1.sm (by omega) hp.2
  refine sSeq_run (sSet_of (eCall4_of (eVar_of rfl) (eVar_of rfl) (eVar_of rfl) (eVar_of rfl) g1)) ?_
  refine sSeq_run (sSet_of (eCall4_of (eVar_of rfl) (eCall2_of (eVar_of rfl) (eVar_of rfl) b2) (eVar_of rfl) (eVar_of rfl) g2)) ?_
  refine M.run_of (sIf_no (bOr_no (ne_rr (rp_of (eCall2_of (eVar_of rfl) (eVar_of rfl) g3) sU) (rp_of (eVarQ_of rfl) sU)) (ne_rr (rp_of (eVarQ_of rfl) s1) (eVar_of rfl)))) ?_
  exact ⟨⟨_, _, _, _, _, _, _, _, _, _, _, _, rfl⟩, by omega⟩
end JN

set_option maxRecDepth 100000
set_option maxHeartbeats 4000000
namespace JN
open PySem PySem.Spec PyProof.Rows L2
theorem bnd_lit {d : Nat} {p : Int} {c R : Ch} (hd : d < 8) (hp : 0 < p) (hc : Chn d c) (hb : Bnd d p c R) : F_boundary [.da (dC c), .da (.int p)] = .ret (.da (dC R)) := by
  obtain ⟨S, h1, h2⟩ := boundary_eq hd hp hc
  rw [h1, h2.uniq hb hp]
theorem cyc_lit {d : Nat} {p : Int} {c R : Ch} (hd : d < 8) (hp : 0 < p) (hc : Chn d c) (hb : Bnd d p c R) (h7 : p ≤ 7) : F_is_cycle [.da (dC c), .da (.int p)] = .ret (.da (.bool R.isEmpty)) :=
  cyc_eq (bnd_lit hd hp hc hb) ((hb.1.sm (by omega) h7).fit.shp (by decide))
abbrev t1 : Ch := [([], 2)]
abbrev t2 : Ch := [([4], 2)]
abbrev t3 : Ch := [([0, 1], 1)]
abbrev t4 : Ch := [([0], 2), ([1], 1)]
abbrev t5 : Ch := [([], 1)]
abbrev t6 : Ch := [([1], 1), ([2], 1)]
theorem chn_nil : Chn 0 [] := ⟨fun x hx => (nomatch hx), fun x hx => (nomatch hx)⟩
instance (d : Nat) (g : List Int) : Decidable (Face d g) := by unfold Face; exact inferInstance
theorem chn_by {d : Nat} {c : Ch} (h : (c.all fun x => decide (Face d x.1) && decide (0 ≤ x.2) && decide (x.2 < 1000)) = true) : Chn d c :=
  ⟨fun x hx => by have := List.all_eq_true.mp h x hx; simp at this; exact this.1.1, fun x hx => by have := List.all_eq_true.mp h x hx; simp at this; exact ⟨this.1.2, this.2⟩⟩
theorem b0 : Bnd 0 3 [] [] := ⟨Norm.nil, fun φ => Cg.of rfl⟩
theorem b0' : Bnd 0 2 [] [] := ⟨Norm.nil, fun φ => Cg.of rfl⟩
theorem b1 : Bnd 0 3 t1 [] := ⟨Norm.nil, fun φ => Cg.of (by show 0 = 2 * 0 + 0; omega)⟩
theorem n2 : Norm 0 3 t1 := ⟨by simp [keys, Asc], by decide, by decide⟩
theorem b2 : Bnd 1 3 t2 t1 := ⟨n2, fun φ => Cg.of (by show 2 * φ [] + 0 = 2 * (1 * φ [] + 0) + 0; omega)⟩
theorem n3 : Norm 1 3 t4 := ⟨by simp [keys, Asc]; decide, by decide, by decide⟩
theorem b3 : Bnd 2 3 t3 t4 := ⟨n3, fun φ => ⟨φ [0], by
  show 2 * φ [0] + (1 * φ [1] + 0) = 1 * (1 * φ [1] + (-1 * φ [0] + 0)) + 0 + 3 * φ [0]
  omega⟩⟩
theorem b5 : Bnd 0 2 t5 [] := ⟨Norm.nil, fun φ => Cg.of (by show 0 = 1 * 0 + 0; omega)⟩
theorem b6 : Bnd 1 2 t6 [] := ⟨Norm.nil, fun φ => ⟨-φ [], by
  show 0 = 1 * (1 * φ [] + 0) + (1 * (1 * φ [] + 0) + 0) + 2 * -φ []
  omega⟩⟩
theorem rpl_of {f : Ro → M Va} {ρ : Ro} {cs : List Ch} (h : f ρ = .ret (.da (.list (cs.map dC)))) (s : ∀ c ∈ cs, SmC c) (hl : cs.length ≤ 10) : e1s kRepr [f] ρ = .ret (.da (.str (PyData.list (cs.map dC)).shown)) :=
  e1s1_of h ((Fit.lst (n := 3) (m := 1152) (k := 10) (fun d hd => by obtain ⟨c, hc, rfl⟩ := List.mem_map.mp hd; exact (s c hc).fit) (by rw [List.length_map]; exact hl)).repr_l (by decide) (by decide))
theorem rpbl_of {f : Ro → M Va} {ρ : Ro} {bs : List Bool} (h : f ρ = .ret (.da (.list (bs.map .bool)))) (hl : bs.length ≤ 10) : e1s kRepr [f] ρ = .ret (.da (.str (PyData.list (bs.map .bool)).shown)) :=
  e1s1_of h ((Fit.lst (n := 0) (m := 0) (k := 10) (fun d hd => by obtain ⟨c, hc, rfl⟩ := List.mem_map.mp hd; exact fit_bool c) (by rw [List.length_map]; exact hl)).repr_l (by decide) (by decide))
theorem told1 (ρ : Ro) : eF (eLst [(eCall F_boundary [(eTup []), (eC (.int 3))]), (eCall F_boundary [(eTup [(eTup [(eTup []), (eC (.int 2))])]), (eC (.int 3))]), (eCall F_boundary [(eTup [(eTup [(eTup [(eC (.int 4))]), (eC (.int 2))])]), (eC (.int 3))]), (eCall F_boundary [(eTup [(eTup [(eTup [(eC (.int 0)), (eC (.int 1))]), (eC (.int 1))])]), (eC (.int 3))])]) ρ = .ret (.da (.list ([[], [], t1, t4].map dC))) := by
  have k1 : eCall F_boundary [(eTup []), (eC (.int 3))] ρ = .ret (.da (dC [])) := eCall2_of (x := .da (dC [])) (by simp [eTup, dC]) rfl (bnd_lit (by decide) (by decide) chn_nil b0)
  have k2 : eCall F_boundary [(eTup [(eTup [(eTup []), (eC (.int 2))])]), (eC (.int 3))] ρ = .ret (.da (dC [])) := eCall2_of (x := .da (dC t1)) (by simp [eTup, dC, dF]) rfl (bnd_lit (by decide) (by decide) (chn_by (d := 0) (by decide)) b1)
  have k3 : eCall F_boundary [(eTup [(eTup [(eTup [(eC (.int 4))]), (eC (.int 2))])]), (eC (.int 3))] ρ = .ret (.da (dC t1)) := eCall2_of (x := .da (dC t2)) (by simp [eTup, dC, dF]) rfl (bnd_lit (by decide) (by decide) (chn_by (d := 1) (by decide)) b2)
  have k4 : eCall F_boundary [(eTup [(eTup [(eTup [(eC (.int 0)), (eC (.int 1))]), (eC (.int 1))])]), (eC (.int 3))] ρ = .ret (.da (dC t4)) := eCall2_of (x := .da (dC t3)) (by simp [eTup, dC, dF]) rfl (bnd_lit (by decide) (by decide) (chn_by (d := 2) (by decide)) b3)
  simp only [eF, eLst, eArgs, eCons, eNil, k1, k2, k3, k4, M.bind_ret]
  simp [kLst, das]
theorem told2 (ρ : Ro) : eF (eLst [(eCall F_is_cycle [(eTup []), (eC (.int 2))]), (eCall F_is_cycle [(eTup [(eTup [(eTup []), (eC (.int 1))])]), (eC (.int 2))]), (eCall F_is_cycle [(eTup [(eTup [(eTup [(eC (.int 1))]), (eC (.int 1))]), (eTup [(eTup [(eC (.int 2))]), (eC (.int 1))])]), (eC (.int 2))])]) ρ = .ret (.da (.list ([true, true, true].map .bool))) := by
  have k1 : eCall F_is_cycle [(eTup []), (eC (.int 2))] ρ = .ret (.da (.bool true)) := eCall2_of (x := .da (dC [])) (by simp [eTup, dC]) rfl (cyc_lit (by decide) (by decide) chn_nil b0' (by decide))
  have k2 : eCall F_is_cycle [(eTup [(eTup [(eTup []), (eC (.int 1))])]), (eC (.int 2))] ρ = .ret (.da (.bool true)) := eCall2_of (x := .da (dC t5)) (by simp [eTup, dC, dF]) rfl (cyc_lit (by decide) (by decide) (chn_by (d := 0) (by decide)) b5 (by decide))
  have k3 : eCall F_is_cycle [(eTup [(eTup [(eTup [(eC (.int 1))]), (eC (.int 1))]), (eTup [(eTup [(eC (.int 2))]), (eC (.int 1))])]), (eC (.int 2))] ρ = .ret (.da (.bool true)) := eCall2_of (x := .da (dC t6)) (by simp [eTup, dC, dF]) rfl (cyc_lit (by decide) (by decide) (chn_by (d := 1) (by decide)) b6 (by decide))
  simp only [eF, eLst, eArgs, eCons, eNil, k1, k2, k3, M.bind_ret]
  simp [kLst, das]
theorem lit1 (ρ : Ro) : eF (eLst [(eTup []), (eTup []), (eTup [(eTup [(eTup []), (eC (.int 2))])]), (eTup [(eTup [(eTup [(eC (.int 0))]), (eC (.int 2))]), (eTup [(eTup [(eC (.int 1))]), (eC (.int 1))])])]) ρ = .ret (.da (.list ([[], [], t1, t4].map dC))) := by
  simp [eLst, eTup, dC, dF, das]
theorem lit2 (ρ : Ro) : eF (eLst [(eC (.bool true)), (eC (.bool true)), (eC (.bool true))]) ρ = .ret (.da (.list ([true, true, true].map .bool))) := by
  simp [eLst, das]
theorem smN {d : Nat} {p : Int} {R : Ch} (h : Norm d p R) (hd : d < 8) (hp : p ≤ 7) : SmC R := h.sm hd hp
theorem sm1 : ∀ c ∈ ([[], [], t1, t4] : List Ch), SmC c := fun c hc => by
  simp only [List.mem_cons, List.not_mem_nil, or_false] at hc
  rcases hc with rfl | rfl | rfl | rfl
  · exact (Norm.nil (d := 0) (p := 3)).sm (by decide) (by decide)
  · exact (Norm.nil (d := 0) (p := 3)).sm (by decide) (by decide)
  · exact n2.sm (by decide) (by decide)
  · exact n3.sm (by decide) (by decide)
theorem law_run (ns : List Int) (hl : ns.length ≤ 63) : (F_law [.da (.list (ns.map .int))]).run (fun x _ => x = .da (.bool true)) (fun _ _ => False) 0 := by
  refine defM_run (sSeq_runS (sFor_run ?_))
  refine run_of (a := rng 0 (max 1 (min 3 ns.length))) ?_ ?_
  · refine iR1_of ?_ (by omega)
    simp [kLen]
    refine congrArg (fun z : Int => M.ret (Va.da (.int z))) ?_
    have : ((max 1 (min 3 ns.length) : Nat) : Int) = max 1 (min 3 (ns.length : Int)) := by omega
    rw [this]
    split <;> split at * <;> omega
  refine loopS_inv _ (fun i ρ k => (∃ y1 y2 y3 y4 y5 y6 y7 y8 y9 y10 y11 y12, ρ = [.va (.da (.list (ns.map .int))), y1, y2, y3, y4, y5, y6, y7, y8, y9, y10, y11, y12]) ∧ k ≤ 50 * i) ?_ ?_ ?_
  · rintro i x ρ k hx ⟨⟨y1, y2, y3, y4, y5, y6, y7, y8, y9, y10, y11, y12, rfl⟩, hk⟩
    rw [rng_map, List.getElem?_map] at hx
    obtain ⟨j, hj, rfl⟩ := Option.map_eq_some_iff.mp hx
    obtain ⟨hi, hj⟩ := List.getElem?_eq_some_iff.mp hj
    rw [List.getElem_range] at hj
    subst hj
    rw [List.length_range] at hi
    refine (fName 1 _ _).mono (fun ρ1 n1 h => (lawB ρ1).mono (fun r n2 h2 => ?_) (fun _ _ z => z) h) (fun _ _ z => z) (body_run hl (by omega) hk)
    obtain ⟨⟨y1, y2, y3, y4, y5, y6, y7, y8, y9, y10, y11, y12, rfl⟩, hk⟩ := h2
    exact ⟨⟨_, _, _, _, _, _, _, _, _, _, _, _, rfl⟩, hk⟩
  · rintro ρ k ⟨⟨y1, y2, y3, y4, y5, y6, y7, y8, y9, y10, y11, y12, rfl⟩, hk⟩
    refine sSeq_run (sSet_of (told1 _)) ?_
    refine sSeq_run (sIf_no (ne_rr (rpl_of (eVarQ_of rfl) sm1 (by decide)) (rpl_of (lit1 _) sm1 (by decide)))) ?_
    refine sSeq_run (sSet_of (told2 _)) ?_
    refine sRet_run (x := .da (.bool true)) (e2_of (rpbl_of (eVarQ_of rfl) (by decide)) (rpbl_of (lit2 _) (by decide)) ?_) ?_
    · simp
    · rfl
  · exact ⟨⟨_, _, _, _, _, _, _, _, _, _, _, _, rfl⟩, by omega⟩
end JN

set_option maxRecDepth 100000
set_option maxHeartbeats 4000000
namespace JN
open PySem PySem.Spec PyProof.Rows L2
section
variable {P : Program} {w : World} {K : PySem.W.Frag} {mg : Str → Option Value} {base : Heap}
theorem scDraw : FnScope ["m", "below", "found", "spot", "cells", "extra", "cell", "blend"] ["m", "below"] (defScope S_law_draw) := ⟨rfl, rfl, rfl, by decide +kernel, rfl, by decide +kernel, by decide +kernel⟩
theorem ok_draw {f : Addr} {fd : FuncData} (F : Fun K "_law_draw" "_law_draw" S_law_draw f fd) (B : Bt mg) : FnOk P w K mg base CX0 1 f fd ["m", "below"] spDraw := by
  refine F.ok scDraw (fun vs H Q E h => ?_) (fun cdv A outer s H vs Q E hr h => ?_)
  · obtain ⟨d, c, below, n, rfl, _⟩ := h
    rfl
  · obtain ⟨d, c, below, n, rfl, ⟨l, sd, p, cs, h1, h2, h3, h4, h5, h6, h7, h8, h9⟩, hn, hb1, hb2, q⟩ := h
    have hu := hu_of hr
    have nd := scDraw.nd
    refine ⟨_, pss_cons (ps_if (pt_cmpR op_gt (pe_dget hu (pv 0) pe_str (fun _ _ => rfl)) pe_int (nomark _))
        (pss_cons (ps_set (i := 2) nd rfl (.inl rfl) (pe_op op_mod (pe_callTy call_int1 (by rfl) B.int (by decide +kernel) (pa_cons (pe_dget hu (pv 0) pe_str (fun _ _ => rfl)) pa_nil)) (pv 1)))
        (pss_cons (ps_dput hu (pv 0) pe_str (pe_op op_fdiv (pe_dget hu (pv 0) pe_str (fun _ _ => rfl)) (pv 1)) rfl)
        (pss_one (ps_ret (pv 2))))) pss_nil)
      (pss_cons (ps_set (i := 3) nd rfl (.inl rfl) (pe_dget hu (pv 0) pe_str (fun _ _ => rfl)))
      (pss_cons (ps_dput hu (pv 0) pe_str (pe_op op_add (pv 3) pe_int) rfl)
      (pss_cons (ps_par (i := 4) (j := 5) (by rfl) nd rfl rfl (by decide) rfl rfl (pa_cons (pe_dget hu (pv 0) pe_str (fun _ _ => rfl))
          (pa_cons (pe_op op_add (pe_dget hu (pv 0) pe_str (fun _ _ => rfl)) (pe_op op_mul (pe_op op_mul pe_int (pv 3)) (pv 3))) pa_nil)) (by rfl))
      (pss_cons (ps_set (i := 6) nd rfl (.inl rfl) (pe_ix ix_list (pv 4) (pe_op op_mod (pe_callTy call_int1 (by rfl) B.int (by decide +kernel) (pa_cons (pv 3) pa_nil))
          (pe_callB call_len_seq (by rfl) B.len PySem.boot_len (pa_cons (pv 4) pa_nil))) (fun _ _ => rfl)))
      (pss_cons (ps_set (i := 7) nd rfl (.inl rfl) (pe_op op_mod (pe_callTy call_int1 (by rfl) B.int (by decide +kernel)
          (pa_cons (pe_op op_add (pe_op op_mul (pv 6) (pe_op op_add (pe_op op_mul pe_int (pv 3)) pe_int)) (pv 5)) pa_nil)) pe_int))
      (pss_cons (ps_set (i := 7) nd rfl (.inl rfl) (pe_op op_mod (pe_callTy call_int1 (by rfl) B.int (by decide +kernel)
          (pa_cons (pe_op op_add (pe_op op_add (pe_op op_mul (pv 7) (pv 7)) (pe_op op_mul pe_int (pv 3))) (pe_dget hu (pv 0) pe_str (fun _ _ => rfl))) pa_nil)) pe_int))
      (pss_one (ps_ret (pe_op op_mod (pe_op op_fdiv (pe_op op_mod (pe_callTy call_int1 (by rfl) B.int (by decide +kernel)
          (pa_cons (pe_op op_add (pe_op op_mul (pv 7) pe_int) (pv 3)) pa_nil)) pe_int) pe_int) (pv 1)))))))))), ?_⟩
    have g1 : ∀ {H' : Hp} {l' p' : Int}, H' d = some (.dK (mS l' sd c p')) → DGet H' d (.str "left") (some (.int l')) := fun e => .inl ⟨_, Sum.inr "left", .inl e, rfl, mS_left.symm⟩
    have g2 : ∀ {H' : Hp} {l' p' : Int}, H' d = some (.dK (mS l' sd c p')) → DGet H' d (.str "seed") (some (.int sd)) := fun e => .inl ⟨_, Sum.inr "seed", .inl e, rfl, mS_seed.symm⟩
    have g3 : ∀ {H' : Hp} {l' p' : Int}, H' d = some (.dK (mS l' sd c p')) → DGet H' d (.str "cells") (some (.ref c)) := fun e => .inl ⟨_, Sum.inr "cells", .inl e, rfl, mS_cells.symm⟩
    have g4 : ∀ {H' : Hp} {l' p' : Int}, H' d = some (.dK (mS l' sd c p')) → DGet H' d (.str "spot") (some (.int p')) := fun e => .inl ⟨_, Sum.inr "spot", .inl e, rfl, mS_spot.symm⟩
    refine ⟨_, rfl, d, .int l, rfl, g1 h1, _, _, rfl, rfl, _, rfl, ite2 (fun e => ?_) (fun e => ?_)⟩
    · -- found = int(m["left"]) % below
      refine ⟨_, rfl, d, .int l, rfl, g1 h1, .inl ⟨_, rfl, _, rfl, _, _, rfl, rfl, by omega, ?_⟩⟩
      refine ⟨_, rfl, d, .int l, rfl, g1 h1, _, rfl, _, _, rfl, rfl, ⟨by omega, by omega⟩, _, rfl, d, _, rfl, DPut.k (k := Sum.inr "left") h1 (by show 4 < sizeLine; decide), ?_⟩
      refine ⟨_, rfl, q _ _ (Int.emod_nonneg _ (by omega)) (Int.emod_lt_of_pos _ (by omega)) ((Kp.refl H).upd (by simp)) ⟨l / below, sd, p, cs, ?_, ?_, h3, h4, h5, h6, h7, h8, by omega⟩⟩
      · rw [upd_same, mS_put_left]
      · rw [upd_ne h3]; exact h2
    · have hc : (1 : Int) ≤ (cs.length : Int) := by
        cases cs with
        | nil => exact absurd rfl h4
        | cons a r => rw [List.length_cons]; omega
      have hp : p ≤ 1000000 := by omega
      refine ⟨_, rfl, d, .int p, rfl, g4 h1, ?_⟩
      refine ⟨_, rfl, _, _, rfl, rfl, _, rfl, d, _, rfl, DPut.k (k := Sum.inr "spot") h1 (by show 4 < sizeLine; decide), ?_⟩
      generalize hH2 : upd H d (.dK (putK (mS l sd c p) (Sum.inr "spot") (.int (p + 1)))) = H2
      have k2 : Kp [d] H H2 := by
        rw [← hH2]
        exact (Kp.refl H).upd (by simp)
      have e2 : H2 d = some (.dK (mS l sd c (p + 1))) := by rw [← hH2, upd_same, mS_put_spot]
      have hC0 : H2 c = some (.lst (cs.map V.int)) := k2 _ _ h2 (by simp [h3])
      have hC : SqL K H2 c (cs.map V.int) := .inl (.inl hC0)
      have hm1 : 0 ≤ p % (cs.length : Int) := Int.emod_nonneg _ (by omega)
      have hm2 : p % (cs.length : Int) < (cs.length : Int) := Int.emod_lt_of_pos _ (by omega)
      refine ⟨_, rfl, d, .ref c, rfl, g3 e2, _, rfl, d, .int sd, rfl, g2 e2, _, rfl, _, _, rfl, rfl, .inl ⟨by decide, by decide⟩, _, rfl, _, _, rfl, rfl, .inr ⟨by omega, by omega⟩, _, _, rfl, rfl, _, _, rfl, ?_⟩
      have hix : atI (cs.map V.int) (p % (cs.length : Int)) = some (.int (at0 cs (p % (cs.length : Int)).toNat)) := by
        have := ix0 (ns := cs) (i := (p % (cs.length : Int)).toNat) (by omega)
        rwa [Int.toNat_of_nonneg hm1] at this
      refine ⟨_, rfl, _, rfl, .inl ⟨_, rfl, _, rfl, c, _, rfl, .inl hC, _, _, rfl, rfl, ?_, c, _, _, .int (at0 cs (p % (cs.length : Int)).toNat), rfl, rfl, hC, ?_, ?_⟩⟩
      · rw [List.length_map]; omega
      · rw [List.length_map]; exact hix
      generalize at0 cs (p % (cs.length : Int)).toNat = cell
      refine ⟨_, rfl, _, rfl, _, _, rfl, rfl, .inl ⟨by decide, by decide⟩, _, _, rfl, rfl, _, _, rfl, rfl, .inr ⟨by omega, by omega⟩, _, rfl, _, _, rfl, rfl, .inl ⟨_, rfl, _, _, rfl, rfl, (by decide : (0 : Int) < 2147483647), ?_⟩⟩
      generalize hb0 : (cell * (2 * p + 3) + (sd + 40503 * p * p)) % 2147483647 = b0
      have hb1 : 0 ≤ b0 := by omega
      have hb2 : b0 < 2147483647 := by omega
      refine ⟨_, rfl, _, rfl, _, _, rfl, rfl, .inl ⟨by omega, by omega⟩, _, rfl, _, _, rfl, rfl, .inl ⟨by decide, by decide⟩, _, _, rfl, rfl, _, rfl, d, .int sd, rfl, g2 e2, _, _, rfl, rfl, .inl ⟨_, rfl, _, _, rfl, rfl, (by decide : (0 : Int) < 2147483629), ?_⟩⟩
      generalize hb3 : (b0 * b0 + 69621 * p + sd) % 2147483629 = b3
      refine ⟨_, rfl, _, _, rfl, rfl, .inr ⟨by decide, by decide⟩, _, rfl, _, _, rfl, rfl, .inl ⟨_, rfl, _, _, rfl, rfl, (by decide : (0 : Int) < 2147483647), _, _, rfl, rfl, ⟨by decide, by decide⟩, _, rfl, _, _, rfl, rfl, by omega, ?_⟩⟩
      exact q _ _ (Int.emod_nonneg _ (by omega)) (Int.emod_lt_of_pos _ (by omega)) k2 ⟨l, sd, p + 1, cs, e2, hC0, h3, h4, h5, h6, h7, by omega, by omega⟩
end


section
variable {P : Program} {w : World} {K : PySem.W.Frag} {mg : Str → Option Value} {base : Heap}
theorem cut_ints (ns : List Int) (lo hi : Option Int) : ∃ ms : List Int, cutV (ns.map V.int) lo hi = ms.map V.int ∧ ms.length ≤ ns.length := by
  refine ⟨(ns.drop (HT.sIx (ns.map V.int).length 0 lo)).take (HT.sIx (ns.map V.int).length (ns.map V.int).length hi - HT.sIx (ns.map V.int).length 0 lo), ?_, ?_⟩
  · unfold cutV
    rw [List.map_take, List.map_drop]
  · rw [List.length_take, List.length_drop]
    omega
theorem mS_made {l s p : Int} {c : Addr} : mergeK [] [(.inr "left", .int l), (.inr "seed", .int s), (.inr "cells", .ref c), (.inr "spot", .int p)] = mS l s c p := by
  simp [mergeK, putK, mS, kls, klc, klp, ksc, ksp, kcp]
theorem scBegun : FnScope ["script", "k", "cells", "cell", "great", "seed"] ["script", "k"] (defScope S_law_begun) := ⟨rfl, rfl, rfl, by decide +kernel, rfl, by decide +kernel, by decide +kernel⟩
theorem ok_begun {f : Addr} {fd : FuncData} (F : Fun K "_law_begun" "_law_begun" S_law_begun f fd) (B : Bt mg) : FnOk P w K mg base CX0 1 f fd ["script", "k"] (spBegun K) := by
  refine F.ok scBegun (fun vs H Q E h => ?_) (fun cdv A outer s H vs Q E hr h => ?_)
  · obtain ⟨a, ns, k, rfl, _⟩ := h
    rfl
  · obtain ⟨a, ns, k, rfl, hS, hl, hk0, hk1, q⟩ := h
    have hu := hu_of hr
    have nd := scBegun.nd
    refine ⟨_, pss_cons (ps_set (i := 2) nd rfl (.inl rfl) (pe_op op_cat (pe_slice sl_list (pv 0) (po_some (pv 1)) po_none) (pe_slice sl_list (pv 0) po_none (po_some (pv 1)))))
      (pss_cons (ps_setLc (i := 4) (own := [("cell", 3)]) (g := gName 3) (by rfl) nd rfl rfl (sw_true rfl rfl rfl (by decide +kernel)) (pi_list (pv 2)) (blkOk_by (own := [("cell", 3)]) (N := ["script", "k", "cells", "cell", "great", "seed"]) (sc := defScope S_law_begun) (by decide +kernel))
          (fun _ _ _ _ _ => pg_name (i := 3) nd rfl (.inl rfl)) (fun _ _ _ _ _ => pts_one (pt_cmpR op_ge (pv 3) (pe_op op_pow pe_int pe_int) (nomark _))) (fun _ _ _ _ _ => pv 3))
      (pss_cons (ps_set (i := 5) nd rfl (.inl rfl) (pe_op op_add pe_int (pv 1)))
      (pss_cons (ps_for PassesOwn.never rfl (pi_list (pv 2)) (pg_name (i := 3) nd rfl (.inl rfl))
          (pss_one (ps_set (i := 5) nd rfl (.inl rfl) (pe_op op_mod (pe_callTy call_int1 (by rfl) B.int (by decide +kernel) (pa_cons (pe_op op_add (pe_op op_mul (pv 5) pe_int) (pv 3)) pa_nil)) pe_int))))
      (pss_one (ps_ret (pe_disp (pps_cons pe_str (pe_ifExp (pt_cmpR (op_neD hr.units) (pv 4) (pe_lst pa_nil) (nomark _)) (pe_ix ix_list (pv 4) pe_int (fun _ _ => rfl)) pe_int)
          (pps_cons pe_str (pv 5) (pps_cons pe_str (pe_op op_cat (pv 2) (pe_lst (pa_cons (pe_op op_add (pe_op op_mul pe_int (pv 1)) pe_int) pa_nil)))
          (pps_cons pe_str pe_int pps_nil)))) (by rfl) (by rfl) (fun z => by cases z) (by decide))))))), ?_⟩
    obtain ⟨m1, e1, l1⟩ := cut_ints ns (some k) none
    obtain ⟨m2, e2, l2⟩ := cut_ints ns none (some k)
    refine ⟨.ref a, rfl, .int k, rfl, k, rfl, a, _, rfl, hS, fun p1 np1 => ?_⟩
    have s1 := same_new (o := .lst (cutV (ns.map V.int) (some k) none)) np1
    refine ⟨.ref a, rfl, .int k, rfl, k, rfl, a, _, rfl, s1.seq hS, fun p2 np2 => ?_⟩
    have s2 := same_new (o := .lst (cutV (ns.map V.int) none (some k))) np2
    have n12 : p1 ≠ p2 := ne_of_none upd_same np2
    refine ⟨p1, p2, _, _, rfl, rfl, (by rw [upd_ne n12]; exact upd_same), upd_same, ?_, fun c nc => ?_⟩
    · rw [e1, e2, List.length_map, List.length_map, sizeLine_eq]; omega
    have s3 := same_new (o := .lst (cutV (ns.map V.int) (some k) none ++ cutV (ns.map V.int) none (some k))) nc
    rw [e1, e2, ← List.map_append] at s3 ⊢
    rw [e1, e2] at s2
    rw [e1] at s1
    generalize hcs : m1 ++ m2 = cs at s3 ⊢
    have hcl : cs.length ≤ 126 := by rw [← hcs, List.length_append]; omega
    have s0 := (s1.trans s2).trans s3
    generalize hH3 : upd (upd (upd H p1 (.lst (m1.map V.int))) p2 (.lst (m2.map V.int))) c (.lst (cs.map V.int)) = H3 at s0 ⊢
    have hC : H3 c = some (.lst (cs.map V.int)) := by rw [← hH3]; exact upd_same
    refine ⟨.ref c, rfl, c, rfl, ⟨_, .inl (.inl hC)⟩, fun D nD => lc_list (xs := cs.map V.int) (fun i H4 => ∃ gs : List Int, Same H3 H4 ∧ H4 D = some (.lst (gs.map V.int)) ∧ gs.length ≤ i) ⟨[], same_new nD, upd_same, Nat.le_refl _⟩ (fun i H4 _ h => ?_) (fun i x H4 hx h => ?_) (fun H4 h => ?_)⟩
    · obtain ⟨gs, sm, _⟩ := h
      exact sm.seq (.inl (.inl hC))
    · obtain ⟨gs, sm, eD, hgl⟩ := h
      have hi := (List.getElem?_eq_some_iff.mp hx).1
      rw [List.length_map] at hi
      have ex : x = .int (at0 cs i) := Option.some.inj (hx.symm.trans (it0 hi))
      subst ex
      refine ⟨rfl, .int (at0 cs i), rfl, 10, 18, rfl, rfl, ⟨by decide, by decide, by decide⟩, at0 cs i, _, rfl, rfl, _, rfl, ?_⟩
      refine ite2 (fun e => ?_) (fun e => ?_)
      · refine ⟨_, rfl, gs.map V.int, eD, ?_, gs ++ [at0 cs i], fun b o e => ?_, ?_, ?_⟩
        · rw [List.length_map, sizeLine_eq]; omega
        · rw [upd_ne (ne_of_none e nD)]
          exact sm _ _ e
        · rw [upd_same, List.map_append]
          rfl
        · rw [List.length_append]
          exact Nat.add_le_add_right hgl 1
      · exact ⟨gs, sm, eD, by omega⟩
    · obtain ⟨gs, sm4, eG, hgl⟩ := h
      have hC4 : H4 c = some (.lst (cs.map V.int)) := sm4 _ _ hC
      refine ⟨.int k, rfl, _, _, rfl, rfl, ?_⟩
      refine ⟨.ref c, rfl, c, rfl, ⟨_, .inl (.inl hC4)⟩, for_list (xs := cs.map V.int) (fun i σ H5 => H5 = H4 ∧ ∃ (z : Option V) (sd : Int), σ = [some (.ref a), some (.int k), some (.ref c), z, some (.ref D), some (.int sd)] ∧ 0 ≤ sd ∧ sd < 2147483647)
        ⟨rfl, _, 71 + k, rfl, by omega, by omega⟩ (fun i σ H5 _ h => ?_) (fun i x σ H5 hx h => ?_) (fun σ H5 h => ?_)⟩
      · rw [h.1]; exact .inl (.inl hC4)
      · obtain ⟨rfl, z, sd, rfl, h0, h1⟩ := h
        have hi := (List.getElem?_eq_some_iff.mp hx).1
        rw [List.length_map] at hi
        have ex : x = .int (at0 cs i) := Option.some.inj (hx.symm.trans (it0 hi))
        subst ex
        refine ⟨.int sd, rfl, _, _, rfl, rfl, .inr ⟨by decide, by decide⟩, .int (at0 cs i), rfl, _, _, rfl, rfl, .inl ⟨_, rfl, _, _, rfl, rfl, (by decide : (0 : Int) < 2147483647), ?_⟩⟩
        exact ⟨rfl, _, _, rfl, Int.emod_nonneg _ (by decide), Int.emod_lt_of_pos _ (by decide)⟩
      · obtain ⟨rfl, z, sd, rfl, h0, h1⟩ := h
        refine fun d nd' => ?_
        have sd1 := same_new (o := .dK []) nd'
        refine ⟨.ref D, rfl, by decide, fun o no => ?_⟩
        have so := same_new (o := .lst []) no
        refine ne_lst (ns := gs) (ms := []) (.inl (.inl (so _ _ (sd1 _ _ eG)))) (sql_new (o := [])) ⟨_, rfl, ?_⟩
        have fin : ∀ (l : Int), tPairs [(tC (.str "seed"), tVar 5), (tC (.str "cells"), tOp rCat (tVar 2) (tLst (tCons (tOp (rI0 fun i j => .int (i + j)) (tOp (rI CMul fun i j => .int (i * j)) (tC (.int 53)) (tVar 1)) (tC (.int 11))) tNil))), (tC (.str "spot"), tC (.int 0))]
            [some (.ref a), some (.int k), some (.ref c), z, some (.ref D), some (.int sd)] (upd (upd H5 d (.dK [])) o (.lst [])) (fun ps H6 => H6 d = some (.dK []) ∧ ∃ kvs : List (Key × V), (V.str "left", V.int l) :: ps = kvs.map (fun kv => (kV kv.1, kv.2)) ∧ kvs.length ≤ 15 ∧ Q (.ref d) (upd H6 d (.dK (mergeK [] kvs)))) := by
          intro l
          have eC : (upd (upd H5 d (.dK [])) o (.lst [])) c = some (.lst (cs.map V.int)) := so _ _ (sd1 _ _ hC4)
          have eD : (upd (upd H5 d (.dK [])) o (.lst [])) d = some (.dK []) := so _ _ upd_same
          refine ⟨.int sd, rfl, .ref c, rfl, .int k, rfl, _, _, rfl, rfl, .inl ⟨by decide, by decide⟩, _, _, rfl, rfl, (by show 1 ≤ sizeLine; decide), fun y ny => ?_⟩
          have sy := same_new (o := .lst [V.int (53 * k + 11)]) ny
          refine ⟨c, y, _, _, rfl, rfl, sy _ _ eC, upd_same, ?_, fun p np => ?_⟩
          · rw [List.length_map, sizeLine_eq]
            show cs.length + 1 ≤ _
            omega
          have sp := same_new (o := .lst (cs.map V.int ++ [V.int (53 * k + 11)])) np
          have ndp : d ≠ p := ne_of_none (sy _ _ eD) np
          refine ⟨sp _ _ (sy _ _ eD), [(.inr "left", .int l), (.inr "seed", .int sd), (.inr "cells", .ref p), (.inr "spot", .int 0)], rfl, by show 4 ≤ 15; decide, ?_⟩
          rw [mS_made]
          have sall : Same H5 (upd (upd (upd (upd H5 d (.dK [])) o (.lst [])) y (.lst [V.int (53 * k + 11)])) p (.lst (cs.map V.int ++ [V.int (53 * k + 11)]))) := ((sd1.trans so).trans sy).trans sp
          have s05 : Same H H5 := s0.trans sm4
          refine q d p _ (fun b u e => ?_) (s05.free nd') ((s05.trans (sd1.trans (so.trans sy))).free np) ⟨l, sd, 0, cs ++ [53 * k + 11], upd_same, ?_, ndp.symm, by simp, by rw [List.length_append]; show cs.length + 1 ≤ 1000; omega, h0, h1, by decide, by decide⟩
          · rw [upd_ne (ne_of_none (s05 _ _ e) nd')]
            exact sall _ _ (s05 _ _ e)
          · rw [upd_ne ndp.symm, upd_same, List.map_append]
            rfl
        refine ite2 (fun e => ?_) (fun e => fin 0)
        have hg : gs ≠ [] := fun z => by
          rw [z] at e
          exact absurd e (by decide)
        refine ⟨.ref D, rfl, D, _, 0, .int (at0 gs 0), rfl, rfl, .inl (.inl (so _ _ (sd1 _ _ eG))), ix0 (i := 0) (List.length_pos_iff.mpr hg), fin _⟩
end

/-- what stands at the names of the text -/
structure Tx (K : PySem.W.Frag) (mg : Str → Option Value) : Prop where
  b : Bt mg
  t_law_begun : ∃ f fd, At K mg "_law_begun" S_law_begun ["script", "k"] f fd
  t_law_draw : ∃ f fd, At K mg "_law_draw" S_law_draw ["m", "below"] f fd
  t_law_of : ∃ f fd, At K mg "_law_of" S_law_of ["m", "some"] f fd
  t_law_subsets : ∃ f fd, At K mg "_law_subsets" S_law_subsets ["some"] f fd
  t_law_chain : ∃ f fd, At K mg "_law_chain" S_law_chain ["m", "size", "prime"] f fd
  t_law_boundary : ∃ f fd, At K mg "_law_boundary" S_law_boundary ["chain", "prime"] f fd
  t_signed_parts : ∃ f fd, At K mg "signed_parts" S_signed_parts ["face"] f fd
  t_residue : ∃ f fd, At K mg "residue" S_residue ["number", "prime"] f fd
  t_boundary : ∃ f fd, At K mg "boundary" S_boundary ["chain", "prime"] f fd
  t_is_cycle : ∃ f fd, At K mg "is_cycle" S_is_cycle ["chain", "prime"] f fd
  t_law_plus : ∃ f fd, At K mg "_law_plus" S_law_plus ["one", "other", "factor", "prime"] f fd
theorem at_all {P : Program} {w : World} {K : PySem.W.Frag} {mg : Str → Option Value} {base : Heap} {f : Addr} {fd : FuncData} (F : At K mg "law" S_law ["script"] f fd) (T : Tx K mg) : AtCaller P w K mg base f (spV ⟨K, mg, E0⟩ 1 F_law) := by
  obtain ⟨f_law_begun, d_law_begun, A_law_begun⟩ := T.t_law_begun
  obtain ⟨f_law_draw, d_law_draw, A_law_draw⟩ := T.t_law_draw
  obtain ⟨f_law_of, d_law_of, A_law_of⟩ := T.t_law_of
  obtain ⟨f_law_subsets, d_law_subsets, A_law_subsets⟩ := T.t_law_subsets
  obtain ⟨f_law_chain, d_law_chain, A_law_chain⟩ := T.t_law_chain
  obtain ⟨f_law_boundary, d_law_boundary, A_law_boundary⟩ := T.t_law_boundary
  obtain ⟨f_signed_parts, d_signed_parts, A_signed_parts⟩ := T.t_signed_parts
  obtain ⟨f_residue, d_residue, A_residue⟩ := T.t_residue
  obtain ⟨f_boundary, d_boundary, A_boundary⟩ := T.t_boundary
  obtain ⟨f_is_cycle, d_is_cycle, A_is_cycle⟩ := T.t_is_cycle
  obtain ⟨f_law_plus, d_law_plus, A_law_plus⟩ := T.t_law_plus
  have G_law_begun : FnOk P w K mg base CX0 1 f_law_begun d_law_begun ["script", "k"] (spV ⟨K, mg, E0⟩ 2 vBegun) := (ok_begun A_law_begun.fn T.b).imp fun vs H Q E h => sp_begun h
  have G_law_draw : FnOk P w K mg base CX0 1 f_law_draw d_law_draw ["m", "below"] (spV ⟨K, mg, E0⟩ 2 vDraw) := (ok_draw A_law_draw.fn T.b).imp fun vs H Q E h => sp_draw h
  have G_law_of := ok_law_of (P := P) (w := w) (base := base) A_law_of.fn T.b A_law_draw G_law_draw
  have G_law_subsets := ok_law_subsets (P := P) (w := w) (base := base) A_law_subsets.fn T.b 
  have G_law_chain := ok_law_chain (P := P) (w := w) (base := base) A_law_chain.fn T.b A_law_subsets G_law_subsets A_law_draw G_law_draw A_law_of G_law_of
  have G_law_boundary := ok_law_boundary (P := P) (w := w) (base := base) A_law_boundary.fn T.b 
  have G_signed_parts := ok_signed_parts (P := P) (w := w) (base := base) A_signed_parts.fn T.b 
  have G_residue := ok_residue (P := P) (w := w) (base := base) A_residue.fn T.b 
  have G_boundary := ok_boundary (P := P) (w := w) (base := base) A_boundary.fn T.b A_signed_parts G_signed_parts A_residue G_residue
  have G_is_cycle := ok_is_cycle (P := P) (w := w) (base := base) A_is_cycle.fn T.b A_boundary G_boundary
  have G_law_plus := ok_law_plus (P := P) (w := w) (base := base) A_law_plus.fn T.b 
  exact at_law F T.b A_law_begun G_law_begun A_law_draw G_law_draw A_law_of G_law_of A_law_chain G_law_chain A_law_boundary G_law_boundary A_boundary G_boundary A_is_cycle G_is_cycle A_law_plus G_law_plus
def spLaw (K : PySem.W.Frag) : Sp := fun vs H Q _ => ∃ (a : Addr) (ns : List Int), vs = [.ref a] ∧ SqL K H a (ns.map V.int) ∧ ns.length ≤ 63 ∧ ∀ H', Q (.bl true) H'
theorem at_mk {K : PySem.W.Frag} {h : Heap} {mg : Str → Option Value} (X : K.In h) (G : h.Ns mainGlobals mg) {x : Str} {st : Stmt} {ps : List Str} {f : Addr} {od an : Option Addr} {sl : Array (Option Value)} {oc kV dc pm cd ct : Value}
    (hb : ∀ (kV doc pm : Value) (an : Option Addr) (cdv ct : Value) (us : List Value), us.length = ps.length → bindArgs (PySem.W.fnOf x x (defArgs st) (defBody st) (defScope st) .none kV doc pm an cdv ct) ⟨us, []⟩ = pure (ps.zip us))
    (a : PySem.W.nsIn K mainGlobals x = some (some (.ref f))) (l : K.lookup f = some ⟨oc, od, .func (PySem.W.fnOf x x (defArgs st) (defBody st) (defScope st) .none kV dc pm an cd ct), sl⟩) (c : PySem.W.codeIn K cd x = true) (k : PySem.W.keepIn K (.ref f) = true) :
    ∃ f fd, At K mg x st ps f fd :=
  ⟨f, _, fun_mk l c k, (fun_mk l c k).binds hb, PySem.W.mg_of X G a⟩
theorem all_mk {l : PySem.W.OpenLaw} {w : World} {K : PySem.W.Frag} {h : Heap} {mg : Str → Option Value} {fa : Addr} (X : K.In h) (G : h.Ns mainGlobals mg) (hfa : mg "law" = some (.ref fa)) (T : Tx K mg) (L : ∃ f fd, At K mg "law" S_law ["script"] f fd) :
    ∀ base : Heap, K.In base → base.Ns mainGlobals mg → AtCaller l.prog w K mg base fa (spLaw K) := fun base _ _ => by
  obtain ⟨f, fd, F⟩ := L
  have e := hfa.symm.trans F.gl
  cases e
  intro s H u v Q E e0 rv h
  obtain ⟨a, ns, h1, hS, hl, q⟩ := h
  cases h1
  exact at_all F T s H u _ Q E e0 rv (sp_law law_run hl hS q)
end JN

set_option maxRecDepth 100000
set_option maxHeartbeats 8000000
open PySem PySem.W PyProof.Rows
set_option maxHeartbeats 0 in
theorem PySem.Challenge.cw_jointneeds_k37_chains_and_boundaries_holds : PySem.Challenge.rw_jointneeds_k37_chains_and_boundaries.Holds := by
  w_on; o_law; k_head; (case hw => w_witness2)
  k_fill
  refine JN.walk_at (l := PySem.Challenge.rw_jointneeds_k37_chains_and_boundaries) (n := 63) (sp := fun w => JN.spLaw _) rfl (by decide) rfl (fun w h Y => PySem.W.kIn_of Y) ?F (fun _ _ a ns hl _ hS => ⟨a, ns, rfl, hS, hl, fun _ => rfl⟩)
  case F =>
    intro w mg fa h KX G hmg
    have none : ∀ {x : Str}, PySem.W.nsIn _ mainGlobals x = some none → mg x = none := fun e => PySem.W.mg_none_of KX G e
    refine' JN.all_mk KX G hmg ?T ?tL
    case T =>
      refine' ⟨⟨none ?z0, none ?z1, none ?z2, none ?z3, none ?z4, none ?z5, none ?z6, none ?z7, none ?z8, none ?z9, none ?z10, none ?z11, none ?z12, none ?z13, none ?z14, none ?z15, none ?z16, none ?z17⟩, ?t0, ?t1, ?t2, ?t3, ?t4, ?t5, ?t6, ?t7, ?t8, ?t9, ?t10⟩
      case t0 => refine' JN.at_mk KX G (fun _ _ _ _ _ _ us hl => match us, hl with | [_, _], _ => rfl) ?a0 ?l0 ?c0 ?k0; (case a0 => k_is); (case l0 => k_is); (case c0 => k_is); (case k0 => k_is)
      case t1 => refine' JN.at_mk KX G (fun _ _ _ _ _ _ us hl => match us, hl with | [_, _], _ => rfl) ?a1 ?l1 ?c1 ?k1; (case a1 => k_is); (case l1 => k_is); (case c1 => k_is); (case k1 => k_is)
      case t2 => refine' JN.at_mk KX G (fun _ _ _ _ _ _ us hl => match us, hl with | [_, _], _ => rfl) ?a2 ?l2 ?c2 ?k2; (case a2 => k_is); (case l2 => k_is); (case c2 => k_is); (case k2 => k_is)
      case t3 => refine' JN.at_mk KX G (fun _ _ _ _ _ _ us hl => match us, hl with | [_], _ => rfl) ?a3 ?l3 ?c3 ?k3; (case a3 => k_is); (case l3 => k_is); (case c3 => k_is); (case k3 => k_is)
      case t4 => refine' JN.at_mk KX G (fun _ _ _ _ _ _ us hl => match us, hl with | [_, _, _], _ => rfl) ?a4 ?l4 ?c4 ?k4; (case a4 => k_is); (case l4 => k_is); (case c4 => k_is); (case k4 => k_is)
      case t5 => refine' JN.at_mk KX G (fun _ _ _ _ _ _ us hl => match us, hl with | [_, _], _ => rfl) ?a5 ?l5 ?c5 ?k5; (case a5 => k_is); (case l5 => k_is); (case c5 => k_is); (case k5 => k_is)
      case t6 => refine' JN.at_mk KX G (fun _ _ _ _ _ _ us hl => match us, hl with | [_], _ => rfl) ?a6 ?l6 ?c6 ?k6; (case a6 => k_is); (case l6 => k_is); (case c6 => k_is); (case k6 => k_is)
      case t7 => refine' JN.at_mk KX G (fun _ _ _ _ _ _ us hl => match us, hl with | [_, _], _ => rfl) ?a7 ?l7 ?c7 ?k7; (case a7 => k_is); (case l7 => k_is); (case c7 => k_is); (case k7 => k_is)
      case t8 => refine' JN.at_mk KX G (fun _ _ _ _ _ _ us hl => match us, hl with | [_, _], _ => rfl) ?a8 ?l8 ?c8 ?k8; (case a8 => k_is); (case l8 => k_is); (case c8 => k_is); (case k8 => k_is)
      case t9 => refine' JN.at_mk KX G (fun _ _ _ _ _ _ us hl => match us, hl with | [_, _], _ => rfl) ?a9 ?l9 ?c9 ?k9; (case a9 => k_is); (case l9 => k_is); (case c9 => k_is); (case k9 => k_is)
      case t10 => refine' JN.at_mk KX G (fun _ _ _ _ _ _ us hl => match us, hl with | [_, _, _, _], _ => rfl) ?a10 ?l10 ?c10 ?k10; (case a10 => k_is); (case l10 => k_is); (case c10 => k_is); (case k10 => k_is)
      (case z0 => k_is); (case z1 => k_is); (case z2 => k_is); (case z3 => k_is); (case z4 => k_is); (case z5 => k_is); (case z6 => k_is); (case z7 => k_is); (case z8 => k_is); (case z9 => k_is); (case z10 => k_is); (case z11 => k_is); (case z12 => k_is); (case z13 => k_is); (case z14 => k_is); (case z15 => k_is); (case z16 => k_is); (case z17 => k_is)
    case tL => refine' JN.at_mk KX G (fun _ _ _ _ _ _ us hl => match us, hl with | [_], _ => rfl) ?aL ?lL ?cL ?kL; (case aL => k_is); (case lL => k_is); (case cL => k_is); (case kL => k_is)

