import PyProof.Rows.All
import Wide.All
import OpenK.AllK
import Wide.FinOn
import HandS.ForMost
import HandS.Zip
import HandS.Walk
import HandS.TupMul
import HandS.IsInst
import HandS.Flow
import KE.GoesEnum
import HandS.TupSets
import HandS.TupAny
import HandS.Style
import HandS.Sort
import HandS.ForExc
import HandS.ExcInit
import HandS.FStr
import KE.KExcSuper
import KE.KExcIs
import HandS.ExcValue
import HandS.ExcIs
import HandS.ExcField
import HandS.CallSlots
import PySem.Challenge.RW_jointneeds_k02_whole_what_is_generated
set_option Elab.async false
set_option linter.all false
set_option maxRecDepth 100000
set_option maxHeartbeats 4000000
namespace JN
open PySem PySem.Spec PyProof.Rows L2
/-! a tuple walked by enumerate -/
def IteT (K : PySem.W.Frag) (a : Addr) : It where
  go := fun i H => ∃ (xs : List V) (x : V), SqT K H a xs ∧ xs[i]? = some x
  yld := fun i H v H' => ∃ T x, v = .ref T ∧ H T = none ∧ H' = upd H T (.tup [.int (i : Nat), x]) ∧ ∀ xs, SqT K H a xs → xs[i]? = some x
  stop := fun i H => ∃ xs : List V, SqT K H a xs ∧ xs.length ≤ i
theorem ne_by_cls {h : Heap} {a b : Addr} {o p : Obj} (ho : h.get? a = some o) (hp : h.get? b = some p) (n : o.cls ≠ p.cls) : a ≠ b := fun e => by
  subst e
  rw [ho] at hp
  cases hp
  exact n rfl
theorem turn_enumT {P : Program} {w : World} {K : PySem.W.Frag} {elts : List Expr} {kk : Nat} {tpos : Pos} (a e it : Addr) :
    Turn P w K (.Tuple elts kk tpos) (IteT K a) [e, it] e (fun i h => (∃ old, IsEnum h e it ((i : Nat) : Int) old) ∧ h.IsTupleIter it a i ∧ e ≠ it) where
  mem := by simp
  obj := fun i h st b hb => by
    obtain ⟨⟨old, he⟩, ⟨o, ho, hc, hd⟩, _⟩ := st
    rcases (show b = e ∨ b = it by simpa using hb) with rfl | rfl
    · exact ⟨_, he, fun v q => nomatch q⟩
    · exact ⟨o, ho, fun v q => by rw [hd] at q; cases q⟩
  keep := fun i h h' st k => ⟨let ⟨old, he⟩ := st.1; ⟨old, k e (by simp) _ he⟩, st.2.1.at fun o q => k it (by simp) o q, st.2.2⟩
  item := by
    intro X hP hw hK hc i pins s σ H E I hf st hg
    subst hP hw hK
    obtain ⟨⟨old, he⟩, hit, hne⟩ := st
    obtain ⟨xs, x, hq, hx⟩ := hg
    obtain ⟨its, rv, p, hz⟩ := I.tuple hq
    obtain ⟨u, hu, ru⟩ := rv.get hx
    have pt : s.heap.IsTuple a its.toArray := p
    have hel : e < s.heap.objs.size := Heap.lt_size he
    have hil : it < s.heap.objs.size := by obtain ⟨_, q, _⟩ := hit; exact Heap.lt_size q
    have hai : a ≠ it := by
      obtain ⟨o1, e1, c1, _⟩ := id pt
      obtain ⟨o2, e2, c2, _⟩ := id hit
      exact ne_by_cls e1 e2 (by rw [c1, c2]; decide)
    have hea : e ≠ a := by
      obtain ⟨o1, e1, c1, _⟩ := id pt
      exact ne_by_cls he e1 (by rw [c1]; show Value.type "enumerate" ≠ Value.type "tuple"; decide)
    have hlt : i < its.toArray.size := by
      have := (List.getElem?_eq_some_iff.mp hu).1
      simpa using this
    have D : Draws X.prog X.w X.A.in1 it [it, a] its.toArray.size (fun i v => its.toArray[i]? = some v) (fun i h => h.IsTupleIter it a i ∧ h.IsTuple a its.toArray) :=
      Draws.tuple (show X.A.in1.handled = none from I.ok.hd hc) it a hai its.toArray
    refine wpAny_pyNext_enum_itemD D he ⟨hit, pt⟩ hlt hne (by simp [hne, hea]) fun y h' tk hy ho hst' hT hsz hk => ?_
    have ey : y = u := by
      have q : its.toArray[i]? = some u := by simpa using hu
      rw [q] at hy
      exact (Option.some.inj hy).symm
    subst ey
    refine ⟨_, rfl, wpAny_letOwnedTupleGo_enum (s := { s with heap := h', toks := tk + 1 }) ho fun h'' he' sb => ?_⟩
    have hT2 : h''.get? s.heap.objs.size = some { cls := .type "tuple", data := .seq #[.int i tk, y] } := (sb.2 _ (Nat.ne_of_gt hel)).trans hT
    have new : ObjOk X.prog X.w (upd H s.heap.objs.size (.tup [.int (i : Nat), x])) h'' s.heap.objs.size (.tup [.int (i : Nat), x]) :=
      ⟨by show 2 ≤ sizeLine; decide, [.int i tk, y], .cons ⟨_, rfl⟩ (.cons ru .nil), ⟨_, hT2, rfl, _, rfl⟩⟩
    have I1 : Inv X pins σ (upd H s.heap.objs.size (.tup [.int (i : Nat), x])) { s with heap := h'', toks := tk + 1 } :=
      I.turnedNew (ch := [e, it]) (fun b ob hb q => (sb.2 b (fun z => hb (by simp [z]))).trans (hk b ob (fun z => hb (by simp [z])) (fun z => hb (by simp [z])) q)) hf (Nat.le_refl _) new
    refine ⟨.ref s.heap.objs.size, _, I1, rfl, ⟨_, x, rfl, I.hok.fresh (Nat.le_refl _), rfl, fun ys hy => by rw [I.tuple_inj hy hq]; exact hx⟩, ⟨⟨y, ?_⟩, hst'.1.at fun o q => (sb.2 it (Ne.symm hne)).trans q, hne⟩, fun b hb => ?_⟩
    · rw [show ((i + 1 : Nat) : Int) = (i : Int) + 1 by omega]
      exact he'
    · have hb' : b < s.heap.objs.size := by
        rcases (show b = e ∨ b = it by simpa using hb) with rfl | rfl
        · exact hel
        · exact hil
      rw [upd_ne (Nat.ne_of_lt hb')]
      exact (hf b hb).1
  done := by
    intro X hP hw hK hc i pins s σ H E I hf st hg
    subst hP hw hK
    obtain ⟨⟨old, he⟩, hit, hne⟩ := st
    obtain ⟨xs, hq, hx⟩ := hg
    obtain ⟨its, rv, p, hz⟩ := I.tuple hq
    have pt : s.heap.IsTuple a its.toArray := p
    have hh : X.A.in1.handled = none := I.ok.hd hc
    obtain ⟨f0, f1, f2, f3, f4, f5⟩ := hf it (by simp)
    have hl := rv.length
    have hT : s.TypeIs (.ref e) "enumerate" := ⟨_, he, rfl⟩
    unfold pyNext
    refine wpAny_bind (wpAny_attempt (wpAny_callSpecial?_slot (name := Str.ofString "__next__") hT F.slot_enumerate_next
      (wpAny_call_entry F.slot_enumerate_next hT F.entry_enumerate_next ?_ (F.args_enumerate_next_1 _))))
    show wpAny _ _ (field (.ref e) 2 >>= _) _ _ _
    refine wpAny_bind (wpAny_field he rfl (x := .ref it) rfl ?_)
    refine wpAny_bind (wpAny_nextOf_tuple_end hh hit pt (by simp; omega) fun h' x he' hx' => ?_)
    obtain ⟨o, ho, hc'⟩ := hx'
    refine wpAny_bind (wpAny_isInstance (T := "StopIteration") (b := true) ⟨o, ho, hc'⟩ isSubtype_stop ?_)
    exact wpAny_pure ⟨rfl, I.turned (t' := s.toks) (fun b o hb q => he' b o hb q) f0 f1 f3 f4 f5⟩
  self := fun A i s Q E st h => let ⟨⟨_, he⟩, _⟩ := st; wpAny_pyIter_enum he h
theorem new_enum1 {v : Value} {o : Obj} {H : Heap → Prop} (B : Begins v o H) :
    Meets (Builtin.«enumerate.__new__» ⟨[.type "enumerate", v], []⟩) (fun _ R s => H s.heap ∧
      R (.ok (.ret (.ref (s.heap.push o).objs.size))) { s with heap := (s.heap.push o).push { cls := .type "enumerate", data := .fields #[.none, .bool false, .ref s.heap.objs.size, rawInt 0, .none, .none] } }) :=
  .of_wp fun prog w A R s h => by
    obtain ⟨hp, g, d, tk, os⟩ := s; obtain ⟨h1, h⟩ := h
    have hsub := sub_enumerate
    have q1 : ∀ {A' : Around} {E : Value → Shared → Prop} {Q : Value → Shared → Prop}, Q (.ref hp.objs.size) ⟨hp.push o, g, d, tk, os⟩ → wpAny (model prog w) A' (pyIter v) Q E ⟨hp, g, d, tk, os⟩ :=
      fun q => B.iter prog w _ _ ⟨hp, g, d, tk, os⟩ _ h1 q
    wp_walk using q1
    refine wpAny_stack_any fun st => wpAny_pure ?_
    split
    · rename_i c _ _ _ _ _
      cases (c == Value.type "enumerate")
      · wp_walk using q1
        exact ⟨_, rfl, h⟩
      · wp_walk using q1
        exact ⟨_, rfl, h⟩
    · wp_walk using q1
      exact ⟨_, rfl, h⟩
theorem call_enum1 {prog : Program} {w : World} {A : Around} {E : Value → Shared → Prop} {s : Shared} {v : Value} {o : Obj} {H : Heap → Prop} {Q : Value → Shared → Prop} (B : Begins v o H) (h1 : H s.heap)
    (h : ∀ h', IsEnum h' (s.heap.objs.size + 1) s.heap.objs.size 0 .none → h'.get? s.heap.objs.size = some o → h'.objs.size = s.heap.objs.size + 2 →
      (∀ b o, s.heap.get? b = some o → h'.get? b = some o) → Q (.ref (s.heap.objs.size + 1)) { s with heap := h' }) :
    wpAny (model prog w) A (call (.type "enumerate") [v]) Q E s := by
  refine callType_new F.called_enumerate (by decide) (F.typeCall_enumerate_1 _) (F.newCall_enumerate_1 _) (fun obj => F.args_object_init_2 obj _) F.entry_enumerate_new (new_enum1 B) ⟨h1, ?_⟩
  have hz : (s.heap.push o).objs.size = s.heap.objs.size + 1 := Heap.size_push ..
  show _ ∧ _
  rw [hz]
  have he : IsEnum ((s.heap.push o).push { cls := .type "enumerate", data := .fields #[.none, .bool false, .ref s.heap.objs.size, rawInt 0, .none, .none] }) (s.heap.objs.size + 1) s.heap.objs.size 0 .none := by
    have := Heap.get?_push_size (s.heap.push o) (o := { cls := .type "enumerate", data := .fields #[.none, .bool false, .ref s.heap.objs.size, rawInt 0, .none, .none] }) rfl
    rw [hz] at this; exact this
  refine ⟨⟨_, he, rfl⟩, h _ he (Heap.get?_push_of_some _ (Heap.get?_push_size _ B.free)) (by rw [Heap.size_push, hz]) fun b o x => Heap.get?_push_of_some _ (Heap.get?_push_of_some _ x)⟩
def iEnumT (K : PySem.W.Frag) (ta : TA) : TI := fun σ H R => ta σ H fun vs H1 => ∃ a xs, vs = [.ref a] ∧ SqT K H1 a xs ∧ R (IteT K a) H1
theorem pi_enumT {X : Cx} {e : Expr} {ta : TA} {p pos tpos : Pos} {elts : List Expr} {kk : Nat} (hg : Gl X "enumerate") (hm : X.mg "enumerate" = none) (ha : PA X [e] ta) (hs : starEach [e] X.env = [(false, eval e X.env)] := by rfl) :
    PI X (.Tuple elts kk tpos) (.Call (.Name "enumerate" p) [e] [] pos) (iEnumT X.K ta) := by
  refine ⟨fun pins s σ H R I h => ?_⟩
  refine Call_ (ld_blt I hg hm boot_enumerate (PyProof.Rows.callWith_type1 (thn (ha.run pos pins s σ H _ I h) fun us s1 ⟨vs, H1, I1, r1, q1⟩ => ?_) hs rfl))
  obtain ⟨a, xs, ex, hq, q⟩ := q1
  subst ex
  cases r1 with
  | cons r rr =>
    cases rr
    cases r
    obtain ⟨its, rv, p', hz⟩ := I1.tuple hq
    refine call_enum1 (begins_tuple a its.toArray) p' fun h' he hit hsz hk => wpAny_pyIter_enum he ?_
    have I2 : Inv X pins σ H1 { s1 with heap := h' } := I1.kept (t' := s1.toks) hk
    refine ⟨s1.heap.objs.size + 1, [s1.heap.objs.size + 1, s1.heap.objs.size], _, _, H1, rfl, I2, turn_enumT a (s1.heap.objs.size + 1) s1.heap.objs.size, ⟨⟨.none, he⟩, ⟨_, hit, rfl, rfl⟩, Nat.succ_ne_self _⟩, fun b hb => ?_, q⟩
    have hle : s1.heap.objs.size ≤ b := by
      rcases (show b = s1.heap.objs.size + 1 ∨ b = s1.heap.objs.size by simpa using hb) with z | z
      · rw [z]; exact Nat.le_add_right _ _
      · rw [z]; exact Nat.le_refl _
    exact I1.fpOk hle (I1.hok.fresh hle)
theorem walk_enumT {K : PySem.W.Frag} {a : Addr} {xs : List V} : Walk (IteT K a) xs.length (fun H => SqT K H a xs) (YPair (fun i => some (.int (i : Nat))) (fun i => xs[i]?)) := by
  refine ⟨fun i _ hi q => ⟨xs, xs[i], q, by simp [hi]⟩, fun _ q => ⟨xs, q, Nat.le_refl _⟩, fun i H v H' _ q y => ?_⟩
  obtain ⟨T, x, h1, h2, h3, h4⟩ := y
  exact ⟨T, .int (i : Nat), x, h1, h2, h3, rfl, h4 xs q⟩
theorem walk_zipT {K : PySem.W.Frag} {a b : Addr} {xs ys : List V} {n : Nat} (hn : n = min xs.length ys.length) : Walk (RZ.ItzT K a b) n (fun H => SqT K H a xs ∧ SqT K H b ys) (YPair (fun i => xs[i]?) (fun i => ys[i]?)) := by
  subst hn
  refine ⟨fun i _ hi q => ?_, fun _ q => ⟨xs, ys, q.1, q.2, by omega⟩, fun i H v H' _ q y => ?_⟩
  · have h1 : i < xs.length := by omega
    have h2 : i < ys.length := by omega
    exact ⟨xs, ys, xs[i], ys[i], q.1, q.2, by simp [h1], by simp [h2]⟩
  · obtain ⟨T, x, z, h1, h2, h3, h4, h5⟩ := y
    exact ⟨T, x, z, h1, h2, h3, h4 xs q.1, h5 ys q.2⟩
/-! sum of a tuple of ints -/
theorem sum_tup {prog : Program} {w : World} {A : Around} {E : Value → Shared → Prop} {s : Shared} {l : Addr} {its : List Value} {ns : List Int} {Q : Value → Shared → Prop} (hh : A.handled = none) (hl : s.heap.IsTuple l its.toArray) (hi : IntsAre its ns)
    (h : ∀ h' tk t', (∀ b o, s.heap.get? b = some o → h'.get? b = some o) → Q (.int ns.sum t') { s with heap := h', toks := tk }) : wpAny (model prog w) A (call (.builtin "sum") [.ref l]) Q E s := by
  obtain ⟨xs, e⟩ := hi.allInts.items
  have hn : numsOf (intItems xs).toList = ns := by rw [← e]; exact hi.numsOf
  rw [nums_intItems] at hn
  rw [e] at hl
  have hlz : l < s.heap.objs.size := by obtain ⟨_, q, _⟩ := id hl; exact Heap.lt_size q
  have kp : ∀ b o, s.heap.get? b = some o → (s.heap.push { cls := .type "tuple_iterator", data := .fields #[.ref l, .int 0 0] }).get? b = some o := fun b o q => Heap.get?_push_of_some _ q
  refine call_sum_walkG (wpAny_pyIter_tuple hl ?_)
  refine ⟨s.heap.objs.size, [s.heap.objs.size, l], [s.heap.objs.size], (intItems xs).size, _, _, numAt xs, rfl, Walks.tuple (A := A.in1) hh s.heap.objs.size l (Nat.ne_of_lt hlz) (intItems xs),
    ⟨⟨_, Heap.get?_push_size _ rfl, rfl, rfl⟩, hl.at fun o q => kp l o q⟩, fun b hb => ?_, fun _ _ => intItems_at, fun h' tk t' hk => ?_⟩
  · rw [Heap.size_push]
    rcases (show b = s.heap.objs.size ∨ b = l by simpa using hb) with rfl | rfl
    · exact Nat.lt_succ_self _
    · exact Nat.lt_succ_of_lt hlz
  · have := h h' tk t' fun b o q => hk b o (by
      have : b < s.heap.objs.size := Heap.lt_size q
      simp only [List.mem_singleton]
      exact Nat.ne_of_lt this) (kp b o q)
    have ez : (intItems xs).size = xs.size := by simp [intItems]
    rw [ez, preSum_eq, List.take_of_length_le (by simp), hn]
    exact this
def rSumT (K : PySem.W.Frag) : List V → Hp → VK → Prop := fun vs H Q => ∃ (a : Addr) (ns : List Int), vs = [V.ref a] ∧ SqT K H a (ns.map V.int) ∧ Q (.int ns.sum) H
theorem cr_sumT {X : Cx} (hc : X.calm = true) : CallR X (.builtin "sum") (rSumT X.K) := by
  intro pins s σ H vs us Q I r h
  obtain ⟨a, ns, rfl, hs, q⟩ := h
  obtain ⟨its, rv, hl, _⟩ := I.tuple hs
  rw [Vals.ref1 r]
  exact sum_tup (I.ok.hd hc) hl rv.ints fun h' tk t' hk => ⟨.int _, H, I.kept hk, ⟨_, rfl⟩, q⟩
/-! a tuple times 1 -/
theorem tuple_mul1 (l : Addr) (items : Array Value) (n : Nat) (dd : Option Addr) (sl : Array (Option Value)) (u : Tok) :
    Meets (Builtin.«tuple.__mul__» ⟨[.ref l, .int 1 u], []⟩) (fun _ R s => s.heap.get? l = some { cls := .type "tuple", dict := dd, data := .seq items n, slots := sl } ∧ R (.ok (.ret (.ref l))) s) :=
  .of_wp fun prog w A R s h => by
    obtain ⟨hp, g, d, tk, os⟩ := s
    obtain ⟨hl, h⟩ := h
    have f1 := AutoSeq1.idx_int
    wp_walk using wpAny_loadPart' hl
    repeat (first
      | (refine wpAny_ite_false (decide_eq_false (by decide)) ?_; wp_walk using wpAny_loadPart' hl)
      | (refine wpAny_ite_true (decide_eq_true (by simp)) ?_; wp_walk using wpAny_loadPart' hl))
    exact ⟨_, rfl, h⟩
def rRep1 (K : PySem.W.Frag) : R2 := fun x y H Q => ∃ l xs, x = .ref l ∧ y = .int 1 ∧ SqT K H l xs ∧ Q (.ref l) H
theorem op_rep1 {X : Cx} : OpR X (binaryOp .Mult) (rRep1 X.K) := by
  intro pins s σ H x y v u Q I rx ry h
  obtain ⟨l, xs, rfl, rfl, hT, q⟩ := h
  cases rx
  obtain ⟨t, rfl⟩ := ry
  obtain ⟨its, r, ⟨⟨cls, dd, data, sl⟩, ho, hc, n, hd⟩, hs⟩ := I.tuple hT
  simp only at hc hd
  subst hc hd
  refine wpAny_binaryOp_repeat_ref (T := "tuple") (U := "int") (by decide) ⟨_, ho, rfl⟩ (fun s' => typeIs_int s' 1 t) noFill_tuple_mul F.fills_int_mul F.slot_int_rmul repeat_tuple F.slot_int_index.lookup
    (call_meets F.slot_int_rmul (typeIs_int s 1 t) F.entry_int_rmul (F.args_int_rmul_2 _ _) (int_rmul_tuple 1 t l its.toArray n dd sl)
      ⟨ho, rfl, ⟨_, ho, rfl⟩, call_meets F.slot_tuple_mul ⟨_, ho, rfl⟩ F.entry_tuple_mul (F.args_tuple_mul_2 _ _) (tuple_mul1 l its.toArray n dd sl t) ⟨ho, ?_⟩⟩)
  exact ⟨.ref l, H, I, rfl, q⟩
/-- a tuple times k, k at least 1 -/
def rRepA (K : PySem.W.Frag) : R2 := fun x y H Q => rRepT K x y H Q ∨ rRep1 K x y H Q
theorem op_repA {X : Cx} : OpR X (binaryOp .Mult) (rRepA X.K) := op_repT.or op_rep1
/-- (z,) * n -/
theorem rep_one {K : PySem.W.Frag} {H : Hp} {l : Addr} {z : V} {n : Nat} {Q : VK} (h1 : 1 ≤ n) (h2 : n ≤ 1000) (hl : H l = some (.tup [z]))
    (q : ∀ p H', Same H H' → H' p = some (.tup (List.replicate n z)) → Q (.ref p) H') : rRepA K (.ref l) (.int (n : Int)) H Q := by
  by_cases e : n = 1
  · subst e
    exact .inr ⟨l, [z], rfl, rfl, .inl (.inl hl), q l H (Same.refl H) hl⟩
  · refine .inl ⟨l, n, [z], rfl, rfl, .inl (.inl hl), by simp, by omega, by omega, by simp, fun p np => q p _ (fun b o e => ?_) ?_⟩
    · rw [upd_ne (ne_of_none e np)]
      exact e
    · rw [upd_same, Int.toNat_natCast]
      congr 2
      exact List.flatten_replicate_singleton
end JN

namespace JN
/-! ### lists of ints, place by place -/
def mxI (x y : Int) : Int := if y > x then y else x
def mnI (x y : Int) : Int := if y < x then y else x
def ctI (x y : Int) : Int := if 0 > x - y then 0 else x - y
abbrev at0 (l : List Int) (i : Nat) : Int := l.getD i 0
theorem at0_get {l : List Int} {i : Nat} (h : i < l.length) : l[i]? = some (at0 l i) := by
  rw [List.getElem?_eq_getElem h, at0, List.getD_eq_getElem?_getD, List.getElem?_eq_getElem h]
  rfl
theorem ext0 {l m : List Int} (hl : l.length = m.length) (h : ∀ i, i < l.length → at0 l i = at0 m i) : l = m := by
  apply List.ext_getElem hl
  intro i h1 h2
  have := h i h1
  have a := at0_get h1
  have b := at0_get h2
  rw [List.getElem?_eq_getElem h1] at a
  rw [List.getElem?_eq_getElem h2] at b
  rw [Option.some.inj a, Option.some.inj b, this]
theorem zw_len {g : Int → Int → Int} {l m : List Int} (hl : l.length = m.length) : (List.zipWith g l m).length = l.length := by
  rw [List.length_zipWith]; omega
theorem zw_at {g : Int → Int → Int} {l m : List Int} {i : Nat} (h1 : i < l.length) (h2 : i < m.length) : at0 (List.zipWith g l m) i = g (at0 l i) (at0 m i) := by
  have a := at0_get h1
  have b := at0_get h2
  rw [at0, List.getD_eq_getElem?_getD, List.getElem?_zipWith, a, b]
  rfl
theorem eq_iff0 {l m : List Int} (hl : l.length = m.length) : l = m ↔ ∀ i, i < l.length → at0 l i = at0 m i :=
  ⟨fun e i _ => by rw [e], ext0 hl⟩
/-- a divides b -/
def dvdI (l m : List Int) : Bool := (List.zipWith (fun x y => decide (x ≤ y)) l m).all id
theorem dvdI_iff : ∀ {l m : List Int}, l.length = m.length → (dvdI l m = true ↔ ∀ i, i < l.length → at0 l i ≤ at0 m i)
  | [], [], _ => by simp [dvdI]
  | a :: l, [], h => by simp at h
  | [], b :: m, h => by simp at h
  | a :: l, b :: m, h => by
    have hl : l.length = m.length := by simpa using h
    have ih := dvdI_iff hl
    constructor
    · intro hd i hi
      simp only [dvdI, List.zipWith_cons_cons, List.all_cons, Bool.and_eq_true, id, decide_eq_true_eq] at hd
      cases i with
      | zero => exact hd.1
      | succ i =>
        have := ih.mp hd.2 i (by simpa using hi)
        simpa [at0] using this
    · intro hd
      simp only [dvdI, List.zipWith_cons_cons, List.all_cons, Bool.and_eq_true, id, decide_eq_true_eq]
      refine ⟨by simpa [at0] using hd 0 (by simp), ih.mpr fun i hi => ?_⟩
      have := hd (i + 1) (by simpa using hi)
      simpa [at0] using this
/-- the places below n that p tells, as ints -/
def selI (p : Nat → Bool) (n : Nat) : List Int := (List.range n).filterMap fun i => if p i then some (i : Int) else none
theorem selI_nil {p : Nat → Bool} {n : Nat} : selI p n = [] ↔ ∀ i, i < n → p i = false := by
  unfold selI
  rw [List.filterMap_eq_nil_iff]
  constructor
  · intro h i hi
    have := h i (List.mem_range.mpr hi)
    cases hp : p i with
    | false => rfl
    | true => rw [hp] at this; simp at this
  · intro h i hi
    rw [h i (List.mem_range.mp hi)]
    rfl
theorem fm_congr {α β : Type} {f g : α → Option β} : ∀ {l : List α}, (∀ x ∈ l, f x = g x) → l.filterMap f = l.filterMap g
  | [], _ => rfl
  | a :: l, h => by
    have e := fm_congr fun x hx => h x (List.mem_cons_of_mem a hx)
    rw [List.filterMap_cons, List.filterMap_cons, h a List.mem_cons_self, e]
theorem selI_congr {p q : Nat → Bool} {n : Nat} (h : ∀ i, i < n → p i = q i) : selI p n = selI q n := by
  unfold selI
  exact fm_congr fun i hi => by rw [h i (List.mem_range.mp hi)]
theorem dvd_sel {l m : List Int} {n : Nat} (h1 : l.length = n) (h2 : m.length = n) : decide (selI (fun j => decide (at0 m j < at0 l j)) n = []) = dvdI l m := by
  rw [Bool.eq_iff_iff, decide_eq_true_iff, selI_nil, dvdI_iff (h1.trans h2.symm), h1]
  constructor
  · intro h i hi
    have := of_decide_eq_false (h i hi)
    omega
  · intro h i hi
    have := h i hi
    exact decide_eq_false (by omega)
theorem dvd_lcm {l m : List Int} (h : l.length = m.length) : decide (List.zipWith mxI l m = m) = dvdI l m := by
  rw [Bool.eq_iff_iff, decide_eq_true_iff, dvdI_iff h, eq_iff0 ((zw_len h).trans h), zw_len h]
  constructor
  · intro e i hi
    have := e i hi
    rw [zw_at hi (h ▸ hi), mxI] at this
    split at this <;> omega
  · intro e i hi
    have := e i hi
    rw [zw_at hi (h ▸ hi), mxI]
    split <;> omega
theorem dvd_gcd {l m : List Int} (h : l.length = m.length) : decide (List.zipWith mnI l m = l) = dvdI l m := by
  rw [Bool.eq_iff_iff, decide_eq_true_iff, dvdI_iff h, eq_iff0 (zw_len h), zw_len h]
  constructor
  · intro e i hi
    have := e i hi
    rw [zw_at hi (h ▸ hi), mnI] at this
    split at this <;> omega
  · intro e i hi
    have := e i hi
    rw [zw_at hi (h ▸ hi), mnI]
    split <;> omega
theorem rep_at {n i : Nat} {z : Int} (h : i < n) : at0 (List.replicate n z) i = z := by
  rw [at0, List.getD_eq_getElem?_getD, List.getElem?_replicate, if_pos h]
  rfl
theorem dvd_cut {l m : List Int} (h : l.length = m.length) : decide (List.zipWith ctI l m = List.replicate l.length 0) = dvdI l m := by
  rw [Bool.eq_iff_iff, decide_eq_true_iff, dvdI_iff h, eq_iff0 ((zw_len h).trans List.length_replicate.symm), zw_len h]
  constructor
  · intro e i hi
    have := e i hi
    rw [zw_at hi (h ▸ hi), ctI, rep_at hi] at this
    split at this <;> omega
  · intro e i hi
    have := e i hi
    rw [zw_at hi (h ▸ hi), ctI, rep_at hi]
    split <;> omega
theorem zw_comm {g : Int → Int → Int} (hg : ∀ x y, g x y = g y x) {l m : List Int} (h : l.length = m.length) : List.zipWith g l m = List.zipWith g m l := by
  refine ext0 ((zw_len h).trans (h.trans (zw_len h.symm).symm)) fun i hi => ?_
  rw [zw_len h] at hi
  rw [zw_at hi (h ▸ hi), zw_at (h ▸ hi) hi, hg]
theorem mx_comm (x y : Int) : mxI x y = mxI y x := by unfold mxI; split <;> split <;> omega
theorem mn_comm (x y : Int) : mnI x y = mnI y x := by unfold mnI; split <;> split <;> omega
theorem cut_times {l m : List Int} (h : l.length = m.length) : List.zipWith (· + ·) (List.zipWith ctI l m) (List.zipWith mnI l m) = l := by
  have h1 := zw_len (g := ctI) h
  have h2 := zw_len (g := mnI) h
  refine ext0 (by rw [zw_len (h1.trans h2.symm), h1]) fun i hi => ?_
  rw [zw_len (h1.trans h2.symm), h1] at hi
  rw [zw_at (h1 ▸ hi) (h2 ▸ hi), zw_at hi (h ▸ hi), zw_at hi (h ▸ hi), ctI, mnI]
  split <;> split <;> omega
theorem lcm_times {l m : List Int} (h : l.length = m.length) : List.zipWith (· + ·) (List.zipWith mxI l m) (List.zipWith mnI l m) = List.zipWith (· + ·) l m := by
  have h1 := zw_len (g := mxI) h
  have h2 := zw_len (g := mnI) h
  refine ext0 (by rw [zw_len (h1.trans h2.symm), h1, zw_len h]) fun i hi => ?_
  rw [zw_len (h1.trans h2.symm), h1] at hi
  rw [zw_at (h1 ▸ hi) (h2 ▸ hi), zw_at hi (h ▸ hi), zw_at hi (h ▸ hi), zw_at hi (h ▸ hi), mxI, mnI]
  split <;> split <;> omega
/-- what a comprehension over range(n) or zip makes, as zipWith -/
theorem range_zip {g : Int → Int → Int} {l m : List Int} {n : Nat} (hn : n = min l.length m.length) : (List.range n).map (fun i => g (at0 l i) (at0 m i)) = List.zipWith g l m := by
  refine ext0 (by rw [List.length_map, List.length_range, List.length_zipWith, hn]) fun i hi => ?_
  rw [List.length_map, List.length_range] at hi
  rw [zw_at (by omega) (by omega)]
  simp [at0, hi]
theorem fm_some {α β : Type} {f : α → Option β} {g : α → β} {l : List α} (h : ∀ x ∈ l, f x = some (g x)) : l.filterMap f = l.map g := by
  induction l with
  | nil => rfl
  | cons a l ih =>
    rw [List.filterMap_cons_some (h a List.mem_cons_self), List.map_cons, ih fun x hx => h x (List.mem_cons_of_mem _ hx)]
theorem fm_succ {β : Type} (f : Nat → Option β) (i : Nat) : (List.range (i + 1)).filterMap f = (List.range i).filterMap f ++ (f i).toList := by
  rw [List.range_succ, List.filterMap_append]
  congr 1
theorem fm_len {β : Type} (f : Nat → Option β) (i : Nat) : ((List.range i).filterMap f).length ≤ i := by
  have := List.length_filterMap_le f (List.range i)
  rw [List.length_range] at this
  exact this
end JN

set_option maxRecDepth 100000
set_option maxHeartbeats 4000000
namespace JN
open PySem PySem.Spec PyProof.Rows L2
/-! ### heaps that grow -/
/-- what was tracked is as it was, but for the places in S -/
def Kp (S : List Addr) (H H' : Hp) : Prop := ∀ b o, H b = some o → b ∉ S → H' b = some o
theorem Kp.refl {S : List Addr} (H : Hp) : Kp S H H := fun _ _ h _ => h
theorem Kp.trans {S : List Addr} {H H1 H2 : Hp} (a : Kp S H H1) (b : Kp S H1 H2) : Kp S H H2 := fun c o h n => b c o (a c o h n) n
theorem Kp.of {S : List Addr} {H H' : Hp} (a : Same H H') : Kp S H H' := fun b o h _ => a b o h
theorem Kp.none {S : List Addr} {H H' : Hp} (a : Kp S H H') {p : Addr} (n : p ∉ S) (h : H' p = Option.none) : H p = Option.none := by
  cases q : H p with
  | none => rfl
  | some o => rw [a p o q n] at h; cases h
theorem Kp.upd {S : List Addr} {H H1 : Hp} {d : Addr} {o : HO} (a : Kp S H H1) (m : d ∈ S) : Kp S H (upd H1 d o) := fun b q h n => by
  rw [upd_ne (fun e => by subst e; exact n m)]
  exact a b q h n
theorem same_new {H : Hp} {p : Addr} {o : HO} (h : H p = none) : Same H (upd H p o) := fun b x e => by
  rw [upd_ne (ne_of_none e h)]
  exact e
section
variable {K : PySem.W.Frag} {H H' : Hp} {a : Addr} {xs : List V}
theorem Same.tup (e : Same H H') (h : SqT K H a xs) : SqT K H' a xs := by
  rcases h with (h | ⟨o, h⟩) | h
  · exact .inl (.inl (e _ _ h))
  · exact .inl (.inr ⟨o, e _ _ h⟩)
  · exact .inr h
theorem Kp.tup {S : List Addr} (e : Kp S H H') (n : a ∉ S) (h : SqT K H a xs) : SqT K H' a xs := by
  rcases h with (h | ⟨o, h⟩) | h
  · exact .inl (.inl (e _ _ h n))
  · exact .inl (.inr ⟨o, e _ _ h n⟩)
  · exact .inr h
theorem Kp.seq {S : List Addr} (e : Kp S H H') (n : a ∉ S) (h : SqL K H a xs) : SqL K H' a xs := by
  rcases h with (h | ⟨o, h⟩) | h
  · exact .inl (.inl (e _ _ h n))
  · exact .inl (.inr ⟨o, e _ _ h n⟩)
  · exact .inr h
theorem sqt_new {o : List V} : SqT K (upd H a (.tup o)) a o := .inl (.inl upd_same)
theorem sql_new {o : List V} : SqL K (upd H a (.lst o)) a o := .inl (.inl upd_same)
/-! ### tuples and lists of ints compared -/
theorem dp_ints : ∀ ns : List Int, DpAll K H (ns.map V.int) (ns.map PyData.int)
  | [] => .nil
  | n :: ns => .cons (.int n) (dp_ints ns)
theorem dp_tup {ns : List Int} (h : SqT K H a (ns.map V.int)) : Dp K H (.ref a) (.tuple (ns.map PyData.int)) := .tup h (dp_ints ns)
theorem dp_lst {ns : List Int} (h : SqL K H a (ns.map V.int)) : Dp K H (.ref a) (.list (ns.map PyData.int)) := .lst h (dp_ints ns)
theorem eqv_ints : ∀ ns ms : List Int, PyData.eqvAll (ns.map PyData.int) (ms.map PyData.int) = decide (ns = ms)
  | [], [] => by simp [PyData.eqvAll]
  | [], m :: ms => by simp [PyData.eqvAll]
  | n :: ns, [] => by simp [PyData.eqvAll]
  | n :: ns, m :: ms => by
    have ih := eqv_ints ns ms
    rw [List.map_cons, List.map_cons]
    unfold PyData.eqvAll
    rw [ih, Bool.eq_iff_iff]
    simp [PyData.eqv]
theorem eqv_tup (ns ms : List Int) : PyData.eqv (.tuple (ns.map PyData.int)) (.tuple (ms.map PyData.int)) = decide (ns = ms) := by
  unfold PyData.eqv
  exact eqv_ints ns ms
theorem eqv_lst (ns ms : List Int) : PyData.eqv (.list (ns.map PyData.int)) (.list (ms.map PyData.int)) = decide (ns = ms) := by
  unfold PyData.eqv
  exact eqv_ints ns ms
theorem lay_ints : ∀ ns : List Int, PyData.canLayAll0 (ns.map PyData.int) = true
  | [] => by simp [PyData.canLayAll0]
  | n :: ns => by
    have ih := lay_ints ns
    rw [List.map_cons]
    unfold PyData.canLayAll0
    rw [ih]
    simp [PyData.canLay0]
theorem deep_ints : ∀ ns : List Int, PyData.depthAll (ns.map PyData.int) = 0
  | [] => by simp [PyData.depthAll]
  | n :: ns => by
    have ih := deep_ints ns
    rw [List.map_cons]
    unfold PyData.depthAll
    rw [ih]
    simp [PyData.depth]
theorem sh_tup (ns : List Int) : SeqAt.shaped (.tuple (ns.map PyData.int)) = true := by
  unfold SeqAt.shaped PyData.canLay0 PyData.depth
  rw [lay_ints, deep_ints]
  decide
theorem sh_lst (ns : List Int) : SeqAt.shaped (.list (ns.map PyData.int)) = true := by
  unfold SeqAt.shaped PyData.canLay0 PyData.depth
  rw [lay_ints, deep_ints]
  decide
/-- t == u of two tuples of ints -/
theorem eq_tup {b : Addr} {ns ms : List Int} {Q : VK} (h1 : SqT K H a (ns.map V.int)) (h2 : SqT K H b (ms.map V.int)) (q : Q (.bl (decide (ns = ms))) H) : rEqD K (.ref a) (.ref b) H Q :=
  ⟨_, _, dp_tup h1, dp_tup h2, sh_tup _, sh_tup _, by rw [eqv_tup]; exact q⟩
theorem ne_tup {b : Addr} {ns ms : List Int} {Q : VK} (h1 : SqT K H a (ns.map V.int)) (h2 : SqT K H b (ms.map V.int)) (q : Q (.bl (!decide (ns = ms))) H) : rNeD K (.ref a) (.ref b) H Q :=
  ⟨_, _, dp_tup h1, dp_tup h2, sh_tup _, sh_tup _, by rw [eqv_tup]; exact q⟩
theorem eq_lst {b : Addr} {ns ms : List Int} {Q : VK} (h1 : SqL K H a (ns.map V.int)) (h2 : SqL K H b (ms.map V.int)) (q : Q (.bl (decide (ns = ms))) H) : rEqD K (.ref a) (.ref b) H Q :=
  ⟨_, _, dp_lst h1, dp_lst h2, sh_lst _, sh_lst _, by rw [eqv_lst]; exact q⟩
theorem ne_lst {b : Addr} {ns ms : List Int} {Q : VK} (h1 : SqL K H a (ns.map V.int)) (h2 : SqL K H b (ms.map V.int)) (q : Q (.bl (!decide (ns = ms))) H) : rNeD K (.ref a) (.ref b) H Q :=
  ⟨_, _, dp_lst h1, dp_lst h2, sh_lst _, sh_lst _, by rw [eqv_lst]; exact q⟩
/-- an item in bounds -/
theorem it0 {ns : List Int} {i : Nat} (h : i < ns.length) : (ns.map V.int)[i]? = some (.int (at0 ns i)) := by
  rw [List.getElem?_map, at0_get h]
  rfl
theorem ix0 {ns : List Int} {i : Nat} (h : i < ns.length) : atI (ns.map V.int) (i : Int) = some (.int (at0 ns i)) := atI_nat (it0 h)
end
/-! ### a comprehension that only makes new things: f tells what turn i gives, if it gives anything -/
theorem lc_keep {J : It} {n : Nat} {G : Hp → Prop} {Y : Nat → Hp → V → Hp → Prop} (w : Walk J n G Y) {g : TG} {tt : TT} {te : TE} {vs : List Nat} {σ : L2.St} {H1 : Hp} {D : Addr} {Qd : Hp → Prop}
    (f : Nat → Option V) (nD : H1 D = none) (hn : n < sizeLine) (hG : ∀ H, Same H1 H → G H)
    (hs : ∀ i x H H' (P1 : V → Hp → Prop) (P0 : Hp → Prop), i < n → Same H1 H → Y i H x H' → (∀ y H4, f i = some y → Same H H4 → P1 y H4) → (∀ H4, f i = none → Same H H4 → P0 H4) →
      g x (wipe σ vs) H' fun σ2 H2 => wipe σ2 vs = wipe σ vs ∧ tt σ2 H2 fun b H3 => if b = true then te σ2 H3 P1 else P0 H3)
    (hd : ∀ H, Same H1 H → H D = some (.lst ((List.range n).filterMap f)) → Qd H) :
    ∃ W : Nat → Nat → Hp → Prop, (∃ m, W 0 m (upd H1 D (.lst []))) ∧ ∀ i m H, W i m H →
      (J.stop i H ∧ Qd H) ∨ (J.go i H ∧ ∃ Nx : Hp → Prop, (∀ H', Nx H' → ∃ m', m' < m ∧ W (i + 1) m' H') ∧ ∀ x H', J.yld i H x H' → g x (wipe σ vs) H' fun σ2 H2 => wipe σ2 vs = wipe σ vs ∧ tt σ2 H2 fun b H3 =>
        if b = true then te σ2 H3 fun y H4 => ∃ acc, H4 D = some (.lst acc) ∧ acc.length < sizeLine ∧ Nx (upd H4 D (.lst (acc ++ [y]))) else Nx H3) := by
  refine lc_it w (fun i H => Same H1 H ∧ H D = some (.lst ((List.range i).filterMap f))) ⟨same_new nD, upd_same⟩ (fun i H _ h => hG H h.1) (fun i x H H' hi h y => ?_) (fun H h => hd H h.1 h.2)
  obtain ⟨s1, eD⟩ := h
  refine hs i x H H' _ _ hi s1 y (fun z H4 ez s4 => ⟨_, s4 _ _ eD, Nat.lt_of_le_of_lt (fm_len f i) (Nat.lt_trans hi hn), ⟨fun b o e => ?_, ?_⟩⟩) (fun H4 ez s4 => ⟨s1.trans s4, ?_⟩)
  · rw [upd_ne (ne_of_none e nD)]
    exact s4 _ _ (s1 _ _ e)
  · rw [upd_same, fm_succ, ez]
    rfl
  · rw [s4 _ _ eD, fm_succ, ez, Option.toList_none, List.append_nil]
/-- the same, every turn gives an int -/
theorem fm_ints {f : Nat → Option V} {g : Nat → Option Int} {n : Nat} (h : ∀ i, i < n → f i = (g i).map V.int) : (List.range n).filterMap f = ((List.range n).filterMap g).map V.int := by
  rw [List.map_filterMap]
  exact fm_congr fun i hi => h i (List.mem_range.mp hi)
/-! ### the state of the draws -/
def mS (l s : Int) (c : Addr) (p : Int) : List (Key × V) := [(.inr "left", .int l), (.inr "seed", .int s), (.inr "cells", .ref c), (.inr "spot", .int p)]
theorem kls : ¬ (("left" : Str) = "seed") := by decide +kernel
theorem klc : ¬ (("left" : Str) = "cells") := by decide +kernel
theorem klp : ¬ (("left" : Str) = "spot") := by decide +kernel
theorem ksc : ¬ (("seed" : Str) = "cells") := by decide +kernel
theorem ksp : ¬ (("seed" : Str) = "spot") := by decide +kernel
theorem kcp : ¬ (("cells" : Str) = "spot") := by decide +kernel
section
variable {l s z : Int} {c : Addr} {p : Int}
theorem mS_left : valV (mS l s c p) (.inr "left") = some (.int l) := by simp [valV, mS]
theorem mS_seed : valV (mS l s c p) (.inr "seed") = some (.int s) := by simp [valV, mS, kls]
theorem mS_cells : valV (mS l s c p) (.inr "cells") = some (.ref c) := by simp [valV, mS, klc, ksc]
theorem mS_spot : valV (mS l s c p) (.inr "spot") = some (.int p) := by simp [valV, mS, klp, ksp, kcp]
theorem mS_put_left : putK (mS l s c p) (.inr "left") (.int z) = mS z s c p := by simp [putK, mS, Ne.symm kls, Ne.symm klc, Ne.symm klp]
theorem mS_put_spot : putK (mS l s c p) (.inr "spot") (.int z) = mS l s c z := by simp [putK, mS, klp, ksp, kcp]
end
/-- the draws' state stands at d, its cells at c, at most n drawn so far -/
def Drw (H : Hp) (d c : Addr) (n : Nat) : Prop := ∃ (l s : Int) (p : Int) (cs : List Int), H d = some (.dK (mS l s c p)) ∧ H c = some (.lst (cs.map V.int)) ∧ c ≠ d ∧ cs ≠ [] ∧ cs.length ≤ 1000 ∧ 0 ≤ s ∧ s < 2147483647 ∧ 0 ≤ p ∧ p ≤ n
theorem Drw.same {H H' : Hp} {d c : Addr} {n m : Nat} (D : Drw H d c n) (e : Same H H') (h : n ≤ m) : Drw H' d c m := by
  obtain ⟨l, s, p, cs, h1, h2, h3, h4, h5, h6, h7, h8, h9⟩ := D
  exact ⟨l, s, p, cs, e _ _ h1, e _ _ h2, h3, h4, h5, h6, h7, h8, by omega⟩
theorem Drw.put {H : Hp} {d c D : Addr} {o : HO} {n : Nat} (h : Drw H d c n) (n1 : D ≠ d) (n2 : D ≠ c) : Drw (upd H D o) d c n := by
  obtain ⟨l, s, p, cs, h1, h2, h3⟩ := h
  exact ⟨l, s, p, cs, by rw [upd_ne n1.symm]; exact h1, by rw [upd_ne n2.symm]; exact h2, h3⟩
theorem Drw.ne {H : Hp} {d c D : Addr} {n : Nat} (h : Drw H d c n) (e : H D = none) : D ≠ d ∧ D ≠ c := by
  obtain ⟨l, s, p, cs, h1, h2, h3⟩ := h
  exact ⟨(ne_of_none h1 e).symm, (ne_of_none h2 e).symm⟩
theorem Drw.tup {K : PySem.W.Frag} {H : Hp} {d c a : Addr} {n : Nat} {xs : List V} (h : Drw H d c n) (e : SqT K H a xs) (hk : K.lookup d = none) : a ≠ d := fun z => by
  obtain ⟨l, s, p, cs, h1, h2, h3⟩ := h
  subst z
  rcases e with (e | ⟨o, e⟩) | ⟨o, its, n, e, _⟩
  · rw [h1] at e; cases e
  · rw [h1] at e; cases e
  · rw [hk] at e; cases e
/-- _law_draw(m, below) -/
def spDraw : Sp := fun vs H Q _ => ∃ (d c : Addr) (below : Int) (n : Nat), vs = [.ref d, .int below] ∧ Drw H d c n ∧ n ≤ 1000000 ∧ 1 ≤ below ∧ below < 1073741824 ∧
  ∀ (r : Int) (H' : Hp), 0 ≤ r → r < below → Kp [d] H H' → Drw H' d c (n + 1) → Q (.int r) H'
/-- _law_of(m, some) -/
def spOf (K : PySem.W.Frag) : Sp := fun vs H Q _ => ∃ (d c l : Addr) (xs : List V) (n : Nat), vs = [.ref d, .ref l] ∧ Drw H d c n ∧ n ≤ 1000000 ∧ SqL K H l xs ∧ l ≠ d ∧ xs ≠ [] ∧ xs.length ≤ 1000 ∧
  ∀ (v : V) (H' : Hp), v ∈ xs → Kp [d] H H' → Drw H' d c (n + 1) → Q v H'
/-- _law_begun(script, k) -/
def spBegun (K : PySem.W.Frag) : Sp := fun vs H Q _ => ∃ (a : Addr) (ns : List Int) (k : Int), vs = [.ref a, .int k] ∧ SqL K H a (ns.map V.int) ∧ ns.length ≤ 63 ∧ 0 ≤ k ∧ k ≤ 100 ∧
  ∀ (d c : Addr) (H' : Hp), Same H H' → H d = none → H c = none → Drw H' d c 0 → Q (.ref d) H'
end JN

set_option maxRecDepth 100000
set_option maxHeartbeats 4000000
namespace JN
open PySem PySem.Spec PyProof.Rows L2
/-! the greatest of a tuple of ints -/
theorem max_tup {prog : Program} {w : World} {A : Around} {E : Value → Shared → Prop} {s : Shared} {l : Addr} {its : List Value} {ns : List Int} {Q : Value → Shared → Prop} (hh : A.handled = none) (hl : s.heap.IsTuple l its.toArray) (hi : IntsAre its ns) (hne : 0 < ns.length)
    (h : ∀ h' tk M t', (∀ b o, s.heap.get? b = some o → h'.get? b = some o) → M ∈ ns → (∀ a, a ∈ ns → a ≤ M) → Q (.int M t') { s with heap := h', toks := tk }) : wpAny (model prog w) A (call (.builtin "max") [.ref l]) Q E s := by
  obtain ⟨xs, e⟩ := hi.allInts.items
  have hn : numsOf (intItems xs).toList = ns := by rw [← e]; exact hi.numsOf
  rw [nums_intItems] at hn
  subst hn
  rw [e] at hl
  have hsz : 0 < xs.size := by simpa using hne
  have hlz : l < s.heap.objs.size := by obtain ⟨_, q, _⟩ := id hl; exact Heap.lt_size q
  have kp : ∀ b o, s.heap.get? b = some o → (s.heap.push { cls := .type "tuple_iterator", data := .fields #[.ref l, .int 0 0] }).get? b = some o := fun b o q => Heap.get?_push_of_some _ q
  refine call_max_walk (wpAny_pyIter_tuple hl ?_)
  refine ⟨s.heap.objs.size, [s.heap.objs.size, l], [s.heap.objs.size], (intItems xs).size, _, _, _, rfl, Walks.tuple (A := A.in1) hh s.heap.objs.size l (Nat.ne_of_lt hlz) (intItems xs),
    ⟨⟨_, Heap.get?_push_size _ rfl, rfl, rfl⟩, hl.at fun o q => kp l o q⟩, fun b hb => ?_, by simpa [intItems] using hsz, CmpOf.ints_gt (numAt xs) (fun _ _ => intItems_at), fun v h' tk hP hk => ?_⟩
  · rw [Heap.size_push]
    rcases (show b = s.heap.objs.size ∨ b = l by simpa using hb) with rfl | rfl
    · exact Nat.lt_succ_self _
    · exact Nat.lt_succ_of_lt hlz
  · obtain ⟨t, rfl⟩ := intItems_at hP
    have ez : (intItems xs).size = xs.size := by simp [intItems]
    rw [ez]
    obtain ⟨h1, h2⟩ := argBest_gt (numAt xs) (xs.size - 1)
    refine h h' tk _ t (fun b o q => hk b o (by
      have : b < s.heap.objs.size := Heap.lt_size q
      simp only [List.mem_singleton]
      exact Nat.ne_of_lt this) (kp b o q)) ?_ fun a ha => ?_
    · rw [numAt_eq]; exact PySem.getD_mem (by rw [List.length_map, Array.length_toList]; omega)
    · obtain ⟨j, hj, rfl⟩ := mem_getD ha
      rw [List.length_map, Array.length_toList] at hj
      rw [← numAt_eq]; exact h2 j (by omega)
def rMaxT (K : PySem.W.Frag) : List V → Hp → VK → Prop := fun vs H Q => ∃ (a : Addr) (ns : List Int), vs = [V.ref a] ∧ SqT K H a (ns.map V.int) ∧ 0 < ns.length ∧ ∀ m, m ∈ ns → (∀ y, y ∈ ns → y ≤ m) → Q (.int m) H
theorem cr_maxT {X : Cx} (hc : X.calm = true) : CallR X (.builtin "max") (rMaxT X.K) := by
  intro pins s σ H vs us Q I r h
  obtain ⟨a, ns, rfl, hs, hne, q⟩ := h
  obtain ⟨its, rv, hl, _⟩ := I.tuple hs
  rw [Vals.ref1 r]
  exact max_tup (I.ok.hd hc) hl rv.ints hne fun h' tk m t' hk h1 h2 => ⟨.int _, H, I.kept hk, ⟨_, rfl⟩, q m h1 h2⟩
/-! set(t), t a tuple of tuples of ints -/
section
variable {P : Program} {w : World} {A : Around} {E : Value → Shared → Prop} {s : Shared}
/-- the set as the call makes it, still empty -/
abbrev set0 (w : World) : Obj := { cls := .type "set", dict := none, data := .set #[] 0 (.fresh 0 0 (!w.params.followText "set-order")) }
theorem call_set_tupsT {l : Addr} {items : Array Value} (ks : List (Addr × List Int)) {Q : Value → Shared → Prop} (hh : A.handled = none) (hl : s.heap.IsTuple l items) (hit : items.toList = ks.map fun p => Value.ref p.1)
    (hk : ∀ p ∈ ks, IsT P w s.heap p.2 p.1) (hfew : ks.length < 64) (hu : A.units + 3 < cLine)
    (h : ∀ (h' : Heap) (tk : Nat) L es ep t, SetTR P w h' s.heap.objs.size L es ep t → Got ks ks.length L → (∀ b o, s.heap.get? b = some o → h'.get? b = some o) → Q (.ref s.heap.objs.size) { s with heap := h', toks := tk }) :
    wpAny (model P w) A (call (.type "set") [.ref l]) Q E s := by
  have hisz : items.size = ks.length := by
    have q := congrArg List.length hit
    rw [Array.length_toList, List.length_map] at q
    exact q
  obtain ⟨c, tl, hmro⟩ := F.called_set.mro
  have hmade := F.called_set.made
  have hsub := F.called_set.sub
  refine wpAny_call (codeAny_of_tree ?_)
  show wpAny _ _ (callAny (.type "set") _) _ _ _
  refine wpAny_pure ⟨Code.quiet_builtin _ (by decide +kernel), codeAny_builtin F.entry_type_call ?_⟩
  rw [Around.under_plain (weight_type_call_type "set" [.ref l] []) rfl]
  have h1 := F.called_set.notType
  have h2 := F.called_set.canCreate
  have hct := F.typeCall_set_1 (.ref l)
  repeat (any_goals (first | assumption | wp_step))
  refine codeAny_mono (code_set_led1 (.ref l) (E := E) (Q₁ := fun obj s₁ => obj = .ref s.heap.objs.size ∧ s₁ = { s with heap := s.heap.push (set0 w) }) ⟨rfl, rfl⟩) fun r s₁ hr => ?_
  cases r with
  | error e => exact hr
  | ok fl =>
    cases fl with
    | ret obj =>
      obtain ⟨rfl, rfl⟩ := hr
      have hS : (s.heap.push (set0 w)).get? s.heap.objs.size = some (set0 w) := Heap.get?_push_size _ rfl
      have hT : Shared.TypeIs { s with heap := s.heap.push (set0 w) } (.ref s.heap.objs.size) "set" := ⟨_, hS, rfl⟩
      have hli := F.called_set.init.lookup
      have hbi := F.called_set.init.bind (.ref s.heap.objs.size)
      repeat (any_goals (first | assumption | wp_step))
      refine codeAny_mono (codeAny_call_builtin (R := wants (fun r s₂ => r = .none ∧ ∃ h' tk L es ep t, s₂ = { s with heap := h', toks := tk } ∧ SetTR P w h' s.heap.objs.size L es ep t ∧ Got ks ks.length L ∧
          (∀ b o, s.heap.get? b = some o → h'.get? b = some o)) E) F.called_set.init.plain F.entry_set_init (check_set_init_1 hT ?_)) fun r₂ s₂ hr₂ => ?_
      · obtain ⟨ol, hol, hcl, nl, hdl⟩ := hl
        obtain ⟨ocls, odict, odata, oslots⟩ := ol
        simp only at hcl hdl
        subst hcl; subst hdl
        have hol' : (s.heap.push (set0 w)).get? l = some { cls := .type "tuple", dict := odict, data := .seq items nl, slots := oslots } := Heap.get?_push_of_some _ hol
        have hsls := F.sub_tuple_set
        have hslf := F.sub_tuple_frozenset
        have hne : (Value.type "tuple" == Value.type "dict") = false := by decide
        have hl1 : (s.heap.push (set0 w)).IsTuple l items := ⟨_, hol', rfl, nl, rfl⟩
        unfold Builtin.«set.__init__» noKeywords Builtin.Frozenset.updateFrom
        generalize hPI : pyIter = PI
        wp_walk
        subst hPI
        refine wpAny_pyIter_tuple hl1 ?_
        refine wpAny_bind (wpAny_runValue ?_)
        have hlS : l < s.heap.objs.size := Heap.lt_size hol
        have hh3 : A.in1.in1.in1.handled = none := by simp [hh]
        have hneI : l ≠ (s.heap.push (set0 w)).objs.size := by
          rw [Heap.size_push]; exact Nat.ne_of_lt (Nat.lt_succ_of_lt hlS)
        have hSf : s.heap.objs.size ∉ [(s.heap.push (set0 w)).objs.size, l] := by
          rw [Heap.size_push]; simp only [List.mem_cons, List.mem_singleton, List.not_mem_nil, or_false, not_or]
          exact ⟨Nat.ne_of_lt (Nat.lt_succ_self _), Nat.ne_of_gt hlS⟩
        have hval : ∀ (i : Nat) (v : Value), items[i]? = some v → ∃ p, ks[i]? = some p ∧ v = .ref p.1 := fun i v hv => by
          have q : items.toList[i]? = some v := by rw [Array.getElem?_toList]; exact hv
          rw [hit, List.getElem?_map] at q
          cases hq : ks[i]? with
          | none => rw [hq] at q; cases q
          | some p =>
            rw [hq] at q
            exact ⟨p, rfl, (Option.some.inj q).symm⟩
        have none_of : ∀ b, s.heap.objs.size ≤ b → s.heap.get? b = none := fun b hb => by
          cases q : s.heap.get? b with
          | none => rfl
          | some o => exact absurd (Nat.lt_of_lt_of_le (Heap.lt_size q) hb) (Nat.lt_irrefl _)
        refine set_update_tups ((Walks.tuple hh3 _ l hneI items).toS) s.heap.objs.size
          hSf ks hisz hfew hval s.heap hk (none_of _ (Nat.le_refl _)) (fun b hb => none_of b (by
            rw [List.mem_singleton.mp hb, Heap.size_push]
            exact Nat.le_succ _)) hu (items.size - 0) 0 _ (by omega) (Nat.zero_le _)
          ⟨⟨_, Heap.get?_push_size _ rfl, rfl, rfl⟩, hl1.at fun o q => Heap.get?_push_of_some _ q⟩ (fun b o e => Heap.get?_push_of_some _ (Heap.get?_push_of_some _ e)) ?hS0 ?hR
        case hS0 =>
          exact ⟨[], #[], 0, _, setTR_fresh (Heap.get?_push_of_some _ hS), Got.zero ks⟩
        case hR =>
          intro s' L es ep t hm hS' g' hkp
          obtain ⟨h', g2, d', tk', os'⟩ := s'
          obtain rfl : g2 = s.gens := hm.gens
          obtain rfl : d' = s.drawn := hm.drawn
          obtain rfl : os' = s.os := hm.os
          show wpAny _ _ _ _ _ _
          refine wpAny_pure ?_
          show wpAny _ _ (ret Value.none) _ _ _
          rw [hisz] at g'
          exact wpAny_pure ⟨rfl, h', tk', L, es, ep, t, rfl, hS', g', hkp⟩
      · cases r₂ with
        | error e => exact hr₂
        | ok fl₂ =>
          cases fl₂ with
          | ret r =>
            obtain ⟨rfl, h', tk, L, es, ep, t, rfl, hS', g', hk'⟩ := hr₂
            repeat (any_goals (first | assumption | wp_step))
            exact h _ _ _ _ _ _ hS' g' hk'
          | _ => exact hr₂.elim
    | _ => exact hr.elim
end
/-- set(xs), xs a list or a tuple of tuples of ints -/
def rSetOfA (K : PySem.W.Frag) (P : Program) (w : World) : List V → Hp → VK → Prop := fun xs H Q => ∃ (l : Addr) (ks : List (Addr × List Int)), xs = [V.ref l] ∧ (SqL K H l (ks.map fun p => V.ref p.1) ∨ SqT K H l (ks.map fun p => V.ref p.1)) ∧ (∀ p ∈ ks, SqT K H p.1 (p.2.map V.int)) ∧ ks.length < 64 ∧
  ∀ a L, H a = none → (∀ p ∈ L, p ∈ ks) → (∀ p ∈ ks, p.2 ∈ L.map (·.2)) → Q (.ref a) (upd H a (SetTO P w a L))
theorem cr_setOfA {X : Cx} (hc : X.calm = true) (hu : X.A.units + 64 < cLine) : CallR X (.type "set") (rSetOfA X.K X.prog X.w) := by
  intro pins s σ H xs us Q I r h
  obtain ⟨l, ks, rfl, hl, hk, hf, q⟩ := h
  have hn : H s.heap.objs.size = none := I.hok.fresh (Nat.le_refl _)
  rw [Vals.ref1 r]
  rcases hl with hl | hl
  · obtain ⟨its, rv, pl, hz⟩ := I.list hl
    refine call_set_tups (P := X.prog) (w := X.w) ks (I.ok.hd hc) pl.isList (by simpa using refs_of_vals rv) (fun p hp => I.isT (hk p hp)) hf (by omega) fun h' tk L es ep t R g k => ?_
    exact ⟨.ref s.heap.objs.size, upd H s.heap.objs.size (SetTO X.prog X.w s.heap.objs.size L), I.laid (t' := tk) k (Nat.le_refl _) (setTO_new R.t0), rfl, q _ L hn (fun p hp => List.mem_of_mem_take (g.sub p hp)) fun p hp => g.all p (by rw [List.take_length]; exact hp)⟩
  · obtain ⟨its, rv, pl, hz⟩ := I.tuple hl
    refine call_set_tupsT (P := X.prog) (w := X.w) ks (I.ok.hd hc) pl (by simpa using refs_of_vals rv) (fun p hp => I.isT (hk p hp)) hf (by omega) fun h' tk L es ep t R g k => ?_
    exact ⟨.ref s.heap.objs.size, upd H s.heap.objs.size (SetTO X.prog X.w s.heap.objs.size L), I.laid (t' := tk) k (Nat.le_refl _) (setTO_new R.t0), rfl, q _ L hn (fun p hp => List.mem_of_mem_take (g.sub p hp)) fun p hp => g.all p (by rw [List.take_length]; exact hp)⟩
end JN

namespace JN
open TS
/-! ### monomials of d exponents, their sequence, the least ones -/
abbrev B0 : Int := 1099511627776
abbrev cd (p : List Int) : Int := code B0 p
/-- d exponents, none negative, none great -/
def Mon (d : Nat) (p : List Int) : Prop := p.length = d ∧ Bd B0 p
theorem dvd_cons {x y : Int} {l m : List Int} : dvdI (x :: l) (y :: m) = true ↔ x ≤ y ∧ dvdI l m = true := by
  simp [dvdI]
theorem dvd_refl : ∀ p : List Int, dvdI p p = true
  | [] => rfl
  | x :: p => dvd_cons.mpr ⟨Int.le_refl _, dvd_refl p⟩
theorem dvd_trans : ∀ {p q r : List Int}, p.length = q.length → q.length = r.length → dvdI p q = true → dvdI q r = true → dvdI p r = true
  | [], [], [], _, _, _, _ => rfl
  | x :: p, y :: q, z :: r, h1, h2, a, b => by
    obtain ⟨a1, a2⟩ := dvd_cons.mp a
    obtain ⟨b1, b2⟩ := dvd_cons.mp b
    exact dvd_cons.mpr ⟨Int.le_trans a1 b1, dvd_trans (by simpa using h1) (by simpa using h2) a2 b2⟩
theorem cd_le : ∀ {p q : List Int}, p.length = q.length → dvdI p q = true → cd p ≤ cd q
  | [], [], _, _ => Int.le_refl _
  | x :: p, y :: q, h, a => by
    have hl : p.length = q.length := by simpa using h
    obtain ⟨a1, a2⟩ := dvd_cons.mp a
    have ih := cd_le hl a2
    show x * B0 ^ p.length + cd p ≤ y * B0 ^ q.length + cd q
    rw [← hl]
    have pp : (0 : Int) ≤ B0 ^ p.length := Int.pow_nonneg (by decide)
    have := Int.mul_le_mul_of_nonneg_right a1 pp
    omega
theorem cd_inj : ∀ {p q : List Int}, p.length = q.length → Bd B0 p → Bd B0 q → cd p = cd q → p = q
  | [], [], _, _, _, _ => rfl
  | x :: p, y :: q, h, hp, hq, e => by
    have hl : p.length = q.length := by simpa using h
    have exy : x = y := by
      apply Classical.byContradiction
      intro n
      rcases Int.lt_or_gt_of_ne n with c | c
      · exact absurd e (Int.ne_of_lt (code_lt (B := B0) hl hp.tail hq.tail c))
      · exact absurd e.symm (Int.ne_of_lt (code_lt (B := B0) hl.symm hq.tail hp.tail c))
    subst exy
    have e2 : cd p = cd q := by
      have e' : x * B0 ^ p.length + cd p = x * B0 ^ q.length + cd q := e
      rw [hl] at e'
      omega
    rw [cd_inj hl hp.tail hq.tail e2]
theorem dvd_lt {d : Nat} {p q : List Int} (hp : Mon d p) (hq : Mon d q) (h : dvdI p q = true) (n : p ≠ q) : cd p < cd q := by
  have h1 := cd_le (hp.1.trans hq.1.symm) h
  rcases Int.lt_or_eq_of_le h1 with c | c
  · exact c
  · exact absurd (cd_inj (hp.1.trans hq.1.symm) hp.2 hq.2 c) n
theorem cd_nn {d : Nat} {p : List Int} (h : Mon d p) : 0 ≤ cd p := (code_bd p h.2).1
/-- strictly ascending -/
abbrev Asc (R : List (List Int)) : Prop := R.Pairwise fun p q => cd p < cd q
theorem asc_ext {α : Type} {f : α → Int} : ∀ {l m : List α}, l.Pairwise (fun a b => f a < f b) → m.Pairwise (fun a b => f a < f b) → (∀ x, x ∈ l ↔ x ∈ m) → l = m
  | [], [], _, _, _ => rfl
  | [], b :: m, _, _, h => absurd ((h b).mpr List.mem_cons_self) (List.not_mem_nil)
  | a :: l, [], _, _, h => absurd ((h a).mp List.mem_cons_self) (List.not_mem_nil)
  | a :: l, b :: m, hl, hm, h => by
    obtain ⟨l1, l2⟩ := List.pairwise_cons.mp hl
    obtain ⟨m1, m2⟩ := List.pairwise_cons.mp hm
    have eab : a = b := by
      rcases List.mem_cons.mp ((h a).mp List.mem_cons_self) with e | e
      · exact e
      · rcases List.mem_cons.mp ((h b).mpr List.mem_cons_self) with e2 | e2
        · exact e2.symm
        · have := m1 a e
          have := l1 b e2
          omega
    subst eab
    congr 1
    refine asc_ext l2 m2 fun x => ⟨fun hx => ?_, fun hx => ?_⟩
    · rcases List.mem_cons.mp ((h x).mp (List.mem_cons_of_mem _ hx)) with e | e
      · subst e
        have := l1 x hx
        omega
      · exact e
    · rcases List.mem_cons.mp ((h x).mpr (List.mem_cons_of_mem _ hx)) with e | e
      · subst e
        have := m1 x hx
        omega
      · exact e
/-- R lists, ascending, those of ms that no other one divides -/
structure MinOf (ms R : List (List Int)) : Prop where
  asc : Asc R
  mem : ∀ p, p ∈ R ↔ p ∈ ms ∧ ∀ q ∈ ms, dvdI q p = true → q = p
theorem MinOf.uniq {ms ms' R R' : List (List Int)} (a : MinOf ms R) (b : MinOf ms' R') (h : ∀ p, p ∈ ms ↔ p ∈ ms') : R = R' := by
  refine asc_ext a.asc b.asc fun p => ?_
  rw [a.mem, b.mem, h p]
  constructor
  · rintro ⟨h1, h2⟩
    exact ⟨h1, fun q hq => h2 q ((h q).mpr hq)⟩
  · rintro ⟨h1, h2⟩
    exact ⟨h1, fun q hq => h2 q ((h q).mp hq)⟩
theorem MinOf.sub {ms R : List (List Int)} (a : MinOf ms R) {p : List Int} (h : p ∈ R) : p ∈ ms := ((a.mem p).mp h).1
/-- below each one stands a least one -/
theorem min_below {d : Nat} {ms : List (List Int)} (hm : ∀ p ∈ ms, Mon d p) : ∀ (k : Nat) (p : List Int), p ∈ ms → (cd p).toNat ≤ k → ∃ q ∈ ms, dvdI q p = true ∧ ∀ r ∈ ms, dvdI r q = true → r = q := by
  intro k
  induction k with
  | zero =>
    intro p hp hk
    refine ⟨p, hp, dvd_refl p, fun r hr hd => ?_⟩
    apply Classical.byContradiction
    intro n
    have := dvd_lt (hm r hr) (hm p hp) hd n
    have := cd_nn (hm r hr)
    omega
  | succ k ih =>
    intro p hp hk
    rcases Classical.em (∀ r ∈ ms, dvdI r p = true → r = p) with c | c
    · exact ⟨p, hp, dvd_refl p, c⟩
    · obtain ⟨r, hr⟩ := Classical.not_forall.mp c
      obtain ⟨hr1, hr2⟩ := Classical.not_imp.mp hr
      obtain ⟨hr2, hr3⟩ := Classical.not_imp.mp hr2
      have := dvd_lt (hm r hr1) (hm p hp) hr2 hr3
      have := cd_nn (hm r hr1)
      obtain ⟨q, q1, q2, q3⟩ := ih r hr1 (by omega)
      exact ⟨q, q1, dvd_trans ((hm q q1).1.trans (hm r hr1).1.symm) ((hm r hr1).1.trans (hm p hp).1.symm) q2 hr2, q3⟩
theorem MinOf.below {d : Nat} {ms R : List (List Int)} (a : MinOf ms R) (hm : ∀ p ∈ ms, Mon d p) {p : List Int} (h : p ∈ ms) : ∃ q ∈ R, dvdI q p = true := by
  obtain ⟨q, h1, h2, h3⟩ := min_below hm _ p h (Nat.le_refl _)
  exact ⟨q, (a.mem q).mpr ⟨h1, h3⟩, h2⟩
/-- lies in the ideal -/
def inG (gs : List (List Int)) (c : List Int) : Bool := gs.any fun g => dvdI g c
theorem inG_iff {gs : List (List Int)} {c : List Int} : inG gs c = true ↔ ∃ g ∈ gs, dvdI g c = true := by
  simp [inG]
theorem MinOf.inG {d : Nat} {ms R : List (List Int)} (a : MinOf ms R) (hm : ∀ p ∈ ms, Mon d p) {c : List Int} (hc : c.length = d) : inG R c = inG ms c := by
  rw [Bool.eq_iff_iff, inG_iff, inG_iff]
  constructor
  · rintro ⟨g, h1, h2⟩
    exact ⟨g, a.sub h1, h2⟩
  · rintro ⟨g, h1, h2⟩
    obtain ⟨q, q1, q2⟩ := a.below hm h1
    exact ⟨q, q1, dvd_trans ((hm q (a.sub q1)).1.trans (hm g h1).1.symm) ((hm g h1).1.trans hc.symm) q2 h2⟩
/-- an ascending list of which none divides another one is its own least ones, and those of all that lie above and hold it -/
theorem MinOf.of {d : Nat} {ms A : List (List Int)} (hA : Asc A) (self : ∀ p ∈ A, ∀ q ∈ A, dvdI q p = true → q = p) (hm : ∀ p ∈ ms, Mon d p) (sub : ∀ p ∈ A, p ∈ ms) (above : ∀ p ∈ ms, ∃ q ∈ A, dvdI q p = true) : MinOf ms A := by
  refine ⟨hA, fun p => ⟨fun hp => ⟨sub p hp, fun q hq hd => ?_⟩, fun h => ?_⟩⟩
  · obtain ⟨r, r1, r2⟩ := above q hq
    have hl1 := (hm r (sub r r1)).1.trans (hm q hq).1.symm
    have hl2 := (hm q hq).1.trans (hm p (sub p hp)).1.symm
    have e := self p hp r r1 (dvd_trans hl1 hl2 r2 hd)
    subst e
    apply Classical.byContradiction
    intro n
    have a1 := dvd_lt (hm q hq) (hm r (sub r r1)) hd n
    have a2 := cd_le hl1 r2
    omega
  · obtain ⟨r, r1, r2⟩ := above p h.1
    have e := h.2 r (sub r r1) r2
    subst e
    exact r1
theorem MinOf.self {ms R : List (List Int)} (a : MinOf ms R) : ∀ p ∈ R, ∀ q ∈ R, dvdI q p = true → q = p := fun p hp q hq h => ((a.mem p).mp hp).2 q (a.sub hq) h
/-- an ideal's generators: ascending, none divides another one -/
structure Gens (d : Nat) (R : List (List Int)) : Prop where
  asc : Asc R
  mon : ∀ p ∈ R, Mon d p
  self : ∀ p ∈ R, ∀ q ∈ R, dvdI q p = true → q = p
theorem MinOf.gens {d : Nat} {ms R : List (List Int)} (a : MinOf ms R) (hm : ∀ p ∈ ms, Mon d p) : Gens d R := ⟨a.asc, fun p hp => hm p (a.sub hp), a.self⟩
theorem Gens.min {d : Nat} {ms A : List (List Int)} (g : Gens d A) (hm : ∀ p ∈ ms, Mon d p) (sub : ∀ p ∈ A, p ∈ ms) (above : ∀ p ∈ ms, ∃ q ∈ A, dvdI q p = true) : MinOf ms A := MinOf.of g.asc g.self hm sub above
/-- the greedy way: one after another, kept if no kept one divides it -/
def grd : List (List Int) → List (List Int) → List (List Int)
  | acc, [] => acc
  | acc, x :: r => grd (if inG acc x = true then acc else acc ++ [x]) r
theorem grd_step {d : Nat} {pre acc : List (List Int)} {x : List Int} (a : MinOf pre acc) (hm : ∀ p ∈ pre, Mon d p) (hx : Mon d x) (hlt : ∀ p ∈ pre, cd p < cd x) : MinOf (pre ++ [x]) (if inG acc x = true then acc else acc ++ [x]) := by
  have nx : ∀ p ∈ pre, ¬ dvdI x p = true := fun p hp h => by
    have := cd_le (hx.1.trans (hm p hp).1.symm) h
    have := hlt p hp
    omega
  have old : ∀ p, p ∈ acc ↔ p ∈ pre ∧ ∀ q ∈ pre ++ [x], dvdI q p = true → q = p := fun p => by
    rw [a.mem]
    constructor
    · rintro ⟨h1, h2⟩
      refine ⟨h1, fun q hq hd => ?_⟩
      rcases List.mem_append.mp hq with h | h
      · exact h2 q h hd
      · rw [List.mem_singleton.mp h] at hd
        exact absurd hd (nx p h1)
    · rintro ⟨h1, h2⟩
      exact ⟨h1, fun q hq => h2 q (List.mem_append_left _ hq)⟩
  by_cases c : inG acc x = true
  · rw [if_pos c]
    refine ⟨a.asc, fun p => ?_⟩
    rw [old]
    constructor
    · rintro ⟨h1, h2⟩
      exact ⟨List.mem_append_left _ h1, h2⟩
    · rintro ⟨h1, h2⟩
      rcases List.mem_append.mp h1 with h | h
      · exact ⟨h, h2⟩
      · have e := List.mem_singleton.mp h
        subst e
        obtain ⟨g, g1, g2⟩ := inG_iff.mp c
        have := h2 g (List.mem_append_left _ (a.sub g1)) g2
        subst this
        exact ⟨a.sub g1, h2⟩
  · rw [if_neg c]
    refine ⟨?_, fun p => ?_⟩
    · refine List.pairwise_append.mpr ⟨a.asc, List.pairwise_singleton _ _, fun p hp q hq => ?_⟩
      rw [List.mem_singleton.mp hq]
      exact hlt p (a.sub hp)
    · rw [List.mem_append, List.mem_singleton, old]
      constructor
      · rintro (⟨h1, h2⟩ | e)
        · exact ⟨List.mem_append_left _ h1, h2⟩
        · subst e
          refine ⟨List.mem_append_right _ (List.mem_singleton.mpr rfl), fun q hq hd => ?_⟩
          rcases List.mem_append.mp hq with h | h
          · obtain ⟨g, g1, g2⟩ := a.below hm h
            exact absurd (inG_iff.mpr ⟨g, g1, dvd_trans ((hm g (a.sub g1)).1.trans (hm q h).1.symm) ((hm q h).1.trans hx.1.symm) g2 hd⟩) c
          · exact List.mem_singleton.mp h
      · rintro ⟨h1, h2⟩
        rcases List.mem_append.mp h1 with h | h
        · exact .inl ⟨h, h2⟩
        · exact .inr (List.mem_singleton.mp h)
/-- the filter's way -/
theorem min_filter {d : Nat} {L : List (List Int)} (hL : Asc L) : MinOf L (L.filter fun a => decide (L.filter (fun b => !decide (b = a) && dvdI b a) = [])) := by
  refine ⟨hL.filter _, fun p => ?_⟩
  rw [List.mem_filter, decide_eq_true_iff, List.filter_eq_nil_iff]
  constructor
  · rintro ⟨h1, h2⟩
    refine ⟨h1, fun q hq hd => ?_⟩
    have := h2 q hq
    apply Classical.byContradiction
    intro n
    apply this
    rw [hd, decide_eq_false n]
    rfl
  · rintro ⟨h1, h2⟩
    refine ⟨h1, fun q hq h => ?_⟩
    rw [Bool.and_eq_true] at h
    have := h2 q hq h.2
    rw [decide_eq_true this] at h
    exact absurd h.1 (by decide)
/-- from the sort's words: by the code, each once -/
theorem asc_of {α : Type} {f : α → List Int} {d : Nat} {L : List α} (hm : ∀ p ∈ L, Mon d (f p)) (hn : (L.map f).Nodup) (hp : L.Pairwise fun p q => cd (f p) ≤ cd (f q)) : Asc (L.map f) := by
  induction L with
  | nil => exact .nil
  | cons a L ih =>
    obtain ⟨h1, h2⟩ := List.pairwise_cons.mp hp
    rw [List.map_cons] at hn ⊢
    obtain ⟨n1, n2⟩ := List.nodup_cons.mp hn
    refine List.pairwise_cons.mpr ⟨fun q hq => ?_, ih (fun p hp => hm p (List.mem_cons_of_mem _ hp)) n2 h2⟩
    obtain ⟨b, hb, rfl⟩ := List.mem_map.mp hq
    rcases Int.lt_or_eq_of_le (h1 b hb) with c | c
    · exact c
    · have ma := hm a List.mem_cons_self
      have mb := hm b (List.mem_cons_of_mem _ hb)
      exact absurd (cd_inj (ma.1.trans mb.1.symm) ma.2 mb.2 c ▸ hq) n1
/-! sums, meets, products: which monomials lie in them -/
theorem lcm_dvd : ∀ {a b c : List Int}, a.length = c.length → b.length = c.length → (dvdI (List.zipWith mxI a b) c = true ↔ dvdI a c = true ∧ dvdI b c = true)
  | [], [], [], _, _ => by simp [dvdI]
  | [], _ :: _, [], _, h2 => by simp at h2
  | [], _ :: _, _ :: _, h1, _ => by simp at h1
  | _ :: _, [], [], h1, _ => by simp at h1
  | _ :: _, [], _ :: _, _, h2 => by simp at h2
  | x :: a, y :: b, z :: c, h1, h2 => by
    rw [List.zipWith_cons_cons, dvd_cons, dvd_cons, dvd_cons, lcm_dvd (by simpa using h1) (by simpa using h2)]
    have : mxI x y ≤ z ↔ x ≤ z ∧ y ≤ z := by
      unfold mxI
      split <;> omega
    rw [this]
    constructor
    · rintro ⟨⟨a1, a2⟩, a3, a4⟩; exact ⟨⟨a1, a3⟩, a2, a4⟩
    · rintro ⟨⟨a1, a3⟩, a2, a4⟩; exact ⟨⟨a1, a2⟩, a3, a4⟩
theorem lcm_dvd_times : ∀ {a b : List Int}, a.length = b.length → Bd B0 a → Bd B0 b → dvdI (List.zipWith mxI a b) (List.zipWith (· + ·) a b) = true
  | [], [], _, _, _ => rfl
  | [], _ :: _, h, _, _ => by simp at h
  | _ :: _, [], h, _, _ => by simp at h
  | x :: a, y :: b, h, h1, h2 => by
    rw [List.zipWith_cons_cons, List.zipWith_cons_cons, dvd_cons]
    refine ⟨?_, lcm_dvd_times (by simpa using h) h1.tail h2.tail⟩
    have := h1.head
    have := h2.head
    unfold mxI
    split <;> omega
theorem dvd_lcm_left : ∀ {a b : List Int}, a.length = b.length → dvdI a (List.zipWith mxI a b) = true
  | [], [], _ => rfl
  | x :: a, y :: b, h => by
    rw [List.zipWith_cons_cons, dvd_cons]
    refine ⟨?_, dvd_lcm_left (by simpa using h)⟩
    unfold mxI
    split <;> omega
theorem lcm_self : ∀ a : List Int, List.zipWith mxI a a = a
  | [] => rfl
  | x :: a => by
    rw [List.zipWith_cons_cons, lcm_self a]
    congr 1
    unfold mxI
    split <;> omega
theorem lcm_zero : ∀ {a : List Int}, Bd B0 a → List.zipWith mxI a (List.replicate a.length 0) = a
  | [], _ => rfl
  | x :: a, h => by
    rw [List.length_cons, List.replicate_succ, List.zipWith_cons_cons, lcm_zero h.tail]
    congr 1
    have := h.head
    unfold mxI
    split <;> omega
theorem times_zero : ∀ a : List Int, List.zipWith (· + ·) a (List.replicate a.length 0) = a
  | [] => rfl
  | x :: a => by
    rw [List.length_cons, List.replicate_succ, List.zipWith_cons_cons, times_zero a]
    congr 1
    exact Int.add_zero x
theorem add_comm' (x y : Int) : x + y = y + x := Int.add_comm x y
end JN

set_option maxRecDepth 100000
set_option maxHeartbeats 4000000
namespace JN
open PySem PySem.Spec PyProof.Rows L2
/-! ### an own error's __init__ that begins with super().__init__(..) -/
theorem rev_look {ps : List Str} : ∀ {us : List Value} {i : Nat} {x : Str} {u : Value}, ps.Nodup → ps[i]? = some x → us[i]? = some u → (ps.zip us).reverse.lookup x = some u := by
  have key : ∀ (l : List (Str × Value)) (x : Str) (u : Value), (∀ v, (x, v) ∈ l → v = u) → (x, u) ∈ l → l.lookup x = some u := by
    intro l
    induction l with
    | nil => intro x u _ h; cases h
    | cons p l ih =>
      intro x u h1 h2
      obtain ⟨y, v⟩ := p
      by_cases e : x = y
      · subst e
        rw [List.lookup_cons_self, h1 v List.mem_cons_self]
      · have e' : (x == y) = false := by simpa using e
        rw [List.lookup_cons, e']
        refine ih x u (fun w hw => h1 w (List.mem_cons_of_mem _ hw)) ?_
        rcases List.mem_cons.mp h2 with z | z
        · cases z
          exact absurd rfl e
        · exact z
  have uni : ∀ (ps : List Str) (us : List Value) (i : Nat) (x : Str) (u : Value), ps.Nodup → ps[i]? = some x → us[i]? = some u → (x, u) ∈ ps.zip us ∧ ∀ v, (x, v) ∈ ps.zip us → v = u := by
    intro ps
    induction ps with
    | nil => intro us i x u _ h; simp at h
    | cons p ps ih =>
      intro us i x u nd h1 h2
      obtain ⟨n1, n2⟩ := List.nodup_cons.mp nd
      cases us with
      | nil => simp at h2
      | cons w us =>
        cases i with
        | zero =>
          simp at h1 h2
          subst h1 h2
          refine ⟨List.mem_cons_self, fun v hv => ?_⟩
          rcases List.mem_cons.mp hv with z | z
          · cases z
            rfl
          · exact absurd (List.of_mem_zip z).1 n1
        | succ i =>
          simp at h1 h2
          obtain ⟨a1, a2⟩ := ih us i x u n2 h1 h2
          refine ⟨List.mem_cons_of_mem _ a1, fun v hv => ?_⟩
          rcases List.mem_cons.mp hv with z | z
          · cases z
            exact absurd (List.mem_of_getElem? h1) n1
          · exact a2 v z
  intro us i x u nd h1 h2
  obtain ⟨a1, a2⟩ := uni ps us i x u nd h1 h2
  exact key _ x u (fun v hv => a2 v (List.mem_reverse.mp hv)) (List.mem_reverse.mpr a1)
/-- the names of such a def: all local, but __class__ -/
structure SupScope (N ps : List Str) (sc : Scope) : Prop where
  kind : sc.kind = .function
  co : sc.isCoroutine = false
  gen : sc.isGenerator = false
  nd : N.Nodup
  pre : N.take ps.length = ps
  par : ∀ x ∈ ps, sc.names.lookup x = some .local
  nocell : ∀ y ∈ sc.names, y.2 ≠ .cell
  free : ∀ y ∈ sc.names, y.2 = .free → y.1 = "__class__"
  sup : sc.names.lookup ("super" : Str) = some .globalImplicit
  cls : sc.names.lookup ("__class__" : Str) = some .free
/-- the context of such a def's body -/
def cxS (CX : CXT) (P : Program) (w : World) (K : PySem.W.Frag) (mg : Str → Option Value) (base : Heap) (N : List Str) (qual : Str) (sc : Scope) (f : Addr) (cd : Value) (cc : Addr) (A : Around) (outer : List Env) (s : Shared) (H : Hp) (E : XK) : Cx where
  prog := P
  w := w
  K := K
  mg := mg
  base := base
  A := A.deeper (PySem.W.ksEnv qual sc s.heap.objs.size f cd cc)
  N := N
  s_0 := s
  H_0 := H
  env := PySem.W.ksEnv qual sc s.heap.objs.size f cd cc
  outer := outer
  stack := PySem.W.ksEnv qual sc s.heap.objs.size f cd cc :: outer
  ex := []
  calm := true
  fn := fun _ => false
  pn := []
  xe := fun e s' => wpAny (model P w) (A.deeper (PySem.W.ksEnv qual sc s.heap.objs.size f cd cc)) (leaving (PySem.W.ksEnv qual sc s.heap.objs.size f cd cc) e) (fun _ s'' => CX outer H s E e s'') (fun e' s'' => CX outer H s E e' s'') s'
theorem one_cell {cc c : Addr} {x : Str} (h : List.lookup x [(("__class__" : Str), cc)] = some c) : x = "__class__" ∧ c = cc := by
  rw [List.lookup_cons] at h
  split at h
  · rename_i e
    exact ⟨by simpa using e, (Option.some.inj h).symm⟩
  · cases h
theorem inv_sup {CX : CXT} {P : Program} {w : World} {K : PySem.W.Frag} {mg : Str → Option Value} {base : Heap} {N ps : List Str} {qual : Str} {sc : Scope} {f cc : Addr} {cd cv cl : Value} {cld : Option Addr} {csl : Array (Option Value)} {A : Around} {outer : List Env} {s : Shared} {h1 : Heap} {t1 : Nat} {H : Hp} {E : XK} {us : List Value} {vs : List V}
    (S : SupScope N ps sc) (hd : A.handled = none) (e0 : Env0 P w K mg base A outer s H) (hl : vs.length = ps.length) (r : Vals vs us) (hcc : K.lookup cc = some ⟨cl, cld, .cell (some cv), csl⟩)
    (hns : h1.Ns s.heap.objs.size (fun x => (ps.zip us).reverse.lookup x)) (hk : ∀ b o, s.heap.get? b = some o → h1.get? b = some o) :
    Inv (cxS CX P w K mg base N qual sc f cd cc A outer s H E) [] (L2.start N vs) H { s with heap := h1, toks := t1 } := by
  have hpl : ps.length ≤ N.length := by have := congrArg List.length S.pre; rw [List.length_take] at this; omega
  have noA : ∀ b : Addr, b ∉ (cxS CX P w K mg base N qual sc f cd cc A outer s H E).ex := fun b z => absurd (show b ∈ ([] : List Addr) from z) (by simp)
  have hcb := e0.mod.kin _ _ hcc
  refine ⟨⟨e0.mod, S.kind, rfl, rfl, Nat.le_refl _, fun y z c h1 h2 => (one_cell h1).1.trans (one_cell h2).1.symm, fun y hy => ?_, fun y c h _ => absurd (show false = true from h) (by decide), fun _ => hd, Around.frames_deeper e0.frames, .inr ⟨rfl, rfl⟩, fun b z => absurd z (noA b), e0.bs, e0.bsz, fun b _ _ => noA b, fun b z => absurd z (noA b), e0.funs, e0.frf⟩,
    rfl, e0.bare, Un.kept hk, ⟨_, hns, fun i y v h1 h2 h3 => ?_⟩, fun y c h => ⟨some cv, ?_⟩, e0.hok.fresh (Nat.le_refl _), fun y c h => ?_, fun p hp => absurd (show p ∈ ([] : List (Addr × Obj)) from hp) (by simp), e0.hok.kept hk, ?_⟩
  · rcases (show sc.names.lookup y = some .cell ∨ sc.names.lookup y = some .free from hy) with hy | hy
    · exact absurd rfl (S.nocell _ (PySem.mem_of_lookup hy))
    · have ey := S.free _ (PySem.mem_of_lookup hy) rfl
      dsimp only at ey
      subst ey
      exact ⟨cc, by show List.lookup _ [(("__class__" : Str), cc)] = _; rw [List.lookup_cons_self]⟩
  · have hi : i < vs.length := by
      unfold L2.start at h2
      by_cases hi : i < vs.length
      · exact hi
      · rw [List.getElem?_append_right (by simpa using hi)] at h2
        rw [List.getElem?_replicate] at h2
        split at h2 <;> cases h2
    have ha : vs[i]? = some v := by
      unfold L2.start at h2
      rw [List.getElem?_append_left (by simpa using hi), List.getElem?_map] at h2
      cases e : vs[i]? with
      | none => rw [e] at h2; cases h2
      | some a => rw [e] at h2; cases h2; rfl
    obtain ⟨u, hu, rv⟩ := r.get ha
    have hp : ps[i]? = some y := by
      rw [← S.pre, List.getElem?_take_of_lt (by omega)]; exact h1
    have ndP : ps.Nodup := by rw [← S.pre]; exact S.nd.sublist (List.take_sublist _ _)
    exact ⟨u, rv, .inl ⟨S.par y (List.mem_of_getElem? hp), rev_look ndP hp hu⟩⟩
  · obtain ⟨_, rfl⟩ := one_cell h
    exact ⟨_, hk _ _ (e0.bs _ _ hcb).1, rfl⟩
  · obtain ⟨_, rfl⟩ := one_cell h
    exact (e0.bs _ _ hcb).2
  · unfold L2.start
    show _ = N.length
    rw [List.length_append, List.length_map, List.length_replicate]
    omega
/-- the bound ValueError.__init__ called -/
theorem call_mw {prog : Program} {w : World} {A : Around} {E : Value → Shared → Prop} {h : Heap} {g : Array GenState} {d : Drawn} {t : Nat} {os : OsState} {nm q : Str} {C N u e t0 : Addr} {bs bm bmB : List Value} {hdct : Bool} {sn : List Str} {sub : List Value} {ab : Bool} {col : Option Bool} {dd : Option Addr}
    {k0 k1 k2 k3 k5 : Option Value} {B newId i : String} {rest : List Value} {Q : Value → Shared → Prop} (FB : ExcBaseFacts B newId i bmB)
    (hC : h.get? C = some (excClassObj nm q C N bs bm hdct sn sub ab col dd k0 k1 k2 k3 k5 newId)) (he : h.get? e = some (PySem.HandSPX.excO C t0)) (hu : h.get? u = some (PySem.W.kxs_mw i e)) (hz : rest.length ≤ sizeLine)
    (hq : ∀ h' t1, (∀ b o, b ≠ e → h.get? b = some o → h'.get? b = some o) → h'.get? e = some (PySem.HandSPX.excO C t1) → Q .none ⟨h', g, d, t, os⟩) :
    wpAny (model prog w) A (call (.ref u) rest) Q E ⟨h, g, d, t, os⟩ := by
  refine wpAny_call (codeAny_of_tree ?_)
  show wpAny _ A.in1 (callAny (.ref u) ⟨rest, []⟩) _ _ _
  simp only [callAny]
  refine wpAny_bind (wpAny_load hu ?_)
  simp only [PySem.W.kxs_mw, show (Value.type "method-wrapper" == Value.type "method" || Value.type "method-wrapper" == Value.type "builtin_function_or_method" || Value.type "method-wrapper" == Value.type "method-wrapper") = true by decide, if_true]
  refine PySem.W.KFB.if_so (by decide) ?_
  refine wpAny_bind (PySem.W.check_bound_init FB.toExcCallFacts hC he rfl ?_)
  refine wpAny_bind (wpAny_pure (wpAny_pure ?_))
  refine ⟨plainId_quiet FB.init.plain _, codeAny_builtin FB.initEntry ?_⟩
  exact PySem.W.exc_init_tree (cls := .ref C) (t0 := t0) (dv := none) (c2 := .none) (c3 := .none) (b4 := .bool false) he hz fun h' k e' _ => hq h' _ k e'
theorem evalArgs_plainE {M : Model} {A : Around} {E : Value → Shared → Prop} {s : Shared} {f : Value} {p : Pos} {e : Expr} {env : Env} {Q : Args → Shared → Prop} (he : starEach [e] env = (false, eval e env) :: starEach [] env)
    (h : wpAny M A (spliced (backTo p (starEach [e] env))) (fun vs s' => Q ⟨vs, []⟩ s') E s) : wpAny M A (evalArgs f true (backTo p (starEach [e] env)) []) Q E s := by
  rw [he] at h ⊢
  exact PySem.Calls.evalArgs_plain h
/-- what the text says of the class at C and of its __init__ at f -/
structure SupC (P : Program) (K : PySem.W.Frag) (mg : Str → Option Value) (C : Addr) : Prop where
  oex : OexC K C
  own : PySem.W.mroIn K C (.ref C) = some true
  ve : PySem.W.subIn K (.ref C) (.type "ValueError") = some true
  ini : PySem.W.ks_superIn K C C "__init__" = some (some (.builtin "ValueError.__init__"))
  opq : PySem.W.nsIn K PySem.cStatics "thirdparty.any" = some none
  nosup : mg "super" = none
  htop : (P.main.scope.names.lookup ("super" : Str)).isSome = false
theorem fn_sup {CX : CXT} {P : Program} {w : World} {K : PySem.W.Frag} {mg : Str → Option Value} {base : Heap} {k : Nat} {f cc cda C : Addr} {name qual : Str} {params : Arguments} {ar : Arg} {rest : List Stmt} {scope : Scope} {dV kV doc pm ct oc ccl cl : Value} {an od cdd cld : Option Addr}
    {osl ccs csl : Array (Option Value)} {vs0 : Array Value} {file : Str} {tf : Tok} {N ps : List Str} {sp : Sp} {p0 p1 p2 p3 p4 : Pos} {e : Expr}
    (lk : K.lookup f = some ⟨oc, od, .func (PySem.W.ksFn name qual params (.Expr (.Call (.Attribute (.Call (.Name "super" p0) [] [] p1) "__init__" p2) [e] [] p3) p4 :: rest) scope dV kV doc pm an (.ref cda) ct cc), osl⟩)
    (hcd : PySem.W.codeIn K (.ref cda) qual = true) (hcode : K.lookup cda = some ⟨ccl, cdd, .fields vs0, ccs⟩) (hvs : vs0[2]? = some (.str file tf)) (hfile : ((P.main.file : Str) == file) = true) (hcc : K.lookup cc = some ⟨cl, cld, .cell (some (.ref C)), csl⟩)
    (hp : (params.posonlyargs ++ params.args).head? = some ar) (hpar : ps.head? = some ar.arg) (T : SupC P K mg C) (S : SupScope N ps scope) (len : ∀ vs H Q E, sp vs H Q E → vs.length = ps.length)
    (hs : ∀ env : Env, env.frame = some env.locals → env.scope = scope → swapsWith (.Call (.Attribute (.Call (.Name "super" p0) [] [] p1) "__init__" p2) [e] [] p3) none p4.line env = pure false)
    (pl : Env → Sem Bool)
    (hev : ∀ env : Env, eval (.Call (.Attribute (.Call (.Name "super" p0) [] [] p1) "__init__" p2) [e] [] p3) env = (do
      let ov ← attributeBase (.Call (.Name "super" p0) [] [] p1) "__init__" env (eval (.Call (.Name "super" p0) [] [] p1) env)
      standAt p2.atName
      let (f, first) ← holding [ov] (getMethod ov "__init__" (pl env))
      callWith p3 f first (backTo p3 (starEach [e] env)) []))
    (hse : ∀ env : Env, starEach [e] env = (false, eval e env) :: starEach [] env) (hs0 : ∀ env : Env, (backTo p3 (starEach [] env)).any (·.1) = false)
    (hbody : ∀ (A : Around) (outer : List Env) (s : Shared) (H : Hp) (vs : List V) (Q : VK) (E : XK), Room k (A.deeper (PySem.W.ksEnv qual scope s.heap.objs.size f (.ref cda) cc)) → sp vs H Q E →
      ∃ a te tr, vs.head? = some (.ref a) ∧ H a = some (exo a C none) ∧ PE (cxS CX P w K mg base N qual scope f (.ref cda) cc A outer s H E) e te ∧ PSs (cxS CX P w K mg base N qual scope f (.ref cda) cc A outer s H E) rest tr ∧
        te (L2.start N vs) H (fun x H1 => ([x] : List V).length ≤ 1 ∧ H1 a = some (exo a C none) ∧ tr { nx := fun _ H' => Q .non H', rt := Q } (L2.start N vs) H1)) :
    FnOk P w K mg base CX (k + 1) f (PySem.W.ksFn name qual params (.Expr (.Call (.Attribute (.Call (.Name "super" p0) [] [] p1) "__init__" p2) [e] [] p3) p4 :: rest) scope dV kV doc pm an (.ref cda) ct cc) ps sp := by
  refine ⟨len, fun A outer s H args us vs Q E hr e0 hb r hsp => ?_⟩
  have hl := len _ _ _ _ hsp
  have KX : K.In s.heap := e0.mod.kin.keeps fun b o e => (e0.bs b o e).1
  have lim : s.heap.NoLimit := e0.mod.nolimit.keeps fun b o e => (e0.bs b o e).1
  obtain ⟨a, te, tr, hva, hHa, he, hrest, hq⟩ := hbody A outer s H vs Q E (hr.deeper _) hsp
  refine PySem.ks_codeAny_call_defAt (binds := ps.zip us) hr.depth (KX _ _ lk) rfl lim (PySem.W.codeRec_of KX hcd) rfl hb S.nocell (fun x hx => S.par _ (List.of_mem_zip (show (x.1, x.2) ∈ _ from hx)).1) (fun h1 hns hk => ?_) S.co S.gen S.kind
  have I : Inv (cxS CX P w K mg base N qual scope f (.ref cda) cc A outer s H E) [] (L2.start N vs) H { s with heap := h1, toks := s.toks + (ps.zip us).length } := inv_sup S hr.hd e0 hl r hcc hns hk
  have fin : ∀ {σ' : L2.St} {H' : Hp} {v : V} {u : Value} {s' : Shared}, Inv (cxS CX P w K mg base N qual scope f (.ref cda) cc A outer s H E) [] σ' H' s' → RelV v u → Q v H' → CE outer P w H s Q u s' :=
    fun {σ' H' v u s'} J rv q => ⟨v, H', J.os, J.bare, J.base, J.hok, rv, q⟩
  have done : ∀ (fl : Flow) (s' : Shared), SP (cxS CX P w K mg base N qual scope f (.ref cda) cc A outer s H E) [] { nx := fun _ H' => Q .non H', rt := Q } fl s' → CR CX outer P w H s Q E (.ok (.ret (match fl with | .ret v => v | _ => .none))) s' := fun fl s' hs => by
    cases fl with
    | ret u =>
      obtain ⟨v, σ', H', J, rv, q⟩ := hs
      exact fin J rv q
    | next =>
      obtain ⟨σ', H', J, q⟩ := hs
      exact fin (v := V.non) (u := Value.none) J rfl q
    | brk =>
      obtain ⟨_, _, _, q⟩ := hs
      exact False.elim q
    | cont =>
      obtain ⟨_, _, _, q⟩ := hs
      exact False.elim q
  have X1 : K.In h1 := KX.keeps hk
  obtain ⟨nm, qn, Nn, bs, bm, sn, sub, ab, col, dd, k0, k1, k2, k3, k5, hC, hbm⟩ := T.oex.cls
  have hcl : PySem.W.clsIn K C = some { name := nm, bases := bs, mro := .ref C :: bm, ns := Nn, qualname := qn, hasDict := true, slotNames := sn, subclasses := sub, abstract := ab, collection := col, hasDel := false } := by unfold PySem.W.clsIn; rw [hC] <;> rfl
  obtain ⟨t1, hoa⟩ := exo_at I.hok hHa
  have hself : (ps.zip us).reverse.lookup ar.arg = some (.ref a) := by
    cases ps with
    | nil => cases hpar
    | cons p ps =>
      cases hpar
      cases vs with
      | nil => cases hva
      | cons v vs =>
        cases hva
        cases r with
        | cons rv rr =>
          obtain rfl := (show _ = Value.ref a from rv)
          have ndP : (ar.arg :: ps).Nodup := by rw [← S.pre]; exact S.nd.sublist (List.take_sublist _ _)
          exact rev_look (i := 0) ndP rfl rfl
  refine PySem.ks_wpAt_execs_cons (PySem.ks_wpAt_Expr_any ?_ (by show (scope.kind == .module && _) = false; rw [S.kind]; rfl) (hs _ rfl rfl))
  refine PySem.ks_wpAt_MethodCall (pl := pl _) ?_ (hev _)
  refine PySem.ks_wpAt_super_base S.sup S.cls rfl rfl (X1 _ _ lk) rfl hp rfl (X1 _ _ hcode) rfl hvs hfile T.htop ?_
  obtain ⟨mb, hmb, hmb2⟩ := e0.mod.blt
  have bk1 : ∀ b o, base.get? b = some o → h1.get? b = some o := fun b o e => hk b o (e0.bs b o e).1
  refine PySem.W.ks_loadName_global S.kind S.sup (PySem.Calls.loadGlobal_builtin (e0.mod.glob.keeps bk1) T.nosup (hmb.keeps bk1) ((hmb2 _ (by decide)).trans (by decide +kernel)) ⟨rfl, ?_⟩)
  refine wpAny_loadName_free S.kind S.cls rfl ⟨_, X1 _ _ hcc, rfl⟩ ?_
  refine wpAny_loadName_local S.kind (S.par _ (by cases ps with | nil => cases hpar | cons p ps => cases hpar; exact List.mem_cons_self)) hns hself ?_
  refine PySem.ks_wpAny_isType_cls (X1 _ _ hC) rfl ⟨rfl, ?_⟩
  have hnc : ∀ c, ({ cls := .ref C, dict := none, data := .fields #[.ref t1, .none, .none, .none, .bool false, .none] } : Obj).data ≠ .cls c := fun c z => by cases z
  refine PySem.ks_wpAny_call_super (X1 _ _ hC) rfl hoa rfl hnc (PySem.W.looks_mroIn X1 T.own) (fun h2 e2 k2 => ?_)
  have I2 : Inv (cxS CX P w K mg base N qual scope f (.ref cda) cc A outer s H E) [] (L2.start N vs) H { s with heap := h2, toks := s.toks + (ps.zip us).length } := I.kept (h' := h2) (t' := s.toks + (ps.zip us).length) k2
  have X2 : K.In h2 := X1.keeps k2
  have IA : PySem.W.InstAt h2 a { cls := .ref C, dict := none, data := .fields #[.ref t1, .none, .none, .none, .bool false, .none] } C none := ⟨k2 _ _ hoa, rfl, rfl, trivial⟩
  have hini := T.ini
  unfold PySem.W.ks_superIn at hini
  rw [hcl] at hini
  refine PySem.W.kxs_getMethod PySem.W.kxs_ValueError e2 (PySem.W.looks_opaque X2 T.opq) (l₀ := .ref C :: bm) (fun A Q E s k q => wpAny_bind ((PySem.W.looks_clsIn X2 hcl) A _ E s k (wpAny_pure q))) rfl X2 hini (IA.type.andThen (PySem.W.looks_subIn X2 T.ve)) (PySem.W.ks_ne X2 IA hcl) (by decide) ?_
  have k3' : ∀ b o, h2.get? b = some o → (h2.push (PySem.W.kxs_mw "ValueError.__init__" a)).get? b = some o := fun b o z => Heap.get?_push_of_some _ z
  have hnm : H h2.objs.size = none := I2.hok.fresh (Nat.le_refl _)
  have J3 := I2.kept (h' := h2.push (PySem.W.kxs_mw "ValueError.__init__" a)) (t' := s.toks + (ps.zip us).length + 1) k3'
  have lt2 := I2.lt
  have I3 : Inv (cxS CX P w K mg base N qual scope f (.ref cda) cc A outer s H E) [(h2.objs.size, PySem.W.kxs_mw "ValueError.__init__" a)] (L2.start N vs) H { s with heap := h2.push (PySem.W.kxs_mw "ValueError.__init__" a), toks := s.toks + (ps.zip us).length + 1 } :=
    J3.pins_of fun p hp => by
      have e := List.mem_singleton.mp hp
      subst e
      exact ⟨Heap.get?_push_at rfl rfl, hnm, fun z => absurd lt2 (by rw [← z]; exact Nat.lt_irrefl _), I2.nofs (Nat.le_refl _), fun v z => by cases z⟩
  refine PySem.W.kxs_callWith (i := "ValueError.__init__") (x := a) (by show (backTo p3 (starEach [e] (PySem.W.ksEnv qual scope s.heap.objs.size f (.ref cda) cc))).any (fun x => x.1) = false; rw [hse]; exact hs0 (PySem.W.ksEnv qual scope s.heap.objs.size f (.ref cda) cc)) (evalArgs_plainE (hse (PySem.W.ksEnv qual scope s.heap.objs.size f (.ref cda) cc)) ?_)
  refine thn ((pa_cons he pa_nil (hse _)).run p3 _ _ (L2.start N vs) H (fun ys H1 => ys.length ≤ 1 ∧ H1 a = some (exo a C none) ∧ tr { nx := fun _ H' => Q .non H', rt := Q } (L2.start N vs) H1) I3 hq) fun ws s4 ⟨ys, H4, I4, r4, hlen, ha4, q4⟩ => ?_
  have hu4 := (I4.pin (h2.objs.size, PySem.W.kxs_mw "ValueError.__init__" a) (List.mem_append.mpr (.inr List.mem_cons_self))).1
  refine ⟨hu4, ?_⟩
  obtain ⟨t4, ho4⟩ := exo_at I4.hok ha4
  have X4 : K.In s4.heap := I4.kIn
  have hws : ws.length ≤ sizeLine := by
    rw [← Paired.length r4, sizeLine_eq]
    omega
  obtain ⟨hp4, g4, d4, tk4, os4⟩ := s4
  show wpAny _ _ (call (.ref h2.objs.size) ([] ++ ws)) _ _ _
  rw [List.nil_append]
  refine call_mw F.excBase_ValueError (X4 _ _ hC) ho4 hu4 hws fun h5 t5 k5 e5 => ?_
  have J5 := I4.write (t' := tk4) (x := a) (e := a) (o := exo a C none) (by rw [ha4]; exact True.intro) (.inl rfl) k5 ⟨_, e5⟩ (exo_ok e5)
  have eu : upd H4 a (exo a C none) = H4 := by
    funext b
    by_cases hb : b = a
    · rw [hb, upd_same, ha4]
    · rw [upd_ne hb]
  rw [eu] at J5
  have J6 : Inv (cxS CX P w K mg base N qual scope f (.ref cda) cc A outer s H E) [] (L2.start N vs) H4 ⟨h5, g4, d4, tk4, os4⟩ := ⟨J5.ok, J5.os, J5.bare, J5.base, J5.loc, J5.cell, J5.free, J5.freeC, fun p hp => absurd hp (by simp [cxS]), J5.hok, J5.len⟩
  exact wpAt_of_wpAny (wpAny_mono (hrest.run [] _ (L2.start N vs) H4 _ J6 q4) (fun fl s' z => done fl s' z) fun e s' z => z)
end JN

set_option maxRecDepth 100000
set_option maxHeartbeats 4000000
namespace JN
open PySem PySem.Spec PyProof.Rows L2
/-! ### a caught error that is kept -/
/-- at a: an error that was caught, of the class cls, its dict at d -/
def exv (a : Addr) (cls : Value) (d : Option Addr) : HO := .ext fun h => ∃ (oe : Obj) (vs : Array Value), h.get? a = some oe ∧ Zc cls d oe ∧ oe.data = .fields vs
theorem exv_ok {P : Program} {w : World} {H : Hp} {h : Heap} {a : Addr} {cls : Value} {d : Option Addr} {oe : Obj} {vs : Array Value} (e : h.get? a = some oe) (z : Zc cls d oe) (dd : oe.data = .fields vs) : ObjOk P w H h a (exv a cls d) :=
  ⟨⟨oe, vs, e, z, dd⟩, ⟨oe, e⟩, fun _ _ ⟨o, v, q, r⟩ k => ⟨o, v, k o q, r⟩⟩
theorem exv_at {P : Program} {w : World} {H : Hp} {h : Heap} {a : Addr} {cls : Value} {d : Option Addr} (hok : HOk P w H h) (he : H a = some (exv a cls d)) : ∃ (oe : Obj) (vs : Array Value), h.get? a = some oe ∧ Zc cls d oe ∧ oe.data = .fields vs := by
  have x : ObjOk P w H h a (.ext fun h => ∃ (oe : Obj) (vs : Array Value), h.get? a = some oe ∧ Zc cls d oe ∧ oe.data = .fields vs) := hok a _ he
  exact x.1
section
variable {X : Cx} {pins : List (Addr × Obj)} {σ : L2.St} {H : Hp} {s : Shared}
/-- an object made since the entry is tracked from now on -/
theorem track {a : Addr} {o : HO} (I : Inv X pins σ H s) (na : H a = none) (n0 : X.s_0.heap.get? a = none) (nL : a ≠ X.env.locals) (nC : ∀ x c, X.env.cells.lookup x = some c → c ≠ a) (nP : ∀ p ∈ X.pn ++ pins, p.1 ≠ a)
    (new : ObjOk X.prog X.w (upd H a o) s.heap a o) : Inv X pins σ (upd H a o) s := by
  have ne : ∀ b ob, X.s_0.heap.get? b = some ob → b ≠ a := fun b ob e z => by
    rw [z, n0] at e
    cases e
  have neH : ∀ b ob, H b = some ob → b ≠ a := fun b ob e z => by
    rw [z, na] at e
    cases e
  refine ⟨I.ok, I.os, I.bare, ⟨I.base.keep, I.base.slot, fun b ob e n hx => ?_, I.base.there, fun b xs e => ?_, fun b ob u e => ?_, fun b ps e => ?_⟩, I.loc, I.cell, ?_, fun x c e => ?_, fun p hp => ?_, I.hok.laidN (fun _ _ e => e) na new, I.len⟩
  · rw [upd_ne (ne b ob e)]
    exact I.base.free b ob e n hx
  · have q := I.base.tups b xs e
    rw [upd_ne (neH b _ q)]
    exact q
  · have q := I.base.frzs b ob u e
    rw [upd_ne (neH b _ q)]
    exact q
  · obtain ⟨m, q⟩ := I.base.tbls b ps e
    exact ⟨m, by rw [upd_ne (neH b _ q)]; exact q⟩
  · rw [upd_ne nL.symm]
    exact I.free
  · rw [upd_ne (nC x c e)]
    exact I.freeC x c e
  · obtain ⟨e, n, r⟩ := I.pin p hp
    exact ⟨e, by rw [upd_ne (nP p hp)]; exact n, r⟩
end
/-- what the clause wishes: the suite runs through, the error stays tracked; slot i is the clause's name -/
def wKeep (K : PySem.W.Frag) (c : Value) (i : Nat) (ts : Addr → Value → Option Addr → TS) (D : Ends) : WX := fun cls d σ H =>
  PySem.W.exmOne K cls c = some true ∧ ∀ a, H a = none → ts a cls d { nx := fun σ' H' => H' a = none ∧ D.nx (σ'.set i none) (upd H' a (exv a cls d)), rt := fun _ _ => False } (σ.set i (some (.ref a))) H
section
variable {X : Cx} {x n : Str} {c : Value} {i : Nat} {body suite : List Stmt} {b₀ : Stmt} {np pos pos' : Pos} {tb : WX → TS} {ts : Addr → Value → Option Addr → TS}
theorem ps_try_keep (hs : X.stack = X.env :: X.outer) (hf : X.env.frame = some X.env.locals) (hex : X.ex = []) (hpn : X.pn = []) (hN : X.N.Nodup) (hi : X.N[i]? = some n) (hln : X.env.kindOf n = some .local) (hc : Names X x c)
    (hb : ∀ (W : WX) (pn : List (Addr × Obj)) (xe : Value → Shared → Prop), Takes (X.tr pn xe) W → PassesOwn (model X.prog X.w) X.A X.env xe → PSs (X.tr pn xe) body (tb W))
    (hsu : ∀ (a : Addr) (oe : Obj) (cls : Value) (d : Option Addr) (pn : List (Addr × Obj)), Zc cls d oe → (∃ vs, oe.data = .fields vs) → PSs (X.suite a ((a, oe) :: pn)) (b₀ :: suite) (ts a cls d)) :
    PS X (.Try body [.ExceptHandler (some (.Name x np)) (some n) (b₀ :: suite) pos'] [] [] pos) (fun D σ H => tb (wKeep X.K c i ts D) D σ H) := by
  refine ⟨fun pins s σ H D I h => ?_⟩
  have ok := I.ok
  have hfr : X.A.frames = some (X.env :: X.outer) := by rw [ok.frames, hs]
  refine wpAny_Try_except ?_
  let xeT : Value → Shared → Prop := fun e s₁ => wpAny (model X.prog X.w) X.A (noteFrame e X.env) (fun _ s₂ => wpAny (model X.prog X.w) X.A (setFlight e none) (fun _ s₃ =>
    wpAny (model X.prog X.w) X.A (handleBy e X.env [.ExceptHandler (some (.Name x np)) (some n) (b₀ :: suite) pos']) (SP X pins D) X.xe s₃) X.xe s₂) X.xe s₁
  have takes : Takes (X.tr (X.pn ++ pins) xeT) (wKeep X.K c i ts D) := fun u s' xx => by
    obtain ⟨a, B, sI, pins', σ', H', cls, d, rfl, J', nb, up, sky, na, os, ag, hb1, hyes⟩ := xx
    have J : Inv X pins σ' H' sI := J'.ofTry ok
    have sky' : Sky B (X.env :: X.outer) a (Zc cls d) X.env.locals s'.heap := by rw [← hs]; exact sky
    show wpAny (model X.prog X.w) X.A (noteFrame (.ref a) X.env) _ _ _
    refine Sky.land Zc.steady hfr hf sky' fun h3 fl3 up3 => ?_
    have J3 : Inv X pins σ' H' { s' with heap := h3 } := J.landed nb fl3.1 (up.trans up3) os ag
    obtain ⟨oe3, vs3, he3, hz3, hd3⟩ := fl3.there
    have nfr : a ∉ frs (X.env :: X.outer) := fun hm => by
      obtain ⟨_, o', e', hnf⟩ := fl3.2.2.1.mem hm
      rw [he3] at e'
      cases e'
      exact hnf _ hd3
    have nL : a ≠ X.env.locals := fun z => nfr (List.mem_filterMap.mpr ⟨X.env, List.mem_cons_self, by rw [hf, z]⟩)
    have nF : a ∉ X.fs := fun hm => by
      obtain ⟨e, he, q⟩ := List.mem_filterMap.mp hm
      exact nfr (List.mem_filterMap.mpr ⟨e, List.mem_cons_of_mem _ he, q⟩)
    have old : sI.heap.get? a = none := by
      cases z : sI.heap.get? a with
      | none => rfl
      | some o =>
        have q := nb a o z (by show a ∉ frs X.stack; rw [hs]; exact nfr)
        rw [fl3.2.1] at q
        cases q
    have old0 : X.s_0.heap.get? a = none := by
      cases z : X.s_0.heap.get? a with
      | none => rfl
      | some o =>
        obtain ⟨o', q⟩ := J.base.there a o z (by rw [hex]; exact fun z => nomatch z)
        rw [old] at q
        cases q
    have nC : ∀ x c, X.env.cells.lookup x = some c → c ≠ a := fun y cc e z => by
      obtain ⟨v, o, q, _⟩ := J.cell y cc e
      rw [z, old] at q
      cases q
    have nP : ∀ p ∈ X.pn ++ pins, p.1 ≠ a := fun p hp z => by
      have q := (J.pin p hp).1
      rw [z, old] at q
      cases q
    have S3 := J3.suite he3 hd3 na nL nF
    refine wpAny_handleBy_cons (codeAny_handlers_test ?_) (by intro q; cases q)
    have LT : PySem.W.Looks (model X.prog X.w) h3 (typeOf (.ref a)) cls := fun A Q E s k q => wpAny_typeOf_ref (k _ _ he3) (by rw [hz3.1]; exact q)
    have LM := PySem.W.exm_one (M := model X.prog X.w) (J3.kIn) LT hb1
    have test : ∀ {Q : Value → Shared → Prop} {E : Value → Shared → Prop}, Q c { s' with heap := h3 } → wpAny (model X.prog X.w) (X.A.mark (some (.ref a))) (eval (.Name x np) X.env) Q E { s' with heap := h3 } := fun {Q E} q => by
      obtain ⟨hg, hdbg, hm | ⟨hm, hv, hnn⟩⟩ := hc
      · exact ld_glob (X := X.suite a ((a, oe3) :: (X.pn ++ pins))) S3 hg hm q hdbg
      · exact ld_blt (X := X.suite a ((a, oe3) :: (X.pn ++ pins))) S3 hg hm hv q hnn hdbg
    refine test (LM.here ?_)
    refine codeAny_handlers_suite_as ?_
    refine HandSPX.lands_againZ fl3 fun h4 fl4 up4 => ?_
    have J4 : Inv X pins σ' H' { s' with heap := h4 } := J.landed nb fl4.1 ((up.trans up3).trans up4) os ag
    obtain ⟨oe4, vs4, he4, hz4, hd4⟩ := fl4.there
    have S4 := J4.suite he4 hd4 na nL nF
    refine store_ok (X := X.suite a ((a, oe4) :: (X.pn ++ pins))) (v := .ref a) S4 hN hi (.inl hln) rfl (fun s5 S5 => ?_) (.inr hln)
    refine wpAny_mono ((hsu a oe4 cls d (X.pn ++ pins) hz4 ⟨_, hd4⟩).run [] s5 _ H' _ S5 (hyes a na)) (fun f s6 hsp => ?_) (fun _ _ z => False.elim z)
    cases f with
    | next =>
      obtain ⟨σ6, H6, S6, na6, q6⟩ := hsp
      have J6 : Inv X ((a, oe4) :: pins) σ6 H6 s6 := ⟨ok, S6.os, S6.bare, S6.base, S6.loc, S6.cell, S6.free, S6.freeC, fun p hp => S6.pin p (by
        rcases List.mem_append.mp hp with z | z
        · exact List.mem_append_left _ (List.mem_cons_of_mem _ (List.mem_append_left _ z))
        · rcases List.mem_cons.mp z with z | z
          · exact List.mem_append_left _ (by rw [z]; exact List.mem_cons_self)
          · exact List.mem_append_left _ (List.mem_cons_of_mem _ (List.mem_append_right _ z))), S6.hok, S6.len⟩
      refine gone_ok J6 hN hi hln fun s7 J7 => ?_
      have e7 := (J7.pin (a, oe4) (List.mem_append_right _ List.mem_cons_self)).1
      have J8 : Inv X pins (σ6.set i none) H6 s7 := ⟨J7.ok, J7.os, J7.bare, J7.base, J7.loc, J7.cell, J7.free, J7.freeC, fun p hp => J7.pin p (by
        rcases List.mem_append.mp hp with z | z
        · exact List.mem_append_left _ z
        · exact List.mem_append_right _ (List.mem_cons_of_mem _ z)), J7.hok, J7.len⟩
      exact ⟨_, _, track J8 na6 old0 nL nC nP (exv_ok e7 hz4 hd4), q6⟩
    | brk =>
      obtain ⟨_, _, _, q6⟩ := hsp
      exact False.elim q6
    | cont =>
      obtain ⟨_, _, _, q6⟩ := hsp
      exact False.elim q6
    | ret u =>
      obtain ⟨_, _, _, _, _, q6⟩ := hsp
      exact False.elim q6
  refine wpAny_mono ((hb (wKeep X.K c i ts D) (X.pn ++ pins) xeT takes PassesOwn.looking).run [] s σ H D (I.toTry _) h) (fun f s1 hsp => ?_) (fun e s1 he => he)
  cases f with
  | next =>
    obtain ⟨σ', H', J', q⟩ := hsp
    exact wpAny_execs_nil ⟨σ', H', J'.ofTry ok, q⟩
  | brk =>
    obtain ⟨σ', H', J', q⟩ := hsp
    exact ⟨σ', H', J'.ofTry ok, q⟩
  | cont =>
    obtain ⟨σ', H', J', q⟩ := hsp
    exact ⟨σ', H', J'.ofTry ok, q⟩
  | ret u =>
    obtain ⟨v, σ', H', J', r, q⟩ := hsp
    exact ⟨v, σ', H', J'.ofTry ok, r, q⟩
end
/-- the dict of a kept error: none, or tracked -/
def DxOk (H : Hp) (d : Option Addr) : Prop := d = none ∨ ∃ dd fs, d = some dd ∧ H dd = some (.xd fs)
theorem inst_exv {X : Cx} {pins : List (Addr × Obj)} {σ : L2.St} {H : Hp} {s : Shared} {a D : Addr} {d : Option Addr} (I : Inv X pins σ H s) (he : H a = some (exv a (.ref D) d)) (hd : DxOk H d) : ∃ oe od, PySem.W.InstAt s.heap a oe D od := by
  obtain ⟨oe, vs, h1, h2, h3⟩ := exv_at I.hok he
  obtain ⟨oc, odd, oda, osl⟩ := oe
  obtain ⟨z1, z2⟩ := h2
  dsimp only at z1 z2 h3
  subst z1 z2 h3
  rcases hd with rfl | ⟨dd, fs, rfl, hx⟩
  · exact ⟨_, none, h1, rfl, rfl, trivial⟩
  · have y : ObjOk X.prog X.w H s.heap dd (.xd fs) := I.hok dd _ hx
    obtain ⟨mA, ⟨o, es, ep, ho, _⟩, _⟩ := y
    exact ⟨_, some o, h1, rfl, rfl, ho⟩
/-- isinstance(e, c), e a kept error -/
def rIsV (K : PySem.W.Frag) : List V → Hp → VK → Prop := fun xs H Q => ∃ (a D : Addr) (d : Option Addr) (c : V) (cv : Value) (b : Bool), xs = [.ref a, c] ∧ H a = some (exv a (.ref D) d) ∧ DxOk H d ∧ ExcC K D ∧ (∀ u, RelV c u → u = cv) ∧ PySem.W.kitOne K (.ref D) cv = some b ∧ Q (.bl b) H
theorem call_isV {X : Cx} : CallR X (.builtin "isinstance") (rIsV X.K) := by
  intro pins s σ H xs us Q I r h
  obtain ⟨a, D, d, c, cv, b, rfl, ha, hd, C, hcv, e, q⟩ := h
  obtain ⟨oe, od, J⟩ := inst_exv I ha hd
  cases r with
  | cons rx rr =>
    cases rr with
    | cons rt rr =>
      cases rr
      cases rx
      have ec := hcv _ rt
      subst ec
      have hcl : (PySem.W.clsIn X.K D).isSome = true := by
        obtain ⟨cd, hc, _⟩ := PySem.W.any_some C.hd
        rw [hc]
        rfl
      exact PySem.W.kia_one (PySem.W.kitx_exc hcl C.hg C.hk C.hs C.ha C.hn C.ht C.hm) I.kIn J e (fun z => nomatch z) fun tk => ⟨.bl b, H, I.kept (t' := tk) fun _ _ z => z, rfl, q⟩
/-- e.f, e a kept error -/
def tXv (K : PySem.W.Frag) (f : Str) (te : TE) : TE := fun σ H Q => te σ H fun x H1 => ∃ (a C dd : Addr) (fs : List (Str × V)) (v : V), x = .ref a ∧ H1 a = some (exv a (.ref C) (some dd)) ∧ XfC K C ∧ PySem.W.findIn K (.ref C) f = some none ∧ H1 dd = some (.xd fs) ∧ fs.lookup f = some v ∧ Q v H1
theorem pe_xv {X : Cx} {e : Expr} {te : TE} {pos : Pos} {n : Str} (he : PE X e te) (hb : attributeBase e n X.env (eval e X.env) = eval e X.env := by rfl) : PE X (.Attribute e n pos) (tXv X.K n te) := by
  refine ⟨fun pins s σ H Q I h => ?_⟩
  refine attr_of hb (thn (he.run pins s σ H _ I h) fun u s1 hh => ?_)
  obtain ⟨x, H1, I1, rx, a, C, dd, fs, v, ex, hea, T, hno, ea, l, q⟩ := hh
  subst ex
  obtain rfl : u = Value.ref a := rx
  obtain ⟨oe, vs, ha, hz, hd⟩ := exv_at I1.hok hea
  have hx : ObjOk X.prog X.w H1 s1.heap dd (.xd fs) := I1.hok dd _ ea
  obtain ⟨mA, hns, hr⟩ := hx
  obtain ⟨od, ho, hl⟩ := lookIn_ns hns
  obtain ⟨u, hu, ru⟩ := RelO.some_of (v := v) (o := mA n) (by rw [← l]; exact hr n)
  have J : PySem.W.InstAt s1.heap a oe C (some od) := ⟨ha, hz.1, by unfold PySem.W.notCls; rw [hd] <;> rfl, by rw [hz.2]; exact ho⟩
  exact HandSPX.exc_get I1.kIn J T.ga T.gg T.exC (PySem.W.findObj_own T.hdC hno rfl (by rw [hl, hu])) (handed_of ru) ⟨v, H1, I1.tok _, ru, q⟩
end JN

set_option maxRecDepth 100000
set_option maxHeartbeats 8000000
namespace JN
open PySem PySem.Spec PyProof.Rows L2
def topS (i : Nat) : Stmt := PySem.Challenge.pw_jointneeds_k02_whole_what_is_generated.main.body.getD i (.Pass ⟨0, 0, 0, 0⟩)
abbrev S_divides : Stmt := topS 7
abbrev S_has_divisor : Stmt := topS 8
abbrev S_least_ones : Stmt := topS 9
abbrev S_ideal_of : Stmt := topS 12
abbrev S_contains : Stmt := topS 13
abbrev S_is_within : Stmt := topS 14
abbrev S_law_begun : Stmt := topS 16
abbrev S_law_draw : Stmt := topS 17
abbrev S_law_divides : Stmt := topS 18
abbrev S_law_least : Stmt := topS 19
abbrev S_law_in : Stmt := topS 20
abbrev S_law_monomial : Stmt := topS 21
abbrev S_law_box : Stmt := topS 22
abbrev S_law_told : Stmt := topS 23
abbrev S_law : Stmt := topS 24
end JN
namespace JN
open PySem PySem.Spec PyProof.Rows L2
/-- the built-in names stand as they are -/
structure Bt (mg : Str → Option Value) : Prop where
  int : mg "int" = none
  len : mg "len" = none
  tuple : mg "tuple" = none
  zip : mg "zip" = none
  enumerate : mg "enumerate" = none
  range : mg "range" = none
  max : mg "max" = none
  min : mg "min" = none
  sum : mg "sum" = none
  isinstance : mg "isinstance" = none
  bool : mg "bool" = none
  set : mg "set" = none
  sorted : mg "sorted" = none
  all : mg "all" = none
  list : mg "list" = none
/-- a def of the text, how it binds, where its name stands -/
structure At (K : PySem.W.Frag) (mg : Str → Option Value) (x : Str) (st : Stmt) (ps : List Str) (f : Addr) (fd : FuncData) : Prop where
  fn : Fun K x x st f fd
  bi : Binds K fd ps []
  gl : mg x = some (.ref f)
section
variable {P : Program} {w : World} {K : PySem.W.Frag} {mg : Str → Option Value} {base : Heap}
theorem scDraw : FnScope ["m", "below", "found", "spot", "cells", "extra", "cell", "blend"] ["m", "below"] (defScope S_law_draw) := ⟨rfl, rfl, rfl, by decide +kernel, rfl, by decide +kernel, by decide +kernel⟩
theorem ok_draw {f : Addr} {fd : FuncData} (F : Fun K "_law_draw" "_law_draw" S_law_draw f fd) (B : Bt mg) : FnOk P w K mg base CX0 1 f fd ["m", "below"] spDraw := by
  refine F.ok scDraw (fun vs H Q E h => ?_) (fun cdv A outer s H vs Q E hr h => ?_)
  · obtain ⟨d, c, below, n, rfl, _⟩ := h
    rfl
  · obtain ⟨d, c, below, n, rfl, ⟨l, sd, p, cs, h1, h2, h3, h4, h5, h6, h7, h8, h9⟩, hn, hb1, hb2, q⟩ := h
    have hu := hu_of hr
    have nd := scDraw.nd
    refine ⟨_, pss_cons (ps_if (pt_cmpR op_gt (pe_dget hu (pv 0) pe_str (fun _ _ => rfl)) pe_int (nomark _))
        (pss_cons (ps_set (i := 2) nd rfl (.inl rfl) (pe_op op_mod (pe_callTy call_int1 (by rfl) B.int (by decide +kernel) (pa_cons (pe_dget hu (pv 0) pe_str (fun _ _ => rfl)) pa_nil)) (pv 1)))
        (pss_cons (ps_dput hu (pv 0) pe_str (pe_op op_fdiv (pe_dget hu (pv 0) pe_str (fun _ _ => rfl)) (pv 1)) rfl)
        (pss_one (ps_ret (pv 2))))) pss_nil)
      (pss_cons (ps_set (i := 3) nd rfl (.inl rfl) (pe_dget hu (pv 0) pe_str (fun _ _ => rfl)))
      (pss_cons (ps_dput hu (pv 0) pe_str (pe_op op_add (pv 3) pe_int) rfl)
      (pss_cons (ps_par (i := 4) (j := 5) (by rfl) nd rfl rfl (by decide) rfl rfl (pa_cons (pe_dget hu (pv 0) pe_str (fun _ _ => rfl))
          (pa_cons (pe_op op_add (pe_dget hu (pv 0) pe_str (fun _ _ => rfl)) (pe_op op_mul (pe_op op_mul pe_int (pv 3)) (pv 3))) pa_nil)) (by rfl))
      (pss_cons (ps_set (i := 6) nd rfl (.inl rfl) (pe_ix ix_list (pv 4) (pe_op op_mod (pe_callTy call_int1 (by rfl) B.int (by decide +kernel) (pa_cons (pv 3) pa_nil))
          (pe_callB call_len_seq (by rfl) B.len PySem.boot_len (pa_cons (pv 4) pa_nil))) (fun _ _ => rfl)))
      (pss_cons (ps_set (i := 7) nd rfl (.inl rfl) (pe_op op_mod (pe_callTy call_int1 (by rfl) B.int (by decide +kernel)
          (pa_cons (pe_op op_add (pe_op op_mul (pv 6) (pe_op op_add (pe_op op_mul pe_int (pv 3)) pe_int)) (pv 5)) pa_nil)) pe_int))
      (pss_cons (ps_set (i := 7) nd rfl (.inl rfl) (pe_op op_mod (pe_callTy call_int1 (by rfl) B.int (by decide +kernel)
          (pa_cons (pe_op op_add (pe_op op_add (pe_op op_mul (pv 7) (pv 7)) (pe_op op_mul pe_int (pv 3))) (pe_dget hu (pv 0) pe_str (fun _ _ => rfl))) pa_nil)) pe_int))
      (pss_one (ps_ret (pe_op op_mod (pe_op op_fdiv (pe_op op_mod (pe_callTy call_int1 (by rfl) B.int (by decide +kernel)
          (pa_cons (pe_op op_add (pe_op op_mul (pv 7) pe_int) (pv 3)) pa_nil)) pe_int) pe_int) (pv 1)))))))))), ?_⟩
    have g1 : ∀ {H' : Hp} {l' p' : Int}, H' d = some (.dK (mS l' sd c p')) → DGet H' d (.str "left") (some (.int l')) := fun e => .inl ⟨_, Sum.inr "left", .inl e, rfl, mS_left.symm⟩
    have g2 : ∀ {H' : Hp} {l' p' : Int}, H' d = some (.dK (mS l' sd c p')) → DGet H' d (.str "seed") (some (.int sd)) := fun e => .inl ⟨_, Sum.inr "seed", .inl e, rfl, mS_seed.symm⟩
    have g3 : ∀ {H' : Hp} {l' p' : Int}, H' d = some (.dK (mS l' sd c p')) → DGet H' d (.str "cells") (some (.ref c)) := fun e => .inl ⟨_, Sum.inr "cells", .inl e, rfl, mS_cells.symm⟩
    have g4 : ∀ {H' : Hp} {l' p' : Int}, H' d = some (.dK (mS l' sd c p')) → DGet H' d (.str "spot") (some (.int p')) := fun e => .inl ⟨_, Sum.inr "spot", .inl e, rfl, mS_spot.symm⟩
    refine ⟨_, rfl, d, .int l, rfl, g1 h1, _, _, rfl, rfl, _, rfl, ite2 (fun e => ?_) (fun e => ?_)⟩
    · -- found = int(m["left"]) % below
      refine ⟨_, rfl, d, .int l, rfl, g1 h1, .inl ⟨_, rfl, _, rfl, _, _, rfl, rfl, by omega, ?_⟩⟩
      refine ⟨_, rfl, d, .int l, rfl, g1 h1, _, rfl, _, _, rfl, rfl, ⟨by omega, by omega⟩, _, rfl, d, _, rfl, DPut.k (k := Sum.inr "left") h1 (by show 4 < sizeLine; decide), ?_⟩
      refine ⟨_, rfl, q _ _ (Int.emod_nonneg _ (by omega)) (Int.emod_lt_of_pos _ (by omega)) ((Kp.refl H).upd (by simp)) ⟨l / below, sd, p, cs, ?_, ?_, h3, h4, h5, h6, h7, h8, by omega⟩⟩
      · rw [upd_same, mS_put_left]
      · rw [upd_ne h3]; exact h2
    · have hc : (1 : Int) ≤ (cs.length : Int) := by
        cases cs with
        | nil => exact absurd rfl h4
        | cons a r => rw [List.length_cons]; omega
      have hp : p ≤ 1000000 := by omega
      refine ⟨_, rfl, d, .int p, rfl, g4 h1, ?_⟩
      refine ⟨_, rfl, _, _, rfl, rfl, _, rfl, d, _, rfl, DPut.k (k := Sum.inr "spot") h1 (by show 4 < sizeLine; decide), ?_⟩
      generalize hH2 : upd H d (.dK (putK (mS l sd c p) (Sum.inr "spot") (.int (p + 1)))) = H2
      have k2 : Kp [d] H H2 := by
        rw [← hH2]
        exact (Kp.refl H).upd (by simp)
      have e2 : H2 d = some (.dK (mS l sd c (p + 1))) := by rw [← hH2, upd_same, mS_put_spot]
      have hC0 : H2 c = some (.lst (cs.map V.int)) := k2 _ _ h2 (by simp [h3])
      have hC : SqL K H2 c (cs.map V.int) := .inl (.inl hC0)
      have hm1 : 0 ≤ p % (cs.length : Int) := Int.emod_nonneg _ (by omega)
      have hm2 : p % (cs.length : Int) < (cs.length : Int) := Int.emod_lt_of_pos _ (by omega)
      refine ⟨_, rfl, d, .ref c, rfl, g3 e2, _, rfl, d, .int sd, rfl, g2 e2, _, rfl, _, _, rfl, rfl, .inl ⟨by decide, by decide⟩, _, rfl, _, _, rfl, rfl, .inr ⟨by omega, by omega⟩, _, _, rfl, rfl, _, _, rfl, ?_⟩
      have hix : atI (cs.map V.int) (p % (cs.length : Int)) = some (.int (at0 cs (p % (cs.length : Int)).toNat)) := by
        have := ix0 (ns := cs) (i := (p % (cs.length : Int)).toNat) (by omega)
        rwa [Int.toNat_of_nonneg hm1] at this
      refine ⟨_, rfl, _, rfl, .inl ⟨_, rfl, _, rfl, c, _, rfl, .inl hC, _, _, rfl, rfl, ?_, c, _, _, .int (at0 cs (p % (cs.length : Int)).toNat), rfl, rfl, hC, ?_, ?_⟩⟩
      · rw [List.length_map]; omega
      · rw [List.length_map]; exact hix
      generalize at0 cs (p % (cs.length : Int)).toNat = cell
      refine ⟨_, rfl, _, rfl, _, _, rfl, rfl, .inl ⟨by decide, by decide⟩, _, _, rfl, rfl, _, _, rfl, rfl, .inr ⟨by omega, by omega⟩, _, rfl, _, _, rfl, rfl, .inl ⟨_, rfl, _, _, rfl, rfl, (by decide : (0 : Int) < 2147483647), ?_⟩⟩
      generalize hb0 : (cell * (2 * p + 3) + (sd + 40503 * p * p)) % 2147483647 = b0
      have hb1 : 0 ≤ b0 := by omega
      have hb2 : b0 < 2147483647 := by omega
      refine ⟨_, rfl, _, rfl, _, _, rfl, rfl, .inl ⟨by omega, by omega⟩, _, rfl, _, _, rfl, rfl, .inl ⟨by decide, by decide⟩, _, _, rfl, rfl, _, rfl, d, .int sd, rfl, g2 e2, _, _, rfl, rfl, .inl ⟨_, rfl, _, _, rfl, rfl, (by decide : (0 : Int) < 2147483629), ?_⟩⟩
      generalize hb3 : (b0 * b0 + 69621 * p + sd) % 2147483629 = b3
      refine ⟨_, rfl, _, _, rfl, rfl, .inr ⟨by decide, by decide⟩, _, rfl, _, _, rfl, rfl, .inl ⟨_, rfl, _, _, rfl, rfl, (by decide : (0 : Int) < 2147483647), _, _, rfl, rfl, ⟨by decide, by decide⟩, _, rfl, _, _, rfl, rfl, by omega, ?_⟩⟩
      exact q _ _ (Int.emod_nonneg _ (by omega)) (Int.emod_lt_of_pos _ (by omega)) k2 ⟨l, sd, p + 1, cs, e2, hC0, h3, h4, h5, h6, h7, by omega, by omega⟩
end
section
variable {P : Program} {w : World} {K : PySem.W.Frag} {mg : Str → Option Value} {base : Heap}
theorem cut_ints (ns : List Int) (lo hi : Option Int) : ∃ ms : List Int, cutV (ns.map V.int) lo hi = ms.map V.int ∧ ms.length ≤ ns.length := by
  refine ⟨(ns.drop (HT.sIx (ns.map V.int).length 0 lo)).take (HT.sIx (ns.map V.int).length (ns.map V.int).length hi - HT.sIx (ns.map V.int).length 0 lo), ?_, ?_⟩
  · unfold cutV
    rw [List.map_take, List.map_drop]
  · rw [List.length_take, List.length_drop]
    omega
theorem mS_made {l s p : Int} {c : Addr} : mergeK [] [(.inr "left", .int l), (.inr "seed", .int s), (.inr "cells", .ref c), (.inr "spot", .int p)] = mS l s c p := by
  simp [mergeK, putK, mS, kls, klc, klp, ksc, ksp, kcp]
theorem scBegun : FnScope ["script", "k", "cells", "cell", "great", "seed"] ["script", "k"] (defScope S_law_begun) := ⟨rfl, rfl, rfl, by decide +kernel, rfl, by decide +kernel, by decide +kernel⟩
theorem ok_begun {f : Addr} {fd : FuncData} (F : Fun K "_law_begun" "_law_begun" S_law_begun f fd) (B : Bt mg) : FnOk P w K mg base CX0 1 f fd ["script", "k"] (spBegun K) := by
  refine F.ok scBegun (fun vs H Q E h => ?_) (fun cdv A outer s H vs Q E hr h => ?_)
  · obtain ⟨a, ns, k, rfl, _⟩ := h
    rfl
  · obtain ⟨a, ns, k, rfl, hS, hl, hk0, hk1, q⟩ := h
    have hu := hu_of hr
    have nd := scBegun.nd
    refine ⟨_, pss_cons (ps_set (i := 2) nd rfl (.inl rfl) (pe_op op_cat (pe_slice sl_list (pv 0) (po_some (pv 1)) po_none) (pe_slice sl_list (pv 0) po_none (po_some (pv 1)))))
      (pss_cons (ps_setLc (i := 4) (own := [("cell", 3)]) (g := gName 3) (by rfl) nd rfl rfl (sw_true rfl rfl rfl (by decide +kernel)) (pi_list (pv 2)) (blkOk_by (own := [("cell", 3)]) (N := ["script", "k", "cells", "cell", "great", "seed"]) (sc := defScope S_law_begun) (by decide +kernel))
          (fun _ _ _ _ _ => pg_name (i := 3) nd rfl (.inl rfl)) (fun _ _ _ _ _ => pts_one (pt_cmpR op_ge (pv 3) (pe_op op_pow pe_int pe_int) (nomark _))) (fun _ _ _ _ _ => pv 3))
      (pss_cons (ps_set (i := 5) nd rfl (.inl rfl) (pe_op op_add pe_int (pv 1)))
      (pss_cons (ps_for PassesOwn.never rfl (pi_list (pv 2)) (pg_name (i := 3) nd rfl (.inl rfl))
          (pss_one (ps_set (i := 5) nd rfl (.inl rfl) (pe_op op_mod (pe_callTy call_int1 (by rfl) B.int (by decide +kernel) (pa_cons (pe_op op_add (pe_op op_mul (pv 5) pe_int) (pv 3)) pa_nil)) pe_int))))
      (pss_one (ps_ret (pe_disp (pps_cons pe_str (pe_ifExp (pt_cmpR (op_neD hr.units) (pv 4) (pe_lst pa_nil) (nomark _)) (pe_ix ix_list (pv 4) pe_int (fun _ _ => rfl)) pe_int)
          (pps_cons pe_str (pv 5) (pps_cons pe_str (pe_op op_cat (pv 2) (pe_lst (pa_cons (pe_op op_add (pe_op op_mul pe_int (pv 1)) pe_int) pa_nil)))
          (pps_cons pe_str pe_int pps_nil)))) (by rfl) (by rfl) (fun z => by cases z) (by decide))))))), ?_⟩
    obtain ⟨m1, e1, l1⟩ := cut_ints ns (some k) none
    obtain ⟨m2, e2, l2⟩ := cut_ints ns none (some k)
    refine ⟨.ref a, rfl, .int k, rfl, k, rfl, a, _, rfl, hS, fun p1 np1 => ?_⟩
    have s1 := same_new (o := .lst (cutV (ns.map V.int) (some k) none)) np1
    refine ⟨.ref a, rfl, .int k, rfl, k, rfl, a, _, rfl, s1.seq hS, fun p2 np2 => ?_⟩
    have s2 := same_new (o := .lst (cutV (ns.map V.int) none (some k))) np2
    have n12 : p1 ≠ p2 := ne_of_none upd_same np2
    refine ⟨p1, p2, _, _, rfl, rfl, (by rw [upd_ne n12]; exact upd_same), upd_same, ?_, fun c nc => ?_⟩
    · rw [e1, e2, List.length_map, List.length_map, sizeLine_eq]; omega
    have s3 := same_new (o := .lst (cutV (ns.map V.int) (some k) none ++ cutV (ns.map V.int) none (some k))) nc
    rw [e1, e2, ← List.map_append] at s3 ⊢
    rw [e1, e2] at s2
    rw [e1] at s1
    generalize hcs : m1 ++ m2 = cs at s3 ⊢
    have hcl : cs.length ≤ 126 := by rw [← hcs, List.length_append]; omega
    have s0 := (s1.trans s2).trans s3
    generalize hH3 : upd (upd (upd H p1 (.lst (m1.map V.int))) p2 (.lst (m2.map V.int))) c (.lst (cs.map V.int)) = H3 at s0 ⊢
    have hC : H3 c = some (.lst (cs.map V.int)) := by rw [← hH3]; exact upd_same
    refine ⟨.ref c, rfl, c, rfl, ⟨_, .inl (.inl hC)⟩, fun D nD => lc_list (xs := cs.map V.int) (fun i H4 => ∃ gs : List Int, Same H3 H4 ∧ H4 D = some (.lst (gs.map V.int)) ∧ gs.length ≤ i) ⟨[], same_new nD, upd_same, Nat.le_refl _⟩ (fun i H4 _ h => ?_) (fun i x H4 hx h => ?_) (fun H4 h => ?_)⟩
    · obtain ⟨gs, sm, _⟩ := h
      exact sm.seq (.inl (.inl hC))
    · obtain ⟨gs, sm, eD, hgl⟩ := h
      have hi := (List.getElem?_eq_some_iff.mp hx).1
      rw [List.length_map] at hi
      have ex : x = .int (at0 cs i) := Option.some.inj (hx.symm.trans (it0 hi))
      subst ex
      refine ⟨rfl, .int (at0 cs i), rfl, 10, 18, rfl, rfl, ⟨by decide, by decide, by decide⟩, at0 cs i, _, rfl, rfl, _, rfl, ?_⟩
      refine ite2 (fun e => ?_) (fun e => ?_)
      · refine ⟨_, rfl, gs.map V.int, eD, ?_, gs ++ [at0 cs i], fun b o e => ?_, ?_, ?_⟩
        · rw [List.length_map, sizeLine_eq]; omega
        · rw [upd_ne (ne_of_none e nD)]
          exact sm _ _ e
        · rw [upd_same, List.map_append]
          rfl
        · rw [List.length_append]
          exact Nat.add_le_add_right hgl 1
      · exact ⟨gs, sm, eD, by omega⟩
    · obtain ⟨gs, sm4, eG, hgl⟩ := h
      have hC4 : H4 c = some (.lst (cs.map V.int)) := sm4 _ _ hC
      refine ⟨.int k, rfl, _, _, rfl, rfl, ?_⟩
      refine ⟨.ref c, rfl, c, rfl, ⟨_, .inl (.inl hC4)⟩, for_list (xs := cs.map V.int) (fun i σ H5 => H5 = H4 ∧ ∃ (z : Option V) (sd : Int), σ = [some (.ref a), some (.int k), some (.ref c), z, some (.ref D), some (.int sd)] ∧ 0 ≤ sd ∧ sd < 2147483647)
        ⟨rfl, _, 71 + k, rfl, by omega, by omega⟩ (fun i σ H5 _ h => ?_) (fun i x σ H5 hx h => ?_) (fun σ H5 h => ?_)⟩
      · rw [h.1]; exact .inl (.inl hC4)
      · obtain ⟨rfl, z, sd, rfl, h0, h1⟩ := h
        have hi := (List.getElem?_eq_some_iff.mp hx).1
        rw [List.length_map] at hi
        have ex : x = .int (at0 cs i) := Option.some.inj (hx.symm.trans (it0 hi))
        subst ex
        refine ⟨.int sd, rfl, _, _, rfl, rfl, .inr ⟨by decide, by decide⟩, .int (at0 cs i), rfl, _, _, rfl, rfl, .inl ⟨_, rfl, _, _, rfl, rfl, (by decide : (0 : Int) < 2147483647), ?_⟩⟩
        exact ⟨rfl, _, _, rfl, Int.emod_nonneg _ (by decide), Int.emod_lt_of_pos _ (by decide)⟩
      · obtain ⟨rfl, z, sd, rfl, h0, h1⟩ := h
        refine fun d nd' => ?_
        have sd1 := same_new (o := .dK []) nd'
        refine ⟨.ref D, rfl, by decide, fun o no => ?_⟩
        have so := same_new (o := .lst []) no
        refine ne_lst (ns := gs) (ms := []) (.inl (.inl (so _ _ (sd1 _ _ eG)))) (sql_new (o := [])) ⟨_, rfl, ?_⟩
        have fin : ∀ (l : Int), tPairs [(tC (.str "seed"), tVar 5), (tC (.str "cells"), tOp rCat (tVar 2) (tLst (tCons (tOp (rI0 fun i j => .int (i + j)) (tOp (rI CMul fun i j => .int (i * j)) (tC (.int 53)) (tVar 1)) (tC (.int 11))) tNil))), (tC (.str "spot"), tC (.int 0))]
            [some (.ref a), some (.int k), some (.ref c), z, some (.ref D), some (.int sd)] (upd (upd H5 d (.dK [])) o (.lst [])) (fun ps H6 => H6 d = some (.dK []) ∧ ∃ kvs : List (Key × V), (V.str "left", V.int l) :: ps = kvs.map (fun kv => (kV kv.1, kv.2)) ∧ kvs.length ≤ 15 ∧ Q (.ref d) (upd H6 d (.dK (mergeK [] kvs)))) := by
          intro l
          have eC : (upd (upd H5 d (.dK [])) o (.lst [])) c = some (.lst (cs.map V.int)) := so _ _ (sd1 _ _ hC4)
          have eD : (upd (upd H5 d (.dK [])) o (.lst [])) d = some (.dK []) := so _ _ upd_same
          refine ⟨.int sd, rfl, .ref c, rfl, .int k, rfl, _, _, rfl, rfl, .inl ⟨by decide, by decide⟩, _, _, rfl, rfl, (by show 1 ≤ sizeLine; decide), fun y ny => ?_⟩
          have sy := same_new (o := .lst [V.int (53 * k + 11)]) ny
          refine ⟨c, y, _, _, rfl, rfl, sy _ _ eC, upd_same, ?_, fun p np => ?_⟩
          · rw [List.length_map, sizeLine_eq]
            show cs.length + 1 ≤ _
            omega
          have sp := same_new (o := .lst (cs.map V.int ++ [V.int (53 * k + 11)])) np
          have ndp : d ≠ p := ne_of_none (sy _ _ eD) np
          refine ⟨sp _ _ (sy _ _ eD), [(.inr "left", .int l), (.inr "seed", .int sd), (.inr "cells", .ref p), (.inr "spot", .int 0)], rfl, by show 4 ≤ 15; decide, ?_⟩
          rw [mS_made]
          have sall : Same H5 (upd (upd (upd (upd H5 d (.dK [])) o (.lst [])) y (.lst [V.int (53 * k + 11)])) p (.lst (cs.map V.int ++ [V.int (53 * k + 11)]))) := ((sd1.trans so).trans sy).trans sp
          have s05 : Same H H5 := s0.trans sm4
          refine q d p _ (fun b u e => ?_) (s05.free nd') ((s05.trans (sd1.trans (so.trans sy))).free np) ⟨l, sd, 0, cs ++ [53 * k + 11], upd_same, ?_, ndp.symm, by simp, by rw [List.length_append]; show cs.length + 1 ≤ 1000; omega, h0, h1, by decide, by decide⟩
          · rw [upd_ne (ne_of_none (s05 _ _ e) nd')]
            exact sall _ _ (s05 _ _ e)
          · rw [upd_ne ndp.symm, upd_same, List.map_append]
            rfl
        refine ite2 (fun e => ?_) (fun e => fin 0)
        have hg : gs ≠ [] := fun z => by
          rw [z] at e
          exact absurd e (by decide)
        refine ⟨.ref D, rfl, D, _, 0, .int (at0 gs 0), rfl, rfl, .inl (.inl (so _ _ (sd1 _ _ eG))), ix0 (i := 0) (List.length_pos_iff.mpr hg), fin _⟩
end
theorem yes_ok {te : TE} {σ : L2.St} {H : Hp} {P1 : V → Hp → Prop} {P0 : Hp → Prop} (h : te σ H P1) : tYes σ H fun b H3 => if b = true then te σ H3 P1 else P0 H3 := by
  show if true = true then te σ H P1 else P0 H
  rw [if_pos rfl]
  exact h
def spZw (K : PySem.W.Frag) (g : Int → Int → Int) : Sp := fun vs H Q _ => ∃ (a b : Addr) (ns ms : List Int), vs = [.ref a, .ref b] ∧ SqT K H a (ns.map V.int) ∧ SqT K H b (ms.map V.int) ∧ ns.length = ms.length ∧ ns.length ≤ 1000 ∧
  ∀ (p : Addr) (H' : Hp), Same H H' → SqT K H' p ((List.zipWith g ns ms).map V.int) → Q (.ref p) H'
theorem zw_fm {g : Int → Int → Int} {ns ms : List Int} (hl : ns.length = ms.length) : (List.range (min ns.length ms.length)).filterMap (fun i => some (V.int (g (at0 ns i) (at0 ms i)))) = (List.zipWith g ns ms).map V.int := by
  rw [← range_zip (g := g) (n := min ns.length ms.length) rfl, List.map_map, fm_some (g := fun i => V.int (g (at0 ns i) (at0 ms i))) fun _ _ => rfl]
  rfl
theorem toNat_len {α : Type} (xs : List α) : ((xs.length : Nat) : Int).toNat = xs.length := rfl
def spSumT (K : PySem.W.Frag) : Sp := fun vs H Q _ => ∃ (a : Addr) (ns : List Int), vs = [.ref a] ∧ SqT K H a (ns.map V.int) ∧ Q (.int ns.sum) H
def spSupp (K : PySem.W.Frag) : Sp := fun vs H Q _ => ∃ (a : Addr) (ns : List Int), vs = [.ref a] ∧ SqT K H a (ns.map V.int) ∧ ns.length ≤ 1000 ∧
  ∀ (p : Addr) (H' : Hp), Same H H' → SqT K H' p ((selI (fun j => decide (0 < at0 ns j)) ns.length).map V.int) → Q (.ref p) H'
def spDvd (K : PySem.W.Frag) : Sp := fun vs H Q _ => ∃ (a b : Addr) (ns ms : List Int), vs = [.ref a, .ref b] ∧ SqT K H a (ns.map V.int) ∧ SqT K H b (ms.map V.int) ∧ ns.length = ms.length ∧
  ∀ (H' : Hp), Same H H' → Q (.bl (dvdI ns ms)) H'
def spPlain (K : PySem.W.Frag) : Sp := fun vs H Q _ => ∃ (a b : Addr) (ns ms : List Int), vs = [.ref a, .ref b] ∧ SqT K H a (ns.map V.int) ∧ SqT K H b (ms.map V.int) ∧ Q (.bl (decide (ns = ms))) H
def spRow (K : PySem.W.Frag) : Sp := fun vs H Q _ => ∃ (d c : Addr) (n : Nat) (wide : Int) (m : Nat), vs = [.ref d, .int (n : Int), .int wide] ∧ Drw H d c m ∧ m ≤ 100000 ∧ n ≤ 1000 ∧ 1 ≤ wide ∧ wide < 1073741824 ∧
  ∀ (p : Addr) (H' : Hp) (ns : List Int), ns.length = n → (∀ x ∈ ns, 0 ≤ x ∧ x < wide) → Kp [d] H H' → Drw H' d c (m + 2 * n) → H' p = some (.tup (ns.map V.int)) → Q (.ref p) H'
theorem fm_sel {p : Nat → Bool} {n : Nat} : (List.range n).filterMap (fun i => if p i then some (V.int (i : Int)) else none) = (selI p n).map V.int := by
  unfold selI
  refine fm_ints fun i _ => ?_
  cases p i <;> rfl
theorem sqt_ty {K : PySem.W.Frag} {H : Hp} {a : Addr} {xs : List V} (h : SqT K H a xs) : TyX K H (.ref a) (.type "tuple") := by
  rcases h with (h | ⟨o, h⟩) | ⟨o, its, n, h, hc, _⟩
  · exact .base (.tup h)
  · exact .fTuple h
  · exact .kTuple h hc
section
variable {P : Program} {w : World} {K : PySem.W.Frag} {mg : Str → Option Value} {base : Heap}
theorem sc_dvd : FnScope ["a", "b", "low", "high"] ["a", "b"] (defScope S_divides) := ⟨rfl, rfl, rfl, by decide +kernel, rfl, by decide +kernel, by decide +kernel⟩
theorem ok_dvd {f : Addr} {fd : FuncData} (F : Fun K "divides" "divides" S_divides f fd) (B : Bt mg) : FnOk P w K mg base CX0 1 f fd ["a", "b"] (spDvd K) := by
  refine F.ok sc_dvd (fun vs H Q E h => ?_) (fun cdv A outer s H vs Q E hr h => ?_)
  · obtain ⟨a, b, ns, ms, rfl, _⟩ := h
    rfl
  · obtain ⟨a, b, ns, ms, rfl, hA, hB, hl, q⟩ := h
    have nd := sc_dvd.nd
    refine ⟨_, pss_cons (ps_for PassesOwn.never rfl (RZ.pi_zipA (by rfl) B.zip (pa_cons (pv 0) (pa_cons (pv 1) pa_nil))) (pg_tup (by rfl) (pgs_cons (pg_name (i := 2) nd rfl (.inl rfl)) (pgs_cons (pg_name (i := 3) nd rfl (.inl rfl)) pgs_nil)))
        (pss_one (ps_if (pt_cmpR op_gt (pv 2) (pv 3) (nomark _)) (pss_one (ps_ret pe_bl)) pss_nil)))
      (pss_one (ps_ret pe_bl)), ?_⟩
    refine ⟨_, rfl, _, rfl, a, b, _, _, rfl, .inr ⟨hA, hB, for_it (walk_zipT (n := ns.length) (by rw [List.length_map, List.length_map]; omega)) (fun i σ H1 => Same H H1 ∧ (∀ j, j < i → at0 ns j ≤ at0 ms j) ∧ ∃ z2 z3, σ = [some (.ref a), some (.ref b), z2, z3]) ⟨Same.refl H, fun j h => absurd h (Nat.not_lt_zero j), _, _, rfl⟩
      (fun i σ H1 _ h => ⟨Same.tup h.1 hA, Same.tup h.1 hB⟩) (fun i x σ H1 H2 hi h y => ?_) (fun σ H1 h => ?_)⟩⟩
    · obtain ⟨sm, hall, z2, z3, rfl⟩ := h
      obtain ⟨T, u, v, rfl, nT, rfl, hu, hv⟩ := y
      have hu' : some (V.int (at0 ns i)) = some u := (it0 hi).symm.trans hu
      have hv' : some (V.int (at0 ms i)) = some v := (it0 (hl ▸ hi)).symm.trans hv
      obtain rfl := Option.some.inj hu'
      obtain rfl := Option.some.inj hv'
      refine ⟨T, _, rfl, sqt_new, rfl, _, _, rfl, _, _, rfl, rfl, _, rfl, _, rfl, _, _, rfl, rfl, _, rfl, ?_⟩
      refine ite2 (fun e => ?_) (fun e => ?_)
      · have e1 : at0 ms i < at0 ns i := of_decide_eq_true e
        have hd : dvdI ns ms = false := by
          cases hd : dvdI ns ms with
          | false => rfl
          | true => have := (dvdI_iff hl).mp hd i hi; omega
        have := q _ (sm.trans (same_new (o := .tup [.int (at0 ns i), .int (at0 ms i)]) nT))
        rw [hd] at this
        exact this
      · have e1 : ¬ at0 ms i < at0 ns i := fun z => e (decide_eq_true z)
        refine ⟨sm.trans (same_new nT), fun j hj => ?_, _, _, rfl⟩
        by_cases ej : j = i
        · subst ej; omega
        · exact hall j (by omega)
    · obtain ⟨sm, hall, z2, z3, rfl⟩ := h
      have := q _ sm
      rw [(dvdI_iff hl).mpr hall] at this
      exact this
end
theorem zw_fm1 {g : Int → Int → Int} {ns ms : List Int} (hl : ns.length = ms.length) : (List.range ns.length).filterMap (fun i => some (V.int (g (at0 ns i) (at0 ms i)))) = (List.zipWith g ns ms).map V.int := by
  have := zw_fm (g := g) hl
  rwa [show min ns.length ms.length = ns.length by omega] at this
theorem same_kp {S : List Addr} {H0 H1 H2 : Hp} (s : Same H0 H1) (k : Kp S H1 H2) (n : ∀ x ∈ S, H0 x = none) : Same H0 H2 := fun b o e => k b o (s b o e) fun m => by
  rw [n b m] at e; cases e
theorem ite_cut {t : TS} {D : Ends} {σ : L2.St} {H : Hp} {c : Prop} [Decidable c] (R : L2.St → Hp → Prop) (h2 : ∀ σ' H', R σ' H' → D.nx σ' H') (hA : (∀ σ' H', R σ' H' → D.nx σ' H') → c → t D σ H) (hB : ¬ c → R σ H) : if c then t D σ H else tNext D σ H :=
  ite2 (fun e => hA h2 e) (fun e => h2 _ _ (hB e))
theorem at_lo {j : Nat} : V.int (j : Int) = V.int (0 + (j : Int)) := by rw [Int.zero_add]
theorem Drw.ne_tup {H : Hp} {d c p : Addr} {n : Nat} {xs : List V} (h : Drw H d c n) (e : H p = some (.tup xs)) : p ∉ [d] := fun m => by
  obtain ⟨l, s, z, cs, h1, _⟩ := h
  rw [List.mem_singleton.mp m, h1] at e
  cases e
theorem dr_step {H H3 : Hp} {D d c : Addr} {ns : List Int} {y : Int} {m : Nat} (nD : H D = none) (n1 : D ≠ d) (n2 : D ≠ c) (hD3 : Drw H3 d c m) (kp3 : Kp [d] H H3) (e3 : H3 D = some (.lst (ns.map V.int))) (hl : ns.length < 1000) :
    ∃ acc, H3 D = some (.lst acc) ∧ acc.length < sizeLine ∧ Kp [d] H (upd H3 D (.lst (acc ++ [V.int y]))) ∧ Drw (upd H3 D (.lst (acc ++ [V.int y]))) d c m ∧ (upd H3 D (.lst (acc ++ [V.int y]))) D = some (.lst ((ns ++ [y]).map V.int)) := by
  refine ⟨_, e3, ?_, fun b o e nb => ?_, hD3.put n1 n2, ?_⟩
  · rw [List.length_map]; exact small1000 (by omega)
  · rw [upd_ne (ne_of_none e nD)]
    exact kp3 _ _ e nb
  · rw [upd_same, List.map_append]; rfl
end JN

set_option maxRecDepth 100000
set_option maxHeartbeats 8000000
namespace JN
open PySem PySem.Spec PyProof.Rows L2
/-! ### tuples of tuples of ints; ideals -/
abbrev refs (ks : List (Addr × List Int)) : List V := ks.map fun p => V.ref p.1
abbrev mons (ks : List (Addr × List Int)) : List (List Int) := ks.map fun p => p.2
/-- each place holds its ints -/
def Rows (K : PySem.W.Frag) (H : Hp) (ks : List (Addr × List Int)) : Prop := ∀ p ∈ ks, SqT K H p.1 (p.2.map V.int)
def TpM (K : PySem.W.Frag) (H : Hp) (g : Addr) (gs : List (List Int)) : Prop := ∃ ks, mons ks = gs ∧ SqT K H g (refs ks) ∧ Rows K H ks
def IsI (K : PySem.W.Frag) (H : Hp) (v : Addr) (n : Int) (gs : List (List Int)) : Prop := ∃ g, SqT K H v [.int n, .ref g] ∧ TpM K H g gs
section
variable {K : PySem.W.Frag} {H H' : Hp}
theorem Rows.same {ks : List (Addr × List Int)} (h : Rows K H ks) (e : Same H H') : Rows K H' ks := fun p hp => Same.tup e (h p hp)
theorem TpM.same {g : Addr} {gs : List (List Int)} (h : TpM K H g gs) (e : Same H H') : TpM K H' g gs := by
  obtain ⟨ks, a, b, c⟩ := h
  exact ⟨ks, a, Same.tup e b, c.same e⟩
theorem IsI.same {v : Addr} {n : Int} {gs : List (List Int)} (h : IsI K H v n gs) (e : Same H H') : IsI K H' v n gs := by
  obtain ⟨g, a, b⟩ := h
  exact ⟨g, Same.tup e a, b.same e⟩
theorem mem_mons {ks : List (Addr × List Int)} {p : List Int} : p ∈ mons ks ↔ ∃ q ∈ ks, q.2 = p := List.mem_map
theorem refs_at {ks : List (Addr × List Int)} {i : Nat} (h : i < ks.length) : (refs ks)[i]? = some (.ref ks[i].1) := by
  rw [List.getElem?_map, List.getElem?_eq_getElem h]
  rfl
theorem mons_at {ks : List (Addr × List Int)} {i : Nat} (h : i < ks.length) : (mons ks)[i]? = some ks[i].2 := by
  rw [List.getElem?_map, List.getElem?_eq_getElem h]
  rfl
theorem refs_get {ks : List (Addr × List Int)} {i : Nat} {x : V} (h : (refs ks)[i]? = some x) : ∃ hi : i < ks.length, x = .ref ks[i].1 := by
  have hi := (List.getElem?_eq_some_iff.mp h).1
  rw [List.length_map] at hi
  exact ⟨hi, Option.some.inj (h.symm.trans (refs_at hi))⟩
theorem take_mons {ks : List (Addr × List Int)} {i : Nat} (h : i < ks.length) : (mons ks).take (i + 1) = (mons ks).take i ++ [ks[i].2] := by
  rw [List.take_add_one, mons_at h]
  rfl
/-- a change at a list's place leaves tuples as they are -/
theorem Kp.tupL {D a : Addr} {xs ys : List V} (e : Kp [D] H H') (hD : H D = some (.lst xs)) (h : SqT K H a ys) : SqT K H' a ys := by
  have ne : ∀ {o : HO}, H a = some o → (∀ zs, o ≠ .lst zs) → a ∉ [D] := fun {o} ho n m => by
    rw [List.mem_singleton.mp m, hD] at ho
    exact n xs (Option.some.inj ho).symm
  rcases h with (h | ⟨o, h⟩) | h
  · exact .inl (.inl (e _ _ h (ne h fun zs z => by cases z)))
  · exact .inl (.inr ⟨o, e _ _ h (ne h fun zs z => by cases z)⟩)
  · exact .inr h
/-- a change at the draws' place leaves tuples as they are -/
theorem Kp.tupD {d c a : Addr} {n : Nat} {ys : List V} (e : Kp [d] H H') (hD : Drw H d c n) (h : SqT K H a ys) : SqT K H' a ys := by
  obtain ⟨l, s, p, cs, h1, _⟩ := hD
  have ne : ∀ {o : HO}, H a = some o → (∀ zs, o ≠ .dK zs) → a ∉ [d] := fun {o} ho n m => by
    rw [List.mem_singleton.mp m, h1] at ho
    exact n _ (Option.some.inj ho).symm
  rcases h with (h | ⟨o, h⟩) | h
  · exact .inl (.inl (e _ _ h (ne h fun zs z => by cases z)))
  · exact .inl (.inr ⟨o, e _ _ h (ne h fun zs z => by cases z)⟩)
  · exact .inr h
theorem Kp.rowsD {d c : Addr} {n : Nat} {ks : List (Addr × List Int)} (e : Kp [d] H H') (hD : Drw H d c n) (h : Rows K H ks) : Rows K H' ks := fun p hp => e.tupD hD (h p hp)
theorem Kp.tpmD {d c g : Addr} {n : Nat} {gs : List (List Int)} (e : Kp [d] H H') (hD : Drw H d c n) (h : TpM K H g gs) : TpM K H' g gs := by
  obtain ⟨ks, a, b, r⟩ := h
  exact ⟨ks, a, e.tupD hD b, e.rowsD hD r⟩
theorem Kp.isiD {d c v : Addr} {n : Nat} {m : Int} {gs : List (List Int)} (e : Kp [d] H H') (hD : Drw H d c n) (h : IsI K H v m gs) : IsI K H' v m gs := by
  obtain ⟨g, a, b⟩ := h
  exact ⟨g, e.tupD hD a, e.tpmD hD b⟩
theorem refs_app (a b : List (Addr × List Int)) : refs (a ++ b) = refs a ++ refs b := List.map_append
theorem mons_app (a b : List (Addr × List Int)) : mons (a ++ b) = mons a ++ mons b := List.map_append
/-! compared -/
abbrev pM (g : List Int) : PyData := .tuple (g.map PyData.int)
abbrev pG (gs : List (List Int)) : PyData := .tuple (gs.map pM)
abbrev pI (n : Int) (gs : List (List Int)) : PyData := .tuple [.int n, pG gs]
theorem dp_rows : ∀ {ks : List (Addr × List Int)}, Rows K H ks → DpAll K H (refs ks) ((mons ks).map pM)
  | [], _ => .nil
  | p :: ks, h => .cons (dp_tup (h p List.mem_cons_self)) (dp_rows fun q hq => h q (List.mem_cons_of_mem _ hq))
theorem dp_tpm {g : Addr} {gs : List (List Int)} (h : TpM K H g gs) : Dp K H (.ref g) (pG gs) := by
  obtain ⟨ks, rfl, b, c⟩ := h
  exact .tup b (dp_rows c)
theorem dp_isi {v : Addr} {n : Int} {gs : List (List Int)} (h : IsI K H v n gs) : Dp K H (.ref v) (pI n gs) := by
  obtain ⟨g, a, b⟩ := h
  exact .tup a (.cons (.int n) (.cons (dp_tpm b) .nil))
theorem eqv_gens : ∀ gs hs : List (List Int), PyData.eqvAll (gs.map pM) (hs.map pM) = decide (gs = hs)
  | [], [] => by simp [PyData.eqvAll]
  | [], m :: ms => by simp [PyData.eqvAll]
  | n :: ns, [] => by simp [PyData.eqvAll]
  | n :: ns, m :: ms => by
    have ih := eqv_gens ns ms
    rw [List.map_cons, List.map_cons]
    unfold PyData.eqvAll
    rw [ih, eqv_tup, Bool.eq_iff_iff]
    simp
theorem eqv_G (gs hs : List (List Int)) : PyData.eqv (pG gs) (pG hs) = decide (gs = hs) := by
  unfold PyData.eqv
  exact eqv_gens gs hs
theorem eqv_I (n m : Int) (gs hs : List (List Int)) : PyData.eqv (pI n gs) (pI m hs) = decide (n = m ∧ gs = hs) := by
  unfold PyData.eqv PyData.eqvAll PyData.eqvAll PyData.eqvAll
  rw [eqv_G, Bool.eq_iff_iff]
  simp [PyData.eqv]
theorem lay_gens : ∀ gs : List (List Int), PyData.canLayAll0 (gs.map pM) = true
  | [] => by simp [PyData.canLayAll0]
  | g :: gs => by
    have ih := lay_gens gs
    rw [List.map_cons]
    unfold PyData.canLayAll0 PyData.canLay0
    rw [ih, lay_ints]
    rfl
theorem deep_gens : ∀ gs : List (List Int), PyData.depthAll (gs.map pM) ≤ 1
  | [] => by simp [PyData.depthAll]
  | g :: gs => by
    have ih := deep_gens gs
    rw [List.map_cons]
    unfold PyData.depthAll PyData.depth
    rw [deep_ints]
    omega
theorem sh_G (gs : List (List Int)) : SeqAt.shaped (pG gs) = true := by
  unfold SeqAt.shaped PyData.canLay0 PyData.depth
  rw [lay_gens, decide_eq_true (by have := deep_gens gs; omega)]
  rfl
theorem sh_I (n : Int) (gs : List (List Int)) : SeqAt.shaped (pI n gs) = true := by
  have h1 : PyData.canLay0 (pG gs) = true := by
    unfold PyData.canLay0
    exact lay_gens gs
  have h2 : PyData.depth (pG gs) ≤ 2 := by
    unfold PyData.depth
    have := deep_gens gs
    omega
  unfold SeqAt.shaped PyData.canLay0 PyData.canLayAll0 PyData.canLayAll0 PyData.canLayAll0 PyData.depth PyData.depthAll PyData.depthAll PyData.depthAll
  rw [h1, decide_eq_true (by
    have : PyData.depth (.int n) = 0 := by simp [PyData.depth]
    omega)]
  simp [PyData.canLay0]
theorem eq_I {v u : Addr} {n m : Int} {gs hs : List (List Int)} {Q : VK} (h1 : IsI K H v n gs) (h2 : IsI K H u m hs) (q : Q (.bl (decide (n = m ∧ gs = hs))) H) : rEqD K (.ref v) (.ref u) H Q :=
  ⟨_, _, dp_isi h1, dp_isi h2, sh_I _ _, sh_I _ _, by rw [eqv_I]; exact q⟩
theorem ne_I {v u : Addr} {n m : Int} {gs hs : List (List Int)} {Q : VK} (h1 : IsI K H v n gs) (h2 : IsI K H u m hs) (q : Q (.bl (!decide (n = m ∧ gs = hs))) H) : rNeD K (.ref v) (.ref u) H Q :=
  ⟨_, _, dp_isi h1, dp_isi h2, sh_I _ _, sh_I _ _, by rw [eqv_I]; exact q⟩
end
theorem nodup_len {α : Type} [DecidableEq α] : ∀ {l m : List α}, l.Nodup → (∀ x ∈ l, x ∈ m) → l.length ≤ m.length
  | [], _, _, _ => Nat.zero_le _
  | a :: l, m, hn, hs => by
    obtain ⟨h1, h2⟩ := List.nodup_cons.mp hn
    have ha := hs a List.mem_cons_self
    have ih := nodup_len (m := m.erase a) h2 fun x hx => by
      have ne : x ≠ a := fun e => h1 (e ▸ hx)
      exact (List.mem_erase_of_ne ne).mpr (hs x (List.mem_cons_of_mem _ hx))
    rw [List.length_erase_of_mem ha] at ih
    have : 0 < m.length := List.length_pos_of_mem ha
    rw [List.length_cons]
    omega
theorem grd_all {d : Nat} : ∀ {rest pre acc : List (List Int)}, MinOf pre acc → (∀ p ∈ pre, Mon d p) → (∀ p ∈ rest, Mon d p) → Asc (pre ++ rest) → MinOf (pre ++ rest) (grd acc rest)
  | [], pre, acc, a, _, _, _ => by rw [List.append_nil]; exact a
  | x :: r, pre, acc, a, h1, h2, h3 => by
    have hx := h2 x List.mem_cons_self
    have hlt : ∀ p ∈ pre, cd p < cd x := fun p hp => (List.pairwise_append.mp h3).2.2 p hp x List.mem_cons_self
    have st := grd_step a h1 hx hlt
    have e : pre ++ x :: r = (pre ++ [x]) ++ r := by simp
    rw [e] at h3 ⊢
    exact grd_all st (fun p hp => by
      rcases List.mem_append.mp hp with h | h
      · exact h1 p h
      · rw [List.mem_singleton.mp h]; exact hx) (fun p hp => h2 p (List.mem_cons_of_mem _ hp)) h3
theorem min_nil : MinOf [] [] := ⟨.nil, fun p => by simp⟩
end JN

set_option maxRecDepth 100000
set_option maxHeartbeats 8000000
namespace JN
open PySem PySem.Spec PyProof.Rows L2
/-- sorted(set(x)), x a name of few tuples of d ints each -/
def tSortSet (K : PySem.W.Frag) (i : Nat) : TE := fun σ H Q => ∃ (l : Addr) (ks : List (Addr × List Int)) (d : Nat), σ[i]? = some (some (.ref l)) ∧ (SqL K H l (refs ks) ∨ SqT K H l (refs ks)) ∧ Rows K H ks ∧ 1 ≤ d ∧ (∀ p ∈ ks, Mon d p.2) ∧ ks.length < 64 ∧
  ∀ (p : Addr) (H' : Hp) (L : List (Addr × List Int)), Same H H' → H p = none → H' p = some (.lst (refs L)) → (∀ x ∈ L, x ∈ ks) → (∀ x, x ∈ mons L ↔ x ∈ mons ks) → Asc (mons L) → L.length ≤ ks.length → Q (.ref p) H'
theorem pe_sortSet {X : Cx} {i : Nat} {x : Str} {p p2 px q pos : Pos} (hN : X.N[i]? = some x) (hv : Vis X.env.scope x) (hc : X.calm = true) (hu : X.A.units + 64 < cLine) (g1 : Gl X "sorted") (m1 : X.mg "sorted" = none) (g2 : Gl X "set") (m2 : X.mg "set" = none)
    (hd : (x == ("__debug__" : Str)) = false := by decide) (hcd : (x == ("__classdict__" : Str)) = false := by decide)
    (he : starEach [Expr.Call (.Name "set" p2) [.Name x px] [] q] X.env = (false, eval (Expr.Call (.Name "set" p2) [.Name x px] [] q) X.env) :: starEach [] X.env := by rfl) (he2 : starEach [Expr.Name x px] X.env = (false, eval (.Name x px) X.env) :: starEach [] X.env := by rfl) :
    PE X (.Call (.Name "sorted" p) [.Call (.Name "set" p2) [.Name x px] [] q] [] pos) (tSortSet X.K i) := by
  have base : PE X (.Call (.Name "sorted" p) [.Call (.Name "set" p2) [.Name x px] [] q] [] pos) _ :=
    pe_callB (cr_sortedT hc) g1 m1 (by decide +kernel) (pa_cons (pe_callTy (cr_setOfA hc hu) g2 m2 (by decide +kernel) (pa_cons (pe_var (i := i) hN hv hd hcd) pa_nil)) pa_nil)
  refine ⟨fun pins s σ H Q I h => base.run pins s σ H Q I ?_⟩
  obtain ⟨l, ks, d, h1, hL, hR, hd, hm, h64, qq⟩ := h
  refine ⟨_, h1, l, ks, rfl, hL, hR, h64, fun a L na hL2 hL3 => ?_⟩
  have s2 := same_new (o := SetTO X.prog X.w a L) na
  refine ⟨a, L, d, B0, rfl, upd_same, fun p hp => Same.tup s2 (hR p (hL2 p hp)), hd, fun p hp => hm p (hL2 p hp), fun L' p pm nd' l64 pw np => ?_⟩
  have hsub : ∀ x ∈ L', x ∈ ks := fun x hx => hL2 x (pm.mem_iff.mp hx)
  have hmem : ∀ x, x ∈ mons L' ↔ x ∈ mons ks := fun x => by
    rw [mem_mons, mem_mons]
    constructor
    · rintro ⟨r, h1, h2⟩; exact ⟨r, hsub r h1, h2⟩
    · rintro ⟨r, h1, h2⟩
      obtain ⟨r', h3, h4⟩ := List.mem_map.mp (hL3 r h1)
      exact ⟨r', pm.mem_iff.mpr h3, h4.trans h2⟩
  have hlen : (mons L').length ≤ (mons ks).length := nodup_len nd' fun x hx => (hmem x).mp hx
  rw [List.length_map, List.length_map] at hlen
  exact qq p _ L' (s2.trans (same_new np)) (s2.free np) upd_same hsub hmem (asc_of (fun x hx => hm x (hsub x hx)) nd' pw) hlen
def spHasL (K : PySem.W.Frag) : Sp := fun vs H Q _ => ∃ (x l : Addr) (m : List Int) (ks : List (Addr × List Int)), vs = [.ref x, .ref l] ∧ SqT K H x (m.map V.int) ∧ SqL K H l (refs ks) ∧ Rows K H ks ∧ (∀ p ∈ ks, p.2.length = m.length) ∧
  ∀ (H' : Hp), Same H H' → Q (.bl (inG (mons ks) m)) H'
def spHasT (K : PySem.W.Frag) : Sp := fun vs H Q _ => ∃ (x l : Addr) (m : List Int) (gs : List (List Int)), vs = [.ref x, .ref l] ∧ SqT K H x (m.map V.int) ∧ TpM K H l gs ∧ (∀ p ∈ gs, p.length = m.length) ∧
  ∀ (H' : Hp), Same H H' → Q (.bl (inG gs m)) H'
theorem inG_take {ks : List (Addr × List Int)} {m : List Int} {i : Nat} (h : i < ks.length) : inG ((mons ks).take (i + 1)) m = (inG ((mons ks).take i) m || dvdI ks[i].2 m) := by
  rw [take_mons h]
  simp [inG]
theorem inG_full {ks : List (Addr × List Int)} {m : List Int} {i : Nat} (hi : i < ks.length) (h : dvdI ks[i].2 m = true) : inG (mons ks) m = true := inG_iff.mpr ⟨_, mem_mons.mpr ⟨ks[i], List.getElem_mem hi, rfl⟩, h⟩
section
variable {P : Program} {w : World} {K : PySem.W.Frag} {mg : Str → Option Value} {base : Heap}
theorem sc_has_divisor : FnScope ["monomial", "others", "other"] ["monomial", "others"] (defScope S_has_divisor) := ⟨rfl, rfl, rfl, by decide +kernel, rfl, by decide +kernel, by decide +kernel⟩
theorem ok_hasL {f fD : Addr} {fd dD : FuncData} (F : Fun K "has_divisor" "has_divisor" S_has_divisor f fd) (AD : At K mg "divides" S_divides ["a", "b"] fD dD) (GD : FnOk P w K mg base CX0 1 fD dD ["a", "b"] (spDvd K)) : FnOk P w K mg base CX0 2 f fd ["monomial", "others"] (spHasL K) := by
  refine F.ok sc_has_divisor (fun vs H Q E h => ?_) (fun cdv A outer s H vs Q E hr h => ?_)
  · obtain ⟨x, l, m, ks, rfl, _⟩ := h
    rfl
  · obtain ⟨x, l, m, ks, rfl, hX, hL, hR, hl, q⟩ := h
    have nd := sc_has_divisor.nd
    refine ⟨_, pss_cons (ps_for PassesOwn.never rfl (pi_list (pv 1)) (pg_name (i := 2) nd rfl (.inl rfl))
        (pss_one (ps_if (pt_val (pe_call GD hr (by rfl) AD.gl AD.fn.kp AD.bi .nil pass0 (pa_cons (pv 2) (pa_cons (pv 0) pa_nil)))) (pss_one (ps_ret pe_bl)) pss_nil)))
      (pss_one (ps_ret pe_bl)), ?_⟩
    refine ⟨_, rfl, l, rfl, ⟨_, hL⟩, for_list (xs := refs ks) (fun i σ H1 => Same H H1 ∧ inG ((mons ks).take i) m = false ∧ ∃ z, σ = [some (.ref x), some (.ref l), z]) ⟨Same.refl H, rfl, _, rfl⟩ (fun i σ H1 _ h => h.1.seq hL) (fun i y σ H1 hy h => ?_) (fun σ H1 h => ?_)⟩
    · obtain ⟨sm, hn, z, rfl⟩ := h
      obtain ⟨hi, rfl⟩ := refs_get hy
      refine ⟨_, rfl, _, rfl, ks[i].1, x, ks[i].2, m, rfl, Same.tup sm (hR _ (List.getElem_mem hi)), Same.tup sm hX, hl _ (List.getElem_mem hi), fun H2 s2 => ⟨_, rfl, ?_⟩⟩
      cases hd : dvdI ks[i].2 m with
      | true =>
        refine iteT ?_
        have := q H2 (sm.trans s2)
        rw [inG_full hi hd] at this
        exact this
      | false =>
        refine iteF ⟨sm.trans s2, ?_, _, rfl⟩
        rw [inG_take hi, hn, hd]
        rfl
    · obtain ⟨sm, hn, z, rfl⟩ := h
      have := q H1 sm
      rw [List.take_of_length_le (by rw [List.length_map, List.length_map]; exact Nat.le_refl _)] at hn
      rw [hn] at this
      exact this
theorem ok_hasT {f fD : Addr} {fd dD : FuncData} (F : Fun K "has_divisor" "has_divisor" S_has_divisor f fd) (AD : At K mg "divides" S_divides ["a", "b"] fD dD) (GD : FnOk P w K mg base CX0 1 fD dD ["a", "b"] (spDvd K)) : FnOk P w K mg base CX0 2 f fd ["monomial", "others"] (spHasT K) := by
  refine F.ok sc_has_divisor (fun vs H Q E h => ?_) (fun cdv A outer s H vs Q E hr h => ?_)
  · obtain ⟨x, l, m, ks, rfl, _⟩ := h
    rfl
  · obtain ⟨x, l, m, gs, rfl, hX, ⟨ks, rfl, hL, hR⟩, hl, q⟩ := h
    have nd := sc_has_divisor.nd
    refine ⟨_, pss_cons (ps_for PassesOwn.never rfl (pi_tup (pv 1)) (pg_name (i := 2) nd rfl (.inl rfl))
        (pss_one (ps_if (pt_val (pe_call GD hr (by rfl) AD.gl AD.fn.kp AD.bi .nil pass0 (pa_cons (pv 2) (pa_cons (pv 0) pa_nil)))) (pss_one (ps_ret pe_bl)) pss_nil)))
      (pss_one (ps_ret pe_bl)), ?_⟩
    refine ⟨_, rfl, l, rfl, ⟨_, hL⟩, for_tup (xs := refs ks) (fun i σ H1 => Same H H1 ∧ inG ((mons ks).take i) m = false ∧ ∃ z, σ = [some (.ref x), some (.ref l), z]) ⟨Same.refl H, rfl, _, rfl⟩ (fun i σ H1 _ h => Same.tup h.1 hL) (fun i y σ H1 hy h => ?_) (fun σ H1 h => ?_)⟩
    · obtain ⟨sm, hn, z, rfl⟩ := h
      obtain ⟨hi, rfl⟩ := refs_get hy
      refine ⟨_, rfl, _, rfl, ks[i].1, x, ks[i].2, m, rfl, Same.tup sm (hR _ (List.getElem_mem hi)), Same.tup sm hX, hl _ (mem_mons.mpr ⟨_, List.getElem_mem hi, rfl⟩), fun H2 s2 => ⟨_, rfl, ?_⟩⟩
      cases hd : dvdI ks[i].2 m with
      | true =>
        refine iteT ?_
        have := q H2 (sm.trans s2)
        rw [inG_full hi hd] at this
        exact this
      | false =>
        refine iteF ⟨sm.trans s2, ?_, _, rfl⟩
        rw [inG_take hi, hn, hd]
        rfl
    · obtain ⟨sm, hn, z, rfl⟩ := h
      have := q H1 sm
      rw [List.take_of_length_le (by rw [List.length_map, List.length_map]; exact Nat.le_refl _)] at hn
      rw [hn] at this
      exact this
/-- least_ones(monomials, most) of few monomials -/
def spLeast (K : PySem.W.Frag) : Sp := fun vs H Q _ => ∃ (l : Addr) (most : Int) (ks : List (Addr × List Int)) (d : Nat), vs = [.ref l, .int most] ∧ (SqL K H l (refs ks) ∨ SqT K H l (refs ks)) ∧ Rows K H ks ∧ 1 ≤ d ∧ (∀ p ∈ ks, Mon d p.2) ∧ ks.length ≤ 60 ∧ 61 ≤ most ∧
  ∀ (D : Addr) (H' : Hp) (ks' : List (Addr × List Int)), Same H H' → H' D = some (.lst (refs ks')) → (∀ p ∈ ks', p ∈ ks) → MinOf (mons ks) (mons ks') → Q (.ref D) H'
theorem sc_least_ones : FnScope ["monomials", "most", "found", "monomial"] ["monomials", "most"] (defScope S_least_ones) := ⟨rfl, rfl, rfl, by decide +kernel, rfl, by decide +kernel, by decide +kernel⟩
theorem ok_least {f fH : Addr} {fd dH : FuncData} (F : Fun K "least_ones" "least_ones" S_least_ones f fd) (B : Bt mg) (AH : At K mg "has_divisor" S_has_divisor ["monomial", "others"] fH dH) (GH : FnOk P w K mg base CX0 2 fH dH ["monomial", "others"] (spHasL K)) : FnOk P w K mg base CX0 3 f fd ["monomials", "most"] (spLeast K) := by
  refine F.ok sc_least_ones (fun vs H Q E h => ?_) (fun cdv A outer s H vs Q E hr h => ?_)
  · obtain ⟨l, most, ks, d, rfl, _⟩ := h
    rfl
  · obtain ⟨l, most, ks, d, rfl, hL, hR, hd, hm, h60, hmost, q⟩ := h
    have nd := sc_least_ones.nd
    refine ⟨_, pss_cons (ps_set (i := 2) nd rfl (.inl rfl) (pe_lst pa_nil))
      (pss_cons (ps_for PassesOwn.never rfl (pi_list (pe_sortSet (i := 0) rfl (.inl rfl) rfl hr.units (by rfl) B.sorted (by rfl) B.set)) (pg_name (i := 3) nd rfl (.inl rfl))
        (pss_cons (ps_if (pt_not (pt_val (pe_call GH hr (by rfl) AH.gl AH.fn.kp AH.bi .nil pass0 (pa_cons (pv 3) (pa_cons (pv 2) pa_nil))))) (pss_one (ps_expr (pe_bm PySem.F.plainAttrs_list PySem.F.slot_list_append PySem.F.type_list_append mt_append (pv 2) (pa_cons (pv 3) pa_nil)))) pss_nil)
        (pss_one (ps_if (pt_cmpR op_ge (pe_callB call_len_seq (by rfl) B.len PySem.boot_len (pa_cons (pv 2) pa_nil)) (pv 1) (nomark _)) (pss_one (ps_break)) pss_nil))))
      (pss_one (ps_ret (pv 2)))), ?_⟩
    refine ⟨Nat.zero_le _, fun D nD => ?_⟩
    have s1 := same_new (o := .lst []) nD
    have hL1 : SqL K (upd H D (.lst [])) l (refs ks) ∨ SqT K (upd H D (.lst [])) l (refs ks) := hL.imp (fun h => s1.seq h) (fun h => Same.tup s1 h)
    refine ⟨l, ks, d, rfl, hL1, hR.same s1, hd, hm, by omega, fun p H3 L' s2 np hp3 hsub hmem hasc hlen => ?_⟩
    have hD3 : H3 D = some (.lst []) := s2 _ _ upd_same
    have npD : p ≠ D := fun e => by
      rw [e, upd_same] at np
      cases np
    have sall := s1.trans s2
    have hmL : ∀ x ∈ L', Mon d x.2 := fun x hx => hm x (hsub x hx)
    have hR3 : Rows K H3 L' := fun x hx => Same.tup sall (hR x (hsub x hx))
    refine ⟨p, rfl, ⟨_, .inl (.inl hp3)⟩, for_list (xs := refs L') (fun i σ H1 => Kp [D] H3 H1 ∧ Same H H1 ∧ ∃ (acc : List (Addr × List Int)) (z : Option V), H1 D = some (.lst (refs acc)) ∧ acc.length ≤ i ∧ (∀ x ∈ acc, x ∈ L') ∧ mons acc = grd [] ((mons L').take i) ∧ σ = [some (.ref l), some (.int most), some (.ref D), z])
      ⟨Kp.refl _, sall, [], none, hD3, Nat.le_refl _, fun x hx => absurd hx List.not_mem_nil, rfl, rfl⟩ (fun i σ H1 _ h => h.1.seq (by simpa using npD) (.inl (.inl hp3))) (fun i x σ H1 hx h => ?_) (fun σ H1 h => ?_)⟩
    · obtain ⟨kp, sm, acc, z, eD, hal, has, hg, rfl⟩ := h
      obtain ⟨hi, rfl⟩ := refs_get hx
      have hLi : L'[i] ∈ L' := List.getElem_mem hi
      have row1 : Rows K H1 L' := fun y hy => kp.tupL hD3 (hR3 y hy)
      have gtake : grd [] ((mons L').take (i + 1)) = (if inG (mons acc) L'[i].2 = true then mons acc else mons acc ++ [L'[i].2]) := by
        rw [take_mons hi, hg]
        have : ∀ (l acc : List (List Int)) (x : List Int), grd acc (l ++ [x]) = (if inG (grd acc l) x = true then grd acc l else grd acc l ++ [x]) := by
          intro l
          induction l with
          | nil => intro acc x; rfl
          | cons y l ih => intro acc x; exact ih _ x
        exact this _ _ _
      refine ⟨_, rfl, _, rfl, L'[i].1, D, L'[i].2, acc, rfl, row1 _ hLi, .inl (.inl eD), fun y hy => row1 y (has y hy), fun y hy => (hmL y (has y hy)).1.trans (hmL _ hLi).1.symm, fun H2 s2' => ⟨_, rfl, ?_⟩⟩
      have eD2 := s2' _ _ eD
      cases hd' : inG (mons acc) L'[i].2 with
      | true =>
        refine iteF ?_
        refine ⟨_, rfl, D, _, rfl, .inl (.inl (.inl eD2)), .int most, rfl, _, _, rfl, rfl, _, rfl, ?_⟩
        refine ite2 (fun e => ?_) (fun e => ?_)
        · have := of_decide_eq_true e
          rw [List.length_map] at this
          omega
        · refine ⟨kp.trans (Kp.of s2'), sm.trans s2', acc, _, eD2, by omega, has, ?_, rfl⟩
          rw [gtake, if_pos hd']
      | false =>
        refine iteT ?_
        refine ⟨_, rfl, .inl ⟨rfl, _, .inl (.inl eD2)⟩, _, rfl, D, _, _, rfl, rfl, eD2, ?_, ?_⟩
        · rw [List.length_map]; exact small1000 (by omega)
        · have hn : H D = none := nD
          have e3 : (upd H2 D (.lst (refs acc ++ [V.ref L'[i].1]))) D = some (.lst (refs (acc ++ [L'[i]]))) := by
            rw [upd_same, refs_app]
            rfl
          refine ⟨_, rfl, D, _, rfl, .inl (.inl (.inl e3)), .int most, rfl, _, _, rfl, rfl, _, rfl, ?_⟩
          refine ite2 (fun e => ?_) (fun e => ?_)
          · have := of_decide_eq_true e
            rw [List.length_map, List.length_append] at this
            have h1 : ([L'[i]] : List (Addr × List Int)).length = 1 := rfl
            omega
          · refine ⟨(kp.trans (Kp.of s2')).upd (List.mem_singleton.mpr rfl), fun b o eb => ?_, acc ++ [L'[i]], _, e3, ?_, fun y hy => ?_, ?_, rfl⟩
            · rw [upd_ne (ne_of_none eb hn)]
              exact s2' _ _ (sm _ _ eb)
            · rw [List.length_append]
              exact Nat.add_le_add_right hal 1
            · rcases List.mem_append.mp hy with h | h
              · exact has y h
              · rw [List.mem_singleton.mp h]; exact hLi
            · rw [gtake, if_neg (by rw [hd']; decide), mons_app]
              rfl
    · obtain ⟨kp, sm, acc, z, eD, hal, has, hg, rfl⟩ := h
      rw [List.take_of_length_le (by rw [List.length_map, List.length_map]; exact Nat.le_refl _)] at hg
      have mn : MinOf (mons L') (mons acc) := by
        rw [hg]
        exact grd_all (d := d) min_nil (fun p hp => absurd hp List.not_mem_nil) (fun p hp => by
          obtain ⟨r, h1, rfl⟩ := mem_mons.mp hp
          exact hmL r h1) hasc
      refine ⟨_, rfl, q D H1 acc sm eD (fun x hx => hsub x (has x hx)) ⟨mn.asc, fun x => ?_⟩⟩
      rw [mn.mem, hmem x]
      constructor
      · rintro ⟨h1, h2⟩; exact ⟨h1, fun y hy => h2 y ((hmem y).mpr hy)⟩
      · rintro ⟨h1, h2⟩; exact ⟨h1, fun y hy => h2 y ((hmem y).mp hy)⟩
end
end JN

set_option maxRecDepth 100000
set_option maxHeartbeats 8000000
namespace JN
open PySem PySem.Spec PyProof.Rows L2
/-! ### the least ones, but at most so many -/
theorem grd_snoc : ∀ (l acc : List (List Int)) (x : List Int), grd acc (l ++ [x]) = (if inG (grd acc l) x = true then grd acc l else grd acc l ++ [x])
  | [], acc, x => rfl
  | y :: l, acc, x => grd_snoc l _ x
theorem grd_more : ∀ (l acc : List (List Int)), ∃ e, grd acc l = acc ++ e
  | [], acc => ⟨[], by rw [List.append_nil]; rfl⟩
  | x :: l, acc => by
    show ∃ e, grd (if inG acc x = true then acc else acc ++ [x]) l = acc ++ e
    by_cases c : inG acc x = true
    · rw [if_pos c]
      exact grd_more l acc
    · rw [if_neg c]
      obtain ⟨e, h⟩ := grd_more l (acc ++ [x])
      exact ⟨[x] ++ e, by rw [h, List.append_assoc]⟩
theorem grd_app : ∀ (l m acc : List (List Int)), grd acc (l ++ m) = grd (grd acc l) m
  | [], m, acc => rfl
  | x :: l, m, acc => grd_app l m _
theorem grd_take {L : List (List Int)} {i : Nat} {acc : List (List Int)} (h : acc = grd [] (L.take i)) : acc = (grd [] L).take acc.length := by
  obtain ⟨e, he⟩ := grd_more (L.drop i) acc
  have : grd [] L = acc ++ e := by
    rw [← he, h, ← grd_app, List.take_append_drop]
  rw [this, List.take_left]
/-- least_ones(monomials, most) of fewer than 64 monomials -/
def spLeastX (K : PySem.W.Frag) : Sp := fun vs H Q _ => ∃ (l : Addr) (most : Nat) (ks : List (Addr × List Int)) (d : Nat), vs = [.ref l, .int (most : Int)] ∧ (SqL K H l (refs ks) ∨ SqT K H l (refs ks)) ∧ Rows K H ks ∧ 1 ≤ d ∧ (∀ p ∈ ks, Mon d p.2) ∧ ks.length < 64 ∧ 1 ≤ most ∧
  ∀ (D : Addr) (H' : Hp) (ks' : List (Addr × List Int)) (R : List (List Int)), Same H H' → H' D = some (.lst (refs ks')) → (∀ p ∈ ks', p ∈ ks) → MinOf (mons ks) R → mons ks' = R.take most → Q (.ref D) H'
section
variable {P : Program} {w : World} {K : PySem.W.Frag} {mg : Str → Option Value} {base : Heap}
theorem ok_leastx {f fH : Addr} {fd dH : FuncData} (F : Fun K "least_ones" "least_ones" S_least_ones f fd) (B : Bt mg) (AH : At K mg "has_divisor" S_has_divisor ["monomial", "others"] fH dH) (GH : FnOk P w K mg base CX0 2 fH dH ["monomial", "others"] (spHasL K)) : FnOk P w K mg base CX0 3 f fd ["monomials", "most"] (spLeastX K) := by
  refine F.ok sc_least_ones (fun vs H Q E h => ?_) (fun cdv A outer s H vs Q E hr h => ?_)
  · obtain ⟨l, most, ks, d, rfl, _⟩ := h
    rfl
  · obtain ⟨l, most, ks, d, rfl, hL, hR, hd, hm, h64, hmost, q⟩ := h
    have nd := sc_least_ones.nd
    refine ⟨_, pss_cons (ps_set (i := 2) nd rfl (.inl rfl) (pe_lst pa_nil))
      (pss_cons (ps_for PassesOwn.never rfl (pi_list (pe_sortSet (i := 0) rfl (.inl rfl) rfl hr.units (by rfl) B.sorted (by rfl) B.set)) (pg_name (i := 3) nd rfl (.inl rfl))
        (pss_cons (ps_if (pt_not (pt_val (pe_call GH hr (by rfl) AH.gl AH.fn.kp AH.bi .nil pass0 (pa_cons (pv 3) (pa_cons (pv 2) pa_nil))))) (pss_one (ps_expr (pe_bm PySem.F.plainAttrs_list PySem.F.slot_list_append PySem.F.type_list_append mt_append (pv 2) (pa_cons (pv 3) pa_nil)))) pss_nil)
        (pss_one (ps_if (pt_cmpR op_ge (pe_callB call_len_seq (by rfl) B.len PySem.boot_len (pa_cons (pv 2) pa_nil)) (pv 1) (nomark _)) (pss_one (ps_break)) pss_nil))))
      (pss_one (ps_ret (pv 2)))), ?_⟩
    refine ⟨Nat.zero_le _, fun D nD => ?_⟩
    have s1 := same_new (o := .lst []) nD
    have hL1 : SqL K (upd H D (.lst [])) l (refs ks) ∨ SqT K (upd H D (.lst [])) l (refs ks) := hL.imp (fun h => s1.seq h) (fun h => Same.tup s1 h)
    refine ⟨l, ks, d, rfl, hL1, hR.same s1, hd, hm, h64, fun p H3 L' s2 np hp3 hsub hmem hasc hlen => ?_⟩
    have hD3 : H3 D = some (.lst []) := s2 _ _ upd_same
    have npD : p ≠ D := fun e => by
      rw [e, upd_same] at np
      cases np
    have sall := s1.trans s2
    have hmL : ∀ x ∈ L', Mon d x.2 := fun x hx => hm x (hsub x hx)
    have hR3 : Rows K H3 L' := fun x hx => Same.tup sall (hR x (hsub x hx))
    have mn : MinOf (mons ks) (grd [] (mons L')) := by
      have m0 : MinOf (mons L') (grd [] (mons L')) := grd_all (d := d) min_nil (fun p hp => absurd hp List.not_mem_nil) (fun p hp => by
        obtain ⟨r, h1, rfl⟩ := mem_mons.mp hp
        exact hmL r h1) hasc
      refine ⟨m0.asc, fun x => ?_⟩
      rw [m0.mem, hmem x]
      constructor
      · rintro ⟨h1, h2⟩; exact ⟨h1, fun y hy => h2 y ((hmem y).mpr hy)⟩
      · rintro ⟨h1, h2⟩; exact ⟨h1, fun y hy => h2 y ((hmem y).mp hy)⟩
    refine ⟨p, rfl, ⟨_, .inl (.inl hp3)⟩, for_list (xs := refs L') (fun i σ H1 => Kp [D] H3 H1 ∧ Same H H1 ∧ ∃ (acc : List (Addr × List Int)) (z : Option V), H1 D = some (.lst (refs acc)) ∧ acc.length ≤ i ∧ acc.length < most ∧ (∀ x ∈ acc, x ∈ L') ∧ mons acc = grd [] ((mons L').take i) ∧ σ = [some (.ref l), some (.int (most : Int)), some (.ref D), z])
      ⟨Kp.refl _, sall, [], none, hD3, Nat.le_refl _, hmost, fun x hx => absurd hx List.not_mem_nil, rfl, rfl⟩ (fun i σ H1 _ h => h.1.seq (by simpa using npD) (.inl (.inl hp3))) (fun i x σ H1 hx h => ?_) (fun σ H1 h => ?_)⟩
    · obtain ⟨kp, sm, acc, z, eD, hal, hlt, has, hg, rfl⟩ := h
      obtain ⟨hi, rfl⟩ := refs_get hx
      have hi64 : L'.length < 64 := Nat.lt_of_le_of_lt hlen h64
      have hLi : L'[i] ∈ L' := List.getElem_mem hi
      have row1 : Rows K H1 L' := fun y hy => kp.tupL hD3 (hR3 y hy)
      have gtake : grd [] ((mons L').take (i + 1)) = (if inG (mons acc) L'[i].2 = true then mons acc else mons acc ++ [L'[i].2]) := by
        rw [take_mons hi, hg]
        exact grd_snoc _ _ _
      refine ⟨_, rfl, _, rfl, L'[i].1, D, L'[i].2, acc, rfl, row1 _ hLi, .inl (.inl eD), fun y hy => row1 y (has y hy), fun y hy => (hmL y (has y hy)).1.trans (hmL _ hLi).1.symm, fun H2 s2' => ⟨_, rfl, ?_⟩⟩
      have eD2 := s2' _ _ eD
      cases hd' : inG (mons acc) L'[i].2 with
      | true =>
        refine iteF ?_
        refine ⟨_, rfl, D, _, rfl, .inl (.inl (.inl eD2)), .int most, rfl, _, _, rfl, rfl, _, rfl, ?_⟩
        refine ite2 (fun e => ?_) (fun e => ?_)
        · have := of_decide_eq_true e
          rw [List.length_map] at this
          omega
        · refine ⟨kp.trans (Kp.of s2'), sm.trans s2', acc, _, eD2, by omega, hlt, has, ?_, rfl⟩
          rw [gtake, if_pos hd']
      | false =>
        refine iteT ?_
        refine ⟨_, rfl, .inl ⟨rfl, _, .inl (.inl eD2)⟩, _, rfl, D, _, _, rfl, rfl, eD2, ?_, ?_⟩
        · rw [List.length_map]; exact small1000 (by omega)
        · have hn : H D = none := nD
          have e3 : (upd H2 D (.lst (refs acc ++ [V.ref L'[i].1]))) D = some (.lst (refs (acc ++ [L'[i]]))) := by
            rw [upd_same, refs_app]
            rfl
          have smE : Same H (upd H2 D (.lst (refs acc ++ [V.ref L'[i].1]))) := fun b o eb => by
            rw [upd_ne (ne_of_none eb hn)]
            exact s2' _ _ (sm _ _ eb)
          have hasE : ∀ y ∈ acc ++ [L'[i]], y ∈ L' := fun y hy => by
            rcases List.mem_append.mp hy with h | h
            · exact has y h
            · rw [List.mem_singleton.mp h]; exact hLi
          have hgE : mons (acc ++ [L'[i]]) = grd [] ((mons L').take (i + 1)) := by
            rw [gtake, if_neg (by rw [hd']; decide), mons_app]
            rfl
          have hlE : (acc ++ [L'[i]]).length = acc.length + 1 := List.length_append
          refine ⟨_, rfl, D, _, rfl, .inl (.inl (.inl e3)), .int most, rfl, _, _, rfl, rfl, _, rfl, ?_⟩
          refine ite2 (fun e => ?_) (fun e => ?_)
          · have := of_decide_eq_true e
            rw [List.length_map, hlE] at this
            have hz : (acc ++ [L'[i]]).length = most := by omega
            refine ⟨_, rfl, q D _ (acc ++ [L'[i]]) _ smE e3 (fun x hx => hsub x (hasE x hx)) mn ?_⟩
            have := grd_take hgE
            rw [List.length_map, hz] at this
            exact this
          · have hz : ¬ (most : Int) ≤ ((refs (acc ++ [L'[i]])).length : Nat) := fun z => e (decide_eq_true z)
            rw [List.length_map, hlE] at hz
            exact ⟨(kp.trans (Kp.of s2')).upd (List.mem_singleton.mpr rfl), smE, acc ++ [L'[i]], _, e3, by omega, by omega, hasE, hgE, rfl⟩
    · obtain ⟨kp, sm, acc, z, eD, hal, hlt, has, hg, rfl⟩ := h
      rw [List.take_of_length_le (by rw [List.length_map, List.length_map]; exact Nat.le_refl _)] at hg
      refine ⟨_, rfl, q D H1 acc _ sm eD (fun x hx => hsub x (has x hx)) mn ?_⟩
      rw [hg, List.take_of_length_le]
      rw [← hg, List.length_map]
      omega
end
end JN

set_option maxRecDepth 100000
set_option maxHeartbeats 8000000
namespace JN
open PySem PySem.Spec PyProof.Rows L2
/-! ### TooMany(60) -/
/-- a class's own __init__ that begins with super().__init__(..), as it stands behind the top -/
structure SupFn (P : Program) (K : PySem.W.Frag) (qual : Str) (st : Stmt) (C f : Addr) (fd : FuncData) : Prop where
  ex : ∃ (oc : Value) (od : Option Addr) (kV doc pm : Value) (an : Option Addr) (cda : Addr) (ct : Value) (osl : Array (Option Value)) (cc : Addr) (cl : Value) (cld : Option Addr) (csl : Array (Option Value)) (ccl : Value) (cdd : Option Addr) (vs0 : Array Value) (ccs : Array (Option Value)) (file : Str) (tf : Tok),
    fd = PySem.W.ksFn "__init__" qual (defArgs st) (defBody st) (defScope st) .none kV doc pm an (.ref cda) ct cc ∧ K.lookup f = some ⟨oc, od, .func fd, osl⟩ ∧ PySem.W.codeIn K (.ref cda) qual = true ∧ K.lookup cda = some ⟨ccl, cdd, .fields vs0, ccs⟩ ∧ vs0[2]? = some (.str file tf) ∧ ((P.main.file : Str) == file) = true ∧
      K.lookup cc = some ⟨cl, cld, .cell (some (.ref C)), csl⟩
/-- what the text says of an own error class with one field -/
structure ErrC (P : Program) (K : PySem.W.Frag) (mg : Str → Option Value) (x qual : Str) (fld : Str) (st : Stmt) (ps : List Str) (C f : Addr) (fd : FuncData) : Prop where
  sup : SupC P K mg C
  gl : mg x = some (.ref C)
  ini : PySem.W.findIn K (.ref C) "__init__" = some (some (.ref f))
  tyf : PySem.W.typeIn K (.ref f) = some (.type "function")
  bi : Binds K fd ps []
  fn : SupFn P K qual st C f fd
  nof : PySem.W.findIn K (.ref C) fld = some none
  exc : ExcC K C
  xf : XfC K C
abbrev S_many : Stmt := inClass (topS 3) 0
def spInit (K : PySem.W.Frag) (C : Addr) : Sp := fun vs H Q _ => ∃ a : Addr, vs = [.ref a, .int 60] ∧ H a = some (exo a C none) ∧ ∀ d, H d = none → d ≠ a → Q .non (upd (upd H d (exd d [("limit", .int 60)])) a (exo a C (some d)))
section
variable {P : Program} {w : World} {K : PySem.W.Frag} {mg : Str → Option Value} {base : Heap}
theorem sc_many : SupScope ["self", "limit"] ["self", "limit"] (defScope S_many) := ⟨rfl, rfl, rfl, by decide +kernel, rfl, by decide +kernel, by decide +kernel, by decide +kernel, rfl, rfl⟩
theorem ok_init {C f : Addr} {fd : FuncData} (T : ErrC P K mg "TooMany" "TooMany.__init__" "limit" S_many ["self", "limit"] C f fd) : FnOk P w K mg base CX0 1 f fd ["self", "limit"] (spInit K C) := by
  obtain ⟨oc, od, kV, doc, pm, an, cda, ct, osl, cc, cl, cld, csl, ccl, cdd, vs0, ccs, file, tf, rfl, lk, hcd, hcode, hvs, hfile, hcc⟩ := T.fn.ex
  refine fn_sup lk hcd hcode hvs hfile hcc rfl rfl T.sup sc_many (fun vs H Q E h => ?_) (fun _ _ _ => rfl) _ (fun _ => rfl) (fun _ => rfl) (fun _ => rfl) fun A outer s H vs Q E hr h => ?_
  · obtain ⟨a, rfl, _⟩ := h
    rfl
  · obtain ⟨a, rfl, ha, q⟩ := h
    refine ⟨a, _, _, rfl, ha, pe_joined (PJ.cons pe_str (PJ.cons (pe_fmt (pv 1)) PJ.nil)), pss_one (ps_ost (pv 0) (pv 1)), ?_⟩
    refine ⟨_, rfl, by decide +kernel, ⟨_, rfl, .inr ⟨60, rfl, by decide, ⟨_, rfl, by decide +kernel, ⟨Nat.le_refl _, ha, ?_⟩⟩⟩⟩⟩
    exact ⟨_, rfl, _, rfl, a, C, rfl, T.sup.oex, T.nof, .inl ⟨ha, fun dx n ne => q dx n ne⟩⟩
end
end JN

set_option maxRecDepth 100000
set_option maxHeartbeats 8000000
namespace JN
open PySem PySem.Spec PyProof.Rows L2
/-- all exponents at most 60 -/
def Le60 (p : List Int) : Prop := ∀ x ∈ p, x ≤ 60
def spIdeal (K : PySem.W.Frag) : Sp := fun vs H Q _ => ∃ (l : Addr) (n : Int) (ks : List (Addr × List Int)) (d : Nat), vs = [.int n, .ref l] ∧ (SqL K H l (refs ks) ∨ SqT K H l (refs ks)) ∧ Rows K H ks ∧ 1 ≤ d ∧ (∀ p ∈ ks, Mon d p.2 ∧ Le60 p.2) ∧ ks.length ≤ 60 ∧
  ∀ (v : Addr) (H' : Hp) (R : List (List Int)), Same H H' → MinOf (mons ks) R → IsI K H' v n R → Q (.ref v) H'
def spCont (K : PySem.W.Frag) : Sp := fun vs H Q _ => ∃ (v x : Addr) (n : Int) (m : List Int) (gs : List (List Int)), vs = [.ref v, .ref x] ∧ IsI K H v n gs ∧ SqT K H x (m.map V.int) ∧ (∀ p ∈ gs, p.length = m.length) ∧
  ∀ (H' : Hp), Same H H' → Q (.bl (inG gs m)) H'
def spWith (K : PySem.W.Frag) : Sp := fun vs H Q _ => ∃ (v u : Addr) (n m : Int) (gs hs : List (List Int)) (d : Nat), vs = [.ref v, .ref u] ∧ IsI K H v n gs ∧ IsI K H u m hs ∧ (∀ p ∈ gs, p.length = d) ∧ (∀ p ∈ hs, p.length = d) ∧ gs.length ≤ 1000 ∧
  ∀ (H' : Hp), Same H H' → Q (.bl (gs.all fun g => inG hs g)) H'
/-- an operation on two ideals, of few generators -/
def spOp2 (K : PySem.W.Frag) (R : List (List Int) → List (List Int) → List (List Int)) (few : Nat → Nat → Nat) : Sp := fun vs H Q _ => ∃ (v u : Addr) (n m : Int) (gs hs : List (List Int)) (d : Nat), vs = [.ref v, .ref u] ∧ IsI K H v n gs ∧ IsI K H u m hs ∧ 1 ≤ d ∧ d ≤ 1000 ∧ (∀ p ∈ gs, Mon d p ∧ Le60 p) ∧ (∀ p ∈ hs, Mon d p ∧ Le60 p) ∧ (∀ p ∈ R gs hs, Mon d p ∧ Le60 p) ∧ few gs.length hs.length ≤ 60 ∧
  ∀ (w : Addr) (H' : Hp) (T : List (List Int)), Same H H' → MinOf (R gs hs) T → IsI K H' w n T → Q (.ref w) H'
section
variable {P : Program} {w : World} {K : PySem.W.Frag} {mg : Str → Option Value} {base : Heap}
theorem sc_ideal_of : FnScope ["n", "monomials", "generators", "generator"] ["n", "monomials"] (defScope S_ideal_of) := ⟨rfl, rfl, rfl, by decide +kernel, rfl, by decide +kernel, by decide +kernel⟩
theorem sc_contains : FnScope ["ideal", "monomial", "_", "generators"] ["ideal", "monomial"] (defScope S_contains) := ⟨rfl, rfl, rfl, by decide +kernel, rfl, by decide +kernel, by decide +kernel⟩
theorem ok_cont {f fH : Addr} {fd dH : FuncData} (F : Fun K "contains" "contains" S_contains f fd) (AH : At K mg "has_divisor" S_has_divisor ["monomial", "others"] fH dH) (GH : FnOk P w K mg base CX0 2 fH dH ["monomial", "others"] (spHasT K)) : FnOk P w K mg base CX0 3 f fd ["ideal", "monomial"] (spCont K) := by
  refine F.ok sc_contains (fun vs H Q E h => ?_) (fun cdv A outer s H vs Q E hr h => ?_)
  · obtain ⟨v, x, n, m, gs, rfl, _⟩ := h
    rfl
  · obtain ⟨v, x, n, m, gs, rfl, ⟨g, hV, hG⟩, hX, hl, q⟩ := h
    have nd := sc_contains.nd
    refine ⟨_, pss_cons (ps_asg (pv 0) (pg_tup (by rfl) (pgs_cons (pg_name (i := 2) nd rfl (.inl rfl)) (pgs_cons (pg_name (i := 3) nd rfl (.inl rfl)) pgs_nil))))
      (pss_one (ps_ret (pe_call GH hr (by rfl) AH.gl AH.fn.kp AH.bi .nil pass0 (pa_cons (pv 1) (pa_cons (pv 3) pa_nil))))), ?_⟩
    exact ⟨_, rfl, v, _, rfl, hV, rfl, _, _, rfl, _, _, rfl, rfl, _, rfl, _, rfl, x, g, m, gs, rfl, hX, hG, hl, q⟩
theorem sc_is_within : FnScope ["a", "b", "_", "generators", "generator"] ["a", "b"] (defScope S_is_within) := ⟨rfl, rfl, rfl, by decide +kernel, rfl, by decide +kernel, by decide +kernel⟩
theorem ok_with {f fC : Addr} {fd dC : FuncData} (F : Fun K "is_within" "is_within" S_is_within f fd) (B : Bt mg) (AC : At K mg "contains" S_contains ["ideal", "monomial"] fC dC) (GC : FnOk P w K mg base CX0 3 fC dC ["ideal", "monomial"] (spCont K)) : FnOk P w K mg base CX0 4 f fd ["a", "b"] (spWith K) := by
  refine F.ok sc_is_within (fun vs H Q E h => ?_) (fun cdv A outer s H vs Q E hr h => ?_)
  · obtain ⟨v, u, n, m, gs, hs, d, rfl, _⟩ := h
    rfl
  · obtain ⟨v, u, n, m, gs, hs, d, rfl, ⟨g, hV, ⟨ks, rfl, hG, hR⟩⟩, hU, h1, h2, hz, q⟩ := h
    have nd := sc_is_within.nd
    refine ⟨_, pss_cons (ps_asg (pv 0) (pg_tup (by rfl) (pgs_cons (pg_name (i := 2) nd rfl (.inl rfl)) (pgs_cons (pg_name (i := 3) nd rfl (.inl rfl)) pgs_nil))))
      (pss_one (ps_ret (pe_callB (cr_all (by rfl)) (by rfl) B.all (by decide +kernel) (pa_cons (pe_lc (own := [("generator", 4)]) (g := gName 4) (te := tCall (spCont K) [] E0 (tCons (tVar 1) (tCons (tVar 4) tNil))) (by rfl) nd (pi_tup (pv 3)) (blkOk_by (own := [("generator", 4)]) (N := ["a", "b", "_", "generators", "generator"]) (sc := defScope S_is_within) (by decide +kernel)) (fun _ _ _ _ _ => pg_name (i := 4) nd rfl (.inl rfl)) (fun _ _ _ _ _ => pts_nil) (fun _ _ _ _ _ => pe_call GC hr (by rfl) AC.gl AC.fn.kp AC.bi .nil pass0 (pa_cons (pv 1) (pa_cons (pv 4) pa_nil)))) pa_nil)))), ?_⟩
    rw [List.length_map] at hz
    refine ⟨_, rfl, v, _, rfl, hV, rfl, _, _, rfl, _, _, rfl, rfl, _, rfl, g, rfl, ⟨_, hG⟩, fun D nD => lc_keep (walk_tup (xs := refs ks)) (fun i => some (V.bl (inG hs ((mons ks).getD i [])))) nD ?_ (fun H1 e => Same.tup e hG) (fun i x H1 H2 P1 P0 hi sm y k1 k0 => ?_) (fun H1 sm e => ?_)⟩
    · rw [List.length_map]; exact small1000 hz
    · rw [List.length_map] at hi
      obtain ⟨rfl, hx⟩ := y
      obtain ⟨hi', rfl⟩ := refs_get hx
      have hmem : ks[i].2 ∈ mons ks := mem_mons.mpr ⟨_, List.getElem_mem hi, rfl⟩
      refine ⟨rfl, yes_ok ?_⟩
      refine ⟨_, rfl, _, rfl, u, ks[i].1, m, ks[i].2, hs, rfl, hU.same sm, Same.tup sm (hR _ (List.getElem_mem hi)), fun p hp => (h2 p hp).trans (h1 _ hmem).symm, fun H3 s3 => k1 _ _ ?_ s3⟩
      rw [List.getD_eq_getElem?_getD, mons_at hi]
      rfl
    · have e2 : (List.range (refs ks).length).filterMap (fun i => some (V.bl (inG hs ((mons ks).getD i [])))) = (((mons ks).map fun g => inG hs g).map V.bl) := by
        rw [fm_some (g := fun i => V.bl (inG hs ((mons ks).getD i []))) (fun _ _ => rfl)]
        apply List.ext_getElem
        · simp
        · intro i a b
          simp only [List.getElem_map, List.getElem_range]
          rw [List.getD_eq_getElem?_getD, mons_at (by simpa using a)]
          rfl
      rw [e2] at e
      refine ⟨D, _, rfl, .inl (.inl e), ?_⟩
      have := q H1 sm
      rw [List.all_map]
      exact this
end
end JN

set_option maxRecDepth 100000
set_option maxHeartbeats 8000000
namespace JN
open PySem PySem.Spec PyProof.Rows L2
/-! ### ideal_of, also where there are more than 60 -/
def spIdealX (K : PySem.W.Frag) (CT : Addr) : Sp := fun vs H Q E => ∃ (l : Addr) (n : Int) (ks : List (Addr × List Int)) (d : Nat), vs = [.int n, .ref l] ∧ (SqL K H l (refs ks) ∨ SqT K H l (refs ks)) ∧ Rows K H ks ∧ 1 ≤ d ∧ (∀ p ∈ ks, Mon d p.2 ∧ Le60 p.2) ∧ ks.length < 64 ∧
  (∀ (v : Addr) (H' : Hp) (R : List (List Int)), Same H H' → MinOf (mons ks) R → R.length ≤ 60 → IsI K H' v n R → Q (.ref v) H') ∧
  (∀ (e : Addr) (H' : Hp) (R : List (List Int)), Same H H' → MinOf (mons ks) R → 60 < R.length → H' e = some (.xd [("limit", .int 60)]) → E (.ref CT) (some e) H')
section
variable {P : Program} {w : World} {K : PySem.W.Frag} {mg : Str → Option Value} {base : Heap}
theorem ok_idealx {f fL CT fT : Addr} {fd dL dT : FuncData} (F : Fun K "ideal_of" "ideal_of" S_ideal_of f fd) (B : Bt mg) {tG tE : Tok} (hG : mg "MOST_GENERATORS" = some (.int 60 tG)) (hE : mg "MOST_EXPONENT" = some (.int 60 tE)) (AL : At K mg "least_ones" S_least_ones ["monomials", "most"] fL dL) (GL : FnOk P w K mg base CX0 3 fL dL ["monomials", "most"] (spLeastX K))
    (TM : ErrC P K mg "TooMany" "TooMany.__init__" "limit" S_many ["self", "limit"] CT fT dT) : FnOk P w K mg base (L2.CX P w) 4 f fd ["n", "monomials"] (spIdealX K CT) := by
  have GT : FnOk P w K mg base CX0 1 fT dT ["self", "limit"] (spInit K CT) := ok_init TM
  refine F.okX sc_ideal_of (fun vs H Q E h => ?_) (fun cdv A outer s H vs Q E hr h => ?_)
  · obtain ⟨l, n, ks, d, rfl, _⟩ := h
    rfl
  · obtain ⟨l, n, ks, d, rfl, hL, hR, hd, hm, h64, q, qe⟩ := h
    have nd := sc_ideal_of.nd
    refine ⟨_, pss_cons (ps_set (i := 2) nd rfl (.inl rfl) (pe_call GL hr (by rfl) AL.gl AL.fn.kp AL.bi .nil pass0 (pa_cons (pv 1) (pa_cons (pe_op op_add (pe_glob (v := .int 60) (by rfl) hG ⟨_, rfl⟩) pe_int) pa_nil))))
      (pss_cons (ps_if (pt_cmpR op_gt (pe_callB call_len_seq (by rfl) B.len PySem.boot_len (pa_cons (pv 2) pa_nil)) (pe_glob (v := .int 60) (by rfl) hG ⟨_, rfl⟩) (nomark _))
        (pss_one (ps_raise rfl (takes_of rfl rfl rfl rfl) (pmk_oex TM.sup.oex TM.ini TM.tyf GT (hr.mono (by decide)) TM.bi .nil pass0 (by rfl) TM.gl (pa_cons (pe_glob (v := .int 60) (by rfl) hG ⟨_, rfl⟩) pa_nil)))) pss_nil)
      (PSs.nox (pss_cons (ps_for PassesOwn.never rfl (pi_list (pv 2)) (pg_name (i := 3) nd rfl (.inl rfl))
        (pss_one (ps_if (pt_cmpR op_gt (pe_callB (cr_maxT (by rfl)) (by rfl) B.max (by decide +kernel) (pa_cons (pv 3) pa_nil)) (pe_glob (v := .int 60) (by rfl) hE ⟨_, rfl⟩) (nomark _)) (pss_one (ps_never)) pss_nil)))
      (pss_one (ps_ret (pe_tup (pa_cons (pv 0) (pa_cons (pe_callTy call_tuple_of (by rfl) B.tuple (by decide +kernel) (pa_cons (pv 2) pa_nil)) pa_nil)))))))), ?_⟩
    refine ⟨_, rfl, _, _, rfl, rfl, l, 61, ks, d, rfl, hL, hR, hd, fun p hp => (hm p hp).1, h64, by decide, fun D H1 ks' R s1 eD hsub hmin hk => ?_⟩
    have hR1 : Rows K H1 ks' := fun x hx => Same.tup s1 (hR x (hsub x hx))
    have hl' : ks'.length = min 61 R.length := by
      have := congrArg List.length hk
      rw [List.length_map, List.length_take] at this
      exact this
    refine ⟨_, rfl, D, _, rfl, .inl (.inl (.inl eD)), _, _, rfl, rfl, _, rfl, ?_⟩
    refine ite2 (fun e => ?_) (fun e => ?_)
    · have := of_decide_eq_true e
      rw [List.length_map] at this
      refine ⟨by show 1 ≤ 1000; decide, fun a na => ⟨a, rfl, upd_same, fun dx ndx nda => ⟨rfl, dx, _, upd_same, by rw [upd_ne nda]; exact upd_same, ?_, ?_⟩⟩⟩
      · rw [upd_ne nda] at ndx
        exact ndx
      · have hdx : H1 dx = none := by
          rw [upd_ne nda] at ndx
          exact ndx
        refine qe dx _ R (s1.trans fun b o eb => ?_) hmin (by omega) upd_same
        have n1 := ne_of_none eb hdx
        have n2 := ne_of_none eb na
        rw [upd_ne n1, del_ne n2, upd_ne n2, upd_ne n1, upd_ne n2]
        exact eb
    · have hz : ¬ (60 : Int) < ((refs ks').length : Nat) := fun z => e (decide_eq_true z)
      rw [List.length_map] at hz
      have hRl : R.length ≤ 60 := by omega
      rw [List.take_of_length_le (by omega)] at hk
      refine ⟨_, rfl, D, rfl, ⟨_, .inl (.inl eD)⟩, for_list (xs := refs ks') (fun i σ H2 => H2 = H1 ∧ ∃ z, σ = [some (.int n), some (.ref l), some (.ref D), z]) ⟨rfl, _, rfl⟩ (fun i σ H2 _ h => h.1 ▸ .inl (.inl eD)) (fun i x σ H2 hx h => ?_) (fun σ H2 h => ?_)⟩
      · obtain ⟨rfl, z, rfl⟩ := h
        obtain ⟨hi, rfl⟩ := refs_get hx
        have hk2 := hm _ (hsub _ (List.getElem_mem hi))
        refine ⟨_, rfl, ks'[i].1, ks'[i].2, rfl, hR1 _ (List.getElem_mem hi), by rw [hk2.1.1]; exact hd, fun m hmm _ => ⟨_, _, rfl, rfl, _, rfl, ?_⟩⟩
        refine ite2 (fun e => ?_) (fun _ => ⟨rfl, _, rfl⟩)
        have := of_decide_eq_true e
        have := hk2.2 m hmm
        omega
      · obtain ⟨rfl, z, rfl⟩ := h
        refine ⟨_, rfl, _, rfl, D, _, rfl, .inl ⟨.inl (.inl eD), fun g ng => ?_⟩⟩
        have s2 := same_new (o := .tup (refs ks')) ng
        refine ⟨by show 2 ≤ sizeLine; decide, fun v nv => ?_⟩
        have s3 := same_new (o := .tup [V.int n, V.ref g]) nv
        exact q v _ R (s1.trans (s2.trans s3)) hmin hRl ⟨g, sqt_new, ks', hk, Same.tup s3 sqt_new, hR1.same (s2.trans s3)⟩
end
end JN

set_option maxRecDepth 100000
set_option maxHeartbeats 8000000
namespace JN
open PySem PySem.Spec PyProof.Rows L2
theorem filt_fm {α β : Type} {p : α → Bool} {g : α → β} : ∀ {l : List α}, l.filterMap (fun x => if p x = true then some (g x) else none) = (l.filter p).map g
  | [] => rfl
  | a :: l => by
    have ih := filt_fm (p := p) (g := g) (l := l)
    cases h : p a with
    | true => rw [List.filterMap_cons_some (b := g a) (by rw [if_pos h]), List.filter_cons_of_pos h, List.map_cons, ih]
    | false => rw [List.filterMap_cons_none (by rw [if_neg (by rw [h]; decide)]), List.filter_cons_of_neg (by rw [h]; decide), ih]
/-- a filter by places -/
theorem range_filt {α : Type} {ks : List α} (p : α → Bool) (r : α → V) (z : α) : (List.range ks.length).filterMap (fun i => if p (ks.getD i z) = true then some (r (ks.getD i z)) else none) = (ks.filter p).map r := by
  rw [← filt_fm]
  induction ks with
  | nil => rfl
  | cons a l ih =>
    rw [List.length_cons, List.range_succ_eq_map, List.filterMap_cons, List.filterMap_cons, List.filterMap_map]
    have e : (List.range l.length).filterMap ((fun i => if p ((a :: l).getD i z) = true then some (r ((a :: l).getD i z)) else none) ∘ Nat.succ) = l.filterMap (fun x => if p x = true then some (r x) else none) := by
      rw [← ih]
      rfl
    rw [e]
    rfl
theorem getD_at {α : Type} {ks : List α} {i : Nat} {z : α} (h : i < ks.length) : ks.getD i z = ks[i] := by
  rw [List.getD_eq_getElem?_getD, List.getElem?_eq_getElem h]
  rfl
abbrev z0 : Addr × List Int := (0, [])
def spLLeast (K : PySem.W.Frag) : Sp := fun vs H Q _ => ∃ (l : Addr) (ks : List (Addr × List Int)) (d : Nat), vs = [.ref l] ∧ (SqL K H l (refs ks) ∨ SqT K H l (refs ks)) ∧ Rows K H ks ∧ 1 ≤ d ∧ d ≤ 1000 ∧ (∀ p ∈ ks, Mon d p.2) ∧ ks.length < 64 ∧
  ∀ (g : Addr) (H' : Hp) (R : List (List Int)), Same H H' → MinOf (mons ks) R → TpM K H' g R → Q (.ref g) H'
def spIn (K : PySem.W.Frag) : Sp := fun vs H Q _ => ∃ (g b : Addr) (gs : List (List Int)) (c : List Int), vs = [.ref g, .ref b] ∧ TpM K H g gs ∧ SqT K H b (c.map V.int) ∧ (∀ p ∈ gs, p.length = c.length) ∧ c.length ≤ 1000 ∧ gs.length ≤ 1000 ∧
  ∀ (H' : Hp), Same H H' → Q (.bl (inG gs c)) H'
def spLDvd (K : PySem.W.Frag) : Sp := fun vs H Q _ => ∃ (a b : Addr) (ns ms : List Int), vs = [.ref a, .ref b] ∧ SqT K H a (ns.map V.int) ∧ SqT K H b (ms.map V.int) ∧ ns.length = ms.length ∧ ns.length ≤ 1000 ∧
  ∀ (H' : Hp), Same H H' → Q (.bl (dvdI ns ms)) H'
/-- the scope of the outer of two comprehensions -/
abbrev leastSc : Scope := { kind := .function, names := [(".0", .local), ("a", .cell), ("some", .cell)], isGenerator := false, isCoroutine := false }
section
variable {P : Program} {w : World} {K : PySem.W.Frag} {mg : Str → Option Value} {base : Heap}
theorem sc_law_divides : FnScope ["a", "b", "k"] ["a", "b"] (defScope S_law_divides) := ⟨rfl, rfl, rfl, by decide +kernel, rfl, by decide +kernel, by decide +kernel⟩
theorem ok_ldvd {f : Addr} {fd : FuncData} (F : Fun K "_law_divides" "_law_divides" S_law_divides f fd) (B : Bt mg) : FnOk P w K mg base CX0 1 f fd ["a", "b"] (spLDvd K) := by
  refine F.ok sc_law_divides (fun vs H Q E h => ?_) (fun cdv A outer s H vs Q E hr h => ?_)
  · obtain ⟨a, b, ns, ms, rfl, _⟩ := h
    rfl
  · obtain ⟨a, b, ns, ms, rfl, hA, hB, hl, hz, q⟩ := h
    have nd := sc_law_divides.nd
    refine ⟨_, pss_one (ps_ret (pe_cmpR (op_eqD hr.units) (pe_lc (own := [("k", 2)]) (g := gName 2) (tt := tTest (tOp (rI0 fun i j => .bl (decide (j < i))) (tOp (rIxT K) (tVar 0) (tVar 2)) (tOp (rIxT K) (tVar 1) (tVar 2)))) (by rfl) nd (pi_range1 (by rfl) B.range (pa_cons (pe_callB call_len_seq (by rfl) B.len PySem.boot_len (pa_cons (pv 0) pa_nil)) pa_nil)) (blkOk_by (own := [("k", 2)]) (N := ["a", "b", "k"]) (sc := defScope S_law_divides) (by decide +kernel)) (fun _ _ _ _ _ => pg_name (i := 2) nd rfl (.inl rfl)) (fun _ _ _ _ _ => pts_one (pt_cmpR op_gt (pe_ix ix_tup (pv 0) (pv 2) (fun _ _ => rfl)) (pe_ix ix_tup (pv 1) (pv 2) (fun _ _ => rfl)) (nomark _))) (fun _ _ _ _ _ => pv 2)) (pe_lst pa_nil) (nomark _))), ?_⟩
    have hc : (((ns.map V.int).length : Nat) : Int).toNat = ns.length := by rw [toNat_len, List.length_map]
    refine ⟨_, rfl, a, _, rfl, .inr hA, _, rfl, by omega, by rw [List.length_map]; omega, fun D nD => lc_keep (walk_range (lo := 0)) (fun j => if decide (at0 ms j < at0 ns j) then some (V.int (j : Int)) else none) nD ?_ (fun H1 e => trivial) (fun j x H1 H2 P1 P0 hj sm1 y h1 h0 => ?_) (fun H1 sm e => ?_)⟩
    · rw [hc]; exact small1000 hz
    · rw [hc] at hj
      obtain ⟨rfl, rfl⟩ := y
      refine ⟨rfl, _, rfl, _, rfl, a, _, _, _, rfl, rfl, Same.tup sm1 hA, at_of (Int.zero_add _) (it0 hj), _, rfl, _, rfl, b, _, _, _, rfl, rfl, Same.tup sm1 hB, at_of (Int.zero_add _) (it0 (hl ▸ hj)), _, _, rfl, rfl, _, rfl, ?_⟩
      refine ite2 (fun e => ⟨_, rfl, h1 _ _ ?_ (Same.refl _)⟩) (fun e => h0 _ ?_ (Same.refl _))
      · rw [if_pos e]
        exact congrArg some at_lo
      · rw [if_neg e]
    · rw [hc, fm_sel] at e
      refine ⟨by decide, fun o no => ?_⟩
      have s2 := same_new (o := .lst []) no
      refine eq_lst (ns := selI (fun j => decide (at0 ms j < at0 ns j)) ns.length) (ms := []) (.inl (.inl (s2 _ _ e))) (sql_new (o := [])) ?_
      rw [dvd_sel rfl hl.symm]
      exact q _ (sm.trans s2)
theorem sc_law_in : FnScope ["generators", "b", "a"] ["generators", "b"] (defScope S_law_in) := ⟨rfl, rfl, rfl, by decide +kernel, rfl, by decide +kernel, by decide +kernel⟩
theorem ok_in {f fD : Addr} {fd dD : FuncData} (F : Fun K "_law_in" "_law_in" S_law_in f fd) (AD : At K mg "_law_divides" S_law_divides ["a", "b"] fD dD) (GD : FnOk P w K mg base CX0 1 fD dD ["a", "b"] (spLDvd K)) : FnOk P w K mg base CX0 2 f fd ["generators", "b"] (spIn K) := by
  refine F.ok sc_law_in (fun vs H Q E h => ?_) (fun cdv A outer s H vs Q E hr h => ?_)
  · obtain ⟨g, b, gs, c, rfl, _⟩ := h
    rfl
  · obtain ⟨g, b, gs, c, rfl, ⟨ks, rfl, hG, hR⟩, hB, hl, hz, hz2, q⟩ := h
    have nd := sc_law_in.nd
    refine ⟨_, pss_one (ps_ret (pe_cmpR (op_neD hr.units) (pe_lc (own := [("a", 2)]) (g := gName 2) (tt := tB (tCall (spLDvd K) [] E0 (tCons (tVar 2) (tCons (tVar 1) tNil)))) (by rfl) nd (pi_tup (pv 0)) (blkOk_by (own := [("a", 2)]) (N := ["generators", "b", "a"]) (sc := defScope S_law_in) (by decide +kernel)) (fun _ _ _ _ _ => pg_name (i := 2) nd rfl (.inl rfl)) (fun _ _ _ _ _ => pts_one (pt_val (pe_call GD hr (by rfl) AD.gl AD.fn.kp AD.bi .nil pass0 (pa_cons (pv 2) (pa_cons (pv 1) pa_nil))))) (fun _ _ _ _ _ => pv 2)) (pe_lst pa_nil) (nomark _))), ?_⟩
    rw [List.length_map] at hz2
    refine ⟨_, rfl, g, rfl, ⟨_, hG⟩, fun D nD => lc_keep (walk_tup (xs := refs ks)) (fun i => if dvdI (ks.getD i z0).2 c = true then some (V.ref (ks.getD i z0).1) else none) nD ?_ (fun H1 e => Same.tup e hG) (fun i x H1 H2 P1 P0 hi sm y k1 k0 => ?_) (fun H1 sm e => ?_)⟩
    · rw [List.length_map]; exact small1000 hz2
    · rw [List.length_map] at hi
      obtain ⟨rfl, hx⟩ := y
      obtain ⟨hi', rfl⟩ := refs_get hx
      refine ⟨rfl, _, rfl, _, rfl, ks[i].1, b, ks[i].2, c, rfl, Same.tup sm (hR _ (List.getElem_mem hi)), Same.tup sm hB, hl _ (mem_mons.mpr ⟨_, List.getElem_mem hi, rfl⟩), ?_, fun H3 s3 => ⟨_, rfl, ?_⟩⟩
      · rw [hl _ (mem_mons.mpr ⟨_, List.getElem_mem hi, rfl⟩)]; exact hz
      · refine ite2 (fun e => ⟨_, rfl, k1 _ _ ?_ s3⟩) (fun e => k0 _ ?_ s3)
        · rw [getD_at hi, if_pos e]
        · rw [getD_at hi, if_neg e]
    · rw [List.length_map, range_filt (fun p => dvdI p.2 c) (fun p => V.ref p.1) z0] at e
      refine ⟨by decide, fun o no => ?_⟩
      have s2 := same_new (o := .lst []) no
      have hR2 : Rows K (upd H1 o (.lst [])) (ks.filter fun p => dvdI p.2 c) := fun p hp => Same.tup (sm.trans s2) (hR p (List.mem_filter.mp hp).1)
      refine ⟨.list ((mons (ks.filter fun p => dvdI p.2 c)).map pM), .list [], .lst (.inl (.inl (s2 _ _ e))) (dp_rows hR2), .lst sql_new .nil, ?_, by decide, ?_⟩
      · have := sh_G (mons (ks.filter fun p => dvdI p.2 c))
        exact this
      · have e3 : (!PyData.eqv (.list ((mons (ks.filter fun p => dvdI p.2 c)).map pM)) (.list [])) = inG (mons ks) c := by
          have : PyData.eqv (.list ((mons (ks.filter fun p => dvdI p.2 c)).map pM)) (.list []) = decide (mons (ks.filter fun p => dvdI p.2 c) = []) := eqv_gens _ []
          rw [this, Bool.eq_iff_iff, inG_iff]
          simp [mem_mons]
          exact ⟨fun ⟨x, y, h1, h2⟩ => ⟨y, ⟨x, h1⟩, h2⟩, fun ⟨y, ⟨x, h1⟩, h2⟩ => ⟨x, y, h1, h2⟩⟩
        rw [e3]
        exact q _ (sm.trans s2)
theorem sc_law_least : FnScope ["monomials", "some", "a", "b"] ["monomials"] (defScope S_law_least) := ⟨rfl, rfl, rfl, by decide +kernel, rfl, by decide +kernel, by decide +kernel⟩
theorem ok_lleast {f fD : Addr} {fd dD : FuncData} (F : Fun K "_law_least" "_law_least" S_law_least f fd) (B : Bt mg) (AD : At K mg "_law_divides" S_law_divides ["a", "b"] fD dD) (GD : FnOk P w K mg base CX0 1 fD dD ["a", "b"] (spLDvd K)) : FnOk P w K mg base CX0 2 f fd ["monomials"] (spLLeast K) := by
  refine F.ok sc_law_least (fun vs H Q E h => ?_) (fun cdv A outer s H vs Q E hr h => ?_)
  · obtain ⟨l, ks, d, rfl, _⟩ := h
    rfl
  · obtain ⟨l, ks, d, rfl, hL, hR, hd, hd2, hm, h64, q⟩ := h
    have nd := sc_law_least.nd
    refine ⟨_, pss_cons (ps_set (i := 1) nd rfl (.inr rfl) (pe_sortSet (i := 0) rfl (.inl rfl) rfl hr.units (by rfl) B.sorted (by rfl) B.set))
      (pss_one (ps_ret (pe_callTy call_tuple_of (by rfl) B.tuple (by decide +kernel) (pa_cons (pe_lc (own := [("a", 2)]) (g := gName 2) (tt := tTest (tOp (rEqD K) (tLc (iList K (tVar 1)) (gName 3) (tAnd (tTest (tOp (rNeD K) (tVar 3) (tVar 2))) (tB (tCall (spLDvd K) [] E0 (tCons (tVar 3) (tCons (tVar 2) tNil))))) (tVar 3) [3]) (tLst tNil))) (by rfl) nd (pi_list (pv 1)) (blkOk_by (own := [("a", 2)]) (N := ["monomials", "some", "a", "b"]) (sc := defScope S_law_least) (by decide +kernel)) (fun _ _ _ _ _ => pg_name (i := 2) nd rfl (.inr rfl)) (fun _ _ _ _ _ => pts_one (pt_cmpR (op_eqD hr.units) (pe_lc (own := [("b", 3)]) (g := gName 3) (tt := tAnd (tTest (tOp (rNeD K) (tVar 3) (tVar 2))) (tB (tCall (spLDvd K) [] E0 (tCons (tVar 3) (tCons (tVar 2) tNil))))) (by rfl) nd (pi_list (pv 1)) (blkOk_by (own := [("b", 3)]) (N := ["monomials", "some", "a", "b"]) (sc := leastSc) (by decide +kernel)) (fun _ _ _ _ _ => pg_name (i := 3) nd rfl (.inl rfl)) (fun _ _ _ _ _ => pts_one (PW.pt (pw_and (pt_cmpR (op_neD hr.units) (pv 3) (pv 2) (nomark _)) (pw_and1 (pt_val (pe_call GD hr (by rfl) AD.gl AD.fn.kp AD.bi .nil pass0 (pa_cons (pv 3) (pa_cons (pv 2) pa_nil)))))))) (fun _ _ _ _ _ => pv 3)) (pe_lst pa_nil) (nomark _))) (fun _ _ _ _ _ => pv 2)) pa_nil)))), ?_⟩
    refine ⟨l, ks, d, rfl, hL, hR, hd, hm, h64, fun p H1 L s1 np hp hsub hmem hasc hlen => ?_⟩
    have qL : SqL K H1 p (refs L) := .inl (.inl hp)
    have hRL : Rows K H1 L := fun x hx => Same.tup s1 (hR x (hsub x hx))
    have hmL : ∀ x ∈ L, Mon d x.2 := fun x hx => hm x (hsub x hx)
    let keep : Addr × List Int → Bool := fun x => decide (L.filter (fun y => !decide (y.2 = x.2) && dvdI y.2 x.2) = [])
    refine ⟨_, rfl, p, rfl, ⟨_, qL⟩, fun D nD => lc_keep (walk_list (xs := refs L)) (fun i => if keep (L.getD i z0) = true then some (V.ref (L.getD i z0).1) else none) nD ?_ (fun H2 e => e.seq qL) (fun i x H2 H2' P1 P0 hi sm y k1 k0 => ?_) (fun H2 sm e => ?_)⟩
    · rw [List.length_map]; exact small1000 (by omega)
    · rw [List.length_map] at hi
      obtain ⟨rfl, hx⟩ := y
      obtain ⟨hi', rfl⟩ := refs_get hx
      refine ⟨rfl, ?_⟩
      refine ⟨_, rfl, p, rfl, ⟨_, sm.seq qL⟩, fun D2 nD2 => lc_keep (walk_list (xs := refs L)) (fun j => if (!decide ((L.getD j z0).2 = L[i].2) && dvdI (L.getD j z0).2 L[i].2) = true then some (V.ref (L.getD j z0).1) else none) nD2 ?_ (fun H3 e => (sm.trans e).seq qL) (fun j x H3 H3' P1' P0' hj sm3 y k1' k0' => ?_) (fun H3 sm3 e => ?_)⟩
      · rw [List.length_map]; exact small1000 (by omega)
      · rw [List.length_map] at hj
        obtain ⟨rfl, hx⟩ := y
        obtain ⟨hj', rfl⟩ := refs_get hx
        have ri := Same.tup (sm.trans sm3) (hRL _ (List.getElem_mem hi))
        have rj := Same.tup (sm.trans sm3) (hRL _ (List.getElem_mem hj))
        have li := (hmL _ (List.getElem_mem hi)).1
        have lj := (hmL _ (List.getElem_mem hj)).1
        refine ⟨rfl, _, rfl, _, rfl, ne_tup rj ri ⟨_, rfl, ?_⟩⟩
        refine ite2 (fun e1 => ?_) (fun e1 => ?_)
        · refine ⟨_, rfl, _, rfl, L[j].1, L[i].1, L[j].2, L[i].2, rfl, rj, ri, lj.trans li.symm, by rw [lj]; exact hd2, fun H4 s4 => ⟨_, rfl, ?_⟩⟩
          refine ite2 (fun e2 => ⟨_, rfl, k1' _ _ ?_ s4⟩) (fun e2 => k0' _ ?_ s4)
          · rw [getD_at hj, e1, e2]
            rfl
          · rw [getD_at hj, if_neg (by rw [e1]; simpa using e2)]
        · refine k0' _ ?_ (Same.refl _)
          rw [getD_at hj, if_neg (by
            have : (!decide (L[j].2 = L[i].2)) = false := by simpa using e1
            rw [this]; simp)]
      · rw [List.length_map, range_filt (fun y => !decide (y.2 = L[i].2) && dvdI y.2 L[i].2) (fun y => V.ref y.1) z0] at e
        refine ⟨by decide, fun o no => ?_⟩
        have s2 := same_new (o := .lst []) no
        have hR2 : Rows K (upd H3 o (.lst [])) (L.filter fun y => !decide (y.2 = L[i].2) && dvdI y.2 L[i].2) := fun x hx => Same.tup ((sm.trans sm3).trans s2) (hRL x (List.mem_filter.mp hx).1)
        refine ⟨.list ((mons (L.filter fun y => !decide (y.2 = L[i].2) && dvdI y.2 L[i].2)).map pM), .list [], .lst (.inl (.inl (s2 _ _ e))) (dp_rows hR2), .lst sql_new .nil, sh_G _, by decide, _, rfl, ?_⟩
        have e3 : PyData.eqv (.list ((mons (L.filter fun y => !decide (y.2 = L[i].2) && dvdI y.2 L[i].2)).map pM)) (.list []) = keep L[i] := by
          have : PyData.eqv (.list ((mons (L.filter fun y => !decide (y.2 = L[i].2) && dvdI y.2 L[i].2)).map pM)) (.list []) = decide (mons (L.filter fun y => !decide (y.2 = L[i].2) && dvdI y.2 L[i].2) = []) := eqv_gens _ []
          rw [this, Bool.eq_iff_iff, decide_eq_true_iff, decide_eq_true_iff, List.map_eq_nil_iff]
        rw [e3]
        refine ite2 (fun e1 => ⟨_, rfl, k1 _ _ ?_ (sm3.trans s2)⟩) (fun e1 => k0 _ ?_ (sm3.trans s2))
        · rw [getD_at hi, if_pos e1]
        · rw [getD_at hi, if_neg e1]
    · rw [List.length_map, range_filt keep (fun y => V.ref y.1) z0] at e
      refine ⟨D, _, rfl, .inl ⟨.inl (.inl e), fun g ng => ?_⟩⟩
      have s3 := same_new (o := .tup (refs (L.filter keep))) ng
      have hmin : MinOf (mons L) (mons (L.filter keep)) := by
        have e4 : mons (L.filter keep) = (mons L).filter fun a => decide ((mons L).filter (fun b => !decide (b = a) && dvdI b a) = []) := by
          show (L.filter keep).map _ = (L.map _).filter _
          rw [List.filter_map]
          congr 1
          apply List.filter_congr
          intro x _
          show decide (L.filter _ = []) = decide ((L.map _).filter _ = [])
          rw [List.filter_map, Bool.eq_iff_iff, decide_eq_true_iff, decide_eq_true_iff, List.map_eq_nil_iff]
          rfl
        rw [e4]
        exact min_filter (d := d) hasc
      refine q g _ (mons (L.filter keep)) ((s1.trans sm).trans s3) ⟨hmin.asc, fun x => ?_⟩ ⟨L.filter keep, rfl, sqt_new, fun x hx => Same.tup (sm.trans s3) (hRL x (List.mem_filter.mp hx).1)⟩
      rw [hmin.mem, hmem x]
      constructor
      · rintro ⟨h1, h2⟩; exact ⟨h1, fun y hy => h2 y ((hmem y).mpr hy)⟩
      · rintro ⟨h1, h2⟩; exact ⟨h1, fun y hy => h2 y ((hmem y).mp hy)⟩
end
def spInL (K : PySem.W.Frag) : Sp := fun vs H Q _ => ∃ (g b : Addr) (ks : List (Addr × List Int)) (c : List Int), vs = [.ref g, .ref b] ∧ SqL K H g (refs ks) ∧ Rows K H ks ∧ SqT K H b (c.map V.int) ∧ (∀ p ∈ mons ks, p.length = c.length) ∧ c.length ≤ 1000 ∧ ks.length ≤ 1000 ∧
  ∀ (H' : Hp), Same H H' → Q (.bl (inG (mons ks) c)) H'
section
variable {P : Program} {w : World} {K : PySem.W.Frag} {mg : Str → Option Value} {base : Heap}
theorem ok_inL {f fD : Addr} {fd dD : FuncData} (F : Fun K "_law_in" "_law_in" S_law_in f fd) (AD : At K mg "_law_divides" S_law_divides ["a", "b"] fD dD) (GD : FnOk P w K mg base CX0 1 fD dD ["a", "b"] (spLDvd K)) : FnOk P w K mg base CX0 2 f fd ["generators", "b"] (spInL K) := by
  refine F.ok sc_law_in (fun vs H Q E h => ?_) (fun cdv A outer s H vs Q E hr h => ?_)
  · obtain ⟨g, b, ks, c, rfl, _⟩ := h
    rfl
  · obtain ⟨g, b, ks, c, rfl, hG, hR, hB, hl, hz, hz2, q⟩ := h
    have nd := sc_law_in.nd
    refine ⟨_, pss_one (ps_ret (pe_cmpR (op_neD hr.units) (pe_lc (own := [("a", 2)]) (g := gName 2) (tt := tB (tCall (spLDvd K) [] E0 (tCons (tVar 2) (tCons (tVar 1) tNil)))) (by rfl) nd (pi_list (pv 0)) (blkOk_by (own := [("a", 2)]) (N := ["generators", "b", "a"]) (sc := defScope S_law_in) (by decide +kernel)) (fun _ _ _ _ _ => pg_name (i := 2) nd rfl (.inl rfl)) (fun _ _ _ _ _ => pts_one (pt_val (pe_call GD hr (by rfl) AD.gl AD.fn.kp AD.bi .nil pass0 (pa_cons (pv 2) (pa_cons (pv 1) pa_nil))))) (fun _ _ _ _ _ => pv 2)) (pe_lst pa_nil) (nomark _))), ?_⟩
    refine ⟨_, rfl, g, rfl, ⟨_, hG⟩, fun D nD => lc_keep (walk_list (xs := refs ks)) (fun i => if dvdI (ks.getD i z0).2 c = true then some (V.ref (ks.getD i z0).1) else none) nD ?_ (fun H1 e => e.seq hG) (fun i x H1 H2 P1 P0 hi sm y k1 k0 => ?_) (fun H1 sm e => ?_)⟩
    · rw [List.length_map]; exact small1000 hz2
    · rw [List.length_map] at hi
      obtain ⟨rfl, hx⟩ := y
      obtain ⟨hi', rfl⟩ := refs_get hx
      refine ⟨rfl, _, rfl, _, rfl, ks[i].1, b, ks[i].2, c, rfl, Same.tup sm (hR _ (List.getElem_mem hi)), Same.tup sm hB, hl _ (mem_mons.mpr ⟨_, List.getElem_mem hi, rfl⟩), ?_, fun H3 s3 => ⟨_, rfl, ?_⟩⟩
      · rw [hl _ (mem_mons.mpr ⟨_, List.getElem_mem hi, rfl⟩)]; exact hz
      · refine ite2 (fun e => ⟨_, rfl, k1 _ _ ?_ s3⟩) (fun e => k0 _ ?_ s3)
        · rw [getD_at hi, if_pos e]
        · rw [getD_at hi, if_neg e]
    · rw [List.length_map, range_filt (fun p => dvdI p.2 c) (fun p => V.ref p.1) z0] at e
      refine ⟨by decide, fun o no => ?_⟩
      have s2 := same_new (o := .lst []) no
      have hR2 : Rows K (upd H1 o (.lst [])) (ks.filter fun p => dvdI p.2 c) := fun p hp => Same.tup (sm.trans s2) (hR p (List.mem_filter.mp hp).1)
      refine ⟨.list ((mons (ks.filter fun p => dvdI p.2 c)).map pM), .list [], .lst (.inl (.inl (s2 _ _ e))) (dp_rows hR2), .lst sql_new .nil, ?_, by decide, ?_⟩
      · have := sh_G (mons (ks.filter fun p => dvdI p.2 c))
        exact this
      · have e3 : (!PyData.eqv (.list ((mons (ks.filter fun p => dvdI p.2 c)).map pM)) (.list [])) = inG (mons ks) c := by
          have : PyData.eqv (.list ((mons (ks.filter fun p => dvdI p.2 c)).map pM)) (.list []) = decide (mons (ks.filter fun p => dvdI p.2 c) = []) := eqv_gens _ []
          rw [this, Bool.eq_iff_iff, inG_iff]
          simp [mem_mons]
          exact ⟨fun ⟨x, y, h1, h2⟩ => ⟨y, ⟨x, h1⟩, h2⟩, fun ⟨y, ⟨x, h1⟩, h2⟩ => ⟨x, y, h1, h2⟩⟩
        rw [e3]
        exact q _ (sm.trans s2)
end
def spMonomial : Sp := fun vs H Q _ => ∃ (d c : Addr) (n : Nat) (top : Int) (m : Nat), vs = [.ref d, .int (n : Int), .int top] ∧ Drw H d c m ∧ m ≤ 100000 ∧ n ≤ 12 ∧ 0 ≤ top ∧ top ≤ 60 ∧
  ∀ (p : Addr) (H' : Hp) (ns : List Int), ns.length = n → (∀ x ∈ ns, 0 ≤ x ∧ x ≤ top) → Kp [d] H H' → Drw H' d c (m + 24) → H' p = some (.tup (ns.map V.int)) → Q (.ref p) H'
/-- drawn monomials -/
def Few (n : Nat) (top : Int) (p : List Int) : Prop := p.length = n ∧ ∀ x ∈ p, 0 ≤ x ∧ x ≤ top
theorem Few.mon {n : Nat} {top : Int} {p : List Int} (h : Few n top p) (ht : top ≤ 60) : Mon n p := ⟨h.1, fun x hx => ⟨(h.2 x hx).1, by have := (h.2 x hx).2; show x < 1099511627776; omega⟩⟩
theorem Few.le {n : Nat} {top : Int} {p : List Int} (h : Few n top p) (ht : top ≤ 60) : Le60 p := fun x hx => by have := (h.2 x hx).2; omega
def spLIdeal (K : PySem.W.Frag) : Sp := fun vs H Q _ => ∃ (d c : Addr) (n : Nat) (count : Nat) (top : Int) (m : Nat), vs = [.ref d, .int (n : Int), .int (count : Int), .int top] ∧ Drw H d c m ∧ m ≤ 50000 ∧ 1 ≤ n ∧ n ≤ 12 ∧ count ≤ 40 ∧ 0 ≤ top ∧ top ≤ 60 ∧
  ∀ (v : Addr) (H' : Hp) (R : List (List Int)), Kp [d] H H' → Drw H' d c (m + 1000) → IsI K H' v n R → Gens n R → (∀ p ∈ R, Few n top p) → R.length ≤ count → Q (.ref v) H'
section
variable {P : Program} {w : World} {K : PySem.W.Frag} {mg : Str → Option Value} {base : Heap}
theorem sc_law_monomial : FnScope ["m", "n", "top", "k"] ["m", "n", "top"] (defScope S_law_monomial) := ⟨rfl, rfl, rfl, by decide +kernel, rfl, by decide +kernel, by decide +kernel⟩
theorem ok_monomial {f fD : Addr} {fd fdD : FuncData} (F : Fun K "_law_monomial" "_law_monomial" S_law_monomial f fd) (B : Bt mg) (AW : At K mg "_law_draw" S_law_draw ["m", "below"] fD fdD) (GW : FnOk P w K mg base CX0 1 fD fdD ["m", "below"] spDraw) : FnOk P w K mg base CX0 2 f fd ["m", "n", "top"] spMonomial := by
  refine F.ok sc_law_monomial (fun vs H Q E h => ?_) (fun cdv A outer s H vs Q E hr h => ?_)
  · obtain ⟨d, c, n, top, m, rfl, _⟩ := h
    rfl
  · obtain ⟨d, c, n, top, m, rfl, hD, hm, hn, hw1, hw2, q⟩ := h
    have nd := sc_law_monomial.nd
    refine ⟨_, pss_one (ps_ret (pe_callTy call_tuple_of (by rfl) B.tuple (by decide +kernel) (pa_cons (pe_lc (own := [("k", 3)]) (g := gName 3) (by rfl) nd (pi_range1 (by rfl) B.range (pa_cons (pv 1) pa_nil))
        (blkOk_by (own := [("k", 3)]) (N := ["m", "n", "top", "k"]) (sc := defScope S_law_monomial) (by decide +kernel))
        (fun _ _ _ _ _ => pg_name (i := 3) nd rfl (.inl rfl)) (fun _ _ _ _ _ => pts_nil)
        (fun _ _ _ _ _ => pe_ifExp (pt_cmpR op_gt (pe_call GW hr (by rfl) AW.gl AW.fn.kp AW.bi .nil pass0 (pa_cons (pv 0) (pa_cons pe_int pa_nil))) pe_int (nomark _)) (pe_call GW hr (by rfl) AW.gl AW.fn.kp AW.bi .nil pass0 (pa_cons (pv 0) (pa_cons (pe_op op_add (pv 2) pe_int) pa_nil))) pe_int)) pa_nil))), ?_⟩
    refine ⟨_, rfl, _, rfl, by omega, by omega, fun D nD => ?_⟩
    obtain ⟨neD, neC⟩ := hD.ne nD
    refine lc_range (n := ((n : Nat) : Int).toNat) (fun i H1 => ∃ ns : List Int, ns.length = i ∧ (∀ x ∈ ns, 0 ≤ x ∧ x ≤ top) ∧ Kp [d] H H1 ∧ Drw H1 d c (m + 2 * i) ∧ H1 D = some (.lst (ns.map V.int))) ?_ (fun i H1 hi h => ?_) (fun H1 h => ?_)
    · exact ⟨[], rfl, by simp, Kp.of (same_new nD), hD.same (same_new nD) (Nat.le_refl _), upd_same⟩
    · obtain ⟨ns, hl, ha, kp, hD1, eD⟩ := h
      have hi' : i < n := hi
      refine ⟨rfl, yes_ok ?_⟩
      have step : ∀ (y : Int) (H3 : Hp), 0 ≤ y → y ≤ top → Kp [d] H H3 → Drw H3 d c (m + 2 * (i + 1)) → H3 D = some (.lst (ns.map V.int)) →
          ∃ acc, H3 D = some (.lst acc) ∧ acc.length < sizeLine ∧ ∃ ns' : List Int, ns'.length = i + 1 ∧ (∀ x ∈ ns', 0 ≤ x ∧ x ≤ top) ∧ Kp [d] H (upd H3 D (.lst (acc ++ [V.int y]))) ∧ Drw (upd H3 D (.lst (acc ++ [V.int y]))) d c (m + 2 * (i + 1)) ∧ (upd H3 D (.lst (acc ++ [V.int y]))) D = some (.lst (ns'.map V.int)) := by
        intro y H3 y0 y1 kp3 hD3 e3
        obtain ⟨acc, f0, f1, f2, f3, f4⟩ := dr_step (y := y) nD neD neC hD3 kp3 e3 (by omega)
        refine ⟨acc, f0, f1, ns ++ [y], by rw [List.length_append, hl]; rfl, fun x hx => ?_, f2, f3, f4⟩
        rcases List.mem_append.mp hx with h | h
        · exact ha x h
        · rw [List.mem_singleton.mp h]; exact ⟨y0, y1⟩
      refine ⟨_, rfl, d, c, 3, m + 2 * i, rfl, hD1, by omega, by decide, by decide, fun r H2 h0 h1 kp2 hD2 => ⟨_, _, rfl, rfl, _, rfl, ?_⟩⟩
      have e2 : H2 D = some (.lst (ns.map V.int)) := kp2 _ _ eD (by simpa using neD)
      refine ite2 (fun e => ?_) (fun e => ?_)
      · refine ⟨_, rfl, _, rfl, _, _, rfl, rfl, d, c, top + 1, m + 2 * i + 1, rfl, hD2, by omega, by omega, by omega, fun r2 H3 h2 h3 kp3 hD3 => step r2 H3 h2 (by omega) ((kp.trans kp2).trans kp3) ?_ (kp3 _ _ e2 (by simpa using neD))⟩
        rw [show m + 2 * (i + 1) = m + 2 * i + 1 + 1 by omega]
        exact hD3
      · exact step 0 H2 (by decide) (by omega) (kp.trans kp2) (hD2.same (Same.refl _) (by omega)) e2
    · obtain ⟨ns, hl, ha, kp, hD1, eD⟩ := h
      have hl' : ns.length = n := hl
      refine ⟨D, _, rfl, .inl ⟨.inl (.inl eD), fun l nl => q l _ ns hl' ha (kp.trans (Kp.of (same_new nl))) (hD1.same (same_new nl) (by show m + 2 * n ≤ m + 24; omega)) upd_same⟩⟩
end
/-- the box's monomials: as many exponents as tops, none negative, none great -/
def spBox (K : PySem.W.Frag) : Sp := fun vs H Q _ => ∃ (t : Addr) (tops : List Int), vs = [.ref t] ∧ SqT K H t (tops.map V.int) ∧ tops.length ≤ 4 ∧ (∀ x ∈ tops, 0 ≤ x ∧ x ≤ 5) ∧
  ∀ (l : Addr) (H' : Hp) (ks : List (Addr × List Int)), Same H H' → H' l = some (.lst (refs ks)) → Rows K H' ks → (∀ p ∈ ks, Few tops.length 5 p.2) → Q (.ref l) H'
theorem pow6 {i : Nat} (h : i ≤ 4) : 6 ^ i ≤ 1296 := by
  have : ∀ i, i < 5 → 6 ^ i ≤ 1296 := by decide
  exact this i (by omega)
/-- the reading of _law_box -/
theorem cat_one {K : PySem.W.Frag} {H H0 : Hp} {a o : Addr} {ns : List Int} {z : Int} {Q : VK} (hA : SqT K H a (ns.map V.int)) (ho : H o = some (.tup [V.int z])) (hz : ns.length ≤ 1000) (q : ∀ (x : Addr) (H' : Hp), Same H H' → SqT K H' x ((ns ++ [z]).map V.int) → Q (.ref x) H') : rCatA K (.ref a) (.ref o) H Q := by
  refine ⟨a, o, ns.map V.int, [V.int z], rfl, rfl, hA, .inl (.inl ho), ?_, fun e => ?_, fun _ e => absurd e (List.cons_ne_nil _ _), fun _ _ p np => ?_⟩
  · rw [List.length_map, sizeLine_eq]
    show ns.length + 1 ≤ _
    omega
  · have : ns = [] := by simpa using e
    subst this
    exact q o H (Same.refl H) (.inl (.inl ho))
  · refine q p _ (same_new np) ?_
    rw [List.map_append]
    exact sqt_new
section
variable {P : Program} {w : World} {K : PySem.W.Frag} {mg : Str → Option Value} {base : Heap}
theorem sc_law_box : FnScope ["tops", "found", "top", "wider", "a", "k"] ["tops"] (defScope S_law_box) := ⟨rfl, rfl, rfl, by decide +kernel, rfl, by decide +kernel, by decide +kernel⟩
theorem ok_box {f : Addr} {fd : FuncData} (F : Fun K "_law_box" "_law_box" S_law_box f fd) (B : Bt mg) : FnOk P w K mg base CX0 1 f fd ["tops"] (spBox K) := by
  refine F.ok sc_law_box (fun vs H Q E h => ?_) (fun cdv A outer s H vs Q E hr h => ?_)
  · obtain ⟨t, tops, rfl, _⟩ := h
    rfl
  · obtain ⟨t, tops, rfl, hT, hl, hb, q⟩ := h
    have nd := sc_law_box.nd
    refine ⟨_, pss_cons (ps_set (i := 1) nd rfl (.inl rfl) (pe_lst (pa_cons (pe_tup pa_nil) pa_nil)))
      (pss_cons (ps_for PassesOwn.never rfl (pi_tup (pv 0)) (pg_name (i := 2) nd rfl (.inl rfl))
        (pss_cons (ps_set (i := 3) nd rfl (.inl rfl) (pe_lst pa_nil))
        (pss_cons (ps_for PassesOwn.never rfl (pi_list (pv 1)) (pg_name (i := 4) nd rfl (.inr rfl))
          (pss_one (ps_expr (pe_bm PySem.F.plainAttrs_list PySem.F.slot_list_extend PySem.F.type_list_extend mt_extend (pv 3) (pa_cons (pe_lc (own := [("k", 5)]) (g := gName 5) (te := tOp (rCatA K) (tVar 4) (tTup (tCons (tVar 5) tNil))) (by rfl) nd (pi_range1 (by rfl) B.range (pa_cons (pe_op op_add (pv 2) pe_int) pa_nil)) (blkOk_by (own := [("k", 5)]) (N := ["tops", "found", "top", "wider", "a", "k"]) (sc := defScope S_law_box) (by decide +kernel)) (fun _ _ _ _ _ => pg_name (i := 5) nd rfl (.inl rfl)) (fun _ _ _ _ _ => pts_nil) (fun _ _ _ _ _ => pe_op op_catA (pv 4) (pe_tup (pa_cons (pv 5) pa_nil)))) pa_nil)))))
        (pss_one (ps_set (i := 1) nd rfl (.inl rfl) (pv 3))))))
      (pss_one (ps_ret (pv 1)))), ?_⟩
    refine ⟨by decide, fun e0 n0 => ⟨(by show 1 ≤ sizeLine; decide), fun f0 nf => ?_⟩⟩
    have s1 := same_new (o := .tup []) n0
    have s2 := same_new (o := .lst [V.ref e0]) nf
    refine ⟨_, rfl, t, rfl, ⟨_, Same.tup (s1.trans s2) hT⟩, for_tup (xs := tops.map V.int) (fun i σ H1 => Same H H1 ∧ ∃ (l : Addr) (ks : List (Addr × List Int)) (z2 z3 z4 z5 : Option V), σ = [some (.ref t), some (.ref l), z2, z3, z4, z5] ∧ H1 l = some (.lst (refs ks)) ∧ Rows K H1 ks ∧ ks.length ≤ 6 ^ i ∧ ∀ p ∈ ks, Few i 5 p.2)
      ⟨s1.trans s2, f0, [(e0, [])], _, _, _, _, rfl, upd_same, fun p hp => ?_, Nat.le_refl _, fun p hp => ?_⟩ (fun i σ H1 _ h => Same.tup h.1 hT) (fun i x σ H1 hx h => ?_) (fun σ H1 h => ?_)⟩
    · rw [List.mem_singleton.mp hp]
      exact Same.tup s2 sqt_new
    · rw [List.mem_singleton.mp hp]
      exact ⟨rfl, fun x hx => absurd hx List.not_mem_nil⟩
    · obtain ⟨sm, l, ks, z2, z3, z4, z5, rfl, el, hR, hk, hf⟩ := h
      have hi := (List.getElem?_eq_some_iff.mp hx).1
      rw [List.length_map] at hi
      obtain rfl : V.int (at0 tops i) = x := Option.some.inj ((it0 hi).symm.trans hx)
      have ht := hb (at0 tops i) (List.mem_of_getElem? (at0_get hi))
      have p6 := pow6 (show i ≤ 4 by omega)
      refine ⟨by decide, fun W nW => ?_⟩
      have s3 := same_new (o := .lst []) nW
      have nlW : l ≠ W := ne_of_none el nW
      have qL : SqL K (upd H1 W (.lst [])) l (refs ks) := .inl (.inl (s3 _ _ el))
      refine ⟨_, rfl, l, rfl, ⟨_, qL⟩, for_list (xs := refs ks) (fun j σ H2 => Same H1 H2 ∧ ∃ (ws : List (Addr × List Int)) (z4 z5 : Option V), σ = [some (.ref t), some (.ref l), some (.int (at0 tops i)), some (.ref W), z4, z5] ∧ H2 W = some (.lst (refs ws)) ∧ Rows K H2 ws ∧ ws.length ≤ 6 * j ∧ ∀ p ∈ ws, Few (i + 1) 5 p.2)
        ⟨s3, [], _, _, rfl, upd_same, fun p hp => absurd hp List.not_mem_nil, Nat.le_refl _, fun p hp => absurd hp List.not_mem_nil⟩ (fun j σ H2 _ h => .inl (.inl (h.1 _ _ el))) (fun j x σ H2 hx h => ?_) (fun σ H2 h => ?_)⟩
      · obtain ⟨s4, ws, y4, y5, rfl, eW, hRW, hlw, hfw⟩ := h
        obtain ⟨hj, rfl⟩ := refs_get hx
        have hKj := hf _ (List.getElem_mem hj)
        refine ⟨_, rfl, .inl ⟨rfl, _, .inl (.inl eW)⟩, _, rfl, _, _, rfl, rfl, _, rfl, by omega, by omega, fun D nD => ?_⟩
        refine lc_range (n := (at0 tops i + 1).toNat) (fun u H3 => Same H2 H3 ∧ ∃ us : List (Addr × List Int), us.length = u ∧ H3 D = some (.lst (refs us)) ∧ Rows K H3 us ∧ ∀ p ∈ us, Few (i + 1) 5 p.2) ?_ (fun u H3 hu h => ?_) (fun H3 h => ?_)
        · exact ⟨same_new nD, [], rfl, upd_same, fun p hp => absurd hp List.not_mem_nil, fun p hp => absurd hp List.not_mem_nil⟩
        · obtain ⟨s5, us, lu, eD, hRU, hfu⟩ := h
          refine ⟨rfl, yes_ok ?_⟩
          refine ⟨_, rfl, _, rfl, (by show 1 ≤ sizeLine; decide), fun o no => ?_⟩
          have s6 := same_new (o := .tup [V.int (0 + (u : Int))]) no
          refine cat_one (H0 := H) (Same.tup ((s4.trans s5).trans s6) (hR _ (List.getElem_mem hj))) upd_same (by rw [hKj.1]; omega) fun x H4 s7 hx4 => ?_
          have s67 := s6.trans s7
          have eD4 := s67 _ _ eD
          have kp : Kp [D] H4 (upd H4 D (.lst (refs us ++ [V.ref x]))) := (Kp.refl H4).upd (List.mem_singleton.mpr rfl)
          refine ⟨_, eD4, by rw [List.length_map]; exact small1000 (by omega), fun b o e => ?_, us ++ [(x, ks[j].2 ++ [0 + (u : Int)])], by rw [List.length_append, lu]; rfl, by rw [upd_same, refs_app]; rfl, fun p hp => ?_, fun p hp => ?_⟩
          · rw [upd_ne (ne_of_none e nD)]
            exact s67 _ _ (s5 _ _ e)
          · refine kp.tupL eD4 ?_
            rcases List.mem_append.mp hp with h | h
            · exact Same.tup s67 (hRU p h)
            · rw [List.mem_singleton.mp h]; exact hx4
          · rcases List.mem_append.mp hp with h | h
            · exact hfu p h
            · rw [List.mem_singleton.mp h]
              refine ⟨by show (ks[j].2 ++ [0 + (u : Int)]).length = i + 1; rw [List.length_append, hKj.1]; rfl, fun x hx => ?_⟩
              rcases List.mem_append.mp hx with h | h
              · exact hKj.2 x h
              · rw [List.mem_singleton.mp h]
                omega
        · obtain ⟨s5, us, lu, eD, hRU, hfu⟩ := h
          have eW3 := s5 _ _ eW
          have hlu : us.length ≤ 6 := by omega
          have hws : ws.length + us.length ≤ 10000 := by
            have : 6 * j ≤ 6 * 1296 := by omega
            omega
          have kp : Kp [W] H3 (upd H3 W (.lst (refs ws ++ refs us))) := (Kp.refl H3).upd (List.mem_singleton.mpr rfl)
          refine ⟨W, D, _, _, rfl, rfl, eW3, eD, ?_, fun b o e => ?_, ws ++ us, _, _, rfl, by rw [upd_same, refs_app], fun p hp => ?_, ?_, fun p hp => ?_⟩
          · rw [List.length_map, List.length_map, sizeLine_eq]; omega
          · rw [upd_ne (ne_of_none e nW)]
            exact s5 _ _ (s4 _ _ e)
          · refine kp.tupL eW3 ?_
            rcases List.mem_append.mp hp with h | h
            · exact Same.tup s5 (hRW p h)
            · exact hRU p h
          · rw [List.length_append]; omega
          · rcases List.mem_append.mp hp with h | h
            · exact hfw p h
            · exact hfu p h
      · obtain ⟨s4, ws, y4, y5, rfl, eW, hRW, hlw, hfw⟩ := h
        refine ⟨_, rfl, sm.trans s4, W, ws, _, _, _, _, rfl, eW, hRW, ?_, hfw⟩
        rw [List.length_map] at hlw
        have : 6 ^ (i + 1) = 6 ^ i * 6 := Nat.pow_succ ..
        omega
    · obtain ⟨sm, l, ks, z2, z3, z4, z5, rfl, el, hR, hk, hf⟩ := h
      rw [List.length_map] at hf
      exact ⟨_, rfl, q l H1 ks sm el hR hf⟩
end
end JN

set_option maxRecDepth 100000
set_option maxHeartbeats 8000000
namespace JN
open PySem PySem.Spec PyProof.Rows L2
/-! ### _law_told: the ideal, or the error's name with its limit -/
def spTold (K : PySem.W.Frag) : Sp := fun vs H Q _ => ∃ (l : Addr) (n : Int) (ks : List (Addr × List Int)) (d : Nat), vs = [.int n, .ref l] ∧ (SqL K H l (refs ks) ∨ SqT K H l (refs ks)) ∧ Rows K H ks ∧ 1 ≤ d ∧ (∀ p ∈ ks, Mon d p.2 ∧ Le60 p.2) ∧ ks.length < 64 ∧
  (∀ (v : Addr) (H' : Hp) (R : List (List Int)), Same H H' → MinOf (mons ks) R → R.length ≤ 60 → IsI K H' v n R → Q (.ref v) H') ∧
  (∀ (t : Addr) (H' : Hp) (R : List (List Int)), Same H H' → MinOf (mons ks) R → 60 < R.length → H' t = some (.tup [.str "many", .int 60]) → Q (.ref t) H')
section
variable {P : Program} {w : World} {K : PySem.W.Frag} {mg : Str → Option Value} {base : Heap}
theorem sc_law_told : FnScope ["n", "some", "found", "error", "e"] ["n", "some"] (defScope S_law_told) := ⟨rfl, rfl, rfl, by decide +kernel, rfl, by decide +kernel, by decide +kernel⟩
theorem ok_told {f fI CT fT CJ CN CG : Addr} {fd dI dT : FuncData} (F : Fun K "_law_told" "_law_told" S_law_told f fd) (B : Bt mg) (AI : At K mg "ideal_of" S_ideal_of ["n", "monomials"] fI dI) (GI : FnOk P w K mg base (L2.CX P w) 4 fI dI ["n", "monomials"] (spIdealX K CT))
    (TM : ErrC P K mg "TooMany" "TooMany.__init__" "limit" S_many ["self", "limit"] CT fT dT) (gJ : mg "JointError" = some (.ref CJ)) (gN : mg "NotIdeal" = some (.ref CN)) (gG : mg "TooGreat" = some (.ref CG)) (eJ : PySem.W.exmOne K (.ref CT) (.ref CJ) = some true)
    (iN : PySem.W.kitOne K (.ref CT) (.ref CN) = some false) (iT : PySem.W.kitOne K (.ref CT) (.ref CT) = some true) (iG : PySem.W.kitOne K (.ref CT) (.ref CG) = some false) : FnOk P w K mg base CX0 5 f fd ["n", "some"] (spTold K) := by
  refine F.ok sc_law_told (fun vs H Q E h => ?_) (fun cdv A outer s H vs Q E hr h => ?_)
  · obtain ⟨l, n, ks, d, rfl, _⟩ := h
    rfl
  · obtain ⟨l, n, ks, d, rfl, hL, hR, hd, hm, h64, q, qe⟩ := h
    have nd := sc_law_told.nd
    refine ⟨_, pss_cons (ps_asg (pe_tup (pa_cons pe_non (pa_cons pe_non pa_nil))) (pg_tup (by rfl) (pgs_cons (pg_name (i := 2) nd rfl (.inl rfl)) (pgs_cons (pg_name (i := 3) nd rfl (.inl rfl)) pgs_nil))))
      (pss_cons (ps_try_keep (i := 4) rfl rfl rfl rfl nd rfl rfl ⟨rfl, by decide, .inl gJ⟩ (fun W pn xe tk _ => pss_one (ps_set (i := 2) nd rfl (.inl rfl) (pe_callS GI hr (by rfl) AI.gl AI.fn.kp AI.bi (fun σ => passAt tk σ) (pa_cons (pv 0) (pa_cons (pv 1) pa_nil)))))
        (fun a oe cls d pn _ _ => pss_one (ps_set (i := 3) nd rfl (.inl rfl) (pv 4))))
      (pss_cons (ps_if (pt_cmpR op_isN (pv 3) pe_non (nomark _)) (pss_one (ps_ret (pv 2))) pss_nil)
      (pss_cons (ps_if (PW.pt (pw_or (pt_val (pe_callB call_isV (by rfl) B.isinstance (by decide +kernel) (pa_cons (pv 3) (pa_cons (pe_glob (v := .ref CN) (by rfl) gN rfl) pa_nil))))
          (pw_or1 (PW.pt (pw_and (pt_val (pe_callB call_isV (by rfl) B.isinstance (by decide +kernel) (pa_cons (pv 3) (pa_cons (pe_glob (v := .ref CT) (by rfl) TM.gl rfl) pa_nil))))
            (pw_and1 (pt_val (pe_callB call_isV (by rfl) B.isinstance (by decide +kernel) (pa_cons (pv 3) (pa_cons (pe_glob (v := .ref CG) (by rfl) gG rfl) pa_nil)))))))))) (pss_one (ps_ret pe_str)) pss_nil)
      (pss_one (ps_ret (pe_ifExp (pt_val (pe_callB call_isV (by rfl) B.isinstance (by decide +kernel) (pa_cons (pv 3) (pa_cons (pe_glob (v := .ref CT) (by rfl) TM.gl rfl) pa_nil)))) (pe_tup (pa_cons pe_str (pa_cons (pe_xv (pv 3)) pa_nil))) (pe_tup (pa_cons pe_str (pa_cons (pe_xv (pv 3)) pa_nil))))))))), ?_⟩
    refine ⟨by show 2 ≤ sizeLine; decide, fun t0 nt0 => ⟨t0, _, rfl, sqt_new, rfl, _, _, rfl, _, _, rfl, rfl, ?_⟩⟩
    have s0 := same_new (o := .tup [V.non, V.non]) nt0
    refine ⟨_, rfl, _, rfl, l, n, ks, d, rfl, hL.imp (fun h => s0.seq h) (fun h => Same.tup s0 h), hR.same s0, hd, hm, h64, fun v H' R s1' mn hl hI => ?_, fun e H' R s1' mn hl he => ⟨eJ, fun a na => ?_⟩⟩
    · have s1 := s0.trans s1'
      exact ⟨_, rfl, rfl, _, rfl, iteT ⟨_, rfl, q v H' R s1 mn hl hI⟩⟩
    · have s1 := s0.trans s1'
      refine ⟨_, rfl, na, ?_⟩
      have ea : (upd H' a (exv a (.ref CT) (some e))) a = some (exv a (.ref CT) (some e)) := upd_same
      have nea : e ≠ a := ne_of_none he na
      have ed : (upd H' a (exv a (.ref CT) (some e))) e = some (.xd [("limit", .int 60)]) := by rw [upd_ne nea]; exact he
      have s2 := s1.trans (same_new (o := exv a (.ref CT) (some e)) na)
      have hdx : DxOk (upd H' a (exv a (.ref CT) (some e))) (some e) := .inr ⟨_, _, rfl, ed⟩
      refine ⟨_, rfl, rfl, _, rfl, iteF ?_⟩
      refine ⟨_, rfl, a, CT, some e, .ref CN, .ref CN, false, rfl, ea, hdx, TM.exc, fun u r => r, iN, _, rfl, iteF ?_⟩
      refine ⟨_, rfl, a, CT, some e, .ref CT, .ref CT, true, rfl, ea, hdx, TM.exc, fun u r => r, iT, _, rfl, iteT ?_⟩
      refine ⟨_, rfl, a, CT, some e, .ref CG, .ref CG, false, rfl, ea, hdx, TM.exc, fun u r => r, iG, _, rfl, iteF ?_⟩
      refine ⟨_, rfl, a, CT, some e, .ref CT, .ref CT, true, rfl, ea, hdx, TM.exc, fun u r => r, iT, _, rfl, iteT ?_⟩
      refine ⟨_, rfl, a, CT, e, _, .int 60, rfl, ea, TM.xf, TM.nof, ed, rfl, by show 2 ≤ sizeLine; decide, fun t nt => ?_⟩
      exact qe t _ R (s2.trans (same_new nt)) mn hl upd_same
end
end JN

set_option maxRecDepth 100000
set_option maxHeartbeats 8000000
namespace JN
open PySem PySem.Spec PyProof.Rows L2
abbrev nLaw : List Str := ["script", "stairs", "some", "due", "k", "m", "n", "top", "kept", "made", "b", "told", "far", "other", "one", "two", "turn", "j", "a"]
theorem sc_law : FnScope nLaw ["script"] (defScope S_law) := ⟨rfl, rfl, rfl, by decide +kernel, rfl, by decide +kernel, by decide +kernel⟩
def forB : Stmt → List Stmt
  | .For _ _ b _ _ => b
  | _ => []
abbrev noSt : Stmt := .Pass ⟨0, 0, 0, 0⟩
abbrev lawB : List Stmt := forB ((defBody S_law).getD 2 noSt)
theorem ps_use {X : Cx} {st : Stmt} {t t' : TS} (h : PS X st t) (hw : ∀ D σ H, t' D σ H → t D σ H) : PS X st t' := ⟨fun pins s σ H D I q => h.run pins s σ H D I (hw D σ H q)⟩
theorem iteNB {b : Bool} {A B : Prop} (hb : b = true) (h : B) : if (!b) = true then A else B := by rw [hb]; exact iteF h
theorem isi_new {K : PySem.W.Frag} {H : Hp} {v g : Addr} {n : Int} {gs : List (List Int)} (nv : H v = none) (h : TpM K H g gs) : IsI K (upd H v (.tup [V.int n, V.ref g])) v n gs := ⟨g, sqt_new, h.same (same_new nv)⟩
theorem cut_refs (ks : List (Addr × List Int)) (lo hi : Option Int) : ∃ js, cutV (refs ks) lo hi = refs js ∧ (∀ p ∈ js, p ∈ ks) ∧ js.length ≤ ks.length ∧ ∀ k : Int, 0 ≤ k → lo = none → hi = some k → js.length ≤ k.toNat := by
  refine ⟨(ks.drop (HT.sIx (refs ks).length 0 lo)).take (HT.sIx (refs ks).length (refs ks).length hi - HT.sIx (refs ks).length 0 lo), ?_, fun p hp => List.mem_of_mem_drop (List.mem_of_mem_take hp), ?_, fun k hk h1 h2 => ?_⟩
  · unfold cutV
    simp only [refs, List.map_take, List.map_drop]
  · rw [List.length_take, List.length_drop]
    omega
  · subst h1 h2
    obtain ⟨m, rfl⟩ := Int.eq_ofNat_of_zero_le hk
    rw [List.length_take]
    have : HT.sIx (refs ks).length (refs ks).length (some ((m : Nat) : Int)) = min m (refs ks).length := HT.sIx_nat _ _ _
    rw [this]
    simp only [Int.toNat_natCast]
    omega
theorem cut_tail {ks : List (Addr × List Int)} (h : 1 ≤ ks.length) : cutV (refs ks) (some 1) none = refs (ks.drop 1) := by
  have e1 : HT.sIx (refs ks).length 0 (some 1) = 1 := by
    have : HT.sIx (refs ks).length 0 (some ((1 : Nat) : Int)) = min 1 (refs ks).length := HT.sIx_nat _ _ _
    rw [List.length_map] at this
    rw [List.length_map]
    rw [show (1 : Int) = ((1 : Nat) : Int) from rfl, this]
    omega
  unfold cutV
  rw [e1, show HT.sIx (refs ks).length (refs ks).length none = (refs ks).length from rfl, List.take_of_length_le (by rw [List.length_drop]; omega)]
  simp only [refs, List.map_drop]
/-! the stairs -/
def stM : List (List Int) := (List.range 61).map fun k : Nat => [(k : Int), 60 - k]
theorem cd2 (x y : Int) : cd [x, y] = x * 1099511627776 + y := by
  show x * 1099511627776 ^ 1 + (y * 1099511627776 ^ 0 + 0) = _
  rw [Int.pow_one, Int.pow_zero]
  omega
theorem stM_len : stM.length = 61 := by rw [stM, List.length_map, List.length_range]
theorem stM_mem {p : List Int} (h : p ∈ stM) : ∃ k : Nat, k < 61 ∧ p = [(k : Int), 60 - k] := by
  obtain ⟨k, hk, rfl⟩ := List.mem_map.mp h
  exact ⟨k, List.mem_range.mp hk, rfl⟩
theorem two_mon {x y : Int} (h1 : 0 ≤ x ∧ x ≤ 60) (h2 : 0 ≤ y ∧ y ≤ 60) : Mon 2 [x, y] ∧ Le60 [x, y] := by
  refine ⟨⟨rfl, fun z hz => ?_⟩, fun z hz => ?_⟩
  · show 0 ≤ z ∧ z < 1099511627776
    rcases List.mem_cons.mp hz with e | hz
    · omega
    · rw [List.mem_singleton.mp hz]
      omega
  · rcases List.mem_cons.mp hz with e | hz
    · omega
    · rw [List.mem_singleton.mp hz]
      omega
theorem stM_few : ∀ p ∈ stM, Mon 2 p ∧ Le60 p := fun p hp => by
  obtain ⟨k, hk, rfl⟩ := stM_mem hp
  exact two_mon ⟨by omega, by omega⟩ ⟨by omega, by omega⟩
theorem dvd2 {x y u v : Int} : dvdI [x, y] [u, v] = true ↔ x ≤ u ∧ y ≤ v := by
  rw [dvd_cons, dvd_cons]
  simp [dvdI]
theorem stM_gens : Gens 2 stM := by
  refine ⟨?_, fun p hp => (stM_few p hp).1, fun p hp q hq h => ?_⟩
  · refine List.pairwise_map.mpr (List.Pairwise.imp_of_mem (fun {a b} ha hb h => ?_) List.pairwise_lt_range)
    have := List.mem_range.mp ha
    have := List.mem_range.mp hb
    show cd _ < cd _
    rw [cd2, cd2]
    omega
  · obtain ⟨k, hk, rfl⟩ := stM_mem hp
    obtain ⟨j, hj, rfl⟩ := stM_mem hq
    obtain ⟨h1, h2⟩ := dvd2.mp h
    have : k = j := by omega
    rw [this]
theorem stM_self {ms A : List (List Int)} (hA : A.Sublist stM) (e : ms = A) : MinOf ms A := by
  subst e
  refine ⟨stM_gens.asc.sublist hA, fun p => ⟨fun hp => ⟨hp, fun q hq h => stM_gens.self p (hA.subset hp) q (hA.subset hq) h⟩, fun h => h.1⟩⟩
/-- the stairs with (0, 3) beside them -/
def stC : List (List Int) := stM ++ [[0, 3]]
theorem stC_few : ∀ p ∈ stC, Mon 2 p ∧ Le60 p := fun p hp => by
  rcases List.mem_append.mp hp with h | h
  · exact stM_few p h
  · rw [List.mem_singleton.mp h]
    exact two_mon ⟨by decide, by decide⟩ ⟨by decide, by decide⟩
theorem stC_short {R : List (List Int)} (h : MinOf stC R) : R.length ≤ 60 := by
  have nd : R.Nodup := List.Pairwise.imp (fun {a b} h e => by rw [e] at h; omega) h.asc
  have n3 : ([0, 3] : List Int) ∈ stC := List.mem_append_right _ (List.mem_singleton.mpr rfl)
  have hs : ∀ p ∈ R, p ∈ (stM.drop 2) ++ [[0, 3]] := fun p hp => by
    obtain ⟨h1, h2⟩ := (h.mem p).mp hp
    rcases List.mem_append.mp h1 with h1 | h1
    · obtain ⟨k, hk, rfl⟩ := stM_mem h1
      refine List.mem_append_left _ ?_
      by_cases hk2 : k < 2
      · have e := h2 _ n3 (dvd2.mpr ⟨by omega, by omega⟩)
        have e2 := congrArg (fun l : List Int => l.getD 1 0) e
        have e3 : (3 : Int) = 60 - k := e2
        omega
      · have hl : k - 2 < (stM.drop 2).length := by rw [List.length_drop, stM_len]; omega
        have : (stM.drop 2)[k - 2] = [(k : Int), 60 - k] := by
          rw [List.getElem_drop]
          simp only [stM, List.getElem_map, List.getElem_range]
          have : 2 + (k - 2) = k := by omega
          rw [this]
        rw [← this]
        exact List.getElem_mem hl
    · exact List.mem_append_right _ h1
  have := nodup_len nd hs
  rw [List.length_append, List.length_drop, stM_len] at this
  exact this
section
variable {P : Program} {w : World} {K : PySem.W.Frag} {mg : Str → Option Value} {base : Heap} {f : Addr} {cdv : Value} {A : Around} {outer : List Env} {s : Shared} {H0 : Hp} {E : XK}
/-- stairs = [..] -/
def tSt0 (K : PySem.W.Frag) : TS := fun D σ H => ∃ (x0 x1 : Option V) (r : L2.St), σ = x0 :: x1 :: r ∧ r.length = 17 ∧ ∀ (l : Addr) (H' : Hp) (ks : List (Addr × List Int)), Same H H' → H' l = some (.lst (refs ks)) → Rows K H' ks → mons ks = stM → D.nx (x0 :: some (.ref l) :: r) H'
theorem p_st0 (B : Bt mg) : PS (cxOf CX0 P w K mg base nLaw "law" (defScope S_law) f cdv A outer s H0 E).nox ((defBody S_law).getD 0 noSt) (tSt0 K) := by
  have nd := sc_law.nd
  refine ps_use (ps_setLc (i := 1) (own := [("k", 4)]) (g := gName 4) (by rfl) nd rfl rfl (sw_true rfl rfl rfl (by decide +kernel)) (pi_range1 (by rfl) B.range (pa_cons pe_int pa_nil)) (blkOk_by (own := [("k", 4)]) (N := nLaw) (sc := defScope S_law) (by decide +kernel)) (fun _ _ _ _ _ => pg_name (i := 4) nd rfl (.inl rfl)) (fun _ _ _ _ _ => pts_nil) (fun _ _ _ _ _ => pe_tup (pa_cons (pv 4) (pa_cons (pe_op op_sub pe_int (pv 4)) pa_nil)))) (fun D σ H h => ?_)
  obtain ⟨x0, x1, r, rfl, hr, q⟩ := h
  obtain ⟨r0, r1, r2, r3, r4, r5, r6, r7, r8, r9, r10, r11, r12, r13, r14, r15, r16, rfl⟩ : ∃ r0 r1 r2 r3 r4 r5 r6 r7 r8 r9 r10 r11 r12 r13 r14 r15 r16 : Option V, r = [r0, r1, r2, r3, r4, r5, r6, r7, r8, r9, r10, r11, r12, r13, r14, r15, r16] := by
    match r, hr with
    | [_, _, _, _, _, _, _, _, _, _, _, _, _, _, _, _, _], _ => exact ⟨_, _, _, _, _, _, _, _, _, _, _, _, _, _, _, _, _, rfl⟩
  refine ⟨61, rfl, by decide, by decide, fun D0 nD => ?_⟩
  refine lc_range (n := 61) (fun i H1 => Same H H1 ∧ ∃ ks : List (Addr × List Int), mons ks = (List.range i).map (fun k : Nat => [(k : Int), 60 - k]) ∧ H1 D0 = some (.lst (refs ks)) ∧ Rows K H1 ks) ⟨same_new nD, [], rfl, upd_same, fun p hp => absurd hp List.not_mem_nil⟩ (fun i H1 hi h => ?_) (fun H1 h => ?_)
  · obtain ⟨sm, ks, hk, eD, hR⟩ := h
    refine ⟨rfl, yes_ok ?_⟩
    refine ⟨_, rfl, _, rfl, _, _, rfl, rfl, (by show 2 ≤ sizeLine; decide), fun T nT => ?_⟩
    have s1 := same_new (o := .tup [V.int (0 + (i : Int)), V.int (60 - (0 + (i : Int)))]) nT
    have lk : ks.length = i := by
      have := congrArg List.length hk
      rw [List.length_map, List.length_map, List.length_range] at this
      exact this
    have eD1 := s1 _ _ eD
    have kp : Kp [D0] (upd H1 T (.tup [V.int (0 + (i : Int)), V.int (60 - (0 + (i : Int)))])) (upd (upd H1 T (.tup [V.int (0 + (i : Int)), V.int (60 - (0 + (i : Int)))])) D0 (.lst (refs ks ++ [V.ref T]))) := (Kp.refl _).upd (List.mem_singleton.mpr rfl)
    refine ⟨_, eD1, by rw [List.length_map]; exact small1000 (by omega), fun b o e => ?_, ks ++ [(T, [(i : Int), 60 - (i : Int)])], ?_, by rw [upd_same, refs_app]; rfl, fun p hp => ?_⟩
    · rw [upd_ne (ne_of_none e nD)]
      exact s1 _ _ (sm _ _ e)
    · rw [mons_app, hk, List.range_succ, List.map_append]
      rfl
    · refine kp.tupL eD1 ?_
      rcases List.mem_append.mp hp with h | h
      · exact Same.tup s1 (hR p h)
      · rw [List.mem_singleton.mp h]
        have e1 : (0 : Int) + (i : Int) = i := by omega
        rw [e1]
        exact sqt_new
  · obtain ⟨sm, ks, hk, eD, hR⟩ := h
    exact q D0 H1 ks sm eD hR hk
end
end JN

set_option maxRecDepth 100000
set_option maxHeartbeats 8000000
namespace JN
open PySem PySem.Spec PyProof.Rows L2
section
variable {P : Program} {w : World} {K : PySem.W.Frag} {mg : Str → Option Value} {base : Heap} {f : Addr} {cdv : Value} {A : Around} {outer : List Env} {s : Shared} {H0 : Hp} {E : XK}
def tSt1 (K : PySem.W.Frag) : TS := fun D σ H => ∃ (x0 : Option V) (l : Addr) (r : L2.St) (ks : List (Addr × List Int)), σ = x0 :: some (.ref l) :: r ∧ r.length = 17 ∧ H l = some (.lst (refs ks)) ∧ Rows K H ks ∧ mons ks = stM ∧
  ∀ (σ' : L2.St) (H' : Hp), Same H H' → (∃ r', σ' = x0 :: some (.ref l) :: r' ∧ r'.length = 17) → D.nx σ' H'
theorem many_dp {H : Hp} {t : Addr} (h : H t = some (.tup [.str "many", .int 60])) : Dp K H (.ref t) (.tuple [.str "many", .int 60]) := .tup (.inl (.inl h)) (.cons (.str _) (.cons (.int _) .nil))
theorem len17 {r : L2.St} (h : r.length = 17) : ∃ r0 r1 r2 r3 r4 r5 r6 r7 r8 r9 r10 r11 r12 r13 r14 r15 r16 : Option V, r = [r0, r1, r2, r3, r4, r5, r6, r7, r8, r9, r10, r11, r12, r13, r14, r15, r16] := by
  match r, h with
  | [_, _, _, _, _, _, _, _, _, _, _, _, _, _, _, _, _], _ => exact ⟨_, _, _, _, _, _, _, _, _, _, _, _, _, _, _, _, _, rfl⟩
set_option maxHeartbeats 0 in
theorem p_st1 (B : Bt mg) (hr : Room 5 (A.deeper (envOfC "law" (defScope S_law) s.heap.objs.size f cdv))) {f3 : Addr} {d3 : FuncData} (A3 : At K mg "_law_least" S_law_least ["monomials"] f3 d3) (G3 : FnOk P w K mg base CX0 2 f3 d3 ["monomials"] (spLLeast K)) {f7 : Addr} {d7 : FuncData} (A7 : At K mg "_law_told" S_law_told ["n", "some"] f7 d7) (G7 : FnOk P w K mg base CX0 5 f7 d7 ["n", "some"] (spTold K)) :
    PS (cxOf CX0 P w K mg base nLaw "law" (defScope S_law) f cdv A outer s H0 E).nox ((defBody S_law).getD 1 noSt) (tSt1 K) := by
  have nd := sc_law.nd
  refine ps_use (ps_for PassesOwn.never rfl (pi_list (pe_lst (pa_cons (pe_tup (pa_cons (pv 1) (pa_cons (pe_tup (pa_cons pe_str (pa_cons pe_int pa_nil))) pa_nil))) (pa_cons (pe_tup (pa_cons (pe_slice sl_list (pv 1) (po_some pe_int) po_none) (pa_cons (pe_tup (pa_cons pe_int (pa_cons (pe_callTy call_tuple_of (by rfl) B.tuple (by decide +kernel) (pa_cons (pe_slice sl_list (pv 1) (po_some pe_int) po_none) pa_nil)) pa_nil))) pa_nil))) (pa_cons (pe_tup (pa_cons (pe_op op_cat (pv 1) (pe_lst (pa_cons (pe_tup (pa_cons pe_int (pa_cons pe_int pa_nil))) pa_nil))) (pa_cons pe_non pa_nil))) pa_nil))))) (pg_tup (by rfl) (pgs_cons (pg_name (i := 2) nd rfl (.inl rfl)) (pgs_cons (pg_name (i := 3) nd rfl (.inl rfl)) pgs_nil)))
        (pss_one (ps_if (pt_cmpR (op_neD hr.units) (pe_call G7 hr (by rfl) A7.gl A7.fn.kp A7.bi .nil pass0 (pa_cons pe_int (pa_cons (pv 2) pa_nil))) (pe_orT (pv 3) (pe_one (pe_tup (pa_cons pe_int (pa_cons (pe_call G3 (hr.mono (by decide)) (by rfl) A3.gl A3.fn.kp A3.bi .nil pass0 (pa_cons (pe_op op_cat (pv 1) (pe_lst (pa_cons (pe_tup (pa_cons pe_int (pa_cons pe_int pa_nil))) pa_nil))) pa_nil)) pa_nil))))) (nomark _)) (pss_one (ps_ret pe_bl)) pss_nil))) (fun D σ H h => ?_)
  obtain ⟨x0, l, r, ks, rfl, hr17, el, hR, hk, q⟩ := h
  obtain ⟨r0, r1, r2, r3, r4, r5, r6, r7, r8, r9, r10, r11, r12, r13, r14, r15, r16, rfl⟩ := len17 hr17
  have lk : ks.length = 61 := by
    have := congrArg List.length hk
    rw [List.length_map, stM_len] at this
    exact this
  have h2s : (2 : Nat) ≤ sizeLine := by decide
  refine ⟨_, rfl, h2s, fun d1 n1 => ⟨h2s, fun t1 nt1 => ?_⟩⟩
  have s1 := same_new (o := .tup [V.str "many", V.int 60]) n1
  have s1' := same_new (o := .tup [V.ref l, V.ref d1]) nt1
  have ed1 : (upd (upd H d1 (.tup [V.str "many", V.int 60])) t1 (.tup [V.ref l, V.ref d1])) d1 = some (.tup [V.str "many", V.int 60]) := s1' _ _ upd_same
  have et1 : (upd (upd H d1 (.tup [V.str "many", V.int 60])) t1 (.tup [V.ref l, V.ref d1])) t1 = some (.tup [V.ref l, V.ref d1]) := upd_same
  have S1 := s1.trans s1'
  generalize upd (upd H d1 (.tup [V.str "many", V.int 60])) t1 (.tup [V.ref l, V.ref d1]) = H1 at S1 ed1 et1 ⊢
  clear s1 s1' nt1 n1
  refine ⟨_, rfl, 1, rfl, l, _, rfl, .inl (.inl (S1 _ _ el)), fun l2 nl2 => ?_⟩
  have s2 := same_new (o := .lst (cutV (refs ks) (some 1) none)) nl2
  have el2 : (upd H1 l2 (.lst (cutV (refs ks) (some 1) none))) l2 = some (.lst (refs (ks.drop 1))) := by rw [upd_same, cut_tail (by omega)]
  generalize upd H1 l2 (.lst (cutV (refs ks) (some 1) none)) = H2 at s2 el2 ⊢
  refine ⟨_, rfl, 1, rfl, l, _, rfl, .inl (.inl (s2 _ _ (S1 _ _ el))), fun l2' nl2' => ?_⟩
  have s3 := same_new (o := .lst (cutV (refs ks) (some 1) none)) nl2'
  have el2' : (upd H2 l2' (.lst (cutV (refs ks) (some 1) none))) l2' = some (.lst (refs (ks.drop 1))) := by rw [upd_same, cut_tail (by omega)]
  generalize upd H2 l2' (.lst (cutV (refs ks) (some 1) none)) = H3 at s3 el2' ⊢
  refine ⟨l2', _, rfl, .inl ⟨.inl (.inl el2'), fun g2 ng2 => ⟨h2s, fun d2 nd2 => ⟨h2s, fun t2 nt2 => ?_⟩⟩⟩⟩
  have s4 := same_new (o := .tup (refs (ks.drop 1))) ng2
  have s5 := same_new (o := .tup [V.int 2, V.ref g2]) nd2
  have s6 := same_new (o := .tup [V.ref l2, V.ref d2]) nt2
  have S6 := S1.trans (s2.trans (s3.trans (s4.trans (s5.trans s6))))
  have id2 : IsI K (upd (upd H3 g2 (.tup (refs (ks.drop 1)))) d2 (.tup [V.int 2, V.ref g2])) d2 2 (stM.drop 1) := isi_new nd2 ⟨ks.drop 1, by rw [← hk]; simp only [mons, List.map_drop], sqt_new, fun p hp => Same.tup (S1.trans (s2.trans (s3.trans s4))) (hR p (List.mem_of_mem_drop hp))⟩
  have id2' := id2.same s6
  have et2 : (upd (upd (upd H3 g2 (.tup (refs (ks.drop 1)))) d2 (.tup [V.int 2, V.ref g2])) t2 (.tup [V.ref l2, V.ref d2])) t2 = some (.tup [V.ref l2, V.ref d2]) := upd_same
  have et1' := (s2.trans (s3.trans (s4.trans (s5.trans s6)))) _ _ et1
  have ed1' := (s2.trans (s3.trans (s4.trans (s5.trans s6)))) _ _ ed1
  have el2'' := (s3.trans (s4.trans (s5.trans s6))) _ _ el2
  generalize upd (upd (upd H3 g2 (.tup (refs (ks.drop 1)))) d2 (.tup [V.int 2, V.ref g2])) t2 (.tup [V.ref l2, V.ref d2]) = H4 at S6 id2' et2 et1' ed1' el2'' ⊢
  clear id2 s2 s3 s4 s5 s6 nt2 nd2 ng2 nl2 nl2' el2' el2 et1 ed1 S1
  refine ⟨_, rfl, h2s, fun o0 no0 => ⟨by show 1 ≤ sizeLine; decide, fun l0 nl0 => ?_⟩⟩
  have s7 := same_new (o := .tup [V.int 0, V.int 3]) no0
  have s8 := same_new (o := .lst [V.ref o0]) nl0
  refine ⟨l, l0, _, _, rfl, rfl, s8 _ _ (s7 _ _ (S6 _ _ el)), upd_same, by rw [List.length_map, lk]; show 62 ≤ sizeLine; decide, fun l3 nl3 => ⟨h2s, fun t3 nt3 => ⟨by show 3 ≤ sizeLine; decide, fun L nL => ?_⟩⟩⟩
  have s9 := same_new (o := .lst (refs ks ++ [V.ref o0])) nl3
  have s10 := same_new (o := .tup [V.ref l3, V.non]) nt3
  have s11 := same_new (o := .lst [V.ref t1, V.ref t2, V.ref t3]) nL
  have s7b := s7.trans (s8.trans (s9.trans (s10.trans s11)))
  have S11 := S6.trans s7b
  have eo0 := (s8.trans (s9.trans (s10.trans s11))) _ _ (upd_same (H := H4) (a := o0) (o := .tup [V.int 0, V.int 3]))
  have el3 := (s10.trans s11) _ _ (upd_same (H := upd (upd H4 o0 (.tup [V.int 0, V.int 3])) l0 (.lst [V.ref o0])) (a := l3) (o := .lst (refs ks ++ [V.ref o0])))
  have et3 := s11 _ _ (upd_same (H := upd (upd (upd H4 o0 (.tup [V.int 0, V.int 3])) l0 (.lst [V.ref o0])) l3 (.lst (refs ks ++ [V.ref o0]))) (a := t3) (o := .tup [V.ref l3, V.non]))
  have eL : (upd (upd (upd (upd (upd H4 o0 (.tup [V.int 0, V.int 3])) l0 (.lst [V.ref o0])) l3 (.lst (refs ks ++ [V.ref o0]))) t3 (.tup [V.ref l3, V.non])) L (.lst [V.ref t1, V.ref t2, V.ref t3])) L = some (.lst [V.ref t1, V.ref t2, V.ref t3]) := upd_same
  have et1 := s7b _ _ et1'
  have ed1 := s7b _ _ ed1'
  have et2' := s7b _ _ et2
  have el2 := s7b _ _ el2''
  have id2 := id2'.same s7b
  have el' := S11 _ _ el
  have hR' := hR.same S11
  generalize upd (upd (upd (upd (upd H4 o0 (.tup [V.int 0, V.int 3])) l0 (.lst [V.ref o0])) l3 (.lst (refs ks ++ [V.ref o0]))) t3 (.tup [V.ref l3, V.non])) L (.lst [V.ref t1, V.ref t2, V.ref t3]) = H5 at S11 eo0 el3 et3 eL et1 ed1 et2' el2 id2 el' hR' ⊢
  clear s7 s8 s9 s10 s11 s7b et1' ed1' et2 el2'' id2' nL nt3 nl3 nl0 no0 S6 hR el
  have fk : ∀ p ∈ ks, Mon 2 p.2 ∧ Le60 p.2 := fun p hp => stM_few p.2 (by rw [← hk]; exact mem_mons.mpr ⟨p, hp, rfl⟩)
  let kc : List (Addr × List Int) := ks ++ [(o0, [0, 3])]
  have hkc : mons kc = stC := by
    show mons (ks ++ [(o0, [0, 3])]) = _
    rw [mons_app, hk]
    rfl
  have fc : ∀ p ∈ kc, Mon 2 p.2 ∧ Le60 p.2 := fun p hp => stC_few p.2 (by rw [← hkc]; exact mem_mons.mpr ⟨p, hp, rfl⟩)
  have lc : kc.length < 64 := by
    show (ks ++ [(o0, [0, 3])]).length < 64
    rw [List.length_append, lk]
    show 62 < 64
    decide
  have rc : Rows K H5 kc := fun p hp => by
    rcases List.mem_append.mp hp with h | h
    · exact hR' p h
    · rw [List.mem_singleton.mp h]
      exact .inl (.inl eo0)
  have ec : H5 l3 = some (.lst (refs kc)) := by
    rw [el3]
    show some (HO.lst (refs ks ++ [V.ref o0])) = some (.lst (refs (ks ++ [(o0, [0, 3])])))
    rw [refs_app]
    rfl
  refine ⟨L, rfl, ⟨_, .inl (.inl eL)⟩, for_list (xs := [V.ref t1, V.ref t2, V.ref t3]) (fun i σ H6 => Same H5 H6 ∧ ∃ r', σ = x0 :: some (.ref l) :: r' ∧ r'.length = 17) ⟨Same.refl _, _, rfl, rfl⟩ (fun i σ H6 _ h => .inl (.inl (h.1 _ _ eL))) (fun i x σ H6 hx h => ?_) (fun σ H6 h => q σ H6 (S11.trans h.1) h.2)⟩
  obtain ⟨sm, r', rfl, hr'⟩ := h
  obtain ⟨w0, w1, w2, w3, w4, w5, w6, w7, w8, w9, w10, w11, w12, w13, w14, w15, w16, rfl⟩ := len17 hr'
  have fin : ∀ (H7 : Hp) (y2 y3 : Option V), Same H5 H7 → Same H5 H7 ∧ ∃ r', ([x0, some (V.ref l), y2, y3, w2, w3, w4, w5, w6, w7, w8, w9, w10, w11, w12, w13, w14, w15, w16] : L2.St) = x0 :: some (.ref l) :: r' ∧ r'.length = 17 := fun H7 y2 y3 e => ⟨e, _, rfl, rfl⟩
  match i, hx with
  | 0, hx =>
    obtain rfl : V.ref t1 = x := Option.some.inj hx
    refine ⟨t1, _, rfl, .inl (.inl (sm _ _ et1)), rfl, _, _, rfl, _, _, rfl, rfl, ?_⟩
    refine ⟨_, rfl, l, 2, ks, 2, rfl, .inl (.inl (.inl (sm _ _ el'))), hR'.same sm, by decide, fk, by omega, fun v H' R s1 mn hl hI => ?_, fun t H' R s1 mn hl et => ?_⟩
    · exfalso
      have := mn.uniq (stM_self (List.Sublist.refl _) hk) fun _ => Iff.rfl
      rw [this, stM_len] at hl
      omega
    · refine ⟨_, rfl, true, .inr (.inl ⟨_, .inl (.inl (s1 _ _ (sm _ _ ed1))), rfl⟩), iteT ?_⟩
      refine ⟨_, _, many_dp et, many_dp (s1 _ _ (sm _ _ ed1)), by decide +kernel, by decide +kernel, _, rfl, ?_⟩
      rw [SeqAt.eqv_refl]
      · exact iteF (fin _ _ _ (sm.trans s1))
      · decide +kernel
  | 1, hx =>
    obtain rfl : V.ref t2 = x := Option.some.inj hx
    refine ⟨t2, _, rfl, .inl (.inl (sm _ _ et2')), rfl, _, _, rfl, _, _, rfl, rfl, ?_⟩
    have hkd : mons (ks.drop 1) = stM.drop 1 := by
      rw [← hk]
      simp only [mons, List.map_drop]
    have mself := stM_self (List.drop_sublist 1 stM) hkd
    refine ⟨_, rfl, l2, 2, ks.drop 1, 2, rfl, .inl (.inl (.inl (sm _ _ el2))), fun p hp => (hR'.same sm) p (List.mem_of_mem_drop hp), by decide, fun p hp => fk p (List.mem_of_mem_drop hp), by rw [List.length_drop]; omega, fun v H' R s1 mn hl hI => ?_, fun t H' R s1 mn hl et => ?_⟩
    · have eR := mn.uniq mself fun _ => Iff.rfl
      obtain ⟨g, a, b⟩ := id2.same (sm.trans s1)
      refine ⟨_, rfl, true, .inr (.inl ⟨_, a, rfl⟩), iteT ?_⟩
      exact ne_I hI ⟨g, a, b⟩ ⟨_, rfl, iteNS ⟨rfl, eR⟩ (fin _ _ _ (sm.trans s1))⟩
    · exfalso
      have := mn.uniq mself fun _ => Iff.rfl
      rw [this, List.length_drop, stM_len] at hl
      omega
  | 2, hx =>
    obtain rfl : V.ref t3 = x := Option.some.inj hx
    refine ⟨t3, _, rfl, .inl (.inl (sm _ _ et3)), rfl, _, _, rfl, _, _, rfl, rfl, ?_⟩
    refine ⟨_, rfl, l3, 2, kc, 2, rfl, .inl (.inl (.inl (sm _ _ ec))), rc.same sm, by decide, fc, lc, fun v H' R s1 mn hl hI => ?_, fun t H' R s1 mn hl et => ?_⟩
    · refine ⟨_, rfl, false, rfl, iteF ?_⟩
      refine ⟨_, rfl, h2s, fun o1 no1 => ⟨by show 1 ≤ sizeLine; decide, fun l1 nl1 => ?_⟩⟩
      have u1 := same_new (o := .tup [V.int 0, V.int 3]) no1
      have u2 := same_new (o := .lst [V.ref o1]) nl1
      have u0 := (sm.trans s1).trans (u1.trans u2)
      refine ⟨l, l1, _, _, rfl, rfl, u0 _ _ el', upd_same, by rw [List.length_map, lk]; show 62 ≤ sizeLine; decide, fun l4 nl4 => ?_⟩
      have u3 := same_new (o := .lst (refs ks ++ [V.ref o1])) nl4
      have u4 := u0.trans u3
      have hk1 : mons (ks ++ [(o1, [0, 3])]) = stC := by
        rw [mons_app, hk]
        rfl
      refine ⟨l4, ks ++ [(o1, [0, 3])], 2, rfl, .inl (.inl (.inl (by rw [upd_same, refs_app]; rfl))), fun p hp => ?_, by decide, by decide, fun p hp => (stC_few p.2 (by rw [← hk1]; exact mem_mons.mpr ⟨p, hp, rfl⟩)).1, by rw [List.length_append, lk]; show 62 < 64; decide, fun g5 H8 R8 s8 m8 t8 => ⟨h2s, fun v9 nv9 => ?_⟩⟩
      · rcases List.mem_append.mp hp with h | h
        · exact hR'.same u4 p h
        · rw [List.mem_singleton.mp h]
          exact .inl (.inl (u3 _ _ (u2 _ _ upd_same)))
      · have u9 := same_new (o := .tup [V.int 2, V.ref g5]) nv9
        have u19 := (u1.trans u2).trans (u3.trans (s8.trans u9))
        refine ne_I (hI.same u19) (isi_new nv9 t8) ⟨_, rfl, iteNS ⟨rfl, mn.uniq m8 fun p => by rw [hkc, hk1]⟩ (fin _ _ _ ((sm.trans s1).trans u19))⟩
    · exfalso
      rw [hkc] at mn
      have := stC_short mn
      omega
  | i + 3, hx => exact absurd hx (by simp)
end
end JN

set_option maxRecDepth 100000
set_option maxHeartbeats 8000000
namespace JN
open PySem PySem.Spec PyProof.Rows L2
/-- the state behind the law's made ideal -/
def ShL (sA d : Addr) (n : Nat) (top : Int) (l kp va : Addr) (x13 : Option V) (σ : L2.St) : Prop := ∃ y1 y3 y4 y10 y11 y12 y14 y15 y16 y17 y18 : Option V, σ = [some (.ref sA), y1, some (.ref l), y3, y4, some (.ref d), some (.int (n : Int)), some (.int top), some (.ref kp), some (.ref va), y10, y11, y12, x13, y14, y15, y16, y17, y18]
structure LS (K : PySem.W.Frag) (H : Hp) (d c : Addr) (m n : Nat) (top : Int) (l kp va : Addr) (ks : List (Addr × List Int)) (A : List (List Int)) : Prop where
  n1 : 1 ≤ n
  n4 : n ≤ 4
  t1 : 2 ≤ top
  t2 : top ≤ 3
  hD : Drw H d c m
  el : H l = some (.lst (refs ks))
  ek : H kp = some (.lst (refs ks))
  rk : Rows K H ks
  fk : ∀ p ∈ ks, Few n top p.2
  lk : ks.length ≤ 9
  jA : IsI K H va n A
  mA : MinOf (mons ks) A
section
variable {K : PySem.W.Frag} {H H' : Hp} {d c : Addr} {m n : Nat} {top : Int} {l kp va : Addr} {ks : List (Addr × List Int)} {A : List (List Int)}
theorem LS.same (L : LS K H d c m n top l kp va ks A) (e : Same H H') : LS K H' d c m n top l kp va ks A :=
  ⟨L.n1, L.n4, L.t1, L.t2, L.hD.same e (Nat.le_refl _), e _ _ L.el, e _ _ L.ek, L.rk.same e, L.fk, L.lk, L.jA.same e, L.mA⟩
theorem Drw.ne_lst {H : Hp} {d c p : Addr} {n : Nat} {xs : List V} (h : Drw H d c n) (e : H p = some (.lst xs)) : p ∉ [d] := fun m => by
  obtain ⟨l, s, z, cs, h1, _⟩ := h
  rw [List.mem_singleton.mp m, h1] at e
  cases e
theorem LS.keep {m' : Nat} (L : LS K H d c m n top l kp va ks A) (k : Kp [d] H H') (hD : Drw H' d c m') : LS K H' d c m' n top l kp va ks A :=
  ⟨L.n1, L.n4, L.t1, L.t2, hD, k _ _ L.el (L.hD.ne_lst L.el), k _ _ L.ek (L.hD.ne_lst L.ek), k.rowsD L.hD L.rk, L.fk, L.lk, k.isiD L.hD L.jA, L.mA⟩
variable (L : LS K H d c m n top l kp va ks A)
include L
theorem LS.ml : ∀ p ∈ ks, Mon n p.2 ∧ Le60 p.2 := fun p hp => ⟨(L.fk p hp).mon (by have := L.t2; omega), (L.fk p hp).le (by have := L.t2; omega)⟩
theorem LS.len : ∀ p ∈ mons ks, p.length = n := fun p hp => by
  obtain ⟨q, hq, rfl⟩ := mem_mons.mp hp
  exact (L.fk q hq).1
theorem LS.mn : ∀ p ∈ mons ks, Mon n p := fun p hp => by
  obtain ⟨q, hq, rfl⟩ := mem_mons.mp hp
  exact (L.ml q hq).1
theorem LS.lenA : ∀ p ∈ A, p.length = n := fun p hp => L.len p (L.mA.sub hp)
theorem LS.lA : A.length ≤ 9 := by
  have nd : A.Nodup := List.Pairwise.imp (fun {a b} h e => by rw [e] at h; omega) L.mA.asc
  have := nodup_len nd fun x hx => L.mA.sub hx
  rw [List.length_map] at this
  exact Nat.le_trans this L.lk
theorem LS.inA {c : List Int} (hc : c.length = n) : inG A c = inG (mons ks) c := L.mA.inG L.mn hc
end
section
variable {P : Program} {w : World} {K : PySem.W.Frag} {mg : Str → Option Value} {base : Heap} {f : Addr} {cdv : Value} {A : Around} {outer : List Env} {s : Shared} {H0 : Hp} {E : XK}
/-- a statement that leaves nothing that is seen -/
def tKeep (K : PySem.W.Frag) : TS := fun D σ H => ∃ (sA d c : Addr) (m n : Nat) (top : Int) (l kp va : Addr) (x13 : Option V) (ks : List (Addr × List Int)) (A : List (List Int)), ShL sA d n top l kp va x13 σ ∧ LS K H d c m n top l kp va ks A ∧ ∀ σ' H', Same H H' → ShL sA d n top l kp va x13 σ' → D.nx σ' H'
theorem p_made (B : Bt mg) (hr : Room 5 (A.deeper (envOfC "law" (defScope S_law) s.heap.objs.size f cdv))) {CT f3 f8 : Addr} {d3 d8 : FuncData} (A3 : At K mg "_law_least" S_law_least ["monomials"] f3 d3) (G3 : FnOk P w K mg base CX0 2 f3 d3 ["monomials"] (spLLeast K)) (A8 : At K mg "ideal_of" S_ideal_of ["n", "monomials"] f8 d8) (G8 : FnOk P w K mg base (L2.CX P w) 4 f8 d8 ["n", "monomials"] (spIdealX K CT)) :
    PS (cxOf CX0 P w K mg base nLaw "law" (defScope S_law) f cdv A outer s H0 E).nox (lawB.getD 6 noSt) (tKeep K) := by
  have nd := sc_law.nd
  refine ps_use (ps_if (PW.pt (pw_or (pt_cmpR (op_neD hr.units) (pv 9) (pe_tup (pa_cons (pv 6) (pa_cons (pe_call G3 (hr.mono (by decide)) (by rfl) A3.gl A3.fn.kp A3.bi .nil pass0 (pa_cons (pv 2) pa_nil)) pa_nil))) (nomark _)) (pw_or (pt_cmpR (op_neD hr.units) (pe_call G8 (hr.mono (by decide)) (by rfl) A8.gl A8.fn.kp A8.bi .nil passL (pa_cons (pv 6) (pa_cons (pe_callTy call_tuple_of (by rfl) B.tuple (by decide +kernel) (pa_cons (pe_revL (pv 2)) pa_nil)) pa_nil))) (pv 9) (nomark _)) (pw_or1 (pt_cmpR (op_neD hr.units) (pv 2) (pv 8) (nomark _)))))) (pss_one (ps_ret pe_bl)) pss_nil) (fun D σ H h => ?_)
  obtain ⟨sA, d, c, m, n, top, l, kp, va, x13, ks, A, ⟨y1, y3, y4, y10, y11, y12, y14, y15, y16, y17, y18, rfl⟩, L, q⟩ := h
  have n1 := L.n1
  have n4 := L.n4
  have lk := L.lk
  refine ⟨_, rfl, _, rfl, _, rfl, l, ks, n, rfl, .inl (.inl (.inl L.el)), L.rk, n1, by omega, fun p hp => (L.ml p hp).1, by omega, fun g H1 R s1 m1 t1 => ⟨by show 2 ≤ sizeLine; decide, fun v nv => ?_⟩⟩
  have s2 := same_new (o := .tup [V.int (n : Int), V.ref g]) nv
  refine ne_I (L.jA.same (s1.trans s2)) (isi_new nv t1) ⟨_, rfl, iteNS ⟨rfl, L.mA.uniq m1 fun _ => Iff.rfl⟩ ?_⟩
  have s12 := s1.trans s2
  generalize upd H1 v (.tup [V.int (n : Int), V.ref g]) = H2 at s12 ⊢
  replace L := L.same s12
  refine ⟨_, rfl, _, rfl, l, _, rfl, .inl (.inl L.el), fun p np => ⟨p, _, rfl, .inl ⟨sql_new, fun t nt => ?_⟩⟩⟩
  have s3 := same_new (o := .lst (refs ks).reverse) np
  have s4 := same_new (o := .tup (refs ks).reverse) nt
  have s34 := s3.trans s4
  have er : (refs ks).reverse = refs ks.reverse := by simp only [refs, List.map_reverse]
  have L4 := L.same s34
  refine ⟨t, n, ks.reverse, n, rfl, .inr (by rw [← er]; exact sqt_new), fun x hx => L4.rk x (List.mem_reverse.mp hx), n1, fun x hx => L.ml x (List.mem_reverse.mp hx), by rw [List.length_reverse]; omega, fun v5 H5 R5 s5 m5 l5 i5 => ?_, fun e5 H5 R5 s5 m5 l5 _ => ?_⟩
  · have hu : R5 = A := m5.uniq L.mA fun p => by simp only [mons, List.map_reverse, List.mem_reverse]
    refine ⟨_, rfl, ne_I i5 (L4.jA.same s5) ⟨_, rfl, iteNS ⟨rfl, hu⟩ ?_⟩⟩
    have L5 := L4.same s5
    refine ⟨_, rfl, _, rfl, .list ((mons ks).map pM), .list ((mons ks).map pM), .lst (.inl (.inl L5.el)) (dp_rows L5.rk), .lst (.inl (.inl L5.ek)) (dp_rows L5.rk), sh_G _, sh_G _, _, rfl, ?_⟩
    have e3 : PyData.eqv (.list ((mons ks).map pM)) (.list ((mons ks).map pM)) = decide (mons ks = mons ks) := eqv_gens _ _
    rw [e3]
    exact iteNS rfl (q _ _ (s12.trans (s34.trans s5)) ⟨_, _, _, _, _, _, _, _, _, _, _, rfl⟩)
  · exfalso
    have : R5.length ≤ 9 := by
      have hu : R5 = A := m5.uniq L.mA fun p => by simp only [mons, List.map_reverse, List.mem_reverse]
      rw [hu]
      exact L.lA
    omega
theorem p_box (B : Bt mg) (hr : Room 5 (A.deeper (envOfC "law" (defScope S_law) s.heap.objs.size f cdv))) {f4 f6 f9 : Addr} {d4 d6 d9 : FuncData} (A4 : At K mg "_law_in" S_law_in ["generators", "b"] f4 d4) (G4 : FnOk P w K mg base CX0 2 f4 d4 ["generators", "b"] (spInL K)) (A6 : At K mg "_law_box" S_law_box ["tops"] f6 d6) (G6 : FnOk P w K mg base CX0 1 f6 d6 ["tops"] (spBox K)) (A9 : At K mg "contains" S_contains ["ideal", "monomial"] f9 d9) (G9 : FnOk P w K mg base CX0 3 f9 d9 ["ideal", "monomial"] (spCont K)) :
    PS (cxOf CX0 P w K mg base nLaw "law" (defScope S_law) f cdv A outer s H0 E).nox (lawB.getD 7 noSt) (tKeep K) := by
  have nd := sc_law.nd
  refine ps_use (ps_for PassesOwn.never rfl (pi_list (pe_call G6 (hr.mono (by decide)) (by rfl) A6.gl A6.fn.kp A6.bi .nil pass0 (pa_cons (pe_op op_repA (pe_tup (pa_cons (pe_op op_add (pv 7) pe_int) pa_nil)) (pv 6)) pa_nil))) (pg_name (i := 10) nd rfl (.inl rfl))
          (pss_cons (ps_set (i := 11) nd rfl (.inl rfl) (pe_call G9 (hr.mono (by decide)) (by rfl) A9.gl A9.fn.kp A9.bi .nil pass0 (pa_cons (pv 9) (pa_cons (pv 10) pa_nil))))
          (pss_one (ps_if (PW.pt (pw_or (pt_not (pt_val (pe_callB call_isi (by rfl) B.isinstance (by decide +kernel) (pa_cons (pv 11) (pa_cons (pe_bltn (v := .ty "bool") (by rfl) B.bool (by decide +kernel) rfl) pa_nil))))) (pw_or1 (pt_cmpR op_ne (pv 11) (pe_call G4 (hr.mono (by decide)) (by rfl) A4.gl A4.fn.kp A4.bi .nil pass0 (pa_cons (pv 2) (pa_cons (pv 10) pa_nil))) (nomark _))))) (pss_one (ps_ret pe_bl)) pss_nil)))) (fun D σ H h => ?_)
  obtain ⟨sA, d, c, m, n, top, l, kp, va, x13, ks, A, ⟨y1, y3, y4, y10, y11, y12, y14, y15, y16, y17, y18, rfl⟩, L, q⟩ := h
  have n1 := L.n1
  have n4 := L.n4
  have t1 := L.t1
  have t2 := L.t2
  have lk := L.lk
  refine ⟨_, rfl, _, _, rfl, rfl, by show 1 ≤ sizeLine; decide, fun o no => ⟨_, rfl, rep_one n1 (by omega) upd_same fun z H1 s1 ez => ?_⟩⟩
  have sz := (same_new (o := .tup [V.int (top + 1)]) no).trans s1
  refine ⟨z, List.replicate n (top + 1), rfl, .inl (.inl (by rw [List.map_replicate]; exact ez)), by rw [List.length_replicate]; omega, fun x hx => by rw [List.eq_of_mem_replicate hx]; omega, fun bl H2 bs s2 e2 r2 f2 => ?_⟩
  rw [List.length_replicate] at f2
  have s02 := sz.trans s2
  refine ⟨bl, rfl, ⟨_, .inl (.inl e2)⟩, for_list (xs := refs bs) (fun j σ H1 => Same H2 H1 ∧ ShL sA d n top l kp va x13 σ) ⟨Same.refl _, _, _, _, _, _, _, _, _, _, _, _, rfl⟩ (fun j σ H1 hj h => h.1.seq (.inl (.inl e2))) (fun j x σ H3 hx h => ?_) (fun σ H3 h => q σ H3 (s02.trans h.1) h.2)⟩
  obtain ⟨s3, y1, y3, y4, y10, y11, y12, y14, y15, y16, y17, y18, rfl⟩ := h
  obtain ⟨hj, rfl⟩ := refs_get hx
  have rc := Same.tup s3 (r2 _ (List.getElem_mem hj))
  have hc : bs[j].2.length = n := (f2 _ (List.getElem_mem hj)).1
  have L3 := L.same (s02.trans s3)
  refine ⟨_, rfl, _, rfl, va, bs[j].1, n, bs[j].2, A, rfl, L3.jA, rc, fun p hp => (L.lenA p hp).trans hc.symm, fun H4 s4 => ?_⟩
  have L4 := L3.same s4
  refine ⟨_, rfl, _, _, _, _, _, rfl, .ty "bool", .base (.bl _), kit_ty (by decide +kernel : _ = some true), _, rfl, iteF ?_⟩
  refine ⟨_, rfl, _, rfl, _, rfl, l, bs[j].1, ks, bs[j].2, rfl, .inl (.inl L4.el), L4.rk, Same.tup s4 rc, fun p hp => (L.len p hp).trans hc.symm, by omega, by omega, fun H5 s5 => ⟨rfl, _, rfl, ?_⟩⟩
  exact iteNS (congrArg V.bl (L.inA hc)) ⟨s3.trans (s4.trans s5), _, _, _, _, _, _, _, _, _, _, _, rfl⟩
end
end JN

set_option maxRecDepth 100000
set_option maxHeartbeats 8000000
namespace JN
open PySem PySem.Spec PyProof.Rows L2
/-- two ideals, a pair of them at its place -/
def PairI (K : PySem.W.Frag) (H : Hp) (n : Nat) (x : V) : Prop := ∃ (t v u : Addr) (gs hs : List (List Int)), x = .ref t ∧ SqT K H t [.ref v, .ref u] ∧ IsI K H v n gs ∧ IsI K H u n hs ∧ (∀ p ∈ gs, p.length = n) ∧ (∀ p ∈ hs, p.length = n) ∧ gs.length ≤ 9 ∧ hs.length ≤ 9
theorem PairI.same {K : PySem.W.Frag} {H H' : Hp} {n : Nat} {x : V} (h : PairI K H n x) (e : Same H H') : PairI K H' n x := by
  obtain ⟨t, v, u, gs, hs, rfl, a, b, c, r⟩ := h
  exact ⟨t, v, u, gs, hs, rfl, Same.tup e a, b.same e, c.same e, r⟩
theorem all_filter {α : Type} {p : α → Bool} {l : List α} : decide (l.filter (fun x => !p x) = []) = l.all p := by
  rw [Bool.eq_iff_iff, decide_eq_true_iff, List.filter_eq_nil_iff, List.all_eq_true]
  simp
section
variable {P : Program} {w : World} {K : PySem.W.Frag} {mg : Str → Option Value} {base : Heap} {f : Addr} {cdv : Value} {A : Around} {outer : List Env} {s : Shared} {H0 : Hp} {E : XK}
/-- if contains(made, far) != _law_in(some, far) -/
def tFar (K : PySem.W.Frag) : TS := fun D σ H => ∃ (sA d c : Addr) (m n : Nat) (top : Int) (l kp va vf : Addr) (ks : List (Addr × List Int)) (A : List (List Int)) (fs : List Int) (y1 y3 y4 y10 y11 y13 y14 y15 y16 y17 y18 : Option V), σ = [some (.ref sA), y1, some (.ref l), y3, y4, some (.ref d), some (.int (n : Int)), some (.int top), some (.ref kp), some (.ref va), y10, y11, some (.ref vf), y13, y14, y15, y16, y17, y18] ∧
  LS K H d c m n top l kp va ks A ∧ SqT K H vf (fs.map V.int) ∧ fs.length = n ∧ ∀ H', Same H H' → D.nx σ H'
theorem p_far (hr : Room 5 (A.deeper (envOfC "law" (defScope S_law) s.heap.objs.size f cdv))) {f4 f9 : Addr} {d4 d9 : FuncData} (A4 : At K mg "_law_in" S_law_in ["generators", "b"] f4 d4) (G4 : FnOk P w K mg base CX0 2 f4 d4 ["generators", "b"] (spInL K)) (A9 : At K mg "contains" S_contains ["ideal", "monomial"] f9 d9) (G9 : FnOk P w K mg base CX0 3 f9 d9 ["ideal", "monomial"] (spCont K)) :
    PS (cxOf CX0 P w K mg base nLaw "law" (defScope S_law) f cdv A outer s H0 E).nox (lawB.getD 9 noSt) (tFar K) := by
  have nd := sc_law.nd
  refine ps_use (ps_if (pt_cmpR op_ne (pe_call G9 (hr.mono (by decide)) (by rfl) A9.gl A9.fn.kp A9.bi .nil pass0 (pa_cons (pv 9) (pa_cons (pv 12) pa_nil))) (pe_call G4 (hr.mono (by decide)) (by rfl) A4.gl A4.fn.kp A4.bi .nil pass0 (pa_cons (pv 2) (pa_cons (pv 12) pa_nil))) (nomark _)) (pss_one (ps_ret pe_bl)) pss_nil) (fun D σ H h => ?_)
  obtain ⟨sA, d, c, m, n, top, l, kp, va, vf, ks, A, fs, y1, y3, y4, y10, y11, y13, y14, y15, y16, y17, y18, rfl, L, hf, hl, q⟩ := h
  have n4 := L.n4
  have lk := L.lk
  refine ⟨_, rfl, _, rfl, va, vf, n, fs, A, rfl, L.jA, hf, fun p hp => (L.lenA p hp).trans hl.symm, fun H4 s4 => ?_⟩
  have L4 := L.same s4
  refine ⟨_, rfl, _, rfl, l, vf, ks, fs, rfl, .inl (.inl L4.el), L4.rk, Same.tup s4 hf, fun p hp => (L.len p hp).trans hl.symm, by omega, by omega, fun H5 s5 => ⟨rfl, _, rfl, ?_⟩⟩
  exact iteNS (congrArg V.bl (L.inA hl)) (q _ (s4.trans s5))
/-- the last for -/
def tWith (K : PySem.W.Frag) : TS := fun D σ H => ∃ (sA d c : Addr) (m n : Nat) (top : Int) (l kp va vo : Addr) (ks : List (Addr × List Int)) (A O : List (List Int)), ShL sA d n top l kp va (some (.ref vo)) σ ∧ LS K H d c m n top l kp va ks A ∧ IsI K H vo n O ∧ (∀ p ∈ O, p.length = n) ∧ O.length ≤ 9 ∧ ∀ σ' H', Same H H' → ShL sA d n top l kp va (some (.ref vo)) σ' → D.nx σ' H'
set_option maxHeartbeats 0 in
theorem p_with (B : Bt mg) (hr : Room 5 (A.deeper (envOfC "law" (defScope S_law) s.heap.objs.size f cdv))) {f4 f10 : Addr} {d4 d10 : FuncData} (A4 : At K mg "_law_in" S_law_in ["generators", "b"] f4 d4) (G4 : FnOk P w K mg base CX0 2 f4 d4 ["generators", "b"] (spIn K)) (A10 : At K mg "is_within" S_is_within ["a", "b"] f10 d10) (G10 : FnOk P w K mg base CX0 4 f10 d10 ["a", "b"] (spWith K)) :
    PS (cxOf CX0 P w K mg base nLaw "law" (defScope S_law) f cdv A outer s H0 E).nox (lawB.getD 11 noSt) (tWith K) := by
  have nd := sc_law.nd
  refine ps_use (ps_for PassesOwn.never rfl (pi_list (pe_lst (pa_cons (pe_tup (pa_cons (pv 9) (pa_cons (pv 13) pa_nil))) (pa_cons (pe_tup (pa_cons (pv 13) (pa_cons (pv 9) pa_nil))) (pa_cons (pe_tup (pa_cons (pv 9) (pa_cons (pv 9) pa_nil))) (pa_cons (pe_tup (pa_cons (pe_tup (pa_cons (pv 6) (pa_cons (pe_tup pa_nil) pa_nil))) (pa_cons (pv 13) pa_nil))) (pa_cons (pe_tup (pa_cons (pv 9) (pa_cons (pe_tup (pa_cons (pv 6) (pa_cons (pe_tup pa_nil) pa_nil))) pa_nil))) pa_nil))))))) (pg_tup (by rfl) (pgs_cons (pg_name (i := 14) nd rfl (.inl rfl)) (pgs_cons (pg_name (i := 15) nd rfl (.inr rfl)) pgs_nil)))
          (pss_cons (ps_set (i := 3) nd rfl (.inl rfl) (pe_cmpR (op_eqD hr.units) (pe_lc (own := [("a", 18)]) (g := gName 18) (tt := tNot (tB (tCall (spIn K) [] E0 (tCons (tOp (rIxT K) (tVar 15) (tC (.int 1))) (tCons (tVar 18) tNil))))) (by rfl) nd (pi_tup (pe_ix ix_tup (pv 14) pe_int (fun _ _ => rfl))) (blkOk_by (own := [("a", 18)]) (N := nLaw) (sc := defScope S_law) (by decide +kernel)) (fun _ _ _ _ _ => pg_name (i := 18) nd rfl (.inl rfl)) (fun _ _ _ _ _ => pts_one (pt_not (pt_val (pe_call G4 (hr.mono (by decide)) (by rfl) A4.gl A4.fn.kp A4.bi .nil pass0 (pa_cons (pe_ix ix_tup (pv 15) pe_int (fun _ _ => rfl)) (pa_cons (pv 18) pa_nil)))))) (fun _ _ _ _ _ => pv 18)) (pe_lst pa_nil) (nomark _)))
          (pss_cons (ps_set (i := 11) nd rfl (.inl rfl) (pe_call G10 (hr.mono (by decide)) (by rfl) A10.gl A10.fn.kp A10.bi .nil pass0 (pa_cons (pv 14) (pa_cons (pv 15) pa_nil))))
          (pss_one (ps_if (PW.pt (pw_or (pt_not (pt_val (pe_callB call_isi (by rfl) B.isinstance (by decide +kernel) (pa_cons (pv 11) (pa_cons (pe_bltn (v := .ty "bool") (by rfl) B.bool (by decide +kernel) rfl) pa_nil))))) (pw_or1 (pt_cmpR op_ne (pv 11) (pv 3) (nomark _))))) (pss_one (ps_ret pe_bl)) pss_nil))))) (fun D σ H h => ?_)
  obtain ⟨sA, d, c, m, n, top, l, kp, va, vo, ks, A, O, ⟨y1, y3, y4, y10, y11, y12, y14, y15, y16, y17, y18, rfl⟩, L, jO, lO, lO9, q⟩ := h
  have n4 := L.n4
  have h2s : (2 : Nat) ≤ sizeLine := by decide
  have h0s : (0 : Nat) ≤ sizeLine := by decide
  have pA := L.lenA
  have lA := L.lA
  have e0 : ∀ p ∈ ([] : List (List Int)), p.length = n := fun p hp => absurd hp List.not_mem_nil
  have jA := L.jA
  refine ⟨_, rfl, _, rfl, h2s, fun t1 n1 => ?_⟩
  have s1 := same_new (o := .tup [V.ref va, V.ref vo]) n1
  have p1 : PairI K (upd H t1 (.tup [V.ref va, V.ref vo])) n (.ref t1) := ⟨t1, va, vo, A, O, rfl, sqt_new, jA.same s1, jO.same s1, pA, lO, lA, lO9⟩
  generalize upd H t1 (.tup [V.ref va, V.ref vo]) = H1 at s1 p1 ⊢
  refine ⟨_, rfl, _, rfl, h2s, fun t2 n2 => ?_⟩
  have s2 := same_new (o := .tup [V.ref vo, V.ref va]) n2
  have p2 : PairI K (upd H1 t2 (.tup [V.ref vo, V.ref va])) n (.ref t2) := ⟨t2, vo, va, O, A, rfl, sqt_new, jO.same (s1.trans s2), jA.same (s1.trans s2), lO, pA, lO9, lA⟩
  replace p1 := p1.same s2
  have S2 := s1.trans s2
  generalize upd H1 t2 (.tup [V.ref vo, V.ref va]) = H2 at S2 p1 p2 ⊢
  clear s1 s2 n1 n2
  refine ⟨_, rfl, _, rfl, h2s, fun t3 n3 => ?_⟩
  have s3 := same_new (o := .tup [V.ref va, V.ref va]) n3
  have S3 := S2.trans s3
  have p3 : PairI K (upd H2 t3 (.tup [V.ref va, V.ref va])) n (.ref t3) := ⟨t3, va, va, A, A, rfl, sqt_new, jA.same S3, jA.same S3, pA, pA, lA, lA⟩
  replace p1 := p1.same s3
  replace p2 := p2.same s3
  generalize upd H2 t3 (.tup [V.ref va, V.ref va]) = H3 at S3 p1 p2 p3 ⊢
  clear s3 n3 S2
  refine ⟨_, rfl, h0s, fun z4 nz4 => ⟨h2s, fun v4 nv4 => ⟨_, rfl, h2s, fun t4 n4 => ?_⟩⟩⟩
  have u4 := (same_new (o := .tup []) nz4).trans (same_new (o := .tup [V.int (n : Int), V.ref z4]) nv4)
  have i4 : IsI K (upd (upd H3 z4 (.tup [])) v4 (.tup [V.int (n : Int), V.ref z4])) v4 n [] := isi_new nv4 ⟨[], rfl, sqt_new, fun p hp => absurd hp List.not_mem_nil⟩
  have s4 := same_new (o := .tup [V.ref v4, V.ref vo]) n4
  have S4 := S3.trans (u4.trans s4)
  have p4 : PairI K (upd (upd (upd H3 z4 (.tup [])) v4 (.tup [V.int (n : Int), V.ref z4])) t4 (.tup [V.ref v4, V.ref vo])) n (.ref t4) := ⟨t4, v4, vo, [], O, rfl, sqt_new, i4.same s4, jO.same S4, e0, lO, Nat.zero_le _, lO9⟩
  replace p1 := p1.same (u4.trans s4)
  replace p2 := p2.same (u4.trans s4)
  replace p3 := p3.same (u4.trans s4)
  generalize upd (upd (upd H3 z4 (.tup [])) v4 (.tup [V.int (n : Int), V.ref z4])) t4 (.tup [V.ref v4, V.ref vo]) = H4 at S4 p1 p2 p3 p4 ⊢
  clear u4 s4 n4 nz4 nv4 i4 S3
  refine ⟨_, rfl, _, rfl, h0s, fun z5 nz5 => ⟨h2s, fun v5 nv5 => ⟨h2s, fun t5 n5 => ⟨by show 5 ≤ sizeLine; decide, fun LL nL => ?_⟩⟩⟩⟩
  have u5 := (same_new (o := .tup []) nz5).trans (same_new (o := .tup [V.int (n : Int), V.ref z5]) nv5)
  have i5 : IsI K (upd (upd H4 z5 (.tup [])) v5 (.tup [V.int (n : Int), V.ref z5])) v5 n [] := isi_new nv5 ⟨[], rfl, sqt_new, fun p hp => absurd hp List.not_mem_nil⟩
  have s5 := same_new (o := .tup [V.ref va, V.ref v5]) n5
  have s6 := same_new (o := .lst [V.ref t1, V.ref t2, V.ref t3, V.ref t4, V.ref t5]) nL
  have S5 := S4.trans (u5.trans s5)
  have p5 : PairI K (upd (upd (upd H4 z5 (.tup [])) v5 (.tup [V.int (n : Int), V.ref z5])) t5 (.tup [V.ref va, V.ref v5])) n (.ref t5) := ⟨t5, va, v5, A, [], rfl, sqt_new, jA.same S5, i5.same s5, pA, e0, lA, Nat.zero_le _⟩
  have all : ∀ x ∈ [V.ref t1, V.ref t2, V.ref t3, V.ref t4, V.ref t5], PairI K (upd (upd (upd (upd H4 z5 (.tup [])) v5 (.tup [V.int (n : Int), V.ref z5])) t5 (.tup [V.ref va, V.ref v5])) LL (.lst [V.ref t1, V.ref t2, V.ref t3, V.ref t4, V.ref t5])) n x := fun x hx => by
    have w5 := (u5.trans s5).trans s6
    simp only [List.mem_cons, List.not_mem_nil, or_false] at hx
    rcases hx with e | e | e | e | e
    · rw [e]; exact p1.same w5
    · rw [e]; exact p2.same w5
    · rw [e]; exact p3.same w5
    · rw [e]; exact p4.same w5
    · rw [e]; exact p5.same s6
  have eL : (upd (upd (upd (upd H4 z5 (.tup [])) v5 (.tup [V.int (n : Int), V.ref z5])) t5 (.tup [V.ref va, V.ref v5])) LL (.lst [V.ref t1, V.ref t2, V.ref t3, V.ref t4, V.ref t5])) LL = some (.lst [V.ref t1, V.ref t2, V.ref t3, V.ref t4, V.ref t5]) := upd_same
  have S6 := S5.trans s6
  generalize upd (upd (upd (upd H4 z5 (.tup [])) v5 (.tup [V.int (n : Int), V.ref z5])) t5 (.tup [V.ref va, V.ref v5])) LL (.lst [V.ref t1, V.ref t2, V.ref t3, V.ref t4, V.ref t5]) = H6 at S6 all eL ⊢
  clear p1 p2 p3 p4 p5 u5 s5 s6 n5 nL nz5 nv5 i5 S4 S5
  refine ⟨LL, rfl, ⟨_, .inl (.inl eL)⟩, for_list (xs := [V.ref t1, V.ref t2, V.ref t3, V.ref t4, V.ref t5]) (fun i σ H7 => Same H6 H7 ∧ ShL sA d n top l kp va (some (.ref vo)) σ) ⟨Same.refl _, _, _, _, _, _, _, _, _, _, _, _, rfl⟩ (fun i σ H7 _ h => .inl (.inl (h.1 _ _ eL))) (fun i x σ H7 hx h => ?_) (fun σ H7 h => q σ H7 (S6.trans h.1) h.2)⟩
  obtain ⟨sm, y1, y3, y4, y10, y11, y12, y14, y15, y16, y17, y18, rfl⟩ := h
  obtain ⟨t, v, u, gs, hs, rfl, ht, jv, ju, lg, lh, lg9, lh9⟩ := (all x (List.mem_of_getElem? hx)).same sm
  obtain ⟨gv, qv, ⟨kv, rfl, tv, rv⟩⟩ := id jv
  rw [List.length_map] at lg9
  obtain ⟨gu, qu, tu⟩ := id ju
  refine ⟨t, _, rfl, ht, rfl, _, _, rfl, _, _, rfl, rfl, ?_⟩
  refine ⟨_, rfl, v, _, 1, .ref gv, rfl, rfl, qv, rfl, gv, rfl, ⟨_, tv⟩, fun D9 nD9 => lc_keep (walk_tup (xs := refs kv)) (fun i => if (fun y : Addr × List Int => !inG hs y.2) (kv.getD i z0) = true then some (V.ref (kv.getD i z0).1) else none) nD9 ?_ (fun H8 e => Same.tup e tv) (fun i x H8 H9 P1 P0 hi sm8 y k1 k0 => ?_) (fun H8 sm8 e => ?_)⟩
  · rw [List.length_map]; exact small1000 (by omega)
  · rw [List.length_map] at hi
    obtain ⟨rfl, hx⟩ := y
    obtain ⟨hi', rfl⟩ := refs_get hx
    have hm : kv[i].2 ∈ mons kv := mem_mons.mpr ⟨_, List.getElem_mem hi, rfl⟩
    refine ⟨rfl, ?_⟩
    refine ⟨_, rfl, u, _, 1, .ref gu, rfl, rfl, Same.tup sm8 qu, rfl, _, rfl, gu, kv[i].1, hs, kv[i].2, rfl, tu.same sm8, Same.tup sm8 (rv _ (List.getElem_mem hi)), fun p hp => (lh p hp).trans (lg _ hm).symm, by rw [lg _ hm]; omega, by omega, fun H10 s10 => ⟨_, rfl, ?_⟩⟩
    refine ite2 (fun e1 => ⟨_, rfl, k1 _ _ ?_ s10⟩) (fun e1 => k0 _ ?_ s10)
    · rw [getD_at hi, if_pos e1]
    · rw [getD_at hi, if_neg e1]
  · rw [List.length_map, range_filt (fun y : Addr × List Int => !inG hs y.2) (fun y => V.ref y.1) z0] at e
    refine ⟨by decide, fun o no => ?_⟩
    have s9 := same_new (o := .lst []) no
    have hR2 : Rows K (upd H8 o (.lst [])) (kv.filter fun y : Addr × List Int => !inG hs y.2) := fun x hx => Same.tup (sm8.trans s9) (rv x (List.mem_filter.mp hx).1)
    refine ⟨.list ((mons (kv.filter fun y : Addr × List Int => !inG hs y.2)).map pM), .list [], .lst (.inl (.inl (s9 _ _ e))) (dp_rows hR2), .lst sql_new .nil, sh_G _, by decide, ?_⟩
    have e3 : PyData.eqv (.list ((mons (kv.filter fun y : Addr × List Int => !inG hs y.2)).map pM)) (.list []) = (mons kv).all fun g => inG hs g := by
      have h1 : PyData.eqv (.list ((mons (kv.filter fun y : Addr × List Int => !inG hs y.2)).map pM)) (.list []) = decide (mons (kv.filter fun y : Addr × List Int => !inG hs y.2) = []) := eqv_gens _ []
      have h2 : mons (kv.filter fun y : Addr × List Int => !inG hs y.2) = (mons kv).filter fun g => !inG hs g := by
        show (kv.filter _).map _ = (kv.map _).filter _
        rw [List.filter_map]
        rfl
      rw [h1, h2, all_filter]
    rw [e3]
    have s89 := sm8.trans s9
    refine ⟨_, rfl, _, rfl, v, u, n, n, mons kv, hs, n, rfl, jv.same s89, ju.same s89, lg, lh, by rw [List.length_map]; omega, fun H10 s10 => ?_⟩
    refine ⟨_, rfl, _, _, _, _, _, rfl, .ty "bool", .base (.bl _), kit_ty (by decide +kernel : _ = some true), _, rfl, iteF ?_⟩
    exact ⟨_, rfl, _, rfl, rfl, _, rfl, iteNS rfl ⟨sm.trans (s89.trans s10), _, _, _, _, _, _, _, _, _, _, _, rfl⟩⟩
end
end JN

set_option maxRecDepth 100000
set_option maxHeartbeats 8000000
namespace JN
open PySem PySem.Spec PyProof.Rows L2
def spLaw (K : PySem.W.Frag) : Sp := fun vs H Q _ => ∃ (a : Addr) (ns : List Int), vs = [.ref a] ∧ SqL K H a (ns.map V.int) ∧ ns.length ≤ 63 ∧ ∀ H', Q (.bl true) H'
section
variable {P : Program} {w : World} {K : PySem.W.Frag} {mg : Str → Option Value} {base : Heap}
structure Tx (P : Program) (K : PySem.W.Frag) (mg : Str → Option Value) : Prop extends Bt mg where
  cG : ∃ t, mg "MOST_GENERATORS" = some (.int 60 t)
  cE : ∃ t, mg "MOST_EXPONENT" = some (.int 60 t)
  err : ∃ CT fT dT CJ CN CG, ErrC P K mg "TooMany" "TooMany.__init__" "limit" S_many ["self", "limit"] CT fT dT ∧ mg "JointError" = some (.ref CJ) ∧ mg "NotIdeal" = some (.ref CN) ∧ mg "TooGreat" = some (.ref CG) ∧ PySem.W.exmOne K (.ref CT) (.ref CJ) = some true ∧
    PySem.W.kitOne K (.ref CT) (.ref CN) = some false ∧ PySem.W.kitOne K (.ref CT) (.ref CT) = some true ∧ PySem.W.kitOne K (.ref CT) (.ref CG) = some false
  t_divides : ∃ f fd, At K mg "divides" S_divides ["a", "b"] f fd
  t_has : ∃ f fd, At K mg "has_divisor" S_has_divisor ["monomial", "others"] f fd
  t_least : ∃ f fd, At K mg "least_ones" S_least_ones ["monomials", "most"] f fd
  t_ideal : ∃ f fd, At K mg "ideal_of" S_ideal_of ["n", "monomials"] f fd
  t_cont : ∃ f fd, At K mg "contains" S_contains ["ideal", "monomial"] f fd
  t_with : ∃ f fd, At K mg "is_within" S_is_within ["a", "b"] f fd
  t_begun : ∃ f fd, At K mg "_law_begun" S_law_begun ["script", "k"] f fd
  t_draw : ∃ f fd, At K mg "_law_draw" S_law_draw ["m", "below"] f fd
  t_ldvd : ∃ f fd, At K mg "_law_divides" S_law_divides ["a", "b"] f fd
  t_lleast : ∃ f fd, At K mg "_law_least" S_law_least ["monomials"] f fd
  t_in : ∃ f fd, At K mg "_law_in" S_law_in ["generators", "b"] f fd
  t_monomial : ∃ f fd, At K mg "_law_monomial" S_law_monomial ["m", "n", "top"] f fd
  t_box : ∃ f fd, At K mg "_law_box" S_law_box ["tops"] f fd
  t_told : ∃ f fd, At K mg "_law_told" S_law_told ["n", "some"] f fd
set_option maxHeartbeats 0 in
theorem ok_law {f : Addr} {fd : FuncData} (F : Fun K "law" "law" S_law f fd) (T : Tx P K mg) : FnOk P w K mg base CX0 6 f fd ["script"] (spLaw K) := by
  have B := T.toBt
  obtain ⟨tG, hG⟩ := T.cG
  obtain ⟨tE, hE⟩ := T.cE
  obtain ⟨CT, fT, dT, CJ, CN, CG, TM, gJ, gN, gG, eJ, iN, iT, iG⟩ := T.err
  obtain ⟨_, _, B1⟩ := T.t_divides
  obtain ⟨_, _, B4⟩ := T.t_has
  obtain ⟨_, _, B5⟩ := T.t_least
  obtain ⟨_, _, A8⟩ := T.t_ideal
  obtain ⟨_, _, A9⟩ := T.t_cont
  obtain ⟨_, _, A10⟩ := T.t_with
  obtain ⟨_, _, A1⟩ := T.t_begun
  obtain ⟨_, _, A2⟩ := T.t_draw
  obtain ⟨_, _, B3⟩ := T.t_ldvd
  obtain ⟨_, _, A3⟩ := T.t_lleast
  obtain ⟨_, _, A4⟩ := T.t_in
  obtain ⟨_, _, A5⟩ := T.t_monomial
  obtain ⟨_, _, A6⟩ := T.t_box
  obtain ⟨_, _, A7⟩ := T.t_told
  have E1 := ok_dvd (P := P) (w := w) (base := base) B1.fn B
  have E4 := ok_hasL (P := P) (w := w) (base := base) B4.fn B1 E1
  have E4' := ok_hasT (P := P) (w := w) (base := base) B4.fn B1 E1
  have E5 := ok_leastx (P := P) (w := w) (base := base) B5.fn B B4 E4
  have G8 := ok_idealx (P := P) (w := w) (base := base) A8.fn B hG hE B5 E5 TM
  have G9 := ok_cont (P := P) (w := w) (base := base) A9.fn B4 E4'
  have G10 := ok_with (P := P) (w := w) (base := base) A10.fn B A9 G9
  have G1 := ok_begun (P := P) (w := w) (base := base) A1.fn B
  have G2 := ok_draw (P := P) (w := w) (K := K) (base := base) A2.fn B
  have E3 := ok_ldvd (P := P) (w := w) (base := base) B3.fn B
  have G3 := ok_lleast (P := P) (w := w) (base := base) A3.fn B B3 E3
  have G4 := ok_in (P := P) (w := w) (base := base) A4.fn B3 E3
  have G4L := ok_inL (P := P) (w := w) (base := base) A4.fn B3 E3
  have G5 := ok_monomial (P := P) (w := w) (base := base) A5.fn B A2 G2
  have G6 := ok_box (P := P) (w := w) (base := base) A6.fn B
  have G7 := ok_told (P := P) (w := w) (base := base) A7.fn B A8 G8 TM gJ gN gG eJ iN iT iG
  refine F.ok sc_law (fun vs H Q E h => ?_) (fun cdv A outer s H vs Q E hr h => ?_)
  · obtain ⟨a, ns, rfl, _⟩ := h
    rfl
  · obtain ⟨sA, ns, rfl, hS, hlen, q⟩ := h
    have nd := sc_law.nd
    refine ⟨_, pss_cons (p_st0 B) (pss_cons (p_st1 B hr A3 G3 A7 G7)
      (pss_cons (ps_for PassesOwn.never rfl (pi_range1 (by rfl) B.range (pa_cons (pe_callB (call_max2 (by rfl)) (by rfl) B.max (by decide +kernel) (pa_cons pe_int (pa_cons (pe_callB (call_min2 (by rfl)) (by rfl) B.min (by decide +kernel) (pa_cons (pe_callB call_len_seq (by rfl) B.len PySem.boot_len (pa_cons (pv 0) pa_nil)) (pa_cons pe_int pa_nil))) pa_nil))) pa_nil)) (pg_name (i := 4) nd rfl (.inl rfl))
        (pss_cons (ps_set (i := 5) nd rfl (.inr rfl) (pe_call G1 (hr.mono (by decide)) (by rfl) A1.gl A1.fn.kp A1.bi .nil pass0 (pa_cons (pv 0) (pa_cons (pv 4) pa_nil))))
        (pss_cons (ps_asg (pe_tup (pa_cons (pe_op op_add pe_int (pe_call G2 (hr.mono (by decide)) (by rfl) A2.gl A2.fn.kp A2.bi .nil pass0 (pa_cons (pv 5) (pa_cons pe_int pa_nil)))) (pa_cons (pe_op op_add pe_int (pe_call G2 (hr.mono (by decide)) (by rfl) A2.gl A2.fn.kp A2.bi .nil pass0 (pa_cons (pv 5) (pa_cons pe_int pa_nil)))) pa_nil))) (pg_tup (by rfl) (pgs_cons (pg_name (i := 6) nd rfl (.inr rfl)) (pgs_cons (pg_name (i := 7) nd rfl (.inr rfl)) pgs_nil))))
        (pss_cons (ps_setLc (i := 2) (own := [("turn", 16)]) (g := gName 16) (te := tCall spMonomial [] E0 (tCons (tVar 5) (tCons (tVar 6) (tCons (tVar 7) tNil)))) (by rfl) nd rfl rfl (sw_true rfl rfl rfl (by decide +kernel)) (pi_range1 (by rfl) B.range (pa_cons (pe_call G2 (hr.mono (by decide)) (by rfl) A2.gl A2.fn.kp A2.bi .nil pass0 (pa_cons (pv 5) (pa_cons pe_int pa_nil))) pa_nil)) (blkOk_by (own := [("turn", 16)]) (N := nLaw) (sc := defScope S_law) (by decide +kernel)) (fun _ _ _ _ _ => pg_name (i := 16) nd rfl (.inl rfl)) (fun _ _ _ _ _ => pts_nil) (fun _ _ _ _ _ => pe_call G5 (hr.mono (by decide)) (by rfl) A5.gl A5.fn.kp A5.bi .nil pass0 (pa_cons (pv 5) (pa_cons (pv 6) (pa_cons (pv 7) pa_nil)))))
        (pss_cons (ps_set (i := 2) nd rfl (.inl rfl) (pe_op op_cat (pv 2) (pe_slice sl_list (pv 2) po_none (po_some (pe_call G2 (hr.mono (by decide)) (by rfl) A2.gl A2.fn.kp A2.bi .nil pass0 (pa_cons (pv 5) (pa_cons pe_int pa_nil)))))))
        (pss_cons (ps_set (i := 8) nd rfl (.inl rfl) (pe_callTy call_list_of (by rfl) B.list (by decide +kernel) (pa_cons (pv 2) pa_nil)))
        (pss_cons (ps_set (i := 9) nd rfl (.inl rfl) (pe_call G8 (hr.mono (by decide)) (by rfl) A8.gl A8.fn.kp A8.bi .nil passL (pa_cons (pv 6) (pa_cons (pv 2) pa_nil))))
        (pss_cons (p_made B hr A3 G3 A8 G8) (pss_cons (p_box B hr A4 G4L A6 G6 A9 G9)
        (pss_cons (ps_set (i := 12) nd rfl (.inl rfl) (pe_callTy call_tuple_of (by rfl) B.tuple (by decide +kernel) (pa_cons (pe_lc (own := [("j", 17)]) (g := gName 17) (te := tOp (rI CMul fun i j => .int (i * j)) (tOp (rI CPow fun i j => .int (i ^ j.toNat)) (tC (.int 10)) (tC (.int 6))) (tCall spDraw [] E0 (tCons (tVar 5) (tCons (tC (.int 2)) tNil)))) (by rfl) nd (pi_range1 (by rfl) B.range (pa_cons (pv 6) pa_nil)) (blkOk_by (own := [("j", 17)]) (N := nLaw) (sc := defScope S_law) (by decide +kernel)) (fun _ _ _ _ _ => pg_name (i := 17) nd rfl (.inl rfl)) (fun _ _ _ _ _ => pts_nil) (fun _ _ _ _ _ => pe_op op_mul (pe_op op_pow pe_int pe_int) (pe_call G2 (hr.mono (by decide)) (by rfl) A2.gl A2.fn.kp A2.bi .nil pass0 (pa_cons (pv 5) (pa_cons pe_int pa_nil))))) pa_nil)))
        (pss_cons (p_far hr A4 G4L A9 G9)
        (pss_cons (ps_set (i := 13) nd rfl (.inl rfl) (pe_call G8 (hr.mono (by decide)) (by rfl) A8.gl A8.fn.kp A8.bi .nil passL (pa_cons (pv 6) (pa_cons (pe_op op_cat (pe_lc (own := [("turn", 16)]) (g := gName 16) (te := tCall spMonomial [] E0 (tCons (tVar 5) (tCons (tVar 6) (tCons (tVar 7) tNil)))) (by rfl) nd (pi_range1 (by rfl) B.range (pa_cons pe_int pa_nil)) (blkOk_by (own := [("turn", 16)]) (N := nLaw) (sc := defScope S_law) (by decide +kernel)) (fun _ _ _ _ _ => pg_name (i := 16) nd rfl (.inl rfl)) (fun _ _ _ _ _ => pts_nil) (fun _ _ _ _ _ => pe_call G5 (hr.mono (by decide)) (by rfl) A5.gl A5.fn.kp A5.bi .nil pass0 (pa_cons (pv 5) (pa_cons (pv 6) (pa_cons (pv 7) pa_nil))))) (pe_slice sl_list (pv 2) po_none (po_some pe_int))) pa_nil))))
        (pss_one (p_with B hr A4 G4 A10 G10))))))))))))))
      (pss_one (ps_ret pe_bl)))), ?_⟩
    refine ⟨some (.ref sA), none, List.replicate 17 none, rfl, rfl, fun l0 H1 k0 s1 el0 r0 hk0 => ?_⟩
    refine ⟨some (.ref sA), l0, List.replicate 17 none, k0, rfl, rfl, el0, r0, hk0, fun σ2 H2 s2 h2 => ?_⟩
    obtain ⟨r2, rfl, hr2⟩ := h2
    have s12 := s1.trans s2
    obtain ⟨b0, b1, b2, b3, b4, b5, b6, b7, b8, b9, b10, b11, b12, b13, b14, b15, b16, rfl⟩ := len17 hr2
    refine ⟨_, rfl, sA, _, rfl, .inl (s12.seq hS), _, _, rfl, _, _, rfl, _, rfl, ?_, ?_, for_range (fun i σ H1 => Same H H1 ∧ ∃ x1 x2 x3 x4 x5 x6 x7 x8 x9 x10 x11 x12 x13 x14 x15 x16 x17 x18, σ = [some (.ref sA), x1, x2, x3, x4, x5, x6, x7, x8, x9, x10, x11, x12, x13, x14, x15, x16, x17, x18]) ⟨s12, _, _, _, _, _, _, _, _, _, _, _, _, _, _, _, _, _, _, rfl⟩ (fun i σ H1 hi h => ?_) (fun σ H1 h => ?_)⟩
    · split <;> split <;> omega
    · split <;> split <;> omega
    · have hi6 : i < 6 := by
        revert hi
        split <;> split <;> intro hi <;> omega
      obtain ⟨sm, x1, x2, x3, x4, x5, x6, x7, x8, x9, x10, x11, x12, x13, x14, x15, x16, x17, x18, rfl⟩ := h
      refine ⟨_, rfl, _, rfl, sA, ns, 0 + (i : Int), rfl, sm.seq hS, hlen, by omega, by omega, fun d c H3 s3 nd3 nc3 hD3 => ?_⟩
      have hHd : ∀ x ∈ [d], H x = none := fun x hx => by rw [List.mem_singleton.mp hx]; exact sm.free nd3
      have S3 : Same H H3 := sm.trans s3
      refine ⟨_, rfl, d, c, 4, 0, rfl, hD3, by decide, by decide, by decide, fun r1 H4 r10 r11 k4 hD4 => ⟨_, _, rfl, rfl, ?_⟩⟩
      refine ⟨_, rfl, d, c, 2, _, rfl, hD4, by decide, by decide, by decide, fun r2 H5 r20 r21 k5 hD5 => ⟨_, _, rfl, rfl, by show 2 ≤ sizeLine; decide, fun T nT => ?_⟩⟩
      have sT := same_new (o := .tup [V.int (1 + r1), V.int (2 + r2)]) nT
      refine ⟨T, _, rfl, sqt_new, rfl, _, _, rfl, _, _, rfl, rfl, ?_⟩
      have S5 : Same H H5 := same_kp (same_kp S3 k4 hHd) k5 hHd
      have S6 := S5.trans sT
      have hD6 := hD5.same sT (Nat.le_refl _)
      generalize upd H5 T (.tup [V.int (1 + r1), V.int (2 + r2)]) = H6 at S6 hD6 ⊢
      clear sT nT S5 k5 hD5 k4 hD4 S3 hD3 nc3
      obtain ⟨n, hn⟩ : ∃ n : Nat, 1 + r1 = (n : Int) := ⟨(1 + r1).toNat, by omega⟩
      obtain ⟨top, ht⟩ : ∃ top : Int, 2 + r2 = top := ⟨_, rfl⟩
      dsimp only
      rw [hn, ht]
      have n1 : 1 ≤ n := by omega
      have n4 : n ≤ 4 := by omega
      have t1 : 2 ≤ top := by omega
      have t2 : top ≤ 3 := by omega
      refine ⟨_, rfl, d, c, 8, _, rfl, hD6, by decide, by decide, by decide, fun r H7 r0 r1 k7 hD7 => ⟨r, rfl, by omega, by omega, fun D1 nD1 => ?_⟩⟩
      obtain ⟨neD, neC⟩ := hD7.ne nD1
      have S7 : Same H H7 := same_kp S6 k7 hHd
      refine lc_range (n := r.toNat) (fun j H2 => ∃ ks : List (Addr × List Int), ks.length = j ∧ H2 D1 = some (.lst (refs ks)) ∧ Rows K H2 ks ∧ (∀ p ∈ ks, Few n top p.2) ∧ Kp [d] H7 H2 ∧ Drw H2 d c (100 + 24 * j)) ?_ (fun j H8 hj h => ?_) (fun H8 h => ?_)
      · exact ⟨[], rfl, upd_same, fun p hp => absurd hp List.not_mem_nil, fun p hp => absurd hp List.not_mem_nil, Kp.of (same_new nD1), hD7.same (same_new nD1) (by omega)⟩
      · obtain ⟨ks, hl, eD, hR, hf, kp, hD8⟩ := h
        refine ⟨rfl, yes_ok ?_⟩
        refine ⟨_, rfl, _, rfl, _, rfl, d, c, n, top, _, rfl, hD8, by omega, by omega, by omega, by omega, fun p H9 ns ln hns k9 hD9 ep => ?_⟩
        have eD9 := k9 _ _ eD (by simpa using neD)
        refine ⟨_, eD9, by rw [List.length_map]; exact small1000 (by omega), ks ++ [(p, ns)], by rw [List.length_append, hl]; rfl, by rw [upd_same, refs_app]; rfl, fun y hy => ?_, fun y hy => ?_, fun b o e nb => ?_, ?_⟩
        · have k4 : Kp [D1] H9 (upd H9 D1 (.lst (refs ks ++ [V.ref p]))) := (Kp.refl H9).upd (List.mem_singleton.mpr rfl)
          refine k4.tupL eD9 ?_
          rcases List.mem_append.mp hy with h | h
          · exact k9.tupD hD8 (hR y h)
          · rw [List.mem_singleton.mp h]
            exact .inl (.inl ep)
        · rcases List.mem_append.mp hy with h | h
          · exact hf y h
          · rw [List.mem_singleton.mp h]
            exact ⟨ln, hns⟩
        · rw [upd_ne (ne_of_none e nD1)]
          exact k9 _ _ (kp _ _ e nb) nb
        · have := (hD9.put (o := .lst (refs ks ++ [V.ref p])) neD neC)
          exact this.same (Same.refl _) (by omega)
      obtain ⟨ks1, hl1, eD1, hR1, hf1, kp1, hD8⟩ := h
      have l7 : ks1.length ≤ 7 := by omega
      have S8 : Same H H8 := same_kp S7 kp1 hHd
      clear S7 kp1 hD7 k7 hD6 S6 nD1 neC
      refine ⟨_, rfl, _, rfl, _, rfl, d, c, 3, _, rfl, hD8, by omega, by decide, by decide, fun r3 H9 r30 r31 k9 hD9 => ⟨r3, rfl, D1, _, rfl, .inl (.inl (k9 _ _ eD1 (by simpa using neD))), fun p1 np1 => ?_⟩⟩
      obtain ⟨js, ej, hj, hjl, hjk⟩ := cut_refs ks1 none (some r3)
      have hj3 : js.length ≤ 2 := by
        have := hjk r3 r30 rfl rfl
        omega
      have eD9 := k9 _ _ eD1 (by simpa using neD)
      have hR9 : Rows K H9 ks1 := k9.rowsD hD8 hR1
      have S9 : Same H H9 := same_kp S8 k9 hHd
      have u1 := same_new (o := .lst (cutV (refs ks1) none (some r3))) np1
      refine ⟨D1, p1, _, _, rfl, rfl, u1 _ _ eD9, upd_same, ?_, fun l nl => ?_⟩
      · rw [ej, List.length_map, List.length_map, sizeLine_eq]
        omega
      have u2 := same_new (o := .lst (refs ks1 ++ cutV (refs ks1) none (some r3))) nl
      have u12 := u1.trans u2
      have el : (upd (upd H9 p1 (.lst (cutV (refs ks1) none (some r3)))) l (.lst (refs ks1 ++ cutV (refs ks1) none (some r3)))) l = some (.lst (refs (ks1 ++ js))) := by rw [upd_same, ej, refs_app]
      have rk := hR9.same u12
      have S10 := S9.trans u12
      have hD10 := hD9.same u12 (Nat.le_refl _)
      generalize upd (upd H9 p1 (.lst (cutV (refs ks1) none (some r3)))) l (.lst (refs ks1 ++ cutV (refs ks1) none (some r3))) = H10 at el rk S10 hD10 ⊢
      clear u1 u2 u12 hR9 eD9 S9 hD9 k9 np1 nl hR1 eD1 S8 hD8
      obtain ⟨ks, hks⟩ : ∃ ks, ks1 ++ js = ks := ⟨_, rfl⟩
      rw [hks] at el
      have rkk : Rows K H10 ks := fun p hp => by
        rw [← hks] at hp
        rcases List.mem_append.mp hp with h | h
        · exact rk p h
        · exact rk p (hj p h)
      have fk : ∀ p ∈ ks, Few n top p.2 := fun p hp => by
        rw [← hks] at hp
        rcases List.mem_append.mp hp with h | h
        · exact hf1 p h
        · exact hf1 p (hj p h)
      have lk : ks.length ≤ 9 := by
        rw [← hks, List.length_append]
        omega
      clear rk hf1 hj hjl hjk hj3 l7 hl1 ej
      refine ⟨_, rfl, l, _, rfl, .inl (.inl (.inl el)), fun kp nkp => ?_⟩
      have u3 := same_new (o := .lst (refs ks)) nkp
      have mlk : ∀ p ∈ ks, Mon n p.2 ∧ Le60 p.2 := fun p hp => ⟨(fk p hp).mon (by omega), (fk p hp).le (by omega)⟩
      have short : ∀ R, MinOf (mons ks) R → R.length ≤ 9 := fun R m => by
        have nd : R.Nodup := List.Pairwise.imp (fun {a b} h e => by rw [e] at h; omega) m.asc
        have := nodup_len nd fun x hx => m.sub hx
        rw [List.length_map] at this
        omega
      refine ⟨_, rfl, _, rfl, l, n, ks, n, rfl, .inl (.inl (.inl (u3 _ _ el))), rkk.same u3, n1, mlk, by omega, fun va H11 Am s11 mA _ iA => ?_, fun e H11 R s11 m hR _ => ?_⟩
      · have u4 := u3.trans s11
        have L : LS K H11 d c _ n top l kp va ks Am := ⟨n1, n4, t1, t2, hD10.same u4 (Nat.le_refl _), u4 _ _ el, s11 _ _ upd_same, rkk.same u4, fk, lk, iA, mA⟩
        have S11 := S10.trans u4
        clear u4 u3 nkp s11 iA rkk el hD10 S10
        refine ⟨sA, d, c, _, n, top, l, kp, va, _, ks, Am, ⟨_, _, _, _, _, _, _, _, _, _, _, rfl⟩, L, fun σ12 H12 s12 h12 => ⟨sA, d, c, _, n, top, l, kp, va, _, ks, Am, h12, L.same s12, fun σ13 H13 s13 h13 => ?_⟩⟩
        have L13 := (L.same s12).same s13
        have S13 := S11.trans (s12.trans s13)
        obtain ⟨y1, y3, y4, y10, y11, y12, y14, y15, y16, y17, y18, rfl⟩ := h13
        clear L s12 s13 h12 S11
        refine ⟨_, rfl, _, rfl, by omega, by omega, fun D2 nD2 => ?_⟩
        obtain ⟨neD2, neC2⟩ := L13.hD.ne nD2
        refine lc_range (n := ((n : Nat) : Int).toNat) (fun j H2 => ∃ fs : List Int, fs.length = j ∧ Kp [d] H13 H2 ∧ Drw H2 d c (500 + 2 * j) ∧ H2 D2 = some (.lst (fs.map V.int))) ?_ (fun j H14 hj h => ?_) (fun H14 h => ?_)
        · exact ⟨[], rfl, Kp.of (same_new nD2), L13.hD.same (same_new nD2) (by omega), upd_same⟩
        · obtain ⟨fs, hl, kp14, hD14, e14⟩ := h
          have hj4 : j < n := hj
          refine ⟨rfl, yes_ok ?_⟩
          refine ⟨10, 6, rfl, rfl, ⟨by decide, by decide, by decide⟩, ?_⟩
          refine ⟨_, rfl, d, c, 2, _, rfl, hD14, by omega, by decide, by decide, fun r H15 h0 h1 k15 hD15 => ⟨_, _, rfl, rfl, .inl ⟨by decide, by decide⟩, ?_⟩⟩
          have e15 := k15 _ _ e14 (by simpa using neD2)
          refine ⟨_, e15, by rw [List.length_map]; exact small1000 (by omega), fs ++ [10 ^ (6 : Int).toNat * r], by rw [List.length_append, hl]; rfl, fun b o e nb => ?_, ?_, by rw [upd_same, List.map_append]; rfl⟩
          · rw [upd_ne (ne_of_none e nD2)]
            exact k15 _ _ (kp14 _ _ e nb) nb
          · exact (hD15.put neD2 neC2).same (Same.refl _) (by omega)
        obtain ⟨fs, hfl, kp14, hD14, e14⟩ := h
        have hfl' : fs.length = n := hfl
        have L14 := L13.keep kp14 hD14
        have S14 : Same H H14 := same_kp S13 kp14 hHd
        refine ⟨D2, _, rfl, .inl ⟨.inl (.inl e14), fun vf nvf => ?_⟩⟩
        have u5 := same_new (o := .tup (fs.map V.int)) nvf
        have L15 := L14.same u5
        have S15 := S14.trans u5
        refine ⟨sA, d, c, _, n, top, l, kp, va, vf, ks, Am, fs, _, _, _, _, _, _, _, _, _, _, _, rfl, L15, sqt_new, hfl', fun H16 s16 => ?_⟩
        have L16 := L15.same s16
        have S16 := S15.trans s16
        clear L15 S15 u5 nvf L14 S14 kp14 hD14 e14 nD2 neC2 neD2 L13 S13 s16
        refine ⟨_, rfl, 3, rfl, by decide, by decide, fun D3 nD3 => ?_⟩
        obtain ⟨neD3, neC3⟩ := L16.hD.ne nD3
        refine lc_range (n := 3) (fun j H2 => ∃ qs : List (Addr × List Int), qs.length = j ∧ H2 D3 = some (.lst (refs qs)) ∧ Rows K H2 qs ∧ (∀ p ∈ qs, Few n top p.2) ∧ Kp [d] H16 H2 ∧ Drw H2 d c (600 + 24 * j)) ?_ (fun j H17 hj h => ?_) (fun H17 h => ?_)
        · exact ⟨[], rfl, upd_same, fun p hp => absurd hp List.not_mem_nil, fun p hp => absurd hp List.not_mem_nil, Kp.of (same_new nD3), L16.hD.same (same_new nD3) (by omega)⟩
        · obtain ⟨qs, hl, eD, hR, hf, kp17, hD17⟩ := h
          refine ⟨rfl, yes_ok ?_⟩
          refine ⟨_, rfl, _, rfl, _, rfl, d, c, n, top, _, rfl, hD17, by omega, by omega, by omega, by omega, fun p H9 ns ln hns k9 hD9 ep => ?_⟩
          have eD9 := k9 _ _ eD (by simpa using neD3)
          refine ⟨_, eD9, by rw [List.length_map]; exact small1000 (by omega), qs ++ [(p, ns)], by rw [List.length_append, hl]; rfl, by rw [upd_same, refs_app]; rfl, fun y hy => ?_, fun y hy => ?_, fun b o e nb => ?_, ?_⟩
          · have k4 : Kp [D3] H9 (upd H9 D3 (.lst (refs qs ++ [V.ref p]))) := (Kp.refl H9).upd (List.mem_singleton.mpr rfl)
            refine k4.tupL eD9 ?_
            rcases List.mem_append.mp hy with h | h
            · exact k9.tupD hD17 (hR y h)
            · rw [List.mem_singleton.mp h]
              exact .inl (.inl ep)
          · rcases List.mem_append.mp hy with h | h
            · exact hf y h
            · rw [List.mem_singleton.mp h]
              exact ⟨ln, hns⟩
          · rw [upd_ne (ne_of_none e nD3)]
            exact k9 _ _ (kp17 _ _ e nb) nb
          · exact (hD9.put (o := .lst (refs qs ++ [V.ref p])) neD3 neC3).same (Same.refl _) (by omega)
        obtain ⟨qs, hql, eD3, hRq, hfq, kp17, hD17⟩ := h
        have L17 := L16.keep kp17 hD17
        have S17 : Same H H17 := same_kp S16 kp17 hHd
        refine ⟨_, rfl, 2, rfl, l, _, rfl, .inl (.inl L17.el), fun p2 np2 => ?_⟩
        obtain ⟨ts, et, hts, htl, htk⟩ := cut_refs ks none (some 2)
        have ht2 : ts.length ≤ 2 := htk 2 (by decide) rfl rfl
        have u6 := same_new (o := .lst (cutV (refs ks) none (some 2))) np2
        refine ⟨D3, p2, _, _, rfl, rfl, u6 _ _ eD3, upd_same, ?_, fun l5 nl5 => ?_⟩
        · rw [et, List.length_map, List.length_map, sizeLine_eq]
          omega
        have u7 := same_new (o := .lst (refs qs ++ cutV (refs ks) none (some 2))) nl5
        have u67 := u6.trans u7
        have fq : ∀ p ∈ qs ++ ts, Few n top p.2 := fun p hp => by
          rcases List.mem_append.mp hp with h | h
          · exact hfq p h
          · exact fk p (hts p h)
        have lq : (qs ++ ts).length ≤ 5 := by
          rw [List.length_append]
          omega
        have short2 : ∀ R, MinOf (mons (qs ++ ts)) R → R.length ≤ 5 := fun R m => by
          have nd : R.Nodup := List.Pairwise.imp (fun {a b} h e => by rw [e] at h; omega) m.asc
          have := nodup_len nd fun x hx => m.sub hx
          rw [List.length_map] at this
          omega
        refine ⟨l5, n, qs ++ ts, n, rfl, .inl (.inl (.inl (by rw [upd_same, et, refs_app]))), fun p hp => ?_, n1, fun p hp => ⟨(fq p hp).mon (by omega), (fq p hp).le (by omega)⟩, by omega, fun vo H18 O s18 mO _ iO => ?_, fun e H18 R s18 m hR _ => ?_⟩
        · rcases List.mem_append.mp hp with h | h
          · exact hRq.same u67 p h
          · exact L17.rk.same u67 p (hts p h)
        · have L18 := L17.same (u67.trans s18)
          have S18 := S17.trans (u67.trans s18)
          refine ⟨sA, d, c, _, n, top, l, kp, va, vo, ks, Am, O, ⟨_, _, _, _, _, _, _, _, _, _, _, rfl⟩, L18, iO, fun p hp => ?_, by have := short2 O mO; omega, fun σ19 H19 s19 h19 => ?_⟩
          · obtain ⟨x, hx, rfl⟩ := mem_mons.mp (mO.sub hp)
            exact (fq x hx).1
          · obtain ⟨_, _, _, _, _, _, _, _, _, _, _, rfl⟩ := h19
            exact ⟨S18.trans s19, _, _, _, _, _, _, _, _, _, _, _, _, _, _, _, _, _, _, rfl⟩
        · exfalso
          have := short2 R m
          omega
      · exfalso
        have := short R m
        omega
    · obtain ⟨sm, x1, x2, x3, x4, x5, x6, x7, x8, x9, x10, x11, x12, x13, x14, x15, x16, x17, x18, rfl⟩ := h
      exact q _
end
end JN

set_option maxRecDepth 100000
set_option maxHeartbeats 8000000
namespace JN
open PySem PySem.Spec PyProof.Rows L2
theorem at_mk {K : PySem.W.Frag} {h : Heap} {mg : Str → Option Value} (X : K.In h) (G : h.Ns mainGlobals mg) {x : Str} {st : Stmt} {ps : List Str} {f : Addr} {od an : Option Addr} {sl : Array (Option Value)} {oc kV dc pm cd ct : Value}
    (hb : ∀ (kV doc pm : Value) (an : Option Addr) (cdv ct : Value) (us : List Value), us.length = ps.length → bindArgs (PySem.W.fnOf x x (defArgs st) (defBody st) (defScope st) .none kV doc pm an cdv ct) ⟨us, []⟩ = pure (ps.zip us))
    (a : PySem.W.nsIn K mainGlobals x = some (some (.ref f))) (l : K.lookup f = some ⟨oc, od, .func (PySem.W.fnOf x x (defArgs st) (defBody st) (defScope st) .none kV dc pm an cd ct), sl⟩) (c : PySem.W.codeIn K cd x = true) (k : PySem.W.keepIn K (.ref f) = true) :
    ∃ f fd, At K mg x st ps f fd :=
  ⟨f, _, fun_mk l c k, (fun_mk l c k).binds hb, PySem.W.mg_of X G a⟩
theorem con_mk {K : PySem.W.Frag} {h : Heap} {mg : Str → Option Value} (X : K.In h) (G : h.Ns mainGlobals mg) {x : Str} {v : Value} {z : Int} (a : PySem.W.nsIn K mainGlobals x = some (some v)) (e : ∃ t, v = .int z t) : ∃ t, mg x = some (.int z t) := by
  obtain ⟨t, rfl⟩ := e
  exact ⟨t, PySem.W.mg_of X G a⟩
theorem kit_no {K : PySem.W.Frag} {C D : Addr} (h0 : PySem.W.subIn K (.ref C) (.ref C) = some true) (h1 : PySem.W.subIn K (.ref C) (.ref D) = some false) (h2 : PySem.W.isClsIn K D = true) (h3 : PySem.W.typeIn K (.ref D) = some (.type "type")) : PySem.W.kitOne K (.ref C) (.ref D) = some false := by
  have ne : (Value.ref C == Value.ref D) = false := by
    cases e : (Value.ref C == Value.ref D) with
    | false => rfl
    | true =>
      have := Value.ref.inj (beq_iff_eq.mp e)
      subst this
      rw [h0] at h1
      cases h1
  have h2' : (PySem.W.clsIn K D).isSome = true := h2
  unfold PySem.W.kitOne
  rw [ne, if_neg Bool.false_ne_true]
  show (if ((PySem.W.clsIn K D).isSome && PySem.W.typeIn K (.ref D) == some (.type "type")) = true then PySem.W.subIn K (.ref C) (.ref D) else none) = some false
  rw [h2', h3, if_pos (by decide), h1]
theorem err_mk {P : Program} {K : PySem.W.Frag} {h : Heap} {mg : Str → Option Value} (X : K.In h) (G : h.Ns mainGlobals mg) {C J N2 G2 f cc cda N : Addr} {nm q : Str} {bs : List Value} {sn : List Str} {sub : List Value} {ab : Bool} {col : Option Bool} {dd : Option Addr} {m0 m1 m2 m3 m5 : Option Value}
    {od an cld : Option Addr} {osl csl : Array (Option Value)} {oc kV doc pm ct cl : Value} {oCode : Obj}
    (aC : PySem.W.nsIn K mainGlobals "TooMany" = some (some (.ref C))) (aJ : PySem.W.nsIn K mainGlobals "JointError" = some (some (.ref J))) (aN : PySem.W.nsIn K mainGlobals "NotIdeal" = some (some (.ref N2))) (aG : PySem.W.nsIn K mainGlobals "TooGreat" = some (some (.ref G2)))
    (xL : K.lookup C = some (excClassObj nm q C N bs [.ref J, .type "ValueError", .type "Exception", .type "BaseException", .type "object"] true sn sub ab col dd m0 m1 m2 m3 m5 "ValueError.__new__"))
    (sa : PySem.W.findIn K (.ref C) "__setattr__" = some (some (.builtin "object.__setattr__"))) (eC : PySem.W.subIn K (.ref C) (.type "BaseException") = some true) (tC : PySem.W.typeIn K (.ref C) = some (.type "type")) (kC : PySem.W.keepIn K (.ref C) = true)
    (own : PySem.W.mroIn K C (.ref C) = some true) (ve : PySem.W.subIn K (.ref C) (.type "ValueError") = some true) (si : PySem.W.ks_superIn K C C "__init__" = some (some (.builtin "ValueError.__init__"))) (opq : PySem.W.nsIn K cStatics "thirdparty.any" = some none) (ns : PySem.W.nsIn K mainGlobals "super" = some none) (ht : (P.main.scope.names.lookup ("super" : Str)).isSome = false)
    (ini : PySem.W.findIn K (.ref C) "__init__" = some (some (.ref f))) (tf : PySem.W.typeIn K (.ref f) = some (.type "function"))
    (lf : K.lookup f = some ⟨oc, od, .func (PySem.W.ksFn "__init__" "TooMany.__init__" (defArgs S_many) (defBody S_many) (defScope S_many) .none kV doc pm an (.ref cda) ct cc), osl⟩) (cf : PySem.W.codeIn K (.ref cda) "TooMany.__init__" = true) (lc : K.lookup cda = some oCode)
    (hoc : ∃ ccl cdd vs0 ccs file tf, oCode = ⟨ccl, cdd, .fields vs0, ccs⟩ ∧ vs0[2]? = some (.str file tf) ∧ ((P.main.file : Str) == file) = true) (lcc : K.lookup cc = some ⟨cl, cld, .cell (some (.ref C)), csl⟩)
    (nl : PySem.W.findIn K (.ref C) "limit" = some none) (ga : PySem.W.findIn K (.ref C) "__getattribute__" = some (some (.builtin "BaseException.__getattribute__"))) (gg : PySem.W.findIn K (.ref C) "__getattr__" = some none) (hd : PySem.W.hasDictIn K C = true)
    (hcl : PySem.W.findIn K (.ref C) "__class__" = some (some (.builtin "object.__class__"))) (hsp : PySem.W.specialIn K (.builtin "object.__class__") "__get__" = some (some (.builtin "getset_descriptor.__get__"))) (htk : PySem.W.takesIn K (.builtin "object.__class__") = some true) (hm : PySem.W.mroIn K C (.type "object") = some true)
    (jB : PySem.W.subIn K (.ref J) (.type "BaseException") = some true) (jD : PySem.W.hasDictIn K J = true) (jT : PySem.W.typeIn K (.ref J) = some (.type "type")) (jS : PySem.W.subIn K (.ref C) (.ref J) = some true)
    (cs : PySem.W.subIn K (.ref C) (.ref C) = some true) (nS : PySem.W.subIn K (.ref C) (.ref N2) = some false) (nC : PySem.W.isClsIn K N2 = true) (nT : PySem.W.typeIn K (.ref N2) = some (.type "type")) (gS : PySem.W.subIn K (.ref C) (.ref G2) = some false) (gC : PySem.W.isClsIn K G2 = true) (gT : PySem.W.typeIn K (.ref G2) = some (.type "type")) :
    ∃ CT fT dT CJ CN CG, ErrC P K mg "TooMany" "TooMany.__init__" "limit" S_many ["self", "limit"] CT fT dT ∧ mg "JointError" = some (.ref CJ) ∧ mg "NotIdeal" = some (.ref CN) ∧ mg "TooGreat" = some (.ref CG) ∧ PySem.W.exmOne K (.ref CT) (.ref CJ) = some true ∧
      PySem.W.kitOne K (.ref CT) (.ref CN) = some false ∧ PySem.W.kitOne K (.ref CT) (.ref CT) = some true ∧ PySem.W.kitOne K (.ref CT) (.ref CG) = some false := by
  obtain ⟨ccl, cdd, vs0, ccs, file, tfk, rfl, hvs, hfile⟩ := hoc
  refine ⟨C, f, _, J, N2, G2, ⟨⟨⟨⟨nm, q, N, bs, _, sn, sub, ab, col, dd, m0, m1, m2, m3, m5, xL, by rfl⟩, sa, eC, tC, kC⟩, own, ve, si, opq, PySem.W.mg_none_of X G ns, ht⟩, PySem.W.mg_of X G aC, ini, tf, .all (fun us hl => match us, hl with | [_, _], _ => rfl), ⟨oc, od, kV, doc, pm, an, cda, ct, osl, cc, cl, cld, csl, ccl, cdd, vs0, ccs, file, tfk, rfl, lf, cf, lc, hvs, hfile, lcc⟩, nl, ⟨ga, gg, eC, hd, hcl, hsp, htk, hm⟩, ⟨ga, gg, eC, hd⟩⟩,
    PySem.W.mg_of X G aJ, PySem.W.mg_of X G aN, PySem.W.mg_of X G aG, PySem.W.exm_ref jB jD jT jS, kit_no cs nS nC nT, by simp [PySem.W.kitOne], kit_no cs gS gC gT⟩
theorem all_mk {l : PySem.W.OpenLaw} {w : World} {K : PySem.W.Frag} {h : Heap} {mg : Str → Option Value} {fa f0 : Addr} (X : K.In h) (G : h.Ns mainGlobals mg) (hfa : mg "law" = some (.ref fa)) (T : Tx l.prog K mg)
    {od an : Option Addr} {sl : Array (Option Value)} {oc kV dc pm cd ct : Value}
    (a : PySem.W.nsIn K mainGlobals "law" = some (some (.ref f0))) (lk : K.lookup f0 = some ⟨oc, od, .func (PySem.W.fnOf "law" "law" (defArgs (topS 24)) (defBody (topS 24)) (defScope (topS 24)) .none kV dc pm an cd ct), sl⟩) (c : PySem.W.codeIn K cd "law" = true) (k : PySem.W.keepIn K (.ref f0) = true) :
    ∃ fd : FuncData, (∀ (s : Shared) (v : Value), BindsTo s fd ⟨[v], []⟩ [("script", v)]) ∧ ∀ base : Heap, K.In base → base.Ns mainGlobals mg → FnOk l.prog w K mg base CX0 6 fa fd ["script"] (spLaw K) := by
  have e := hfa.symm.trans (PySem.W.mg_of X G a)
  cases e
  exact ⟨_, fun s v => .of_eq rfl, fun base _ _ => ok_law (fun_mk lk c k) T⟩
end JN
open PySem PySem.W PyProof.Rows
set_option maxHeartbeats 0 in
theorem PySem.Challenge.cw_jointneeds_k02_whole_what_is_generated_holds : PySem.Challenge.rw_jointneeds_k02_whole_what_is_generated.Holds := by
  w_on; o_law; k_head; (case hw => w_witness2)
  k_fill
  refine L2.walk_of (l := PySem.Challenge.rw_jointneeds_k02_whole_what_is_generated) (n := 63) (k := 6) (x := "script") (CX := fun _ => L2.CX0) (sp := fun w => JN.spLaw _) rfl (by decide) rfl ⟨rfl, by decide, by decide⟩ (fun w h Y => PySem.W.kIn_of Y) ?F (fun _ _ a ns hl _ hS => ⟨a, ns, rfl, hS, hl, fun _ => rfl⟩) (fun _ _ _ _ _ h => h)
  case F =>
    intro w mg fa h KX G hmg
    have none : ∀ {x : Str}, PySem.W.nsIn _ mainGlobals x = some none → mg x = none := fun e => PySem.W.mg_none_of KX G e
    refine' JN.all_mk KX G hmg ?T ?aL ?lL ?cL ?kL
    case T =>
      refine' ⟨⟨none ?z0, none ?z1, none ?z2, none ?z3, none ?z4, none ?z5, none ?z6, none ?z7, none ?z8, none ?z9, none ?z10, none ?z11, none ?z12, none ?z13, none ?z14⟩, JN.con_mk KX G ?mostG ?isG, JN.con_mk KX G ?mostE ?isE, ?err, ?t0, ?t1, ?t2, ?t3, ?t4, ?t5, ?t6, ?t7, ?t8, ?t9, ?t10, ?t11, ?t12, ?t13⟩
      (case mostG => k_is); (case mostE => k_is); (case isG => exact ⟨_, rfl⟩); (case isE => exact ⟨_, rfl⟩)
      case err =>
        refine' JN.err_mk KX G ?qaC ?qaJ ?qaN ?qaG ?qxL ?qsa ?qeC ?qtC ?qkC ?qown ?qve ?qsi ?qopq ?qns ?qht ?qini ?qtf ?qlf ?qcf ?qlc ?qhoc ?qlcc ?qnl ?qga ?qgg ?qhd ?qhcl ?qhsp ?qhtk ?qhm ?qjB ?qjD ?qjT ?qjS ?qcs ?qnS ?qnC ?qnT ?qgS ?qgC ?qgT
        (case qaC => k_is)
        (case qaJ => k_is)
        (case qaN => k_is)
        (case qaG => k_is)
        (case qxL => k_is)
        (case qsa => k_is)
        (case qeC => k_is)
        (case qtC => k_is)
        (case qkC => k_is)
        (case qown => k_is)
        (case qve => k_is)
        (case qsi => ks_is)
        (case qopq => k_is)
        (case qns => k_is)
        (case qht => decide +kernel)
        (case qini => k_is)
        (case qtf => k_is)
        (case qlf => k_is)
        (case qcf => k_is)
        (case qlc => k_is)
        (case qhoc => exact ⟨_, _, _, _, _, _, rfl, rfl, by decide +kernel⟩)
        (case qlcc => k_is)
        (case qnl => k_is)
        (case qga => k_is)
        (case qgg => k_is)
        (case qhd => k_is)
        (case qhcl => k_is)
        (case qhsp => k_is)
        (case qhtk => k_is)
        (case qhm => k_is)
        (case qjB => k_is)
        (case qjD => k_is)
        (case qjT => k_is)
        (case qjS => k_is)
        (case qcs => k_is)
        (case qnS => k_is)
        (case qnC => k_is)
        (case qnT => k_is)
        (case qgS => k_is)
        (case qgC => k_is)
        (case qgT => k_is)
      case t0 => refine' JN.at_mk KX G (fun _ _ _ _ _ _ us hl => match us, hl with | [_, _], _ => rfl) ?a0 ?l0 ?c0 ?k0; (case a0 => k_is); (case l0 => k_is); (case c0 => k_is); (case k0 => k_is)
      case t1 => refine' JN.at_mk KX G (fun _ _ _ _ _ _ us hl => match us, hl with | [_, _], _ => rfl) ?a1 ?l1 ?c1 ?k1; (case a1 => k_is); (case l1 => k_is); (case c1 => k_is); (case k1 => k_is)
      case t2 => refine' JN.at_mk KX G (fun _ _ _ _ _ _ us hl => match us, hl with | [_, _], _ => rfl) ?a2 ?l2 ?c2 ?k2; (case a2 => k_is); (case l2 => k_is); (case c2 => k_is); (case k2 => k_is)
      case t3 => refine' JN.at_mk KX G (fun _ _ _ _ _ _ us hl => match us, hl with | [_, _], _ => rfl) ?a3 ?l3 ?c3 ?k3; (case a3 => k_is); (case l3 => k_is); (case c3 => k_is); (case k3 => k_is)
      case t4 => refine' JN.at_mk KX G (fun _ _ _ _ _ _ us hl => match us, hl with | [_, _], _ => rfl) ?a4 ?l4 ?c4 ?k4; (case a4 => k_is); (case l4 => k_is); (case c4 => k_is); (case k4 => k_is)
      case t5 => refine' JN.at_mk KX G (fun _ _ _ _ _ _ us hl => match us, hl with | [_, _], _ => rfl) ?a5 ?l5 ?c5 ?k5; (case a5 => k_is); (case l5 => k_is); (case c5 => k_is); (case k5 => k_is)
      case t6 => refine' JN.at_mk KX G (fun _ _ _ _ _ _ us hl => match us, hl with | [_, _], _ => rfl) ?a6 ?l6 ?c6 ?k6; (case a6 => k_is); (case l6 => k_is); (case c6 => k_is); (case k6 => k_is)
      case t7 => refine' JN.at_mk KX G (fun _ _ _ _ _ _ us hl => match us, hl with | [_, _], _ => rfl) ?a7 ?l7 ?c7 ?k7; (case a7 => k_is); (case l7 => k_is); (case c7 => k_is); (case k7 => k_is)
      case t8 => refine' JN.at_mk KX G (fun _ _ _ _ _ _ us hl => match us, hl with | [_, _], _ => rfl) ?a8 ?l8 ?c8 ?k8; (case a8 => k_is); (case l8 => k_is); (case c8 => k_is); (case k8 => k_is)
      case t9 => refine' JN.at_mk KX G (fun _ _ _ _ _ _ us hl => match us, hl with | [_], _ => rfl) ?a9 ?l9 ?c9 ?k9; (case a9 => k_is); (case l9 => k_is); (case c9 => k_is); (case k9 => k_is)
      case t10 => refine' JN.at_mk KX G (fun _ _ _ _ _ _ us hl => match us, hl with | [_, _], _ => rfl) ?a10 ?l10 ?c10 ?k10; (case a10 => k_is); (case l10 => k_is); (case c10 => k_is); (case k10 => k_is)
      case t11 => refine' JN.at_mk KX G (fun _ _ _ _ _ _ us hl => match us, hl with | [_, _, _], _ => rfl) ?a11 ?l11 ?c11 ?k11; (case a11 => k_is); (case l11 => k_is); (case c11 => k_is); (case k11 => k_is)
      case t12 => refine' JN.at_mk KX G (fun _ _ _ _ _ _ us hl => match us, hl with | [_], _ => rfl) ?a12 ?l12 ?c12 ?k12; (case a12 => k_is); (case l12 => k_is); (case c12 => k_is); (case k12 => k_is)
      case t13 => refine' JN.at_mk KX G (fun _ _ _ _ _ _ us hl => match us, hl with | [_, _], _ => rfl) ?a13 ?l13 ?c13 ?k13; (case a13 => k_is); (case l13 => k_is); (case c13 => k_is); (case k13 => k_is)
      (case z0 => k_is); (case z1 => k_is); (case z2 => k_is); (case z3 => k_is); (case z4 => k_is); (case z5 => k_is); (case z6 => k_is); (case z7 => k_is); (case z8 => k_is); (case z9 => k_is); (case z10 => k_is); (case z11 => k_is); (case z12 => k_is); (case z13 => k_is); (case z14 => k_is)
    (case aL => k_is); (case lL => k_is); (case cL => k_is); (case kL => k_is)

