import PyProof.Rows.All
import Wide.All
import OpenK.AllK
import Wide.FinOn
import HandS.ForMost
import HandS.Zip
import HandS.Walk
import HandS.TupMul
import HandS.IsInst
import HandS.Flow
import KE.GoesEnum
import PySem.Challenge.RW_jointneeds_k00_monomials
set_option Elab.async false
set_option linter.all false
set_option maxRecDepth 100000
set_option maxHeartbeats 4000000
namespace JN
open PySem PySem.Spec PyProof.Rows L2
/-! a tuple walked by enumerate -/
def IteT (K : PySem.W.Frag) (a : Addr) : It where
  go := fun i H => ∃ (xs : List V) (x : V), SqT K H a xs ∧ xs[i]? = some x
  yld := fun i H v H' => ∃ T x, v = .ref T ∧ H T = none ∧ H' = upd H T (.tup [.int (i : Nat), x]) ∧ ∀ xs, SqT K H a xs → xs[i]? = some x
  stop := fun i H => ∃ xs : List V, SqT K H a xs ∧ xs.length ≤ i
theorem ne_by_cls {h : Heap} {a b : Addr} {o p : Obj} (ho : h.get? a = some o) (hp : h.get? b = some p) (n : o.cls ≠ p.cls) : a ≠ b := fun e => by
  subst e
  rw [ho] at hp
  cases hp
  exact n rfl
theorem turn_enumT {P : Program} {w : World} {K : PySem.W.Frag} {elts : List Expr} {kk : Nat} {tpos : Pos} (a e it : Addr) :
    Turn P w K (.Tuple elts kk tpos) (IteT K a) [e, it] e (fun i h => (∃ old, IsEnum h e it ((i : Nat) : Int) old) ∧ h.IsTupleIter it a i ∧ e ≠ it) where
  mem := by simp
  obj := fun i h st b hb => by
    obtain ⟨⟨old, he⟩, ⟨o, ho, hc, hd⟩, _⟩ := st
    rcases (show b = e ∨ b = it by simpa using hb) with rfl | rfl
    · exact ⟨_, he, fun v q => nomatch q⟩
    · exact ⟨o, ho, fun v q => by rw [hd] at q; cases q⟩
  keep := fun i h h' st k => ⟨let ⟨old, he⟩ := st.1; ⟨old, k e (by simp) _ he⟩, st.2.1.at fun o q => k it (by simp) o q, st.2.2⟩
  item := by
    intro X hP hw hK hc i pins s σ H E I hf st hg
    subst hP hw hK
    obtain ⟨⟨old, he⟩, hit, hne⟩ := st
    obtain ⟨xs, x, hq, hx⟩ := hg
    obtain ⟨its, rv, p, hz⟩ := I.tuple hq
    obtain ⟨u, hu, ru⟩ := rv.get hx
    have pt : s.heap.IsTuple a its.toArray := p
    have hel : e < s.heap.objs.size := Heap.lt_size he
    have hil : it < s.heap.objs.size := by obtain ⟨_, q, _⟩ := hit; exact Heap.lt_size q
    have hai : a ≠ it := by
      obtain ⟨o1, e1, c1, _⟩ := id pt
      obtain ⟨o2, e2, c2, _⟩ := id hit
      exact ne_by_cls e1 e2 (by rw [c1, c2]; decide)
    have hea : e ≠ a := by
      obtain ⟨o1, e1, c1, _⟩ := id pt
      exact ne_by_cls he e1 (by rw [c1]; show Value.type "enumerate" ≠ Value.type "tuple"; decide)
    have hlt : i < its.toArray.size := by
      have := (List.getElem?_eq_some_iff.mp hu).1
      simpa using this
    have D : Draws X.prog X.w X.A.in1 it [it, a] its.toArray.size (fun i v => its.toArray[i]? = some v) (fun i h => h.IsTupleIter it a i ∧ h.IsTuple a its.toArray) :=
      Draws.tuple (show X.A.in1.handled = none from I.ok.hd hc) it a hai its.toArray
    refine wpAny_pyNext_enum_itemD D he ⟨hit, pt⟩ hlt hne (by simp [hne, hea]) fun y h' tk hy ho hst' hT hsz hk => ?_
    have ey : y = u := by
      have q : its.toArray[i]? = some u := by simpa using hu
      rw [q] at hy
      exact (Option.some.inj hy).symm
    subst ey
    refine ⟨_, rfl, wpAny_letOwnedTupleGo_enum (s := { s with heap := h', toks := tk + 1 }) ho fun h'' he' sb => ?_⟩
    have hT2 : h''.get? s.heap.objs.size = some { cls := .type "tuple", data := .seq #[.int i tk, y] } := (sb.2 _ (Nat.ne_of_gt hel)).trans hT
    have new : ObjOk X.prog X.w (upd H s.heap.objs.size (.tup [.int (i : Nat), x])) h'' s.heap.objs.size (.tup [.int (i : Nat), x]) :=
      ⟨by show 2 ≤ sizeLine; decide, [.int i tk, y], .cons ⟨_, rfl⟩ (.cons ru .nil), ⟨_, hT2, rfl, _, rfl⟩⟩
    have I1 : Inv X pins σ (upd H s.heap.objs.size (.tup [.int (i : Nat), x])) { s with heap := h'', toks := tk + 1 } :=
      I.turnedNew (ch := [e, it]) (fun b ob hb q => (sb.2 b (fun z => hb (by simp [z]))).trans (hk b ob (fun z => hb (by simp [z])) (fun z => hb (by simp [z])) q)) hf (Nat.le_refl _) new
    refine ⟨.ref s.heap.objs.size, _, I1, rfl, ⟨_, x, rfl, I.hok.fresh (Nat.le_refl _), rfl, fun ys hy => by rw [I.tuple_inj hy hq]; exact hx⟩, ⟨⟨y, ?_⟩, hst'.1.at fun o q => (sb.2 it (Ne.symm hne)).trans q, hne⟩, fun b hb => ?_⟩
    · rw [show ((i + 1 : Nat) : Int) = (i : Int) + 1 by omega]
      exact he'
    · have hb' : b < s.heap.objs.size := by
        rcases (show b = e ∨ b = it by simpa using hb) with rfl | rfl
        · exact hel
        · exact hil
      rw [upd_ne (Nat.ne_of_lt hb')]
      exact (hf b hb).1
  done := by
    intro X hP hw hK hc i pins s σ H E I hf st hg
    subst hP hw hK
    obtain ⟨⟨old, he⟩, hit, hne⟩ := st
    obtain ⟨xs, hq, hx⟩ := hg
    obtain ⟨its, rv, p, hz⟩ := I.tuple hq
    have pt : s.heap.IsTuple a its.toArray := p
    have hh : X.A.in1.handled = none := I.ok.hd hc
    obtain ⟨f0, f1, f2, f3, f4, f5⟩ := hf it (by simp)
    have hl := rv.length
    have hT : s.TypeIs (.ref e) "enumerate" := ⟨_, he, rfl⟩
    unfold pyNext
    refine wpAny_bind (wpAny_attempt (wpAny_callSpecial?_slot (name := Str.ofString "__next__") hT F.slot_enumerate_next
      (wpAny_call_entry F.slot_enumerate_next hT F.entry_enumerate_next ?_ (F.args_enumerate_next_1 _))))
    show wpAny _ _ (field (.ref e) 2 >>= _) _ _ _
    refine wpAny_bind (wpAny_field he rfl (x := .ref it) rfl ?_)
    refine wpAny_bind (wpAny_nextOf_tuple_end hh hit pt (by simp; omega) fun h' x he' hx' => ?_)
    obtain ⟨o, ho, hc'⟩ := hx'
    refine wpAny_bind (wpAny_isInstance (T := "StopIteration") (b := true) ⟨o, ho, hc'⟩ isSubtype_stop ?_)
    exact wpAny_pure ⟨rfl, I.turned (t' := s.toks) (fun b o hb q => he' b o hb q) f0 f1 f3 f4 f5⟩
  self := fun A i s Q E st h => let ⟨⟨_, he⟩, _⟩ := st; wpAny_pyIter_enum he h
theorem new_enum1 {v : Value} {o : Obj} {H : Heap → Prop} (B : Begins v o H) :
    Meets (Builtin.«enumerate.__new__» ⟨[.type "enumerate", v], []⟩) (fun _ R s => H s.heap ∧
      R (.ok (.ret (.ref (s.heap.push o).objs.size))) { s with heap := (s.heap.push o).push { cls := .type "enumerate", data := .fields #[.none, .bool false, .ref s.heap.objs.size, rawInt 0, .none, .none] } }) :=
  .of_wp fun prog w A R s h => by
    obtain ⟨hp, g, d, tk, os⟩ := s; obtain ⟨h1, h⟩ := h
    have hsub := sub_enumerate
    have q1 : ∀ {A' : Around} {E : Value → Shared → Prop} {Q : Value → Shared → Prop}, Q (.ref hp.objs.size) ⟨hp.push o, g, d, tk, os⟩ → wpAny (model prog w) A' (pyIter v) Q E ⟨hp, g, d, tk, os⟩ :=
      fun q => B.iter prog w _ _ ⟨hp, g, d, tk, os⟩ _ h1 q
    wp_walk using q1
    refine wpAny_stack_any fun st => wpAny_pure ?_
    split
    · rename_i c _ _ _ _ _
      cases (c == Value.type "enumerate")
      · wp_walk using q1
        exact ⟨_, rfl, h⟩
      · wp_walk using q1
        exact ⟨_, rfl, h⟩
    · wp_walk using q1
      exact ⟨_, rfl, h⟩
theorem call_enum1 {prog : Program} {w : World} {A : Around} {E : Value → Shared → Prop} {s : Shared} {v : Value} {o : Obj} {H : Heap → Prop} {Q : Value → Shared → Prop} (B : Begins v o H) (h1 : H s.heap)
    (h : ∀ h', IsEnum h' (s.heap.objs.size + 1) s.heap.objs.size 0 .none → h'.get? s.heap.objs.size = some o → h'.objs.size = s.heap.objs.size + 2 →
      (∀ b o, s.heap.get? b = some o → h'.get? b = some o) → Q (.ref (s.heap.objs.size + 1)) { s with heap := h' }) :
    wpAny (model prog w) A (call (.type "enumerate") [v]) Q E s := by
  refine callType_new F.called_enumerate (by decide) (F.typeCall_enumerate_1 _) (F.newCall_enumerate_1 _) (fun obj => F.args_object_init_2 obj _) F.entry_enumerate_new (new_enum1 B) ⟨h1, ?_⟩
  have hz : (s.heap.push o).objs.size = s.heap.objs.size + 1 := Heap.size_push ..
  show _ ∧ _
  rw [hz]
  have he : IsEnum ((s.heap.push o).push { cls := .type "enumerate", data := .fields #[.none, .bool false, .ref s.heap.objs.size, rawInt 0, .none, .none] }) (s.heap.objs.size + 1) s.heap.objs.size 0 .none := by
    have := Heap.get?_push_size (s.heap.push o) (o := { cls := .type "enumerate", data := .fields #[.none, .bool false, .ref s.heap.objs.size, rawInt 0, .none, .none] }) rfl
    rw [hz] at this; exact this
  refine ⟨⟨_, he, rfl⟩, h _ he (Heap.get?_push_of_some _ (Heap.get?_push_size _ B.free)) (by rw [Heap.size_push, hz]) fun b o x => Heap.get?_push_of_some _ (Heap.get?_push_of_some _ x)⟩
def iEnumT (K : PySem.W.Frag) (ta : TA) : TI := fun σ H R => ta σ H fun vs H1 => ∃ a xs, vs = [.ref a] ∧ SqT K H1 a xs ∧ R (IteT K a) H1
theorem pi_enumT {X : Cx} {e : Expr} {ta : TA} {p pos tpos : Pos} {elts : List Expr} {kk : Nat} (hg : Gl X "enumerate") (hm : X.mg "enumerate" = none) (ha : PA X [e] ta) (hs : starEach [e] X.env = [(false, eval e X.env)] := by rfl) :
    PI X (.Tuple elts kk tpos) (.Call (.Name "enumerate" p) [e] [] pos) (iEnumT X.K ta) := by
  refine ⟨fun pins s σ H R I h => ?_⟩
  refine Call_ (ld_blt I hg hm boot_enumerate (PyProof.Rows.callWith_type1 (thn (ha.run pos pins s σ H _ I h) fun us s1 ⟨vs, H1, I1, r1, q1⟩ => ?_) hs rfl))
  obtain ⟨a, xs, ex, hq, q⟩ := q1
  subst ex
  cases r1 with
  | cons r rr =>
    cases rr
    cases r
    obtain ⟨its, rv, p', hz⟩ := I1.tuple hq
    refine call_enum1 (begins_tuple a its.toArray) p' fun h' he hit hsz hk => wpAny_pyIter_enum he ?_
    have I2 : Inv X pins σ H1 { s1 with heap := h' } := I1.kept (t' := s1.toks) hk
    refine ⟨s1.heap.objs.size + 1, [s1.heap.objs.size + 1, s1.heap.objs.size], _, _, H1, rfl, I2, turn_enumT a (s1.heap.objs.size + 1) s1.heap.objs.size, ⟨⟨.none, he⟩, ⟨_, hit, rfl, rfl⟩, Nat.succ_ne_self _⟩, fun b hb => ?_, q⟩
    have hle : s1.heap.objs.size ≤ b := by
      rcases (show b = s1.heap.objs.size + 1 ∨ b = s1.heap.objs.size by simpa using hb) with z | z
      · rw [z]; exact Nat.le_add_right _ _
      · rw [z]; exact Nat.le_refl _
    exact I1.fpOk hle (I1.hok.fresh hle)
theorem walk_enumT {K : PySem.W.Frag} {a : Addr} {xs : List V} : Walk (IteT K a) xs.length (fun H => SqT K H a xs) (YPair (fun i => some (.int (i : Nat))) (fun i => xs[i]?)) := by
  refine ⟨fun i _ hi q => ⟨xs, xs[i], q, by simp [hi]⟩, fun _ q => ⟨xs, q, Nat.le_refl _⟩, fun i H v H' _ q y => ?_⟩
  obtain ⟨T, x, h1, h2, h3, h4⟩ := y
  exact ⟨T, .int (i : Nat), x, h1, h2, h3, rfl, h4 xs q⟩
theorem walk_zipT {K : PySem.W.Frag} {a b : Addr} {xs ys : List V} {n : Nat} (hn : n = min xs.length ys.length) : Walk (RZ.ItzT K a b) n (fun H => SqT K H a xs ∧ SqT K H b ys) (YPair (fun i => xs[i]?) (fun i => ys[i]?)) := by
  subst hn
  refine ⟨fun i _ hi q => ?_, fun _ q => ⟨xs, ys, q.1, q.2, by omega⟩, fun i H v H' _ q y => ?_⟩
  · have h1 : i < xs.length := by omega
    have h2 : i < ys.length := by omega
    exact ⟨xs, ys, xs[i], ys[i], q.1, q.2, by simp [h1], by simp [h2]⟩
  · obtain ⟨T, x, z, h1, h2, h3, h4, h5⟩ := y
    exact ⟨T, x, z, h1, h2, h3, h4 xs q.1, h5 ys q.2⟩
/-! sum of a tuple of ints -/
theorem sum_tup {prog : Program} {w : World} {A : Around} {E : Value → Shared → Prop} {s : Shared} {l : Addr} {its : List Value} {ns : List Int} {Q : Value → Shared → Prop} (hh : A.handled = none) (hl : s.heap.IsTuple l its.toArray) (hi : IntsAre its ns)
    (h : ∀ h' tk t', (∀ b o, s.heap.get? b = some o → h'.get? b = some o) → Q (.int ns.sum t') { s with heap := h', toks := tk }) : wpAny (model prog w) A (call (.builtin "sum") [.ref l]) Q E s := by
  obtain ⟨xs, e⟩ := hi.allInts.items
  have hn : numsOf (intItems xs).toList = ns := by rw [← e]; exact hi.numsOf
  rw [nums_intItems] at hn
  rw [e] at hl
  have hlz : l < s.heap.objs.size := by obtain ⟨_, q, _⟩ := id hl; exact Heap.lt_size q
  have kp : ∀ b o, s.heap.get? b = some o → (s.heap.push { cls := .type "tuple_iterator", data := .fields #[.ref l, .int 0 0] }).get? b = some o := fun b o q => Heap.get?_push_of_some _ q
  refine call_sum_walkG (wpAny_pyIter_tuple hl ?_)
  refine ⟨s.heap.objs.size, [s.heap.objs.size, l], [s.heap.objs.size], (intItems xs).size, _, _, numAt xs, rfl, Walks.tuple (A := A.in1) hh s.heap.objs.size l (Nat.ne_of_lt hlz) (intItems xs),
    ⟨⟨_, Heap.get?_push_size _ rfl, rfl, rfl⟩, hl.at fun o q => kp l o q⟩, fun b hb => ?_, fun _ _ => intItems_at, fun h' tk t' hk => ?_⟩
  · rw [Heap.size_push]
    rcases (show b = s.heap.objs.size ∨ b = l by simpa using hb) with rfl | rfl
    · exact Nat.lt_succ_self _
    · exact Nat.lt_succ_of_lt hlz
  · have := h h' tk t' fun b o q => hk b o (by
      have : b < s.heap.objs.size := Heap.lt_size q
      simp only [List.mem_singleton]
      exact Nat.ne_of_lt this) (kp b o q)
    have ez : (intItems xs).size = xs.size := by simp [intItems]
    rw [ez, preSum_eq, List.take_of_length_le (by simp), hn]
    exact this
def rSumT (K : PySem.W.Frag) : List V → Hp → VK → Prop := fun vs H Q => ∃ (a : Addr) (ns : List Int), vs = [V.ref a] ∧ SqT K H a (ns.map V.int) ∧ Q (.int ns.sum) H
theorem cr_sumT {X : Cx} (hc : X.calm = true) : CallR X (.builtin "sum") (rSumT X.K) := by
  intro pins s σ H vs us Q I r h
  obtain ⟨a, ns, rfl, hs, q⟩ := h
  obtain ⟨its, rv, hl, _⟩ := I.tuple hs
  rw [Vals.ref1 r]
  exact sum_tup (I.ok.hd hc) hl rv.ints fun h' tk t' hk => ⟨.int _, H, I.kept hk, ⟨_, rfl⟩, q⟩
/-! a tuple times 1 -/
theorem tuple_mul1 (l : Addr) (items : Array Value) (n : Nat) (dd : Option Addr) (sl : Array (Option Value)) (u : Tok) :
    Meets (Builtin.«tuple.__mul__» ⟨[.ref l, .int 1 u], []⟩) (fun _ R s => s.heap.get? l = some { cls := .type "tuple", dict := dd, data := .seq items n, slots := sl } ∧ R (.ok (.ret (.ref l))) s) :=
  .of_wp fun prog w A R s h => by
    obtain ⟨hp, g, d, tk, os⟩ := s
    obtain ⟨hl, h⟩ := h
    have f1 := AutoSeq1.idx_int
    wp_walk using wpAny_loadPart' hl
    repeat (first
      | (refine wpAny_ite_false (decide_eq_false (by decide)) ?_; wp_walk using wpAny_loadPart' hl)
      | (refine wpAny_ite_true (decide_eq_true (by simp)) ?_; wp_walk using wpAny_loadPart' hl))
    exact ⟨_, rfl, h⟩
def rRep1 (K : PySem.W.Frag) : R2 := fun x y H Q => ∃ l xs, x = .ref l ∧ y = .int 1 ∧ SqT K H l xs ∧ Q (.ref l) H
theorem op_rep1 {X : Cx} : OpR X (binaryOp .Mult) (rRep1 X.K) := by
  intro pins s σ H x y v u Q I rx ry h
  obtain ⟨l, xs, rfl, rfl, hT, q⟩ := h
  cases rx
  obtain ⟨t, rfl⟩ := ry
  obtain ⟨its, r, ⟨⟨cls, dd, data, sl⟩, ho, hc, n, hd⟩, hs⟩ := I.tuple hT
  simp only at hc hd
  subst hc hd
  refine wpAny_binaryOp_repeat_ref (T := "tuple") (U := "int") (by decide) ⟨_, ho, rfl⟩ (fun s' => typeIs_int s' 1 t) noFill_tuple_mul F.fills_int_mul F.slot_int_rmul repeat_tuple F.slot_int_index.lookup
    (call_meets F.slot_int_rmul (typeIs_int s 1 t) F.entry_int_rmul (F.args_int_rmul_2 _ _) (int_rmul_tuple 1 t l its.toArray n dd sl)
      ⟨ho, rfl, ⟨_, ho, rfl⟩, call_meets F.slot_tuple_mul ⟨_, ho, rfl⟩ F.entry_tuple_mul (F.args_tuple_mul_2 _ _) (tuple_mul1 l its.toArray n dd sl t) ⟨ho, ?_⟩⟩)
  exact ⟨.ref l, H, I, rfl, q⟩
/-- a tuple times k, k at least 1 -/
def rRepA (K : PySem.W.Frag) : R2 := fun x y H Q => rRepT K x y H Q ∨ rRep1 K x y H Q
theorem op_repA {X : Cx} : OpR X (binaryOp .Mult) (rRepA X.K) := op_repT.or op_rep1
/-- (z,) * n -/
theorem rep_one {K : PySem.W.Frag} {H : Hp} {l : Addr} {z : V} {n : Nat} {Q : VK} (h1 : 1 ≤ n) (h2 : n ≤ 1000) (hl : H l = some (.tup [z]))
    (q : ∀ p H', Same H H' → H' p = some (.tup (List.replicate n z)) → Q (.ref p) H') : rRepA K (.ref l) (.int (n : Int)) H Q := by
  by_cases e : n = 1
  · subst e
    exact .inr ⟨l, [z], rfl, rfl, .inl (.inl hl), q l H (Same.refl H) hl⟩
  · refine .inl ⟨l, n, [z], rfl, rfl, .inl (.inl hl), by simp, by omega, by omega, by simp, fun p np => q p _ (fun b o e => ?_) ?_⟩
    · rw [upd_ne (ne_of_none e np)]
      exact e
    · rw [upd_same, Int.toNat_natCast]
      congr 2
      exact List.flatten_replicate_singleton
end JN

namespace JN
/-! ### lists of ints, place by place -/
def mxI (x y : Int) : Int := if y > x then y else x
def mnI (x y : Int) : Int := if y < x then y else x
def ctI (x y : Int) : Int := if 0 > x - y then 0 else x - y
abbrev at0 (l : List Int) (i : Nat) : Int := l.getD i 0
theorem at0_get {l : List Int} {i : Nat} (h : i < l.length) : l[i]? = some (at0 l i) := by
  rw [List.getElem?_eq_getElem h, at0, List.getD_eq_getElem?_getD, List.getElem?_eq_getElem h]
  rfl
theorem ext0 {l m : List Int} (hl : l.length = m.length) (h : ∀ i, i < l.length → at0 l i = at0 m i) : l = m := by
  apply List.ext_getElem hl
  intro i h1 h2
  have := h i h1
  have a := at0_get h1
  have b := at0_get h2
  rw [List.getElem?_eq_getElem h1] at a
  rw [List.getElem?_eq_getElem h2] at b
  rw [Option.some.inj a, Option.some.inj b, this]
theorem zw_len {g : Int → Int → Int} {l m : List Int} (hl : l.length = m.length) : (List.zipWith g l m).length = l.length := by
  rw [List.length_zipWith]; omega
theorem zw_at {g : Int → Int → Int} {l m : List Int} {i : Nat} (h1 : i < l.length) (h2 : i < m.length) : at0 (List.zipWith g l m) i = g (at0 l i) (at0 m i) := by
  have a := at0_get h1
  have b := at0_get h2
  rw [at0, List.getD_eq_getElem?_getD, List.getElem?_zipWith, a, b]
  rfl
theorem eq_iff0 {l m : List Int} (hl : l.length = m.length) : l = m ↔ ∀ i, i < l.length → at0 l i = at0 m i :=
  ⟨fun e i _ => by rw [e], ext0 hl⟩
/-- a divides b -/
def dvdI (l m : List Int) : Bool := (List.zipWith (fun x y => decide (x ≤ y)) l m).all id
theorem dvdI_iff : ∀ {l m : List Int}, l.length = m.length → (dvdI l m = true ↔ ∀ i, i < l.length → at0 l i ≤ at0 m i)
  | [], [], _ => by simp [dvdI]
  | a :: l, [], h => by simp at h
  | [], b :: m, h => by simp at h
  | a :: l, b :: m, h => by
    have hl : l.length = m.length := by simpa using h
    have ih := dvdI_iff hl
    constructor
    · intro hd i hi
      simp only [dvdI, List.zipWith_cons_cons, List.all_cons, Bool.and_eq_true, id, decide_eq_true_eq] at hd
      cases i with
      | zero => exact hd.1
      | succ i =>
        have := ih.mp hd.2 i (by simpa using hi)
        simpa [at0] using this
    · intro hd
      simp only [dvdI, List.zipWith_cons_cons, List.all_cons, Bool.and_eq_true, id, decide_eq_true_eq]
      refine ⟨by simpa [at0] using hd 0 (by simp), ih.mpr fun i hi => ?_⟩
      have := hd (i + 1) (by simpa using hi)
      simpa [at0] using this
/-- the places below n that p tells, as ints -/
def selI (p : Nat → Bool) (n : Nat) : List Int := (List.range n).filterMap fun i => if p i then some (i : Int) else none
theorem selI_nil {p : Nat → Bool} {n : Nat} : selI p n = [] ↔ ∀ i, i < n → p i = false := by
  unfold selI
  rw [List.filterMap_eq_nil_iff]
  constructor
  · intro h i hi
    have := h i (List.mem_range.mpr hi)
    cases hp : p i with
    | false => rfl
    | true => rw [hp] at this; simp at this
  · intro h i hi
    rw [h i (List.mem_range.mp hi)]
    rfl
theorem fm_congr {α β : Type} {f g : α → Option β} : ∀ {l : List α}, (∀ x ∈ l, f x = g x) → l.filterMap f = l.filterMap g
  | [], _ => rfl
  | a :: l, h => by
    have e := fm_congr fun x hx => h x (List.mem_cons_of_mem a hx)
    rw [List.filterMap_cons, List.filterMap_cons, h a List.mem_cons_self, e]
theorem selI_congr {p q : Nat → Bool} {n : Nat} (h : ∀ i, i < n → p i = q i) : selI p n = selI q n := by
  unfold selI
  exact fm_congr fun i hi => by rw [h i (List.mem_range.mp hi)]
theorem dvd_sel {l m : List Int} {n : Nat} (h1 : l.length = n) (h2 : m.length = n) : decide (selI (fun j => decide (at0 m j < at0 l j)) n = []) = dvdI l m := by
  rw [Bool.eq_iff_iff, decide_eq_true_iff, selI_nil, dvdI_iff (h1.trans h2.symm), h1]
  constructor
  · intro h i hi
    have := of_decide_eq_false (h i hi)
    omega
  · intro h i hi
    have := h i hi
    exact decide_eq_false (by omega)
theorem dvd_lcm {l m : List Int} (h : l.length = m.length) : decide (List.zipWith mxI l m = m) = dvdI l m := by
  rw [Bool.eq_iff_iff, decide_eq_true_iff, dvdI_iff h, eq_iff0 ((zw_len h).trans h), zw_len h]
  constructor
  · intro e i hi
    have := e i hi
    rw [zw_at hi (h ▸ hi), mxI] at this
    split at this <;> omega
  · intro e i hi
    have := e i hi
    rw [zw_at hi (h ▸ hi), mxI]
    split <;> omega
theorem dvd_gcd {l m : List Int} (h : l.length = m.length) : decide (List.zipWith mnI l m = l) = dvdI l m := by
  rw [Bool.eq_iff_iff, decide_eq_true_iff, dvdI_iff h, eq_iff0 (zw_len h), zw_len h]
  constructor
  · intro e i hi
    have := e i hi
    rw [zw_at hi (h ▸ hi), mnI] at this
    split at this <;> omega
  · intro e i hi
    have := e i hi
    rw [zw_at hi (h ▸ hi), mnI]
    split <;> omega
theorem rep_at {n i : Nat} {z : Int} (h : i < n) : at0 (List.replicate n z) i = z := by
  rw [at0, List.getD_eq_getElem?_getD, List.getElem?_replicate, if_pos h]
  rfl
theorem dvd_cut {l m : List Int} (h : l.length = m.length) : decide (List.zipWith ctI l m = List.replicate l.length 0) = dvdI l m := by
  rw [Bool.eq_iff_iff, decide_eq_true_iff, dvdI_iff h, eq_iff0 ((zw_len h).trans List.length_replicate.symm), zw_len h]
  constructor
  · intro e i hi
    have := e i hi
    rw [zw_at hi (h ▸ hi), ctI, rep_at hi] at this
    split at this <;> omega
  · intro e i hi
    have := e i hi
    rw [zw_at hi (h ▸ hi), ctI, rep_at hi]
    split <;> omega
theorem zw_comm {g : Int → Int → Int} (hg : ∀ x y, g x y = g y x) {l m : List Int} (h : l.length = m.length) : List.zipWith g l m = List.zipWith g m l := by
  refine ext0 ((zw_len h).trans (h.trans (zw_len h.symm).symm)) fun i hi => ?_
  rw [zw_len h] at hi
  rw [zw_at hi (h ▸ hi), zw_at (h ▸ hi) hi, hg]
theorem mx_comm (x y : Int) : mxI x y = mxI y x := by unfold mxI; split <;> split <;> omega
theorem mn_comm (x y : Int) : mnI x y = mnI y x := by unfold mnI; split <;> split <;> omega
theorem cut_times {l m : List Int} (h : l.length = m.length) : List.zipWith (· + ·) (List.zipWith ctI l m) (List.zipWith mnI l m) = l := by
  have h1 := zw_len (g := ctI) h
  have h2 := zw_len (g := mnI) h
  refine ext0 (by rw [zw_len (h1.trans h2.symm), h1]) fun i hi => ?_
  rw [zw_len (h1.trans h2.symm), h1] at hi
  rw [zw_at (h1 ▸ hi) (h2 ▸ hi), zw_at hi (h ▸ hi), zw_at hi (h ▸ hi), ctI, mnI]
  split <;> split <;> omega
theorem lcm_times {l m : List Int} (h : l.length = m.length) : List.zipWith (· + ·) (List.zipWith mxI l m) (List.zipWith mnI l m) = List.zipWith (· + ·) l m := by
  have h1 := zw_len (g := mxI) h
  have h2 := zw_len (g := mnI) h
  refine ext0 (by rw [zw_len (h1.trans h2.symm), h1, zw_len h]) fun i hi => ?_
  rw [zw_len (h1.trans h2.symm), h1] at hi
  rw [zw_at (h1 ▸ hi) (h2 ▸ hi), zw_at hi (h ▸ hi), zw_at hi (h ▸ hi), zw_at hi (h ▸ hi), mxI, mnI]
  split <;> split <;> omega
/-- what a comprehension over range(n) or zip makes, as zipWith -/
theorem range_zip {g : Int → Int → Int} {l m : List Int} {n : Nat} (hn : n = min l.length m.length) : (List.range n).map (fun i => g (at0 l i) (at0 m i)) = List.zipWith g l m := by
  refine ext0 (by rw [List.length_map, List.length_range, List.length_zipWith, hn]) fun i hi => ?_
  rw [List.length_map, List.length_range] at hi
  rw [zw_at (by omega) (by omega)]
  simp [at0, hi]
theorem fm_some {α β : Type} {f : α → Option β} {g : α → β} {l : List α} (h : ∀ x ∈ l, f x = some (g x)) : l.filterMap f = l.map g := by
  induction l with
  | nil => rfl
  | cons a l ih =>
    rw [List.filterMap_cons_some (h a List.mem_cons_self), List.map_cons, ih fun x hx => h x (List.mem_cons_of_mem _ hx)]
theorem fm_succ {β : Type} (f : Nat → Option β) (i : Nat) : (List.range (i + 1)).filterMap f = (List.range i).filterMap f ++ (f i).toList := by
  rw [List.range_succ, List.filterMap_append]
  congr 1
theorem fm_len {β : Type} (f : Nat → Option β) (i : Nat) : ((List.range i).filterMap f).length ≤ i := by
  have := List.length_filterMap_le f (List.range i)
  rw [List.length_range] at this
  exact this
end JN

set_option maxRecDepth 100000
set_option maxHeartbeats 4000000
namespace JN
open PySem PySem.Spec PyProof.Rows L2
/-! ### heaps that grow -/
/-- what was tracked is as it was, but for the places in S -/
def Kp (S : List Addr) (H H' : Hp) : Prop := ∀ b o, H b = some o → b ∉ S → H' b = some o
theorem Kp.refl {S : List Addr} (H : Hp) : Kp S H H := fun _ _ h _ => h
theorem Kp.trans {S : List Addr} {H H1 H2 : Hp} (a : Kp S H H1) (b : Kp S H1 H2) : Kp S H H2 := fun c o h n => b c o (a c o h n) n
theorem Kp.of {S : List Addr} {H H' : Hp} (a : Same H H') : Kp S H H' := fun b o h _ => a b o h
theorem Kp.none {S : List Addr} {H H' : Hp} (a : Kp S H H') {p : Addr} (n : p ∉ S) (h : H' p = Option.none) : H p = Option.none := by
  cases q : H p with
  | none => rfl
  | some o => rw [a p o q n] at h; cases h
theorem Kp.upd {S : List Addr} {H H1 : Hp} {d : Addr} {o : HO} (a : Kp S H H1) (m : d ∈ S) : Kp S H (upd H1 d o) := fun b q h n => by
  rw [upd_ne (fun e => by subst e; exact n m)]
  exact a b q h n
theorem same_new {H : Hp} {p : Addr} {o : HO} (h : H p = none) : Same H (upd H p o) := fun b x e => by
  rw [upd_ne (ne_of_none e h)]
  exact e
section
variable {K : PySem.W.Frag} {H H' : Hp} {a : Addr} {xs : List V}
theorem Same.tup (e : Same H H') (h : SqT K H a xs) : SqT K H' a xs := by
  rcases h with (h | ⟨o, h⟩) | h
  · exact .inl (.inl (e _ _ h))
  · exact .inl (.inr ⟨o, e _ _ h⟩)
  · exact .inr h
theorem Kp.tup {S : List Addr} (e : Kp S H H') (n : a ∉ S) (h : SqT K H a xs) : SqT K H' a xs := by
  rcases h with (h | ⟨o, h⟩) | h
  · exact .inl (.inl (e _ _ h n))
  · exact .inl (.inr ⟨o, e _ _ h n⟩)
  · exact .inr h
theorem Kp.seq {S : List Addr} (e : Kp S H H') (n : a ∉ S) (h : SqL K H a xs) : SqL K H' a xs := by
  rcases h with (h | ⟨o, h⟩) | h
  · exact .inl (.inl (e _ _ h n))
  · exact .inl (.inr ⟨o, e _ _ h n⟩)
  · exact .inr h
theorem sqt_new {o : List V} : SqT K (upd H a (.tup o)) a o := .inl (.inl upd_same)
theorem sql_new {o : List V} : SqL K (upd H a (.lst o)) a o := .inl (.inl upd_same)
/-! ### tuples and lists of ints compared -/
theorem dp_ints : ∀ ns : List Int, DpAll K H (ns.map V.int) (ns.map PyData.int)
  | [] => .nil
  | n :: ns => .cons (.int n) (dp_ints ns)
theorem dp_tup {ns : List Int} (h : SqT K H a (ns.map V.int)) : Dp K H (.ref a) (.tuple (ns.map PyData.int)) := .tup h (dp_ints ns)
theorem dp_lst {ns : List Int} (h : SqL K H a (ns.map V.int)) : Dp K H (.ref a) (.list (ns.map PyData.int)) := .lst h (dp_ints ns)
theorem eqv_ints : ∀ ns ms : List Int, PyData.eqvAll (ns.map PyData.int) (ms.map PyData.int) = decide (ns = ms)
  | [], [] => by simp [PyData.eqvAll]
  | [], m :: ms => by simp [PyData.eqvAll]
  | n :: ns, [] => by simp [PyData.eqvAll]
  | n :: ns, m :: ms => by
    have ih := eqv_ints ns ms
    rw [List.map_cons, List.map_cons]
    unfold PyData.eqvAll
    rw [ih, Bool.eq_iff_iff]
    simp [PyData.eqv]
theorem eqv_tup (ns ms : List Int) : PyData.eqv (.tuple (ns.map PyData.int)) (.tuple (ms.map PyData.int)) = decide (ns = ms) := by
  unfold PyData.eqv
  exact eqv_ints ns ms
theorem eqv_lst (ns ms : List Int) : PyData.eqv (.list (ns.map PyData.int)) (.list (ms.map PyData.int)) = decide (ns = ms) := by
  unfold PyData.eqv
  exact eqv_ints ns ms
theorem lay_ints : ∀ ns : List Int, PyData.canLayAll0 (ns.map PyData.int) = true
  | [] => by simp [PyData.canLayAll0]
  | n :: ns => by
    have ih := lay_ints ns
    rw [List.map_cons]
    unfold PyData.canLayAll0
    rw [ih]
    simp [PyData.canLay0]
theorem deep_ints : ∀ ns : List Int, PyData.depthAll (ns.map PyData.int) = 0
  | [] => by simp [PyData.depthAll]
  | n :: ns => by
    have ih := deep_ints ns
    rw [List.map_cons]
    unfold PyData.depthAll
    rw [ih]
    simp [PyData.depth]
theorem sh_tup (ns : List Int) : SeqAt.shaped (.tuple (ns.map PyData.int)) = true := by
  unfold SeqAt.shaped PyData.canLay0 PyData.depth
  rw [lay_ints, deep_ints]
  decide
theorem sh_lst (ns : List Int) : SeqAt.shaped (.list (ns.map PyData.int)) = true := by
  unfold SeqAt.shaped PyData.canLay0 PyData.depth
  rw [lay_ints, deep_ints]
  decide
/-- t == u of two tuples of ints -/
theorem eq_tup {b : Addr} {ns ms : List Int} {Q : VK} (h1 : SqT K H a (ns.map V.int)) (h2 : SqT K H b (ms.map V.int)) (q : Q (.bl (decide (ns = ms))) H) : rEqD K (.ref a) (.ref b) H Q :=
  ⟨_, _, dp_tup h1, dp_tup h2, sh_tup _, sh_tup _, by rw [eqv_tup]; exact q⟩
theorem ne_tup {b : Addr} {ns ms : List Int} {Q : VK} (h1 : SqT K H a (ns.map V.int)) (h2 : SqT K H b (ms.map V.int)) (q : Q (.bl (!decide (ns = ms))) H) : rNeD K (.ref a) (.ref b) H Q :=
  ⟨_, _, dp_tup h1, dp_tup h2, sh_tup _, sh_tup _, by rw [eqv_tup]; exact q⟩
theorem eq_lst {b : Addr} {ns ms : List Int} {Q : VK} (h1 : SqL K H a (ns.map V.int)) (h2 : SqL K H b (ms.map V.int)) (q : Q (.bl (decide (ns = ms))) H) : rEqD K (.ref a) (.ref b) H Q :=
  ⟨_, _, dp_lst h1, dp_lst h2, sh_lst _, sh_lst _, by rw [eqv_lst]; exact q⟩
theorem ne_lst {b : Addr} {ns ms : List Int} {Q : VK} (h1 : SqL K H a (ns.map V.int)) (h2 : SqL K H b (ms.map V.int)) (q : Q (.bl (!decide (ns = ms))) H) : rNeD K (.ref a) (.ref b) H Q :=
  ⟨_, _, dp_lst h1, dp_lst h2, sh_lst _, sh_lst _, by rw [eqv_lst]; exact q⟩
/-- an item in bounds -/
theorem it0 {ns : List Int} {i : Nat} (h : i < ns.length) : (ns.map V.int)[i]? = some (.int (at0 ns i)) := by
  rw [List.getElem?_map, at0_get h]
  rfl
theorem ix0 {ns : List Int} {i : Nat} (h : i < ns.length) : atI (ns.map V.int) (i : Int) = some (.int (at0 ns i)) := atI_nat (it0 h)
end
/-! ### a comprehension that only makes new things: f tells what turn i gives, if it gives anything -/
theorem lc_keep {J : It} {n : Nat} {G : Hp → Prop} {Y : Nat → Hp → V → Hp → Prop} (w : Walk J n G Y) {g : TG} {tt : TT} {te : TE} {vs : List Nat} {σ : L2.St} {H1 : Hp} {D : Addr} {Qd : Hp → Prop}
    (f : Nat → Option V) (nD : H1 D = none) (hn : n < sizeLine) (hG : ∀ H, Same H1 H → G H)
    (hs : ∀ i x H H' (P1 : V → Hp → Prop) (P0 : Hp → Prop), i < n → Same H1 H → Y i H x H' → (∀ y H4, f i = some y → Same H H4 → P1 y H4) → (∀ H4, f i = none → Same H H4 → P0 H4) →
      g x (wipe σ vs) H' fun σ2 H2 => wipe σ2 vs = wipe σ vs ∧ tt σ2 H2 fun b H3 => if b = true then te σ2 H3 P1 else P0 H3)
    (hd : ∀ H, Same H1 H → H D = some (.lst ((List.range n).filterMap f)) → Qd H) :
    ∃ W : Nat → Nat → Hp → Prop, (∃ m, W 0 m (upd H1 D (.lst []))) ∧ ∀ i m H, W i m H →
      (J.stop i H ∧ Qd H) ∨ (J.go i H ∧ ∃ Nx : Hp → Prop, (∀ H', Nx H' → ∃ m', m' < m ∧ W (i + 1) m' H') ∧ ∀ x H', J.yld i H x H' → g x (wipe σ vs) H' fun σ2 H2 => wipe σ2 vs = wipe σ vs ∧ tt σ2 H2 fun b H3 =>
        if b = true then te σ2 H3 fun y H4 => ∃ acc, H4 D = some (.lst acc) ∧ acc.length < sizeLine ∧ Nx (upd H4 D (.lst (acc ++ [y]))) else Nx H3) := by
  refine lc_it w (fun i H => Same H1 H ∧ H D = some (.lst ((List.range i).filterMap f))) ⟨same_new nD, upd_same⟩ (fun i H _ h => hG H h.1) (fun i x H H' hi h y => ?_) (fun H h => hd H h.1 h.2)
  obtain ⟨s1, eD⟩ := h
  refine hs i x H H' _ _ hi s1 y (fun z H4 ez s4 => ⟨_, s4 _ _ eD, Nat.lt_of_le_of_lt (fm_len f i) (Nat.lt_trans hi hn), ⟨fun b o e => ?_, ?_⟩⟩) (fun H4 ez s4 => ⟨s1.trans s4, ?_⟩)
  · rw [upd_ne (ne_of_none e nD)]
    exact s4 _ _ (s1 _ _ e)
  · rw [upd_same, fm_succ, ez]
    rfl
  · rw [s4 _ _ eD, fm_succ, ez, Option.toList_none, List.append_nil]
/-- the same, every turn gives an int -/
theorem fm_ints {f : Nat → Option V} {g : Nat → Option Int} {n : Nat} (h : ∀ i, i < n → f i = (g i).map V.int) : (List.range n).filterMap f = ((List.range n).filterMap g).map V.int := by
  rw [List.map_filterMap]
  exact fm_congr fun i hi => h i (List.mem_range.mp hi)
/-! ### the state of the draws -/
def mS (l s : Int) (c : Addr) (p : Int) : List (Key × V) := [(.inr "left", .int l), (.inr "seed", .int s), (.inr "cells", .ref c), (.inr "spot", .int p)]
theorem kls : ¬ (("left" : Str) = "seed") := by decide +kernel
theorem klc : ¬ (("left" : Str) = "cells") := by decide +kernel
theorem klp : ¬ (("left" : Str) = "spot") := by decide +kernel
theorem ksc : ¬ (("seed" : Str) = "cells") := by decide +kernel
theorem ksp : ¬ (("seed" : Str) = "spot") := by decide +kernel
theorem kcp : ¬ (("cells" : Str) = "spot") := by decide +kernel
section
variable {l s z : Int} {c : Addr} {p : Int}
theorem mS_left : valV (mS l s c p) (.inr "left") = some (.int l) := by simp [valV, mS]
theorem mS_seed : valV (mS l s c p) (.inr "seed") = some (.int s) := by simp [valV, mS, kls]
theorem mS_cells : valV (mS l s c p) (.inr "cells") = some (.ref c) := by simp [valV, mS, klc, ksc]
theorem mS_spot : valV (mS l s c p) (.inr "spot") = some (.int p) := by simp [valV, mS, klp, ksp, kcp]
theorem mS_put_left : putK (mS l s c p) (.inr "left") (.int z) = mS z s c p := by simp [putK, mS, Ne.symm kls, Ne.symm klc, Ne.symm klp]
theorem mS_put_spot : putK (mS l s c p) (.inr "spot") (.int z) = mS l s c z := by simp [putK, mS, klp, ksp, kcp]
end
/-- the draws' state stands at d, its cells at c, at most n drawn so far -/
def Drw (H : Hp) (d c : Addr) (n : Nat) : Prop := ∃ (l s : Int) (p : Int) (cs : List Int), H d = some (.dK (mS l s c p)) ∧ H c = some (.lst (cs.map V.int)) ∧ c ≠ d ∧ cs ≠ [] ∧ cs.length ≤ 1000 ∧ 0 ≤ s ∧ s < 2147483647 ∧ 0 ≤ p ∧ p ≤ n
theorem Drw.same {H H' : Hp} {d c : Addr} {n m : Nat} (D : Drw H d c n) (e : Same H H') (h : n ≤ m) : Drw H' d c m := by
  obtain ⟨l, s, p, cs, h1, h2, h3, h4, h5, h6, h7, h8, h9⟩ := D
  exact ⟨l, s, p, cs, e _ _ h1, e _ _ h2, h3, h4, h5, h6, h7, h8, by omega⟩
theorem Drw.put {H : Hp} {d c D : Addr} {o : HO} {n : Nat} (h : Drw H d c n) (n1 : D ≠ d) (n2 : D ≠ c) : Drw (upd H D o) d c n := by
  obtain ⟨l, s, p, cs, h1, h2, h3⟩ := h
  exact ⟨l, s, p, cs, by rw [upd_ne n1.symm]; exact h1, by rw [upd_ne n2.symm]; exact h2, h3⟩
theorem Drw.ne {H : Hp} {d c D : Addr} {n : Nat} (h : Drw H d c n) (e : H D = none) : D ≠ d ∧ D ≠ c := by
  obtain ⟨l, s, p, cs, h1, h2, h3⟩ := h
  exact ⟨(ne_of_none h1 e).symm, (ne_of_none h2 e).symm⟩
theorem Drw.tup {K : PySem.W.Frag} {H : Hp} {d c a : Addr} {n : Nat} {xs : List V} (h : Drw H d c n) (e : SqT K H a xs) (hk : K.lookup d = none) : a ≠ d := fun z => by
  obtain ⟨l, s, p, cs, h1, h2, h3⟩ := h
  subst z
  rcases e with (e | ⟨o, e⟩) | ⟨o, its, n, e, _⟩
  · rw [h1] at e; cases e
  · rw [h1] at e; cases e
  · rw [hk] at e; cases e
/-- _law_draw(m, below) -/
def spDraw : Sp := fun vs H Q _ => ∃ (d c : Addr) (below : Int) (n : Nat), vs = [.ref d, .int below] ∧ Drw H d c n ∧ n ≤ 1000000 ∧ 1 ≤ below ∧ below < 1073741824 ∧
  ∀ (r : Int) (H' : Hp), 0 ≤ r → r < below → Kp [d] H H' → Drw H' d c (n + 1) → Q (.int r) H'
/-- _law_of(m, some) -/
def spOf (K : PySem.W.Frag) : Sp := fun vs H Q _ => ∃ (d c l : Addr) (xs : List V) (n : Nat), vs = [.ref d, .ref l] ∧ Drw H d c n ∧ n ≤ 1000000 ∧ SqL K H l xs ∧ l ≠ d ∧ xs ≠ [] ∧ xs.length ≤ 1000 ∧
  ∀ (v : V) (H' : Hp), v ∈ xs → Kp [d] H H' → Drw H' d c (n + 1) → Q v H'
/-- _law_begun(script, k) -/
def spBegun (K : PySem.W.Frag) : Sp := fun vs H Q _ => ∃ (a : Addr) (ns : List Int) (k : Int), vs = [.ref a, .int k] ∧ SqL K H a (ns.map V.int) ∧ ns.length ≤ 63 ∧ 0 ≤ k ∧ k ≤ 100 ∧
  ∀ (d c : Addr) (H' : Hp), Same H H' → H d = none → H c = none → Drw H' d c 0 → Q (.ref d) H'
end JN

set_option maxRecDepth 100000
set_option maxHeartbeats 4000000
namespace JN
open PySem PySem.Spec PyProof.Rows L2
def topS (i : Nat) : Stmt := PySem.Challenge.pw_jointneeds_k00_monomials.main.body.getD i (.Pass ⟨0, 0, 0, 0⟩)
abbrev sBegun : Stmt := topS 9
abbrev sDraw : Stmt := topS 10
abbrev sOf : Stmt := topS 11
section
variable {P : Program} {w : World} {K : PySem.W.Frag} {mg : Str → Option Value} {base : Heap}
/-- the built-in names that the text uses are free -/
structure Bt (mg : Str → Option Value) : Prop where
  int : mg "int" = none
  len : mg "len" = none
theorem scDraw : FnScope ["m", "below", "found", "spot", "cells", "extra", "cell", "blend"] ["m", "below"] (defScope sDraw) := ⟨rfl, rfl, rfl, by decide +kernel, rfl, by decide +kernel, by decide +kernel⟩
theorem ok_draw {f : Addr} {fd : FuncData} (F : Fun K "_law_draw" "_law_draw" sDraw f fd) (B : Bt mg) : FnOk P w K mg base CX0 1 f fd ["m", "below"] spDraw := by
  refine F.ok scDraw (fun vs H Q E h => ?_) (fun cdv A outer s H vs Q E hr h => ?_)
  · obtain ⟨d, c, below, n, rfl, _⟩ := h
    rfl
  · obtain ⟨d, c, below, n, rfl, ⟨l, sd, p, cs, h1, h2, h3, h4, h5, h6, h7, h8, h9⟩, hn, hb1, hb2, q⟩ := h
    have hu := hu_of hr
    have nd := scDraw.nd
    refine ⟨_, pss_cons (ps_if (pt_cmpR op_gt (pe_dget hu (pv 0) pe_str (fun _ _ => rfl)) pe_int (nomark _))
        (pss_cons (ps_set (i := 2) nd rfl (.inl rfl) (pe_op op_mod (pe_callTy call_int1 (by rfl) B.int (by decide +kernel) (pa_cons (pe_dget hu (pv 0) pe_str (fun _ _ => rfl)) pa_nil)) (pv 1)))
        (pss_cons (ps_dput hu (pv 0) pe_str (pe_op op_fdiv (pe_dget hu (pv 0) pe_str (fun _ _ => rfl)) (pv 1)) rfl)
        (pss_one (ps_ret (pv 2))))) pss_nil)
      (pss_cons (ps_set (i := 3) nd rfl (.inl rfl) (pe_dget hu (pv 0) pe_str (fun _ _ => rfl)))
      (pss_cons (ps_dput hu (pv 0) pe_str (pe_op op_add (pv 3) pe_int) rfl)
      (pss_cons (ps_par (i := 4) (j := 5) (by rfl) nd rfl rfl (by decide) rfl rfl (pa_cons (pe_dget hu (pv 0) pe_str (fun _ _ => rfl))
          (pa_cons (pe_op op_add (pe_dget hu (pv 0) pe_str (fun _ _ => rfl)) (pe_op op_mul (pe_op op_mul pe_int (pv 3)) (pv 3))) pa_nil)) (by rfl))
      (pss_cons (ps_set (i := 6) nd rfl (.inl rfl) (pe_ix ix_list (pv 4) (pe_op op_mod (pe_callTy call_int1 (by rfl) B.int (by decide +kernel) (pa_cons (pv 3) pa_nil))
          (pe_callB call_len_seq (by rfl) B.len PySem.boot_len (pa_cons (pv 4) pa_nil))) (fun _ _ => rfl)))
      (pss_cons (ps_set (i := 7) nd rfl (.inl rfl) (pe_op op_mod (pe_callTy call_int1 (by rfl) B.int (by decide +kernel)
          (pa_cons (pe_op op_add (pe_op op_mul (pv 6) (pe_op op_add (pe_op op_mul pe_int (pv 3)) pe_int)) (pv 5)) pa_nil)) pe_int))
      (pss_cons (ps_set (i := 7) nd rfl (.inl rfl) (pe_op op_mod (pe_callTy call_int1 (by rfl) B.int (by decide +kernel)
          (pa_cons (pe_op op_add (pe_op op_add (pe_op op_mul (pv 7) (pv 7)) (pe_op op_mul pe_int (pv 3))) (pe_dget hu (pv 0) pe_str (fun _ _ => rfl))) pa_nil)) pe_int))
      (pss_one (ps_ret (pe_op op_mod (pe_op op_fdiv (pe_op op_mod (pe_callTy call_int1 (by rfl) B.int (by decide +kernel)
          (pa_cons (pe_op op_add (pe_op op_mul (pv 7) pe_int) (pv 3)) pa_nil)) pe_int) pe_int) (pv 1)))))))))), ?_⟩
    have g1 : ∀ {H' : Hp} {l' p' : Int}, H' d = some (.dK (mS l' sd c p')) → DGet H' d (.str "left") (some (.int l')) := fun e => .inl ⟨_, Sum.inr "left", .inl e, rfl, mS_left.symm⟩
    have g2 : ∀ {H' : Hp} {l' p' : Int}, H' d = some (.dK (mS l' sd c p')) → DGet H' d (.str "seed") (some (.int sd)) := fun e => .inl ⟨_, Sum.inr "seed", .inl e, rfl, mS_seed.symm⟩
    have g3 : ∀ {H' : Hp} {l' p' : Int}, H' d = some (.dK (mS l' sd c p')) → DGet H' d (.str "cells") (some (.ref c)) := fun e => .inl ⟨_, Sum.inr "cells", .inl e, rfl, mS_cells.symm⟩
    have g4 : ∀ {H' : Hp} {l' p' : Int}, H' d = some (.dK (mS l' sd c p')) → DGet H' d (.str "spot") (some (.int p')) := fun e => .inl ⟨_, Sum.inr "spot", .inl e, rfl, mS_spot.symm⟩
    refine ⟨_, rfl, d, .int l, rfl, g1 h1, _, _, rfl, rfl, _, rfl, ite2 (fun e => ?_) (fun e => ?_)⟩
    · -- found = int(m["left"]) % below
      refine ⟨_, rfl, d, .int l, rfl, g1 h1, .inl ⟨_, rfl, _, rfl, _, _, rfl, rfl, by omega, ?_⟩⟩
      refine ⟨_, rfl, d, .int l, rfl, g1 h1, _, rfl, _, _, rfl, rfl, ⟨by omega, by omega⟩, _, rfl, d, _, rfl, DPut.k (k := Sum.inr "left") h1 (by show 4 < sizeLine; decide), ?_⟩
      refine ⟨_, rfl, q _ _ (Int.emod_nonneg _ (by omega)) (Int.emod_lt_of_pos _ (by omega)) ((Kp.refl H).upd (by simp)) ⟨l / below, sd, p, cs, ?_, ?_, h3, h4, h5, h6, h7, h8, by omega⟩⟩
      · rw [upd_same, mS_put_left]
      · rw [upd_ne h3]; exact h2
    · have hc : (1 : Int) ≤ (cs.length : Int) := by
        cases cs with
        | nil => exact absurd rfl h4
        | cons a r => rw [List.length_cons]; omega
      have hp : p ≤ 1000000 := by omega
      refine ⟨_, rfl, d, .int p, rfl, g4 h1, ?_⟩
      refine ⟨_, rfl, _, _, rfl, rfl, _, rfl, d, _, rfl, DPut.k (k := Sum.inr "spot") h1 (by show 4 < sizeLine; decide), ?_⟩
      generalize hH2 : upd H d (.dK (putK (mS l sd c p) (Sum.inr "spot") (.int (p + 1)))) = H2
      have k2 : Kp [d] H H2 := by
        rw [← hH2]
        exact (Kp.refl H).upd (by simp)
      have e2 : H2 d = some (.dK (mS l sd c (p + 1))) := by rw [← hH2, upd_same, mS_put_spot]
      have hC0 : H2 c = some (.lst (cs.map V.int)) := k2 _ _ h2 (by simp [h3])
      have hC : SqL K H2 c (cs.map V.int) := .inl (.inl hC0)
      have hm1 : 0 ≤ p % (cs.length : Int) := Int.emod_nonneg _ (by omega)
      have hm2 : p % (cs.length : Int) < (cs.length : Int) := Int.emod_lt_of_pos _ (by omega)
      refine ⟨_, rfl, d, .ref c, rfl, g3 e2, _, rfl, d, .int sd, rfl, g2 e2, _, rfl, _, _, rfl, rfl, .inl ⟨by decide, by decide⟩, _, rfl, _, _, rfl, rfl, .inr ⟨by omega, by omega⟩, _, _, rfl, rfl, _, _, rfl, ?_⟩
      have hix : atI (cs.map V.int) (p % (cs.length : Int)) = some (.int (at0 cs (p % (cs.length : Int)).toNat)) := by
        have := ix0 (ns := cs) (i := (p % (cs.length : Int)).toNat) (by omega)
        rwa [Int.toNat_of_nonneg hm1] at this
      refine ⟨_, rfl, _, rfl, .inl ⟨_, rfl, _, rfl, c, _, rfl, .inl hC, _, _, rfl, rfl, ?_, c, _, _, .int (at0 cs (p % (cs.length : Int)).toNat), rfl, rfl, hC, ?_, ?_⟩⟩
      · rw [List.length_map]; omega
      · rw [List.length_map]; exact hix
      generalize at0 cs (p % (cs.length : Int)).toNat = cell
      refine ⟨_, rfl, _, rfl, _, _, rfl, rfl, .inl ⟨by decide, by decide⟩, _, _, rfl, rfl, _, _, rfl, rfl, .inr ⟨by omega, by omega⟩, _, rfl, _, _, rfl, rfl, .inl ⟨_, rfl, _, _, rfl, rfl, (by decide : (0 : Int) < 2147483647), ?_⟩⟩
      generalize hb0 : (cell * (2 * p + 3) + (sd + 40503 * p * p)) % 2147483647 = b0
      have hb1 : 0 ≤ b0 := by omega
      have hb2 : b0 < 2147483647 := by omega
      refine ⟨_, rfl, _, rfl, _, _, rfl, rfl, .inl ⟨by omega, by omega⟩, _, rfl, _, _, rfl, rfl, .inl ⟨by decide, by decide⟩, _, _, rfl, rfl, _, rfl, d, .int sd, rfl, g2 e2, _, _, rfl, rfl, .inl ⟨_, rfl, _, _, rfl, rfl, (by decide : (0 : Int) < 2147483629), ?_⟩⟩
      generalize hb3 : (b0 * b0 + 69621 * p + sd) % 2147483629 = b3
      refine ⟨_, rfl, _, _, rfl, rfl, .inr ⟨by decide, by decide⟩, _, rfl, _, _, rfl, rfl, .inl ⟨_, rfl, _, _, rfl, rfl, (by decide : (0 : Int) < 2147483647), _, _, rfl, rfl, ⟨by decide, by decide⟩, _, rfl, _, _, rfl, rfl, by omega, ?_⟩⟩
      exact q _ _ (Int.emod_nonneg _ (by omega)) (Int.emod_lt_of_pos _ (by omega)) k2 ⟨l, sd, p + 1, cs, e2, hC0, h3, h4, h5, h6, h7, by omega, by omega⟩
end
end JN

set_option maxRecDepth 100000
set_option maxHeartbeats 4000000
namespace JN
open PySem PySem.Spec PyProof.Rows L2
section
variable {P : Program} {w : World} {K : PySem.W.Frag} {mg : Str → Option Value} {base : Heap}
theorem scOf : FnScope ["m", "some"] ["m", "some"] (defScope sOf) := ⟨rfl, rfl, rfl, by decide +kernel, rfl, by decide +kernel, by decide +kernel⟩
theorem ok_of {f fD : Addr} {fd fdD : FuncData} (F : Fun K "_law_of" "_law_of" sOf f fd) (B : Bt mg) (FD : Fun K "_law_draw" "_law_draw" sDraw fD fdD) (bD : Binds K fdD ["m", "below"] []) (gD : mg "_law_draw" = some (.ref fD)) :
    FnOk P w K mg base CX0 2 f fd ["m", "some"] (spOf K) := by
  have GD : FnOk P w K mg base CX0 1 fD fdD ["m", "below"] spDraw := ok_draw FD B
  refine F.ok scOf (fun vs H Q E h => ?_) (fun cdv A outer s H vs Q E hr h => ?_)
  · obtain ⟨d, c, l, xs, n, rfl, _⟩ := h
    rfl
  · obtain ⟨d, c, l, xs, n, rfl, hD, hn, hL, hne, hx, hxl, q⟩ := h
    refine ⟨_, pss_one (ps_ret (pe_ix ix_list (pv 1) (pe_call GD hr (by rfl) gD FD.kp bD .nil pass0 (pa_cons (pv 0) (pa_cons (pe_callB call_len_seq (by rfl) B.len PySem.boot_len (pa_cons (pv 1) pa_nil)) pa_nil))) (fun _ _ => rfl))), ?_⟩
    have hl : 1 ≤ xs.length := List.length_pos_iff.mpr hx
    refine ⟨_, rfl, _, rfl, _, rfl, l, xs, rfl, .inl hL, d, c, (xs.length : Int), n, rfl, hD, hn, by omega, by omega, fun r H' h0 h1 kp hD' => ?_⟩
    have hi : r.toNat < xs.length := by omega
    refine ⟨l, xs, r, xs[r.toNat], rfl, rfl, kp.seq (by simp [hne]) hL, ?_, q _ H' (List.getElem_mem hi) kp hD'⟩
    exact at_of (Int.toNat_of_nonneg h0).symm (List.getElem?_eq_getElem hi)
theorem cut_ints (ns : List Int) (lo hi : Option Int) : ∃ ms : List Int, cutV (ns.map V.int) lo hi = ms.map V.int ∧ ms.length ≤ ns.length := by
  refine ⟨(ns.drop (HT.sIx (ns.map V.int).length 0 lo)).take (HT.sIx (ns.map V.int).length (ns.map V.int).length hi - HT.sIx (ns.map V.int).length 0 lo), ?_, ?_⟩
  · unfold cutV
    rw [List.map_take, List.map_drop]
  · rw [List.length_take, List.length_drop]
    omega
theorem mS_made {l s p : Int} {c : Addr} : mergeK [] [(.inr "left", .int l), (.inr "seed", .int s), (.inr "cells", .ref c), (.inr "spot", .int p)] = mS l s c p := by
  simp [mergeK, putK, mS, kls, klc, klp, ksc, ksp, kcp]
theorem scBegun : FnScope ["script", "k", "cells", "cell", "great", "seed"] ["script", "k"] (defScope sBegun) := ⟨rfl, rfl, rfl, by decide +kernel, rfl, by decide +kernel, by decide +kernel⟩
theorem ok_begun {f : Addr} {fd : FuncData} (F : Fun K "_law_begun" "_law_begun" sBegun f fd) (B : Bt mg) : FnOk P w K mg base CX0 1 f fd ["script", "k"] (spBegun K) := by
  refine F.ok scBegun (fun vs H Q E h => ?_) (fun cdv A outer s H vs Q E hr h => ?_)
  · obtain ⟨a, ns, k, rfl, _⟩ := h
    rfl
  · obtain ⟨a, ns, k, rfl, hS, hl, hk0, hk1, q⟩ := h
    have hu := hu_of hr
    have nd := scBegun.nd
    refine ⟨_, pss_cons (ps_set (i := 2) nd rfl (.inl rfl) (pe_op op_cat (pe_slice sl_list (pv 0) (po_some (pv 1)) po_none) (pe_slice sl_list (pv 0) po_none (po_some (pv 1)))))
      (pss_cons (ps_setLc (i := 4) (own := [("cell", 3)]) (g := gName 3) (by rfl) nd rfl rfl (sw_true rfl rfl rfl (by decide +kernel)) (pi_list (pv 2)) (blkOk_by (own := [("cell", 3)]) (N := ["script", "k", "cells", "cell", "great", "seed"]) (sc := defScope sBegun) (by decide +kernel))
          (fun _ _ _ _ _ => pg_name (i := 3) nd rfl (.inl rfl)) (fun _ _ _ _ _ => pts_one (pt_cmpR op_ge (pv 3) (pe_op op_pow pe_int pe_int) (nomark _))) (fun _ _ _ _ _ => pv 3))
      (pss_cons (ps_set (i := 5) nd rfl (.inl rfl) (pe_op op_add pe_int (pv 1)))
      (pss_cons (ps_for PassesOwn.never rfl (pi_list (pv 2)) (pg_name (i := 3) nd rfl (.inl rfl))
          (pss_one (ps_set (i := 5) nd rfl (.inl rfl) (pe_op op_mod (pe_callTy call_int1 (by rfl) B.int (by decide +kernel) (pa_cons (pe_op op_add (pe_op op_mul (pv 5) pe_int) (pv 3)) pa_nil)) pe_int))))
      (pss_one (ps_ret (pe_disp (pps_cons pe_str (pe_ifExp (pt_cmpR (op_neD hr.units) (pv 4) (pe_lst pa_nil) (nomark _)) (pe_ix ix_list (pv 4) pe_int (fun _ _ => rfl)) pe_int)
          (pps_cons pe_str (pv 5) (pps_cons pe_str (pe_op op_cat (pv 2) (pe_lst (pa_cons (pe_op op_add (pe_op op_mul pe_int (pv 1)) pe_int) pa_nil)))
          (pps_cons pe_str pe_int pps_nil)))) (by rfl) (by rfl) (fun z => by cases z) (by decide))))))), ?_⟩
    obtain ⟨m1, e1, l1⟩ := cut_ints ns (some k) none
    obtain ⟨m2, e2, l2⟩ := cut_ints ns none (some k)
    refine ⟨.ref a, rfl, .int k, rfl, k, rfl, a, _, rfl, hS, fun p1 np1 => ?_⟩
    have s1 := same_new (o := .lst (cutV (ns.map V.int) (some k) none)) np1
    refine ⟨.ref a, rfl, .int k, rfl, k, rfl, a, _, rfl, s1.seq hS, fun p2 np2 => ?_⟩
    have s2 := same_new (o := .lst (cutV (ns.map V.int) none (some k))) np2
    have n12 : p1 ≠ p2 := ne_of_none upd_same np2
    refine ⟨p1, p2, _, _, rfl, rfl, (by rw [upd_ne n12]; exact upd_same), upd_same, ?_, fun c nc => ?_⟩
    · rw [e1, e2, List.length_map, List.length_map, sizeLine_eq]; omega
    have s3 := same_new (o := .lst (cutV (ns.map V.int) (some k) none ++ cutV (ns.map V.int) none (some k))) nc
    rw [e1, e2, ← List.map_append] at s3 ⊢
    rw [e1, e2] at s2
    rw [e1] at s1
    generalize hcs : m1 ++ m2 = cs at s3 ⊢
    have hcl : cs.length ≤ 126 := by rw [← hcs, List.length_append]; omega
    have s0 := (s1.trans s2).trans s3
    generalize hH3 : upd (upd (upd H p1 (.lst (m1.map V.int))) p2 (.lst (m2.map V.int))) c (.lst (cs.map V.int)) = H3 at s0 ⊢
    have hC : H3 c = some (.lst (cs.map V.int)) := by rw [← hH3]; exact upd_same
    refine ⟨.ref c, rfl, c, rfl, ⟨_, .inl (.inl hC)⟩, fun D nD => lc_list (xs := cs.map V.int) (fun i H4 => ∃ gs : List Int, Same H3 H4 ∧ H4 D = some (.lst (gs.map V.int)) ∧ gs.length ≤ i) ⟨[], same_new nD, upd_same, Nat.le_refl _⟩ (fun i H4 _ h => ?_) (fun i x H4 hx h => ?_) (fun H4 h => ?_)⟩
    · obtain ⟨gs, sm, _⟩ := h
      exact sm.seq (.inl (.inl hC))
    · obtain ⟨gs, sm, eD, hgl⟩ := h
      have hi := (List.getElem?_eq_some_iff.mp hx).1
      rw [List.length_map] at hi
      have ex : x = .int (at0 cs i) := Option.some.inj (hx.symm.trans (it0 hi))
      subst ex
      refine ⟨rfl, .int (at0 cs i), rfl, 10, 18, rfl, rfl, ⟨by decide, by decide, by decide⟩, at0 cs i, _, rfl, rfl, _, rfl, ?_⟩
      refine ite2 (fun e => ?_) (fun e => ?_)
      · refine ⟨_, rfl, gs.map V.int, eD, ?_, gs ++ [at0 cs i], fun b o e => ?_, ?_, ?_⟩
        · rw [List.length_map, sizeLine_eq]; omega
        · rw [upd_ne (ne_of_none e nD)]
          exact sm _ _ e
        · rw [upd_same, List.map_append]
          rfl
        · rw [List.length_append]
          exact Nat.add_le_add_right hgl 1
      · exact ⟨gs, sm, eD, by omega⟩
    · obtain ⟨gs, sm4, eG, hgl⟩ := h
      have hC4 : H4 c = some (.lst (cs.map V.int)) := sm4 _ _ hC
      refine ⟨.int k, rfl, _, _, rfl, rfl, ?_⟩
      refine ⟨.ref c, rfl, c, rfl, ⟨_, .inl (.inl hC4)⟩, for_list (xs := cs.map V.int) (fun i σ H5 => H5 = H4 ∧ ∃ (z : Option V) (sd : Int), σ = [some (.ref a), some (.int k), some (.ref c), z, some (.ref D), some (.int sd)] ∧ 0 ≤ sd ∧ sd < 2147483647)
        ⟨rfl, _, 71 + k, rfl, by omega, by omega⟩ (fun i σ H5 _ h => ?_) (fun i x σ H5 hx h => ?_) (fun σ H5 h => ?_)⟩
      · rw [h.1]; exact .inl (.inl hC4)
      · obtain ⟨rfl, z, sd, rfl, h0, h1⟩ := h
        have hi := (List.getElem?_eq_some_iff.mp hx).1
        rw [List.length_map] at hi
        have ex : x = .int (at0 cs i) := Option.some.inj (hx.symm.trans (it0 hi))
        subst ex
        refine ⟨.int sd, rfl, _, _, rfl, rfl, .inr ⟨by decide, by decide⟩, .int (at0 cs i), rfl, _, _, rfl, rfl, .inl ⟨_, rfl, _, _, rfl, rfl, (by decide : (0 : Int) < 2147483647), ?_⟩⟩
        exact ⟨rfl, _, _, rfl, Int.emod_nonneg _ (by decide), Int.emod_lt_of_pos _ (by decide)⟩
      · obtain ⟨rfl, z, sd, rfl, h0, h1⟩ := h
        refine fun d nd' => ?_
        have sd1 := same_new (o := .dK []) nd'
        refine ⟨.ref D, rfl, by decide, fun o no => ?_⟩
        have so := same_new (o := .lst []) no
        refine ne_lst (ns := gs) (ms := []) (.inl (.inl (so _ _ (sd1 _ _ eG)))) (sql_new (o := [])) ⟨_, rfl, ?_⟩
        have fin : ∀ (l : Int), tPairs [(tC (.str "seed"), tVar 5), (tC (.str "cells"), tOp rCat (tVar 2) (tLst (tCons (tOp (rI0 fun i j => .int (i + j)) (tOp (rI CMul fun i j => .int (i * j)) (tC (.int 53)) (tVar 1)) (tC (.int 11))) tNil))), (tC (.str "spot"), tC (.int 0))]
            [some (.ref a), some (.int k), some (.ref c), z, some (.ref D), some (.int sd)] (upd (upd H5 d (.dK [])) o (.lst [])) (fun ps H6 => H6 d = some (.dK []) ∧ ∃ kvs : List (Key × V), (V.str "left", V.int l) :: ps = kvs.map (fun kv => (kV kv.1, kv.2)) ∧ kvs.length ≤ 15 ∧ Q (.ref d) (upd H6 d (.dK (mergeK [] kvs)))) := by
          intro l
          have eC : (upd (upd H5 d (.dK [])) o (.lst [])) c = some (.lst (cs.map V.int)) := so _ _ (sd1 _ _ hC4)
          have eD : (upd (upd H5 d (.dK [])) o (.lst [])) d = some (.dK []) := so _ _ upd_same
          refine ⟨.int sd, rfl, .ref c, rfl, .int k, rfl, _, _, rfl, rfl, .inl ⟨by decide, by decide⟩, _, _, rfl, rfl, (by show 1 ≤ sizeLine; decide), fun y ny => ?_⟩
          have sy := same_new (o := .lst [V.int (53 * k + 11)]) ny
          refine ⟨c, y, _, _, rfl, rfl, sy _ _ eC, upd_same, ?_, fun p np => ?_⟩
          · rw [List.length_map, sizeLine_eq]
            show cs.length + 1 ≤ _
            omega
          have sp := same_new (o := .lst (cs.map V.int ++ [V.int (53 * k + 11)])) np
          have ndp : d ≠ p := ne_of_none (sy _ _ eD) np
          refine ⟨sp _ _ (sy _ _ eD), [(.inr "left", .int l), (.inr "seed", .int sd), (.inr "cells", .ref p), (.inr "spot", .int 0)], rfl, by show 4 ≤ 15; decide, ?_⟩
          rw [mS_made]
          have sall : Same H5 (upd (upd (upd (upd H5 d (.dK [])) o (.lst [])) y (.lst [V.int (53 * k + 11)])) p (.lst (cs.map V.int ++ [V.int (53 * k + 11)]))) := ((sd1.trans so).trans sy).trans sp
          have s05 : Same H H5 := s0.trans sm4
          refine q d p _ (fun b u e => ?_) (s05.free nd') ((s05.trans (sd1.trans (so.trans sy))).free np) ⟨l, sd, 0, cs ++ [53 * k + 11], upd_same, ?_, ndp.symm, by simp, by rw [List.length_append]; show cs.length + 1 ≤ 1000; omega, h0, h1, by decide, by decide⟩
          · rw [upd_ne (ne_of_none (s05 _ _ e) nd')]
            exact sall _ _ (s05 _ _ e)
          · rw [upd_ne ndp.symm, upd_same, List.map_append]
            rfl
        refine ite2 (fun e => ?_) (fun e => fin 0)
        have hg : gs ≠ [] := fun z => by
          rw [z] at e
          exact absurd e (by decide)
        refine ⟨.ref D, rfl, D, _, 0, .int (at0 gs 0), rfl, rfl, .inl (.inl (so _ _ (sd1 _ _ eG))), ix0 (i := 0) (List.length_pos_iff.mpr hg), fin _⟩
end
end JN

set_option maxRecDepth 100000
set_option maxHeartbeats 4000000
namespace JN
open PySem PySem.Spec PyProof.Rows L2
/-- the built-in names of the program's monomials -/
structure Bm (mg : Str → Option Value) : Prop extends Bt mg where
  tuple : mg "tuple" = none
  zip : mg "zip" = none
  enumerate : mg "enumerate" = none
  range : mg "range" = none
  max : mg "max" = none
  min : mg "min" = none
  sum : mg "sum" = none
  isinstance : mg "isinstance" = none
  bool : mg "bool" = none
theorem yes_ok {te : TE} {σ : L2.St} {H : Hp} {P1 : V → Hp → Prop} {P0 : Hp → Prop} (h : te σ H P1) : tYes σ H fun b H3 => if b = true then te σ H3 P1 else P0 H3 := by
  show if true = true then te σ H P1 else P0 H
  rw [if_pos rfl]
  exact h
def spZw (K : PySem.W.Frag) (g : Int → Int → Int) : Sp := fun vs H Q _ => ∃ (a b : Addr) (ns ms : List Int), vs = [.ref a, .ref b] ∧ SqT K H a (ns.map V.int) ∧ SqT K H b (ms.map V.int) ∧ ns.length = ms.length ∧ ns.length ≤ 1000 ∧
  ∀ (p : Addr) (H' : Hp), Same H H' → SqT K H' p ((List.zipWith g ns ms).map V.int) → Q (.ref p) H'
theorem zw_fm {g : Int → Int → Int} {ns ms : List Int} (hl : ns.length = ms.length) : (List.range (min ns.length ms.length)).filterMap (fun i => some (V.int (g (at0 ns i) (at0 ms i)))) = (List.zipWith g ns ms).map V.int := by
  rw [← range_zip (g := g) (n := min ns.length ms.length) rfl, List.map_map, fm_some (g := fun i => V.int (g (at0 ns i) (at0 ms i))) fun _ _ => rfl]
  rfl
section
variable {P : Program} {w : World} {K : PySem.W.Frag} {mg : Str → Option Value} {base : Heap}
theorem sc_lcm_of : FnScope ["a", "b", "x", "y"] ["a", "b"] (defScope (topS 4)) := ⟨rfl, rfl, rfl, by decide +kernel, rfl, by decide +kernel, by decide +kernel⟩
theorem ok_lcm_of {f : Addr} {fd : FuncData} (F : Fun K "lcm_of" "lcm_of" (topS 4) f fd) (B : Bm mg) : FnOk P w K mg base CX0 1 f fd ["a", "b"] (spZw K mxI) := by
  refine F.ok sc_lcm_of (fun vs H Q E h => ?_) (fun cdv A outer s H vs Q E hr h => ?_)
  · obtain ⟨a, b, ns, ms, rfl, _⟩ := h
    rfl
  · obtain ⟨a, b, ns, ms, rfl, hA, hB, hl, hz, q⟩ := h
    have nd := sc_lcm_of.nd
    refine ⟨_, pss_one (ps_ret (pe_callTy call_tuple_of (by rfl) B.tuple (by decide +kernel) (pa_cons (pe_lc (own := [("x", 2), ("y", 3)]) (g := gTup K 2 (gCons (gName 2) (gCons (gName 3) gNil))) (by rfl) nd (RZ.pi_zipA (by rfl) B.zip (pa_cons (pv 0) (pa_cons (pv 1) pa_nil)))
        (blkOk_by (own := [("x", 2), ("y", 3)]) (N := ["a", "b", "x", "y"]) (sc := defScope (topS 4)) (by decide +kernel))
        (fun _ _ _ _ _ => pg_tup (by rfl) (pgs_cons (pg_name (i := 2) nd rfl (.inl rfl)) (pgs_cons (pg_name (i := 3) nd rfl (.inl rfl)) pgs_nil))) (fun _ _ _ _ _ => pts_nil)
        (fun _ _ _ _ _ => pe_callB (call_max2 (by rfl)) (by rfl) B.max (by decide +kernel) (pa_cons (pv 2) (pa_cons (pv 3) pa_nil)))) pa_nil))), ?_⟩
    refine ⟨_, rfl, _, rfl, a, b, _, _, rfl, .inr ⟨hA, hB, fun D nD => lc_keep (walk_zipT (n := min ns.length ms.length) (by rw [List.length_map, List.length_map])) (fun i => some (V.int (mxI (at0 ns i) (at0 ms i)))) nD ?_ (fun H1 e => ⟨Same.tup e hA, Same.tup e hB⟩) (fun i x H1 H2 P1 P0 hi sm y h1 h0 => ?_) (fun H1 sm e => ?_)⟩⟩
    · exact small1000 (by omega)
    · obtain ⟨T, u, v, rfl, nT, rfl, hu, hv⟩ := y
      have hu' : some (V.int (at0 ns i)) = some u := (it0 (by omega)).symm.trans hu
      have hv' : some (V.int (at0 ms i)) = some v := (it0 (by omega)).symm.trans hv
      obtain rfl := Option.some.inj hu'
      obtain rfl := Option.some.inj hv'
      refine ⟨T, _, rfl, sqt_new, rfl, _, _, rfl, _, _, rfl, rfl, rfl, ?_⟩
      refine yes_ok ?_
      exact ⟨_, rfl, _, rfl, _, _, rfl, h1 _ _ rfl (same_new nT)⟩
    · rw [zw_fm hl] at e
      refine ⟨D, _, rfl, .inl ⟨.inl (.inl e), fun l nl => q l _ (sm.trans (same_new nl)) sqt_new⟩⟩
theorem sc_gcd_of : FnScope ["a", "b", "x", "y"] ["a", "b"] (defScope (topS 5)) := ⟨rfl, rfl, rfl, by decide +kernel, rfl, by decide +kernel, by decide +kernel⟩
theorem ok_gcd_of {f : Addr} {fd : FuncData} (F : Fun K "gcd_of" "gcd_of" (topS 5) f fd) (B : Bm mg) : FnOk P w K mg base CX0 1 f fd ["a", "b"] (spZw K mnI) := by
  refine F.ok sc_gcd_of (fun vs H Q E h => ?_) (fun cdv A outer s H vs Q E hr h => ?_)
  · obtain ⟨a, b, ns, ms, rfl, _⟩ := h
    rfl
  · obtain ⟨a, b, ns, ms, rfl, hA, hB, hl, hz, q⟩ := h
    have nd := sc_gcd_of.nd
    refine ⟨_, pss_one (ps_ret (pe_callTy call_tuple_of (by rfl) B.tuple (by decide +kernel) (pa_cons (pe_lc (own := [("x", 2), ("y", 3)]) (g := gTup K 2 (gCons (gName 2) (gCons (gName 3) gNil))) (by rfl) nd (RZ.pi_zipA (by rfl) B.zip (pa_cons (pv 0) (pa_cons (pv 1) pa_nil)))
        (blkOk_by (own := [("x", 2), ("y", 3)]) (N := ["a", "b", "x", "y"]) (sc := defScope (topS 5)) (by decide +kernel))
        (fun _ _ _ _ _ => pg_tup (by rfl) (pgs_cons (pg_name (i := 2) nd rfl (.inl rfl)) (pgs_cons (pg_name (i := 3) nd rfl (.inl rfl)) pgs_nil))) (fun _ _ _ _ _ => pts_nil)
        (fun _ _ _ _ _ => pe_callB (call_min2 (by rfl)) (by rfl) B.min (by decide +kernel) (pa_cons (pv 2) (pa_cons (pv 3) pa_nil)))) pa_nil))), ?_⟩
    refine ⟨_, rfl, _, rfl, a, b, _, _, rfl, .inr ⟨hA, hB, fun D nD => lc_keep (walk_zipT (n := min ns.length ms.length) (by rw [List.length_map, List.length_map])) (fun i => some (V.int (mnI (at0 ns i) (at0 ms i)))) nD ?_ (fun H1 e => ⟨Same.tup e hA, Same.tup e hB⟩) (fun i x H1 H2 P1 P0 hi sm y h1 h0 => ?_) (fun H1 sm e => ?_)⟩⟩
    · exact small1000 (by omega)
    · obtain ⟨T, u, v, rfl, nT, rfl, hu, hv⟩ := y
      have hu' : some (V.int (at0 ns i)) = some u := (it0 (by omega)).symm.trans hu
      have hv' : some (V.int (at0 ms i)) = some v := (it0 (by omega)).symm.trans hv
      obtain rfl := Option.some.inj hu'
      obtain rfl := Option.some.inj hv'
      refine ⟨T, _, rfl, sqt_new, rfl, _, _, rfl, _, _, rfl, rfl, rfl, ?_⟩
      refine yes_ok ?_
      exact ⟨_, rfl, _, rfl, _, _, rfl, h1 _ _ rfl (same_new nT)⟩
    · rw [zw_fm hl] at e
      refine ⟨D, _, rfl, .inl ⟨.inl (.inl e), fun l nl => q l _ (sm.trans (same_new nl)) sqt_new⟩⟩
theorem sc_times : FnScope ["a", "b", "x", "y"] ["a", "b"] (defScope (topS 6)) := ⟨rfl, rfl, rfl, by decide +kernel, rfl, by decide +kernel, by decide +kernel⟩
theorem ok_times {f : Addr} {fd : FuncData} (F : Fun K "times" "times" (topS 6) f fd) (B : Bm mg) : FnOk P w K mg base CX0 1 f fd ["a", "b"] (spZw K (· + ·)) := by
  refine F.ok sc_times (fun vs H Q E h => ?_) (fun cdv A outer s H vs Q E hr h => ?_)
  · obtain ⟨a, b, ns, ms, rfl, _⟩ := h
    rfl
  · obtain ⟨a, b, ns, ms, rfl, hA, hB, hl, hz, q⟩ := h
    have nd := sc_times.nd
    refine ⟨_, pss_one (ps_ret (pe_callTy call_tuple_of (by rfl) B.tuple (by decide +kernel) (pa_cons (pe_lc (own := [("x", 2), ("y", 3)]) (g := gTup K 2 (gCons (gName 2) (gCons (gName 3) gNil))) (by rfl) nd (RZ.pi_zipA (by rfl) B.zip (pa_cons (pv 0) (pa_cons (pv 1) pa_nil)))
        (blkOk_by (own := [("x", 2), ("y", 3)]) (N := ["a", "b", "x", "y"]) (sc := defScope (topS 6)) (by decide +kernel))
        (fun _ _ _ _ _ => pg_tup (by rfl) (pgs_cons (pg_name (i := 2) nd rfl (.inl rfl)) (pgs_cons (pg_name (i := 3) nd rfl (.inl rfl)) pgs_nil))) (fun _ _ _ _ _ => pts_nil)
        (fun _ _ _ _ _ => pe_op op_add (pv 2) (pv 3))) pa_nil))), ?_⟩
    refine ⟨_, rfl, _, rfl, a, b, _, _, rfl, .inr ⟨hA, hB, fun D nD => lc_keep (walk_zipT (n := min ns.length ms.length) (by rw [List.length_map, List.length_map])) (fun i => some (V.int ((· + ·) (at0 ns i) (at0 ms i)))) nD ?_ (fun H1 e => ⟨Same.tup e hA, Same.tup e hB⟩) (fun i x H1 H2 P1 P0 hi sm y h1 h0 => ?_) (fun H1 sm e => ?_)⟩⟩
    · exact small1000 (by omega)
    · obtain ⟨T, u, v, rfl, nT, rfl, hu, hv⟩ := y
      have hu' : some (V.int (at0 ns i)) = some u := (it0 (by omega)).symm.trans hu
      have hv' : some (V.int (at0 ms i)) = some v := (it0 (by omega)).symm.trans hv
      obtain rfl := Option.some.inj hu'
      obtain rfl := Option.some.inj hv'
      refine ⟨T, _, rfl, sqt_new, rfl, _, _, rfl, _, _, rfl, rfl, rfl, ?_⟩
      refine yes_ok ?_
      exact ⟨_, rfl, _, rfl, _, _, rfl, rfl, h1 _ _ rfl (same_new nT)⟩
    · rw [zw_fm hl] at e
      refine ⟨D, _, rfl, .inl ⟨.inl (.inl e), fun l nl => q l _ (sm.trans (same_new nl)) sqt_new⟩⟩
theorem sc_cut : FnScope ["a", "b", "x", "y"] ["a", "b"] (defScope (topS 7)) := ⟨rfl, rfl, rfl, by decide +kernel, rfl, by decide +kernel, by decide +kernel⟩
theorem ok_cut {f : Addr} {fd : FuncData} (F : Fun K "cut" "cut" (topS 7) f fd) (B : Bm mg) : FnOk P w K mg base CX0 1 f fd ["a", "b"] (spZw K ctI) := by
  refine F.ok sc_cut (fun vs H Q E h => ?_) (fun cdv A outer s H vs Q E hr h => ?_)
  · obtain ⟨a, b, ns, ms, rfl, _⟩ := h
    rfl
  · obtain ⟨a, b, ns, ms, rfl, hA, hB, hl, hz, q⟩ := h
    have nd := sc_cut.nd
    refine ⟨_, pss_one (ps_ret (pe_callTy call_tuple_of (by rfl) B.tuple (by decide +kernel) (pa_cons (pe_lc (own := [("x", 2), ("y", 3)]) (g := gTup K 2 (gCons (gName 2) (gCons (gName 3) gNil))) (by rfl) nd (RZ.pi_zipA (by rfl) B.zip (pa_cons (pv 0) (pa_cons (pv 1) pa_nil)))
        (blkOk_by (own := [("x", 2), ("y", 3)]) (N := ["a", "b", "x", "y"]) (sc := defScope (topS 7)) (by decide +kernel))
        (fun _ _ _ _ _ => pg_tup (by rfl) (pgs_cons (pg_name (i := 2) nd rfl (.inl rfl)) (pgs_cons (pg_name (i := 3) nd rfl (.inl rfl)) pgs_nil))) (fun _ _ _ _ _ => pts_nil)
        (fun _ _ _ _ _ => pe_callB (call_max2 (by rfl)) (by rfl) B.max (by decide +kernel) (pa_cons (pe_op op_sub (pv 2) (pv 3)) (pa_cons pe_int pa_nil)))) pa_nil))), ?_⟩
    refine ⟨_, rfl, _, rfl, a, b, _, _, rfl, .inr ⟨hA, hB, fun D nD => lc_keep (walk_zipT (n := min ns.length ms.length) (by rw [List.length_map, List.length_map])) (fun i => some (V.int (ctI (at0 ns i) (at0 ms i)))) nD ?_ (fun H1 e => ⟨Same.tup e hA, Same.tup e hB⟩) (fun i x H1 H2 P1 P0 hi sm y h1 h0 => ?_) (fun H1 sm e => ?_)⟩⟩
    · exact small1000 (by omega)
    · obtain ⟨T, u, v, rfl, nT, rfl, hu, hv⟩ := y
      have hu' : some (V.int (at0 ns i)) = some u := (it0 (by omega)).symm.trans hu
      have hv' : some (V.int (at0 ms i)) = some v := (it0 (by omega)).symm.trans hv
      obtain rfl := Option.some.inj hu'
      obtain rfl := Option.some.inj hv'
      refine ⟨T, _, rfl, sqt_new, rfl, _, _, rfl, _, _, rfl, rfl, rfl, ?_⟩
      refine yes_ok ?_
      exact ⟨_, rfl, _, rfl, _, _, rfl, rfl, _, _, rfl, h1 _ _ rfl (same_new nT)⟩
    · rw [zw_fm hl] at e
      refine ⟨D, _, rfl, .inl ⟨.inl (.inl e), fun l nl => q l _ (sm.trans (same_new nl)) sqt_new⟩⟩
end
end JN

set_option maxRecDepth 100000
set_option maxHeartbeats 4000000
namespace JN
open PySem PySem.Spec PyProof.Rows L2
theorem toNat_len {α : Type} (xs : List α) : ((xs.length : Nat) : Int).toNat = xs.length := rfl
def spSumT (K : PySem.W.Frag) : Sp := fun vs H Q _ => ∃ (a : Addr) (ns : List Int), vs = [.ref a] ∧ SqT K H a (ns.map V.int) ∧ Q (.int ns.sum) H
def spSupp (K : PySem.W.Frag) : Sp := fun vs H Q _ => ∃ (a : Addr) (ns : List Int), vs = [.ref a] ∧ SqT K H a (ns.map V.int) ∧ ns.length ≤ 1000 ∧
  ∀ (p : Addr) (H' : Hp), Same H H' → SqT K H' p ((selI (fun j => decide (0 < at0 ns j)) ns.length).map V.int) → Q (.ref p) H'
def spDvd (K : PySem.W.Frag) : Sp := fun vs H Q _ => ∃ (a b : Addr) (ns ms : List Int), vs = [.ref a, .ref b] ∧ SqT K H a (ns.map V.int) ∧ SqT K H b (ms.map V.int) ∧ ns.length = ms.length ∧
  ∀ (H' : Hp), Same H H' → Q (.bl (dvdI ns ms)) H'
def spPlain (K : PySem.W.Frag) : Sp := fun vs H Q _ => ∃ (a b : Addr) (ns ms : List Int), vs = [.ref a, .ref b] ∧ SqT K H a (ns.map V.int) ∧ SqT K H b (ms.map V.int) ∧ Q (.bl (decide (ns = ms))) H
def spRow (K : PySem.W.Frag) : Sp := fun vs H Q _ => ∃ (d c : Addr) (n : Nat) (wide : Int) (m : Nat), vs = [.ref d, .int (n : Int), .int wide] ∧ Drw H d c m ∧ m ≤ 100000 ∧ n ≤ 1000 ∧ 1 ≤ wide ∧ wide < 1073741824 ∧
  ∀ (p : Addr) (H' : Hp) (ns : List Int), ns.length = n → (∀ x ∈ ns, 0 ≤ x ∧ x < wide) → Kp [d] H H' → Drw H' d c (m + 2 * n) → H' p = some (.tup (ns.map V.int)) → Q (.ref p) H'
theorem fm_sel {p : Nat → Bool} {n : Nat} : (List.range n).filterMap (fun i => if p i then some (V.int (i : Int)) else none) = (selI p n).map V.int := by
  unfold selI
  refine fm_ints fun i _ => ?_
  cases p i <;> rfl
theorem sqt_ty {K : PySem.W.Frag} {H : Hp} {a : Addr} {xs : List V} (h : SqT K H a xs) : TyX K H (.ref a) (.type "tuple") := by
  rcases h with (h | ⟨o, h⟩) | ⟨o, its, n, h, hc, _⟩
  · exact .base (.tup h)
  · exact .fTuple h
  · exact .kTuple h hc
section
variable {P : Program} {w : World} {K : PySem.W.Frag} {mg : Str → Option Value} {base : Heap}
theorem sc_deg : FnScope ["monomial"] ["monomial"] (defScope (topS 1)) := ⟨rfl, rfl, rfl, by decide +kernel, rfl, by decide +kernel, by decide +kernel⟩
theorem ok_deg {f : Addr} {fd : FuncData} (F : Fun K "degree_of" "degree_of" (topS 1) f fd) (B : Bm mg) : FnOk P w K mg base CX0 1 f fd ["monomial"] (spSumT K) := by
  refine F.ok sc_deg (fun vs H Q E h => ?_) (fun cdv A outer s H vs Q E hr h => ?_)
  · obtain ⟨a, ns, rfl, _⟩ := h
    rfl
  · obtain ⟨a, ns, rfl, hA, q⟩ := h
    exact ⟨_, pss_one (ps_ret (pe_callB (cr_sumT (by rfl)) (by rfl) B.sum (by decide +kernel) (pa_cons (pv 0) pa_nil))), _, rfl, a, ns, rfl, hA, q⟩
theorem sc_supp : FnScope ["monomial", "k", "exponent"] ["monomial"] (defScope (topS 2)) := ⟨rfl, rfl, rfl, by decide +kernel, rfl, by decide +kernel, by decide +kernel⟩
theorem ok_supp {f : Addr} {fd : FuncData} (F : Fun K "support_of" "support_of" (topS 2) f fd) (B : Bm mg) : FnOk P w K mg base CX0 1 f fd ["monomial"] (spSupp K) := by
  refine F.ok sc_supp (fun vs H Q E h => ?_) (fun cdv A outer s H vs Q E hr h => ?_)
  · obtain ⟨a, ns, rfl, _⟩ := h
    rfl
  · obtain ⟨a, ns, rfl, hA, hz, q⟩ := h
    have nd := sc_supp.nd
    refine ⟨_, pss_one (ps_ret (pe_callTy call_tuple_of (by rfl) B.tuple (by decide +kernel) (pa_cons (pe_lc (own := [("k", 1), ("exponent", 2)]) (g := gTup K 2 (gCons (gName 1) (gCons (gName 2) gNil))) (by rfl) nd (pi_enumT (by rfl) B.enumerate (pa_cons (pv 0) pa_nil))
        (blkOk_by (own := [("k", 1), ("exponent", 2)]) (N := ["monomial", "k", "exponent"]) (sc := defScope (topS 2)) (by decide +kernel))
        (fun _ _ _ _ _ => pg_tup (by rfl) (pgs_cons (pg_name (i := 1) nd rfl (.inl rfl)) (pgs_cons (pg_name (i := 2) nd rfl (.inl rfl)) pgs_nil))) (fun _ _ _ _ _ => pts_one (pt_cmpR op_gt (pv 2) pe_int (nomark _)))
        (fun _ _ _ _ _ => pv 1)) pa_nil))), ?_⟩
    refine ⟨_, rfl, a, _, rfl, hA, fun D nD => lc_keep (walk_enumT (xs := ns.map V.int)) (fun i => if decide (0 < at0 ns i) then some (V.int (i : Int)) else none) nD ?_ (fun H1 e => Same.tup e hA) (fun i x H1 H2 P1 P0 hi sm y h1 h0 => ?_) (fun H1 sm e => ?_)⟩
    · rw [List.length_map]
      exact small1000 hz
    · rw [List.length_map] at hi
      obtain ⟨T, u, v, rfl, nT, rfl, hu, hv⟩ := y
      have hv' : some (V.int (at0 ns i)) = some v := (it0 hi).symm.trans hv
      obtain rfl := Option.some.inj hu
      obtain rfl := Option.some.inj hv'
      refine ⟨T, _, rfl, sqt_new, rfl, _, _, rfl, _, _, rfl, rfl, rfl, _, rfl, _, _, rfl, rfl, _, rfl, ?_⟩
      refine ite2 (fun e => ⟨_, rfl, h1 _ _ ?_ (same_new nT)⟩) (fun e => h0 _ ?_ (same_new nT))
      · rw [if_pos e]
      · rw [if_neg e]
    · rw [List.length_map, fm_sel] at e
      refine ⟨D, _, rfl, .inl ⟨.inl (.inl e), fun l nl => q l _ (sm.trans (same_new nl)) sqt_new⟩⟩
theorem sc_dvd : FnScope ["a", "b", "low", "high"] ["a", "b"] (defScope (topS 3)) := ⟨rfl, rfl, rfl, by decide +kernel, rfl, by decide +kernel, by decide +kernel⟩
theorem ok_dvd {f : Addr} {fd : FuncData} (F : Fun K "divides" "divides" (topS 3) f fd) (B : Bm mg) : FnOk P w K mg base CX0 1 f fd ["a", "b"] (spDvd K) := by
  refine F.ok sc_dvd (fun vs H Q E h => ?_) (fun cdv A outer s H vs Q E hr h => ?_)
  · obtain ⟨a, b, ns, ms, rfl, _⟩ := h
    rfl
  · obtain ⟨a, b, ns, ms, rfl, hA, hB, hl, q⟩ := h
    have nd := sc_dvd.nd
    refine ⟨_, pss_cons (ps_for PassesOwn.never rfl (RZ.pi_zipA (by rfl) B.zip (pa_cons (pv 0) (pa_cons (pv 1) pa_nil))) (pg_tup (by rfl) (pgs_cons (pg_name (i := 2) nd rfl (.inl rfl)) (pgs_cons (pg_name (i := 3) nd rfl (.inl rfl)) pgs_nil)))
        (pss_one (ps_if (pt_cmpR op_gt (pv 2) (pv 3) (nomark _)) (pss_one (ps_ret pe_bl)) pss_nil)))
      (pss_one (ps_ret pe_bl)), ?_⟩
    refine ⟨_, rfl, _, rfl, a, b, _, _, rfl, .inr ⟨hA, hB, for_it (walk_zipT (n := ns.length) (by rw [List.length_map, List.length_map]; omega)) (fun i σ H1 => Same H H1 ∧ (∀ j, j < i → at0 ns j ≤ at0 ms j) ∧ ∃ z2 z3, σ = [some (.ref a), some (.ref b), z2, z3]) ⟨Same.refl H, fun j h => absurd h (Nat.not_lt_zero j), _, _, rfl⟩
      (fun i σ H1 _ h => ⟨Same.tup h.1 hA, Same.tup h.1 hB⟩) (fun i x σ H1 H2 hi h y => ?_) (fun σ H1 h => ?_)⟩⟩
    · obtain ⟨sm, hall, z2, z3, rfl⟩ := h
      obtain ⟨T, u, v, rfl, nT, rfl, hu, hv⟩ := y
      have hu' : some (V.int (at0 ns i)) = some u := (it0 hi).symm.trans hu
      have hv' : some (V.int (at0 ms i)) = some v := (it0 (hl ▸ hi)).symm.trans hv
      obtain rfl := Option.some.inj hu'
      obtain rfl := Option.some.inj hv'
      refine ⟨T, _, rfl, sqt_new, rfl, _, _, rfl, _, _, rfl, rfl, _, rfl, _, rfl, _, _, rfl, rfl, _, rfl, ?_⟩
      refine ite2 (fun e => ?_) (fun e => ?_)
      · have e1 : at0 ms i < at0 ns i := of_decide_eq_true e
        have hd : dvdI ns ms = false := by
          cases hd : dvdI ns ms with
          | false => rfl
          | true => have := (dvdI_iff hl).mp hd i hi; omega
        have := q _ (sm.trans (same_new (o := .tup [.int (at0 ns i), .int (at0 ms i)]) nT))
        rw [hd] at this
        exact this
      · have e1 : ¬ at0 ms i < at0 ns i := fun z => e (decide_eq_true z)
        refine ⟨sm.trans (same_new nT), fun j hj => ?_, _, _, rfl⟩
        by_cases ej : j = i
        · subst ej; omega
        · exact hall j (by omega)
    · obtain ⟨sm, hall, z2, z3, rfl⟩ := h
      have := q _ sm
      rw [(dvdI_iff hl).mpr hall] at this
      exact this
theorem sc_plain : FnScope ["value", "due", "one"] ["value", "due"] (defScope (topS 16)) := ⟨rfl, rfl, rfl, by decide +kernel, rfl, by decide +kernel, by decide +kernel⟩
theorem ok_plain {f : Addr} {fd : FuncData} (F : Fun K "_law_is_plain" "_law_is_plain" (topS 16) f fd) (B : Bm mg) : FnOk P w K mg base CX0 1 f fd ["value", "due"] (spPlain K) := by
  refine F.ok sc_plain (fun vs H Q E h => ?_) (fun cdv A outer s H vs Q E hr h => ?_)
  · obtain ⟨a, b, ns, ms, rfl, _⟩ := h
    rfl
  · obtain ⟨a, b, ns, ms, rfl, hA, hB, q⟩ := h
    have nd := sc_plain.nd
    refine ⟨_, pss_cons (ps_if (pt_not (pt_val (pe_callB call_isi (by rfl) B.isinstance (by decide +kernel) (pa_cons (pv 0) (pa_cons (pe_bltn (v := .ty "tuple") (by rfl) B.tuple (by decide +kernel) rfl) pa_nil))))) (pss_one (ps_ret pe_bl)) pss_nil)
      (pss_cons (ps_for PassesOwn.never rfl (pi_tup (pv 0)) (pg_name (i := 2) nd rfl (.inl rfl))
        (pss_one (ps_if (PW.pt (pw_or (pt_val (pe_callB call_isi (by rfl) B.isinstance (by decide +kernel) (pa_cons (pv 2) (pa_cons (pe_bltn (v := .ty "bool") (by rfl) B.bool (by decide +kernel) rfl) pa_nil))))
          (pw_or1 (pt_not (pt_val (pe_callB call_isi (by rfl) B.isinstance (by decide +kernel) (pa_cons (pv 2) (pa_cons (pe_bltn (v := .ty "int") (by rfl) B.int (by decide +kernel) rfl) pa_nil)))))))) (pss_one (ps_ret pe_bl)) pss_nil)))
      (pss_one (ps_ret (pe_cmpR (op_eqD hr.units) (pv 0) (pv 1) (nomark _))))), ?_⟩
    refine ⟨_, rfl, _, _, _, _, _, rfl, .ty "tuple", sqt_ty hA, kit_ty (by decide +kernel : _ = some true), _, rfl, iteF ?_⟩
    refine ⟨_, rfl, a, rfl, ⟨_, hA⟩, for_tup (xs := ns.map V.int) (fun i σ H1 => H1 = H ∧ ∃ z, σ = [some (.ref a), some (.ref b), z]) ⟨rfl, _, rfl⟩ (fun i σ H1 _ h => h.1 ▸ hA) (fun i x σ H1 hx h => ?_) (fun σ H1 h => ?_)⟩
    · obtain ⟨rfl, z, rfl⟩ := h
      have hi := (List.getElem?_eq_some_iff.mp hx).1
      rw [List.length_map] at hi
      obtain rfl : V.int (at0 ns i) = x := Option.some.inj ((it0 hi).symm.trans hx)
      refine ⟨_, rfl, _, _, _, _, _, rfl, .ty "bool", .base (.int _), kit_ty (by decide +kernel : _ = some false), _, rfl, iteF ?_⟩
      refine ⟨_, rfl, _, _, _, _, _, rfl, .ty "int", .base (.int _), kit_ty (by decide +kernel : _ = some true), _, rfl, iteF ?_⟩
      exact ⟨rfl, _, rfl⟩
    · obtain ⟨rfl, z, rfl⟩ := h
      exact ⟨_, rfl, _, rfl, eq_tup hA hB q⟩
end
end JN

set_option maxRecDepth 100000
set_option maxHeartbeats 4000000
namespace JN
open PySem PySem.Spec PyProof.Rows L2
theorem zw_fm1 {g : Int → Int → Int} {ns ms : List Int} (hl : ns.length = ms.length) : (List.range ns.length).filterMap (fun i => some (V.int (g (at0 ns i) (at0 ms i)))) = (List.zipWith g ns ms).map V.int := by
  have := zw_fm (g := g) hl
  rwa [show min ns.length ms.length = ns.length by omega] at this
section
variable {P : Program} {w : World} {K : PySem.W.Frag} {mg : Str → Option Value} {base : Heap}
theorem sc_lawlcm : FnScope ["a", "b", "k"] ["a", "b"] (defScope (topS 12)) := ⟨rfl, rfl, rfl, by decide +kernel, rfl, by decide +kernel, by decide +kernel⟩
theorem ok_lawlcm {f : Addr} {fd : FuncData} (F : Fun K "_law_lcm" "_law_lcm" (topS 12) f fd) (B : Bm mg) : FnOk P w K mg base CX0 1 f fd ["a", "b"] (spZw K mxI) := by
  refine F.ok sc_lawlcm (fun vs H Q E h => ?_) (fun cdv A outer s H vs Q E hr h => ?_)
  · obtain ⟨a, b, ns, ms, rfl, _⟩ := h
    rfl
  · obtain ⟨a, b, ns, ms, rfl, hA, hB, hl, hz, q⟩ := h
    have nd := sc_lawlcm.nd
    refine ⟨_, pss_one (ps_ret (pe_callTy call_tuple_of (by rfl) B.tuple (by decide +kernel) (pa_cons (pe_lc (own := [("k", 2)]) (g := gName 2) (te := tCB (fun xs H Q => ∃ i j, xs = [.int i, .int j] ∧ Q (.int (if j > i then j else i)) H) (tCons (tOp (rIxT K) (tVar 0) (tVar 2)) (tCons (tOp (rIxT K) (tVar 1) (tVar 2)) tNil))) (by rfl) nd (pi_range1 (by rfl) B.range (pa_cons (pe_callB call_len_seq (by rfl) B.len PySem.boot_len (pa_cons (pv 0) pa_nil)) pa_nil))
        (blkOk_by (own := [("k", 2)]) (N := ["a", "b", "k"]) (sc := defScope (topS 12)) (by decide +kernel))
        (fun _ _ _ _ _ => pg_name (i := 2) nd rfl (.inl rfl)) (fun _ _ _ _ _ => pts_nil)
        (fun _ _ _ _ _ => pe_callB (call_max2 (by rfl)) (by rfl) B.max (by decide +kernel) (pa_cons (pe_ix ix_tup (pv 0) (pv 2) (fun _ _ => rfl)) (pa_cons (pe_ix ix_tup (pv 1) (pv 2) (fun _ _ => rfl)) pa_nil)))) pa_nil))), ?_⟩
    have hc : (((ns.map V.int).length : Nat) : Int).toNat = ns.length := by rw [toNat_len, List.length_map]
    refine ⟨_, rfl, a, _, rfl, .inr hA, _, rfl, by omega, by rw [List.length_map]; omega, fun D nD => lc_keep (walk_range (lo := 0)) (fun i => some (V.int (mxI (at0 ns i) (at0 ms i)))) nD ?_ (fun H1 e => trivial) (fun i x H1 H2 P1 P0 hi sm y h1 h0 => ?_) (fun H1 sm e => ?_)⟩
    · rw [hc]
      exact small1000 (by omega)
    · rw [hc] at hi
      obtain ⟨rfl, rfl⟩ := y
      refine ⟨rfl, yes_ok ?_⟩
      exact ⟨_, rfl, _, rfl, a, _, _, _, rfl, rfl, Same.tup sm hA, at_of (Int.zero_add _) (it0 hi), _, rfl, _, rfl, b, _, _, _, rfl, rfl, Same.tup sm hB, at_of (Int.zero_add _) (it0 (hl ▸ hi)), _, _, rfl, h1 _ _ rfl (Same.refl _)⟩
    · rw [hc, zw_fm1 hl] at e
      refine ⟨D, _, rfl, .inl ⟨.inl (.inl e), fun l nl => q l _ (sm.trans (same_new nl)) sqt_new⟩⟩
theorem sc_lawtimes : FnScope ["a", "b", "k"] ["a", "b"] (defScope (topS 13)) := ⟨rfl, rfl, rfl, by decide +kernel, rfl, by decide +kernel, by decide +kernel⟩
theorem ok_lawtimes {f : Addr} {fd : FuncData} (F : Fun K "_law_times" "_law_times" (topS 13) f fd) (B : Bm mg) : FnOk P w K mg base CX0 1 f fd ["a", "b"] (spZw K (· + ·)) := by
  refine F.ok sc_lawtimes (fun vs H Q E h => ?_) (fun cdv A outer s H vs Q E hr h => ?_)
  · obtain ⟨a, b, ns, ms, rfl, _⟩ := h
    rfl
  · obtain ⟨a, b, ns, ms, rfl, hA, hB, hl, hz, q⟩ := h
    have nd := sc_lawtimes.nd
    refine ⟨_, pss_one (ps_ret (pe_callTy call_tuple_of (by rfl) B.tuple (by decide +kernel) (pa_cons (pe_lc (own := [("k", 2)]) (g := gName 2) (te := tOp (rI0 fun i j => .int (i + j)) (tOp (rIxT K) (tVar 0) (tVar 2)) (tOp (rIxT K) (tVar 1) (tVar 2))) (by rfl) nd (pi_range1 (by rfl) B.range (pa_cons (pe_callB call_len_seq (by rfl) B.len PySem.boot_len (pa_cons (pv 0) pa_nil)) pa_nil))
        (blkOk_by (own := [("k", 2)]) (N := ["a", "b", "k"]) (sc := defScope (topS 13)) (by decide +kernel))
        (fun _ _ _ _ _ => pg_name (i := 2) nd rfl (.inl rfl)) (fun _ _ _ _ _ => pts_nil)
        (fun _ _ _ _ _ => pe_op op_add (pe_ix ix_tup (pv 0) (pv 2) (fun _ _ => rfl)) (pe_ix ix_tup (pv 1) (pv 2) (fun _ _ => rfl)))) pa_nil))), ?_⟩
    have hc : (((ns.map V.int).length : Nat) : Int).toNat = ns.length := by rw [toNat_len, List.length_map]
    refine ⟨_, rfl, a, _, rfl, .inr hA, _, rfl, by omega, by rw [List.length_map]; omega, fun D nD => lc_keep (walk_range (lo := 0)) (fun i => some (V.int ((· + ·) (at0 ns i) (at0 ms i)))) nD ?_ (fun H1 e => trivial) (fun i x H1 H2 P1 P0 hi sm y h1 h0 => ?_) (fun H1 sm e => ?_)⟩
    · rw [hc]
      exact small1000 (by omega)
    · rw [hc] at hi
      obtain ⟨rfl, rfl⟩ := y
      refine ⟨rfl, yes_ok ?_⟩
      exact ⟨_, rfl, _, rfl, a, _, _, _, rfl, rfl, Same.tup sm hA, at_of (Int.zero_add _) (it0 hi), _, rfl, _, rfl, b, _, _, _, rfl, rfl, Same.tup sm hB, at_of (Int.zero_add _) (it0 (hl ▸ hi)), _, _, rfl, rfl, h1 _ _ rfl (Same.refl _)⟩
    · rw [hc, zw_fm1 hl] at e
      refine ⟨D, _, rfl, .inl ⟨.inl (.inl e), fun l nl => q l _ (sm.trans (same_new nl)) sqt_new⟩⟩
theorem sc_lawcut : FnScope ["a", "b", "k"] ["a", "b"] (defScope (topS 14)) := ⟨rfl, rfl, rfl, by decide +kernel, rfl, by decide +kernel, by decide +kernel⟩
theorem ok_lawcut {f : Addr} {fd : FuncData} (F : Fun K "_law_cut" "_law_cut" (topS 14) f fd) (B : Bm mg) : FnOk P w K mg base CX0 1 f fd ["a", "b"] (spZw K ctI) := by
  refine F.ok sc_lawcut (fun vs H Q E h => ?_) (fun cdv A outer s H vs Q E hr h => ?_)
  · obtain ⟨a, b, ns, ms, rfl, _⟩ := h
    rfl
  · obtain ⟨a, b, ns, ms, rfl, hA, hB, hl, hz, q⟩ := h
    have nd := sc_lawcut.nd
    refine ⟨_, pss_one (ps_ret (pe_callTy call_tuple_of (by rfl) B.tuple (by decide +kernel) (pa_cons (pe_lc (own := [("k", 2)]) (g := gName 2) (te := tCB (fun xs H Q => ∃ i j, xs = [.int i, .int j] ∧ Q (.int (if j > i then j else i)) H) (tCons (tOp (rI0 fun i j => .int (i - j)) (tOp (rIxT K) (tVar 0) (tVar 2)) (tOp (rIxT K) (tVar 1) (tVar 2))) (tCons (tC (.int 0)) tNil))) (by rfl) nd (pi_range1 (by rfl) B.range (pa_cons (pe_callB call_len_seq (by rfl) B.len PySem.boot_len (pa_cons (pv 0) pa_nil)) pa_nil))
        (blkOk_by (own := [("k", 2)]) (N := ["a", "b", "k"]) (sc := defScope (topS 14)) (by decide +kernel))
        (fun _ _ _ _ _ => pg_name (i := 2) nd rfl (.inl rfl)) (fun _ _ _ _ _ => pts_nil)
        (fun _ _ _ _ _ => pe_callB (call_max2 (by rfl)) (by rfl) B.max (by decide +kernel) (pa_cons (pe_op op_sub (pe_ix ix_tup (pv 0) (pv 2) (fun _ _ => rfl)) (pe_ix ix_tup (pv 1) (pv 2) (fun _ _ => rfl))) (pa_cons pe_int pa_nil)))) pa_nil))), ?_⟩
    have hc : (((ns.map V.int).length : Nat) : Int).toNat = ns.length := by rw [toNat_len, List.length_map]
    refine ⟨_, rfl, a, _, rfl, .inr hA, _, rfl, by omega, by rw [List.length_map]; omega, fun D nD => lc_keep (walk_range (lo := 0)) (fun i => some (V.int (ctI (at0 ns i) (at0 ms i)))) nD ?_ (fun H1 e => trivial) (fun i x H1 H2 P1 P0 hi sm y h1 h0 => ?_) (fun H1 sm e => ?_)⟩
    · rw [hc]
      exact small1000 (by omega)
    · rw [hc] at hi
      obtain ⟨rfl, rfl⟩ := y
      refine ⟨rfl, yes_ok ?_⟩
      exact ⟨_, rfl, _, rfl, a, _, _, _, rfl, rfl, Same.tup sm hA, at_of (Int.zero_add _) (it0 hi), _, rfl, _, rfl, b, _, _, _, rfl, rfl, Same.tup sm hB, at_of (Int.zero_add _) (it0 (hl ▸ hi)), _, _, rfl, rfl, _, _, rfl, h1 _ _ rfl (Same.refl _)⟩
    · rw [hc, zw_fm1 hl] at e
      refine ⟨D, _, rfl, .inl ⟨.inl (.inl e), fun l nl => q l _ (sm.trans (same_new nl)) sqt_new⟩⟩
theorem sc_row : FnScope ["m", "n", "wide", "k"] ["m", "n", "wide"] (defScope (topS 15)) := ⟨rfl, rfl, rfl, by decide +kernel, rfl, by decide +kernel, by decide +kernel⟩
theorem ok_row {f fD : Addr} {fd fdD : FuncData} (F : Fun K "_law_row" "_law_row" (topS 15) f fd) (B : Bm mg) (FD : Fun K "_law_draw" "_law_draw" sDraw fD fdD) (bD : Binds K fdD ["m", "below"] []) (gD : mg "_law_draw" = some (.ref fD)) : FnOk P w K mg base CX0 2 f fd ["m", "n", "wide"] (spRow K) := by
  have GD : FnOk P w K mg base CX0 1 fD fdD ["m", "below"] spDraw := ok_draw FD B.toBt
  refine F.ok sc_row (fun vs H Q E h => ?_) (fun cdv A outer s H vs Q E hr h => ?_)
  · obtain ⟨d, c, n, wide, m, rfl, _⟩ := h
    rfl
  · obtain ⟨d, c, n, wide, m, rfl, hD, hm, hn, hw1, hw2, q⟩ := h
    have nd := sc_row.nd
    refine ⟨_, pss_one (ps_ret (pe_callTy call_tuple_of (by rfl) B.tuple (by decide +kernel) (pa_cons (pe_lc (own := [("k", 3)]) (g := gName 3) (by rfl) nd (pi_range1 (by rfl) B.range (pa_cons (pv 1) pa_nil))
        (blkOk_by (own := [("k", 3)]) (N := ["m", "n", "wide", "k"]) (sc := defScope (topS 15)) (by decide +kernel))
        (fun _ _ _ _ _ => pg_name (i := 3) nd rfl (.inl rfl)) (fun _ _ _ _ _ => pts_nil)
        (fun _ _ _ _ _ => pe_ifExp (pt_cmpR op_gt (pe_call GD hr (by rfl) gD FD.kp bD .nil pass0 (pa_cons (pv 0) (pa_cons pe_int pa_nil))) pe_int (nomark _)) (pe_call GD hr (by rfl) gD FD.kp bD .nil pass0 (pa_cons (pv 0) (pa_cons (pv 2) pa_nil))) pe_int)) pa_nil))), ?_⟩
    refine ⟨_, rfl, _, rfl, by omega, by omega, fun D nD => ?_⟩
    obtain ⟨neD, neC⟩ := hD.ne nD
    refine lc_range (n := ((n : Nat) : Int).toNat) (fun i H1 => ∃ ns : List Int, ns.length = i ∧ (∀ x ∈ ns, 0 ≤ x ∧ x < wide) ∧ Kp [d] H H1 ∧ Drw H1 d c (m + 2 * i) ∧ H1 D = some (.lst (ns.map V.int))) ?_ (fun i H1 hi h => ?_) (fun H1 h => ?_)
    · exact ⟨[], rfl, by simp, Kp.of (same_new nD), hD.same (same_new nD) (Nat.le_refl _), upd_same⟩
    · obtain ⟨ns, hl, ha, kp, hD1, eD⟩ := h
      have hi' : i < n := hi
      refine ⟨rfl, yes_ok ?_⟩
      have step : ∀ (y : Int) (H3 : Hp), 0 ≤ y → y < wide → Kp [d] H H3 → Drw H3 d c (m + 2 * (i + 1)) → H3 D = some (.lst (ns.map V.int)) →
          ∃ acc, H3 D = some (.lst acc) ∧ acc.length < sizeLine ∧ ∃ ns' : List Int, ns'.length = i + 1 ∧ (∀ x ∈ ns', 0 ≤ x ∧ x < wide) ∧ Kp [d] H (upd H3 D (.lst (acc ++ [V.int y]))) ∧ Drw (upd H3 D (.lst (acc ++ [V.int y]))) d c (m + 2 * (i + 1)) ∧ (upd H3 D (.lst (acc ++ [V.int y]))) D = some (.lst (ns'.map V.int)) := by
        intro y H3 y0 y1 kp3 hD3 e3
        refine ⟨_, e3, ?_, ns ++ [y], by rw [List.length_append, hl]; rfl, fun x hx => ?_, fun b o e nb => ?_, hD3.put neD neC, ?_⟩
        · rw [List.length_map]; exact small1000 (by omega)
        · rcases List.mem_append.mp hx with h | h
          · exact ha x h
          · rw [List.mem_singleton.mp h]; exact ⟨y0, y1⟩
        · rw [upd_ne (ne_of_none e nD)]
          exact kp3 _ _ e nb
        · rw [upd_same, List.map_append]; rfl
      refine ⟨_, rfl, d, c, 3, m + 2 * i, rfl, hD1, by omega, by decide, by decide, fun r H2 h0 h1 kp2 hD2 => ⟨_, _, rfl, rfl, _, rfl, ?_⟩⟩
      have e2 : H2 D = some (.lst (ns.map V.int)) := kp2 _ _ eD (by simpa using neD)
      refine ite2 (fun e => ?_) (fun e => ?_)
      · refine ⟨_, rfl, _, rfl, d, c, wide, m + 2 * i + 1, rfl, hD2, by omega, hw1, hw2, fun r2 H3 h2 h3 kp3 hD3 => step r2 H3 h2 h3 ((kp.trans kp2).trans kp3) ?_ (kp3 _ _ e2 (by simpa using neD))⟩
        rw [show m + 2 * (i + 1) = m + 2 * i + 1 + 1 by omega]
        exact hD3
      · exact step 0 H2 (by decide) (by omega) (kp.trans kp2) (hD2.same (Same.refl _) (by omega)) e2
    · obtain ⟨ns, hl, ha, kp, hD1, eD⟩ := h
      have hl' : ns.length = n := hl
      refine ⟨D, _, rfl, .inl ⟨.inl (.inl eD), fun l nl => q l _ ns hl' ha (kp.trans (Kp.of (same_new nl))) (hD1.same (same_new nl) (by omega)) upd_same⟩⟩
end
end JN

set_option maxRecDepth 100000
set_option maxHeartbeats 8000000
namespace JN
open PySem PySem.Spec PyProof.Rows L2
theorem same_kp {S : List Addr} {H0 H1 H2 : Hp} (s : Same H0 H1) (k : Kp S H1 H2) (n : ∀ x ∈ S, H0 x = none) : Same H0 H2 := fun b o e => k b o (s b o e) fun m => by
  rw [n b m] at e; cases e
theorem ite_cut {t : TS} {D : Ends} {σ : L2.St} {H : Hp} {c : Prop} [Decidable c] (R : L2.St → Hp → Prop) (h2 : ∀ σ' H', R σ' H' → D.nx σ' H') (hA : (∀ σ' H', R σ' H' → D.nx σ' H') → c → t D σ H) (hB : ¬ c → R σ H) : if c then t D σ H else tNext D σ H :=
  ite2 (fun e => hA h2 e) (fun e => h2 _ _ (hB e))
theorem at_lo {j : Nat} : V.int (j : Int) = V.int (0 + (j : Int)) := by rw [Int.zero_add]
theorem Drw.ne_tup {H : Hp} {d c p : Addr} {n : Nat} {xs : List V} (h : Drw H d c n) (e : H p = some (.tup xs)) : p ∉ [d] := fun m => by
  obtain ⟨l, s, z, cs, h1, _⟩ := h
  rw [List.mem_singleton.mp m, h1] at e
  cases e
theorem dr_step {H H3 : Hp} {D d c : Addr} {ns : List Int} {y : Int} {m : Nat} (nD : H D = none) (n1 : D ≠ d) (n2 : D ≠ c) (hD3 : Drw H3 d c m) (kp3 : Kp [d] H H3) (e3 : H3 D = some (.lst (ns.map V.int))) (hl : ns.length < 1000) :
    ∃ acc, H3 D = some (.lst acc) ∧ acc.length < sizeLine ∧ Kp [d] H (upd H3 D (.lst (acc ++ [V.int y]))) ∧ Drw (upd H3 D (.lst (acc ++ [V.int y]))) d c m ∧ (upd H3 D (.lst (acc ++ [V.int y]))) D = some (.lst ((ns ++ [y]).map V.int)) := by
  refine ⟨_, e3, ?_, fun b o e nb => ?_, hD3.put n1 n2, ?_⟩
  · rw [List.length_map]; exact small1000 (by omega)
  · rw [upd_ne (ne_of_none e nD)]
    exact kp3 _ _ e nb
  · rw [upd_same, List.map_append]; rfl
def spLaw (K : PySem.W.Frag) : Sp := fun vs H Q _ => ∃ (a : Addr) (ns : List Int), vs = [.ref a] ∧ SqL K H a (ns.map V.int) ∧ ns.length ≤ 63 ∧ ∀ H', Q (.bl true) H'
section
variable {P : Program} {w : World} {K : PySem.W.Frag} {mg : Str → Option Value} {base : Heap}
/-- a def of the text, how it binds, where its name stands -/
structure At (K : PySem.W.Frag) (mg : Str → Option Value) (x : Str) (st : Stmt) (ps : List Str) (f : Addr) (fd : FuncData) : Prop where
  fn : Fun K x x st f fd
  bi : Binds K fd ps []
  gl : mg x = some (.ref f)
abbrev NL : List Str := ["script", "k", "m", "n", "wide", "a", "b", "one", "other", "told", "due", "both", "j"]
theorem sc_law : FnScope NL ["script"] (defScope (topS 17)) := ⟨rfl, rfl, rfl, by decide +kernel, rfl, by decide +kernel, by decide +kernel⟩
structure Tx (K : PySem.W.Frag) (mg : Str → Option Value) : Prop extends Bm mg where
  begun : ∃ f fd, At K mg "_law_begun" (topS 9) ["script", "k"] f fd
  draw : ∃ f fd, At K mg "_law_draw" (topS 10) ["m", "below"] f fd
  of : ∃ f fd, At K mg "_law_of" (topS 11) ["m", "some"] f fd
  lawlcm : ∃ f fd, At K mg "_law_lcm" (topS 12) ["a", "b"] f fd
  lawtimes : ∃ f fd, At K mg "_law_times" (topS 13) ["a", "b"] f fd
  lawcut : ∃ f fd, At K mg "_law_cut" (topS 14) ["a", "b"] f fd
  row : ∃ f fd, At K mg "_law_row" (topS 15) ["m", "n", "wide"] f fd
  plain : ∃ f fd, At K mg "_law_is_plain" (topS 16) ["value", "due"] f fd
  deg : ∃ f fd, At K mg "degree_of" (topS 1) ["monomial"] f fd
  supp : ∃ f fd, At K mg "support_of" (topS 2) ["monomial"] f fd
  dvd : ∃ f fd, At K mg "divides" (topS 3) ["a", "b"] f fd
  lcm : ∃ f fd, At K mg "lcm_of" (topS 4) ["a", "b"] f fd
  gcd : ∃ f fd, At K mg "gcd_of" (topS 5) ["a", "b"] f fd
  times : ∃ f fd, At K mg "times" (topS 6) ["a", "b"] f fd
  cut : ∃ f fd, At K mg "cut" (topS 7) ["a", "b"] f fd
set_option maxHeartbeats 0 in
theorem ok_law {f : Addr} {fd : FuncData} (F : Fun K "law" "law" (topS 17) f fd) (T : Tx K mg) : FnOk P w K mg base CX0 3 f fd ["script"] (spLaw K) := by
  obtain ⟨f9, d9, A9⟩ := T.begun
  obtain ⟨f10, d10, A10⟩ := T.draw
  obtain ⟨f11, d11, A11⟩ := T.of
  obtain ⟨f12, d12, A12⟩ := T.lawlcm
  obtain ⟨f13, d13, A13⟩ := T.lawtimes
  obtain ⟨f14, d14, A14⟩ := T.lawcut
  obtain ⟨f15, d15, A15⟩ := T.row
  obtain ⟨f16, d16, A16⟩ := T.plain
  obtain ⟨f1, d1, A1⟩ := T.deg
  obtain ⟨f2, d2, A2⟩ := T.supp
  obtain ⟨f3, d3, A3⟩ := T.dvd
  obtain ⟨f4, d4, A4⟩ := T.lcm
  obtain ⟨f5, d5, A5⟩ := T.gcd
  obtain ⟨f6, d6, A6⟩ := T.times
  obtain ⟨f7, d7, A7⟩ := T.cut
  have B := T.toBm
  have G9 : FnOk P w K mg base CX0 1 f9 d9 _ (spBegun K) := ok_begun A9.fn B.toBt
  have G10 : FnOk P w K mg base CX0 1 f10 d10 _ spDraw := ok_draw A10.fn B.toBt
  have G11 : FnOk P w K mg base CX0 2 f11 d11 _ (spOf K) := ok_of A11.fn B.toBt A10.fn A10.bi A10.gl
  have G12 : FnOk P w K mg base CX0 1 f12 d12 _ (spZw K mxI) := ok_lawlcm A12.fn B
  have G13 : FnOk P w K mg base CX0 1 f13 d13 _ (spZw K (· + ·)) := ok_lawtimes A13.fn B
  have G14 : FnOk P w K mg base CX0 1 f14 d14 _ (spZw K ctI) := ok_lawcut A14.fn B
  have G15 : FnOk P w K mg base CX0 2 f15 d15 _ (spRow K) := ok_row A15.fn B A10.fn A10.bi A10.gl
  have G16 : FnOk P w K mg base CX0 1 f16 d16 _ (spPlain K) := ok_plain A16.fn B
  have G1 : FnOk P w K mg base CX0 1 f1 d1 _ (spSumT K) := ok_deg A1.fn B
  have G2 : FnOk P w K mg base CX0 1 f2 d2 _ (spSupp K) := ok_supp A2.fn B
  have G3 : FnOk P w K mg base CX0 1 f3 d3 _ (spDvd K) := ok_dvd A3.fn B
  have G4 : FnOk P w K mg base CX0 1 f4 d4 _ (spZw K mxI) := ok_lcm_of A4.fn B
  have G5 : FnOk P w K mg base CX0 1 f5 d5 _ (spZw K mnI) := ok_gcd_of A5.fn B
  have G6 : FnOk P w K mg base CX0 1 f6 d6 _ (spZw K (· + ·)) := ok_times A6.fn B
  have G7 : FnOk P w K mg base CX0 1 f7 d7 _ (spZw K ctI) := ok_cut A7.fn B
  refine F.ok sc_law (fun vs H Q E h => ?_) (fun cdv A outer s H vs Q E hr h => ?_)
  · obtain ⟨a, ns, rfl, _⟩ := h
    rfl
  · obtain ⟨sA, ns, rfl, hS, hlen, q⟩ := h
    have nd := sc_law.nd
    refine ⟨_, pss_cons (ps_for PassesOwn.never rfl (pi_range1 (by rfl) B.range (pa_cons (pe_callB (call_max2 (by rfl)) (by rfl) B.max (by decide +kernel) (pa_cons pe_int (pa_cons (pe_callB (call_min2 (by rfl)) (by rfl) B.min (by decide +kernel) (pa_cons (pe_callB call_len_seq (by rfl) B.len PySem.boot_len (pa_cons (pv 0) pa_nil)) (pa_cons pe_int pa_nil))) pa_nil))) pa_nil)) (pg_name (i := 1) nd rfl (.inl rfl))
        (pss_cons (ps_set (i := 2) nd rfl (.inr rfl) (pe_call G9 (hr.mono (by decide)) (by rfl) A9.gl A9.fn.kp A9.bi .nil pass0 (pa_cons (pv 0) (pa_cons (pv 1) pa_nil))))
        (pss_cons (ps_set (i := 3) nd rfl (.inl rfl) (pe_op op_add pe_int (pe_call G10 (hr.mono (by decide)) (by rfl) A10.gl A10.fn.kp A10.bi .nil pass0 (pa_cons (pv 2) (pa_cons pe_int pa_nil)))))
        (pss_cons (ps_set (i := 4) nd rfl (.inl rfl) (pe_call G11 hr (by rfl) A11.gl A11.fn.kp A11.bi .nil pass0 (pa_cons (pv 2) (pa_cons (pe_lst (pa_cons pe_int (pa_cons pe_int (pa_cons pe_int (pa_cons (pe_op op_pow pe_int pe_int) pa_nil))))) pa_nil))))
        (pss_cons (ps_asg (pe_tup (pa_cons (pe_call G15 hr (by rfl) A15.gl A15.fn.kp A15.bi .nil pass0 (pa_cons (pv 2) (pa_cons (pv 3) (pa_cons (pv 4) pa_nil)))) (pa_cons (pe_call G15 hr (by rfl) A15.gl A15.fn.kp A15.bi .nil pass0 (pa_cons (pv 2) (pa_cons (pv 3) (pa_cons (pv 4) pa_nil)))) pa_nil))) (pg_tup (by rfl) (pgs_cons (pg_name (i := 5) nd rfl (.inr rfl)) (pgs_cons (pg_name (i := 6) nd rfl (.inr rfl)) pgs_nil))))
        (pss_cons (ps_if (pt_cmpR op_eq (pe_call G10 (hr.mono (by decide)) (by rfl) A10.gl A10.fn.kp A10.bi .nil pass0 (pa_cons (pv 2) (pa_cons pe_int pa_nil))) pe_int (nomark _)) (pss_one (ps_set (i := 6) nd rfl (.inr rfl) (pe_callTy call_tuple_of (by rfl) B.tuple (by decide +kernel) (pa_cons (pe_lc (own := [("j", 12)]) (g := gName 12) (te := tOp (rI0 fun i j => .int (i + j)) (tOp (rIxT K) (tVar 5) (tVar 12)) (tCall spDraw [] E0 (tCons (tVar 2) (tCons (tC (.int 3)) tNil)))) (by rfl) nd (pi_range1 (by rfl) B.range (pa_cons (pv 3) pa_nil)) (blkOk_by (own := [("j", 12)]) (N := ["script", "k", "m", "n", "wide", "a", "b", "one", "other", "told", "due", "both", "j"]) (sc := defScope (topS 17)) (by decide +kernel)) (fun _ _ _ _ _ => pg_name (i := 12) nd rfl (.inl rfl)) (fun _ _ _ _ _ => pts_nil) (fun _ _ _ _ _ => pe_op op_add (pe_ix ix_tup (pv 5) (pv 12) (fun _ _ => rfl)) (pe_call G10 (hr.mono (by decide)) (by rfl) A10.gl A10.fn.kp A10.bi .nil pass0 (pa_cons (pv 2) (pa_cons pe_int pa_nil))))) pa_nil)))) pss_nil)
        (pss_cons (ps_if (pt_cmpR op_ne (pe_call G1 (hr.mono (by decide)) (by rfl) A1.gl A1.fn.kp A1.bi .nil pass0 (pa_cons (pv 5) pa_nil)) (pe_callB (cr_sumT (by rfl)) (by rfl) B.sum (by decide +kernel) (pa_cons (pv 5) pa_nil)) (nomark _)) (pss_one (ps_ret pe_bl)) pss_nil)
        (pss_cons (ps_if (pt_not (pt_val (pe_call G16 (hr.mono (by decide)) (by rfl) A16.gl A16.fn.kp A16.bi .nil pass0 (pa_cons (pe_call G2 (hr.mono (by decide)) (by rfl) A2.gl A2.fn.kp A2.bi .nil pass0 (pa_cons (pv 5) pa_nil)) (pa_cons (pe_callTy call_tuple_of (by rfl) B.tuple (by decide +kernel) (pa_cons (pe_lc (own := [("j", 12)]) (g := gName 12) (tt := tTest (tOp rNe (tOp (rIxT K) (tVar 5) (tVar 12)) (tC (.int 0)))) (by rfl) nd (pi_range1 (by rfl) B.range (pa_cons (pv 3) pa_nil)) (blkOk_by (own := [("j", 12)]) (N := ["script", "k", "m", "n", "wide", "a", "b", "one", "other", "told", "due", "both", "j"]) (sc := defScope (topS 17)) (by decide +kernel)) (fun _ _ _ _ _ => pg_name (i := 12) nd rfl (.inl rfl)) (fun _ _ _ _ _ => pts_one (pt_cmpR op_ne (pe_ix ix_tup (pv 5) (pv 12) (fun _ _ => rfl)) pe_int (nomark _))) (fun _ _ _ _ _ => pv 12)) pa_nil)) pa_nil))))) (pss_one (ps_ret pe_bl)) pss_nil)
        (pss_cons (ps_for PassesOwn.never rfl (pi_list (pe_lst (pa_cons (pe_tup (pa_cons (pv 5) (pa_cons (pv 6) pa_nil))) (pa_cons (pe_tup (pa_cons (pv 6) (pa_cons (pv 5) pa_nil))) (pa_cons (pe_tup (pa_cons (pv 5) (pa_cons (pv 5) pa_nil))) pa_nil))))) (pg_tup (by rfl) (pgs_cons (pg_name (i := 7) nd rfl (.inr rfl)) (pgs_cons (pg_name (i := 8) nd rfl (.inr rfl)) pgs_nil)))
          (pss_cons (ps_set (i := 9) nd rfl (.inl rfl) (pe_call G3 (hr.mono (by decide)) (by rfl) A3.gl A3.fn.kp A3.bi .nil pass0 (pa_cons (pv 7) (pa_cons (pv 8) pa_nil))))
          (pss_cons (ps_set (i := 10) nd rfl (.inl rfl) (pe_cmpR (op_eqD hr.units) (pe_lc (own := [("j", 12)]) (g := gName 12) (tt := tTest (tOp (rI0 fun i j => .bl (decide (j < i))) (tOp (rIxT K) (tVar 7) (tVar 12)) (tOp (rIxT K) (tVar 8) (tVar 12)))) (by rfl) nd (pi_range1 (by rfl) B.range (pa_cons (pv 3) pa_nil)) (blkOk_by (own := [("j", 12)]) (N := ["script", "k", "m", "n", "wide", "a", "b", "one", "other", "told", "due", "both", "j"]) (sc := defScope (topS 17)) (by decide +kernel)) (fun _ _ _ _ _ => pg_name (i := 12) nd rfl (.inl rfl)) (fun _ _ _ _ _ => pts_one (pt_cmpR op_gt (pe_ix ix_tup (pv 7) (pv 12) (fun _ _ => rfl)) (pe_ix ix_tup (pv 8) (pv 12) (fun _ _ => rfl)) (nomark _))) (fun _ _ _ _ _ => pv 12)) (pe_lst pa_nil) (nomark _)))
          (pss_cons (ps_if (PW.pt (pw_or (pt_not (pt_val (pe_callB call_isi (by rfl) B.isinstance (by decide +kernel) (pa_cons (pv 9) (pa_cons (pe_bltn (v := .ty "bool") (by rfl) B.bool (by decide +kernel) rfl) pa_nil))))) (pw_or1 (pt_cmpR op_ne (pv 9) (pv 10) (nomark _))))) (pss_one (ps_ret pe_bl)) pss_nil)
          (pss_cons (ps_if (pt_cmpR op_ne (pv 9) (pe_cmpR (op_eqD hr.units) (pe_call G4 (hr.mono (by decide)) (by rfl) A4.gl A4.fn.kp A4.bi .nil pass0 (pa_cons (pv 7) (pa_cons (pv 8) pa_nil))) (pv 8) (nomark _)) (nomark _)) (pss_one (ps_ret pe_bl)) pss_nil)
          (pss_cons (ps_if (pt_cmpR op_ne (pv 9) (pe_cmpR (op_eqD hr.units) (pe_call G5 (hr.mono (by decide)) (by rfl) A5.gl A5.fn.kp A5.bi .nil pass0 (pa_cons (pv 7) (pa_cons (pv 8) pa_nil))) (pv 7) (nomark _)) (nomark _)) (pss_one (ps_ret pe_bl)) pss_nil)
          (pss_one (ps_if (pt_cmpR op_ne (pv 9) (pe_cmpR (op_eqD hr.units) (pe_call G7 (hr.mono (by decide)) (by rfl) A7.gl A7.fn.kp A7.bi .nil pass0 (pa_cons (pv 7) (pa_cons (pv 8) pa_nil))) (pe_op op_repA (pe_tup (pa_cons pe_int pa_nil)) (pv 3)) (nomark _)) (nomark _)) (pss_one (ps_ret pe_bl)) pss_nil))))))))
        (pss_cons (ps_if (pt_not (pt_val (pe_call G16 (hr.mono (by decide)) (by rfl) A16.gl A16.fn.kp A16.bi .nil pass0 (pa_cons (pe_call G4 (hr.mono (by decide)) (by rfl) A4.gl A4.fn.kp A4.bi .nil pass0 (pa_cons (pv 5) (pa_cons (pv 6) pa_nil))) (pa_cons (pe_call G12 (hr.mono (by decide)) (by rfl) A12.gl A12.fn.kp A12.bi .nil pass0 (pa_cons (pv 5) (pa_cons (pv 6) pa_nil))) pa_nil))))) (pss_one (ps_ret pe_bl)) pss_nil)
        (pss_cons (ps_if (pt_not (pt_val (pe_call G16 (hr.mono (by decide)) (by rfl) A16.gl A16.fn.kp A16.bi .nil pass0 (pa_cons (pe_call G6 (hr.mono (by decide)) (by rfl) A6.gl A6.fn.kp A6.bi .nil pass0 (pa_cons (pv 5) (pa_cons (pv 6) pa_nil))) (pa_cons (pe_call G13 (hr.mono (by decide)) (by rfl) A13.gl A13.fn.kp A13.bi .nil pass0 (pa_cons (pv 5) (pa_cons (pv 6) pa_nil))) pa_nil))))) (pss_one (ps_ret pe_bl)) pss_nil)
        (pss_cons (ps_if (pt_not (pt_val (pe_call G16 (hr.mono (by decide)) (by rfl) A16.gl A16.fn.kp A16.bi .nil pass0 (pa_cons (pe_call G7 (hr.mono (by decide)) (by rfl) A7.gl A7.fn.kp A7.bi .nil pass0 (pa_cons (pv 5) (pa_cons (pv 6) pa_nil))) (pa_cons (pe_call G14 (hr.mono (by decide)) (by rfl) A14.gl A14.fn.kp A14.bi .nil pass0 (pa_cons (pv 5) (pa_cons (pv 6) pa_nil))) pa_nil))))) (pss_one (ps_ret pe_bl)) pss_nil)
        (pss_cons (ps_set (i := 11) nd rfl (.inl rfl) (pe_callTy call_tuple_of (by rfl) B.tuple (by decide +kernel) (pa_cons (pe_lc (own := [("j", 12)]) (g := gName 12) (te := tCB (fun xs H Q => ∃ i j, xs = [.int i, .int j] ∧ Q (.int (if j < i then j else i)) H) (tCons (tOp (rIxT K) (tVar 5) (tVar 12)) (tCons (tOp (rIxT K) (tVar 6) (tVar 12)) tNil))) (by rfl) nd (pi_range1 (by rfl) B.range (pa_cons (pv 3) pa_nil)) (blkOk_by (own := [("j", 12)]) (N := ["script", "k", "m", "n", "wide", "a", "b", "one", "other", "told", "due", "both", "j"]) (sc := defScope (topS 17)) (by decide +kernel)) (fun _ _ _ _ _ => pg_name (i := 12) nd rfl (.inl rfl)) (fun _ _ _ _ _ => pts_nil) (fun _ _ _ _ _ => pe_callB (call_min2 (by rfl)) (by rfl) B.min (by decide +kernel) (pa_cons (pe_ix ix_tup (pv 5) (pv 12) (fun _ _ => rfl)) (pa_cons (pe_ix ix_tup (pv 6) (pv 12) (fun _ _ => rfl)) pa_nil)))) pa_nil)))
        (pss_cons (ps_if (PW.pt (pw_or (pt_not (pt_val (pe_call G16 (hr.mono (by decide)) (by rfl) A16.gl A16.fn.kp A16.bi .nil pass0 (pa_cons (pe_call G5 (hr.mono (by decide)) (by rfl) A5.gl A5.fn.kp A5.bi .nil pass0 (pa_cons (pv 5) (pa_cons (pv 6) pa_nil))) (pa_cons (pv 11) pa_nil))))) (pw_or1 (pt_cmpR (op_neD hr.units) (pe_call G5 (hr.mono (by decide)) (by rfl) A5.gl A5.fn.kp A5.bi .nil pass0 (pa_cons (pv 6) (pa_cons (pv 5) pa_nil))) (pv 11) (nomark _))))) (pss_one (ps_ret pe_bl)) pss_nil)
        (pss_cons (ps_if (pt_cmpR (op_neD hr.units) (pe_call G4 (hr.mono (by decide)) (by rfl) A4.gl A4.fn.kp A4.bi .nil pass0 (pa_cons (pv 6) (pa_cons (pv 5) pa_nil))) (pe_call G4 (hr.mono (by decide)) (by rfl) A4.gl A4.fn.kp A4.bi .nil pass0 (pa_cons (pv 5) (pa_cons (pv 6) pa_nil))) (nomark _)) (pss_one (ps_ret pe_bl)) pss_nil)
        (pss_one (ps_if (PW.pt (pw_or (pt_cmpR (op_neD hr.units) (pe_call G6 (hr.mono (by decide)) (by rfl) A6.gl A6.fn.kp A6.bi .nil pass0 (pa_cons (pe_call G7 (hr.mono (by decide)) (by rfl) A7.gl A7.fn.kp A7.bi .nil pass0 (pa_cons (pv 5) (pa_cons (pv 6) pa_nil))) (pa_cons (pv 11) pa_nil))) (pv 5) (nomark _)) (pw_or1 (pt_cmpR (op_neD hr.units) (pe_call G6 (hr.mono (by decide)) (by rfl) A6.gl A6.fn.kp A6.bi .nil pass0 (pa_cons (pe_call G4 (hr.mono (by decide)) (by rfl) A4.gl A4.fn.kp A4.bi .nil pass0 (pa_cons (pv 5) (pa_cons (pv 6) pa_nil))) (pa_cons (pv 11) pa_nil))) (pe_call G6 (hr.mono (by decide)) (by rfl) A6.gl A6.fn.kp A6.bi .nil pass0 (pa_cons (pv 5) (pa_cons (pv 6) pa_nil))) (nomark _))))) (pss_one (ps_ret pe_bl)) pss_nil)))))))))))))))))
      (pss_one (ps_ret pe_bl)), ?_⟩
    refine ⟨_, rfl, sA, _, rfl, .inl hS, _, _, rfl, _, _, rfl, _, rfl, ?_, ?_, for_range (fun i σ H1 => Same H H1 ∧ ∃ x1 x2 x3 x4 x5 x6 x7 x8 x9 x10 x11 x12, σ = [some (.ref sA), x1, x2, x3, x4, x5, x6, x7, x8, x9, x10, x11, x12]) ⟨Same.refl H, _, _, _, _, _, _, _, _, _, _, _, _, rfl⟩ (fun i σ H1 hi h => ?_) (fun σ H1 h => ?_)⟩
    · split <;> split <;> omega
    · split <;> split <;> omega
    · have hi6 : i < 6 := by
        revert hi
        split <;> split <;> intro hi <;> omega
      obtain ⟨sm, x1, x2, x3, x4, x5, x6, x7, x8, x9, x10, x11, x12, rfl⟩ := h
      refine ⟨_, rfl, _, rfl, sA, ns, 0 + (i : Int), rfl, sm.seq hS, hlen, by omega, by omega, fun d c H2 s2 nd2 nc2 hD2 => ?_⟩
      have hHd : ∀ x ∈ [d], H x = none := fun x hx => by rw [List.mem_singleton.mp hx]; exact sm.free nd2
      have S2 : Same H H2 := sm.trans s2
      refine ⟨_, rfl, d, c, 12, 0, rfl, hD2, by decide, by decide, by decide, fun r1 H3 r10 r11 k3 hD3 => ⟨_, _, rfl, rfl, ?_⟩⟩
      have S3 : Same H H3 := same_kp S2 k3 hHd
      dsimp only
      obtain ⟨n, hn⟩ : ∃ n : Nat, 1 + r1 = (n : Int) := ⟨(1 + r1).toNat, by omega⟩
      rw [hn]
      have hn1 : 1 ≤ n := by omega
      have hn12 : n ≤ 12 := by omega
      refine ⟨_, rfl, 10, 7, rfl, rfl, ⟨by decide, by decide, by decide⟩, (by show 4 ≤ sizeLine; decide), fun l nl => ?_⟩
      have hD3' := hD3.same (m := 1) (same_new (o := .lst [V.int 2, V.int 4, V.int 61, V.int (10 ^ (7 : Int).toNat)]) nl) (Nat.le_refl _)
      refine ⟨d, c, l, _, 1, rfl, hD3', by decide, sql_new, (hD3.ne nl).1, by simp, (by show 4 ≤ 1000; decide), fun v H4 hv k4 hD4 => ?_⟩
      have S4 : Same H H4 := same_kp (S3.trans (same_new nl)) k4 hHd
      obtain ⟨wd, rfl, hw1, hw2⟩ : ∃ wd : Int, v = .int wd ∧ 1 ≤ wd ∧ wd < 1073741824 := by
        simp only [List.mem_cons, List.not_mem_nil, or_false] at hv
        rcases hv with rfl | rfl | rfl | rfl <;> exact ⟨_, rfl, by decide, by decide⟩
      refine ⟨_, rfl, _, rfl, _, rfl, d, c, n, wd, 2, rfl, hD4, by decide, by omega, hw1, hw2, fun pa H5 as la ba k5 hD5 e5 => ?_⟩
      have S5 : Same H H5 := same_kp S4 k5 hHd
      refine ⟨_, rfl, _, rfl, _, rfl, d, c, n, wd, _, rfl, hD5, by omega, by omega, hw1, hw2, fun pb H6 bs lb bb k6 hD6 e6 => ?_⟩
      have S6 : Same H H6 := same_kp S5 k6 hHd
      have e6a : H6 pa = some (.tup (as.map V.int)) := k6 _ _ e5 (hD5.ne_tup e5)
      refine ⟨(by show 2 ≤ sizeLine; decide), fun T1 nT => ⟨T1, _, rfl, sqt_new, rfl, _, _, rfl, _, _, rfl, rfl, ?_⟩⟩
      have s7 := same_new (o := .tup [V.ref pa, V.ref pb]) nT
      have hD7 := hD6.same s7 (Nat.le_refl _)
      refine ⟨_, rfl, d, c, 3, _, rfl, hD7, by omega, by decide, by decide, fun r8 H8 r80 r81 k8 hD8 => ⟨rfl, _, rfl, ?_⟩⟩
      have S8 : Same H H8 := same_kp (S6.trans s7) k8 hHd
      have e8a : H8 pa = some (.tup (as.map V.int)) := k8 _ _ (s7 _ _ e6a) (hD7.ne_tup (s7 _ _ e6a))
      have e8b : H8 pb = some (.tup (bs.map V.int)) := k8 _ _ (s7 _ _ e6) (hD7.ne_tup (s7 _ _ e6))
      refine ite_cut (fun σ' H' => Same H H' ∧ ∃ (pb' : Addr) (bs' : List Int), σ' = [some (.ref sA), some (.int (0 + (i : Int))), some (.ref d), some (.int (n : Int)), some (.int wd), some (.ref pa), some (.ref pb'), x7, x8, x9, x10, x11, x12] ∧ bs'.length = n ∧ H' pa = some (.tup (as.map V.int)) ∧ H' pb' = some (.tup (bs'.map V.int))) (fun σ' H9 h => ?_) (fun rest e => ?_) (fun e => ⟨S8, pb, bs, rfl, lb, e8a, e8b⟩)
      · obtain ⟨S9, pb', bs', rfl, lb', eA, eB⟩ := h
        have qA : SqT K H9 pa (as.map V.int) := .inl (.inl eA)
        have qB : SqT K H9 pb' (bs'.map V.int) := .inl (.inl eB)
        have lab : as.length = bs'.length := by omega
        refine ⟨_, rfl, pa, as, rfl, qA, _, rfl, pa, as, rfl, qA, rfl, _, rfl, iteNS rfl ?_⟩
        refine ⟨_, rfl, pa, as, rfl, qA, by omega, fun ps H10 s10 eS => ?_⟩
        refine ⟨_, rfl, _, rfl, by omega, by omega, fun D nD => lc_keep (walk_range (lo := 0) (n := ((n : Nat) : Int).toNat)) (fun j => if decide (0 < at0 as j) then some (V.int (j : Int)) else none) nD ?_ (fun H1 e => trivial) (fun j x H1 H2 P1 P0 hj sm1 y h1 h0 => ?_) (fun H11 sm1 e => ?_)⟩
        · exact small1000 (by show n ≤ 1000; omega)
        · have hj' : j < as.length := by
            rw [la]; exact hj
          obtain ⟨rfl, rfl⟩ := y
          have hx := ba (at0 as j) (List.mem_of_getElem? (at0_get hj'))
          refine ⟨rfl, _, rfl, _, rfl, pa, _, _, _, rfl, rfl, Same.tup sm1 (Same.tup s10 qA), at_of (Int.zero_add _) (it0 hj'), rfl, _, rfl, ?_⟩
          refine ite2 (fun e => ⟨_, rfl, h1 _ _ ?_ (Same.refl _)⟩) (fun e => h0 _ ?_ (Same.refl _))
          · have : at0 as j ≠ 0 := fun z => by
              rw [z] at e
              exact absurd e (by decide)
            rw [if_pos (decide_eq_true (by omega))]
            exact congrArg some at_lo
          · have : at0 as j = 0 := by
              apply Classical.byContradiction
              intro z
              apply e
              rw [decide_eq_false (fun w => z (V.int.inj w))]
              rfl
            rw [if_neg (by rw [this]; decide)]
        · rw [fm_sel] at e
          refine ⟨D, _, rfl, .inl ⟨.inl (.inl e), fun l nl => ?_⟩⟩
          have s12 := same_new (o := .tup ((selI (fun j => decide (0 < at0 as j)) ((n : Nat) : Int).toNat).map V.int)) nl
          refine ⟨ps, l, _, _, rfl, Same.tup (sm1.trans s12) eS, sqt_new, _, rfl, iteNS (by rw [la]; rfl) ?_⟩
          have s9b := (s10.trans sm1).trans s12
          generalize upd H11 l (.tup ((selI (fun j => decide (0 < at0 as j)) ((n : Nat) : Int).toNat).map V.int)) = H12 at s9b ⊢
          have S12 := S9.trans s9b
          have eA2 := s9b _ _ eA
          have eB2 := s9b _ _ eB
          clear s12 nl e sm1 nD eS s10 s9b
          refine ⟨_, rfl, _, rfl, (by show 2 ≤ sizeLine; decide), fun t1 n1 => ⟨_, rfl, _, rfl, (by show 2 ≤ sizeLine; decide), fun t2 n2 => ⟨_, rfl, _, rfl, (by show 2 ≤ sizeLine; decide), fun t3 n3 => ⟨(by show 3 ≤ sizeLine; decide), fun L nL => ?_⟩⟩⟩⟩
          have u1 := same_new (o := .tup [V.ref pa, V.ref pb']) n1
          have u2 := same_new (o := .tup [V.ref pb', V.ref pa]) n2
          have u3 := same_new (o := .tup [V.ref pa, V.ref pa]) n3
          have u4 := same_new (o := .lst [V.ref t1, V.ref t2, V.ref t3]) nL
          have w1 := ((u2.trans u3).trans u4) _ _ (upd_same (H := H12) (a := t1) (o := .tup [V.ref pa, V.ref pb']))
          have w2 := (u3.trans u4) _ _ (upd_same (a := t2) (o := .tup [V.ref pb', V.ref pa]))
          have w3 := u4 _ _ (upd_same (a := t3) (o := .tup [V.ref pa, V.ref pa]))
          have uall := ((u1.trans u2).trans u3).trans u4
          have hL : SqL K (upd (upd (upd (upd H12 t1 (.tup [V.ref pa, V.ref pb'])) t2 (.tup [V.ref pb', V.ref pa])) t3 (.tup [V.ref pa, V.ref pa])) L (.lst [V.ref t1, V.ref t2, V.ref t3])) L [V.ref t1, V.ref t2, V.ref t3] := sql_new
          refine ⟨L, rfl, ⟨_, hL⟩, ?_⟩
          generalize upd (upd (upd (upd H12 t1 (.tup [V.ref pa, V.ref pb'])) t2 (.tup [V.ref pb', V.ref pa])) t3 (.tup [V.ref pa, V.ref pa])) L (.lst [V.ref t1, V.ref t2, V.ref t3]) = H13 at w1 w2 w3 uall hL ⊢
          have S13 := S12.trans uall
          have eA3 := uall _ _ eA2
          have eB3 := uall _ _ eB2
          clear u1 u2 u3 u4 uall n1 n2 n3 nL
          refine for_list (xs := [V.ref t1, V.ref t2, V.ref t3]) (fun j σ H1 => Same H13 H1 ∧ ∃ y7 y8 y9 y10 y11 y12, σ = [some (.ref sA), some (.int (0 + (i : Int))), some (.ref d), some (.int (n : Int)), some (.int wd), some (.ref pa), some (.ref pb'), y7, y8, y9, y10, y11, y12])
            ⟨Same.refl _, _, _, _, _, _, _, rfl⟩ (fun j σ H1 _ h => h.1.seq hL) (fun j x σ H14 hx h => ?_) (fun σ H14 h => ?_)
          · obtain ⟨s14, y7, y8, y9, y10, y11, y12, rfl⟩ := h
            obtain ⟨t, p, r, np, nr, rfl, et, ep, er, lp, lr⟩ : ∃ (t p r : Addr) (np nr : List Int), x = .ref t ∧ H13 t = some (.tup [V.ref p, V.ref r]) ∧ H13 p = some (.tup (np.map V.int)) ∧ H13 r = some (.tup (nr.map V.int)) ∧ np.length = n ∧ nr.length = n := by
              match j, hx with
              | 0, hx => exact ⟨t1, pa, pb', as, bs', (Option.some.inj hx).symm, w1, eA3, eB3, la, lb'⟩
              | 1, hx => exact ⟨t2, pb', pa, bs', as, (Option.some.inj hx).symm, w2, eB3, eA3, lb', la⟩
              | 2, hx => exact ⟨t3, pa, pa, as, as, (Option.some.inj hx).symm, w3, eA3, eA3, la, la⟩
              | k + 3, hx => simp at hx
            have lpr : np.length = nr.length := by omega
            have qP : SqT K H14 p (np.map V.int) := .inl (.inl (s14 _ _ ep))
            have qR : SqT K H14 r (nr.map V.int) := .inl (.inl (s14 _ _ er))
            refine ⟨t, _, rfl, .inl (.inl (s14 _ _ et)), rfl, _, _, rfl, _, _, rfl, rfl, ?_⟩
            refine ⟨_, rfl, _, rfl, p, r, np, nr, rfl, qP, qR, lpr, fun H15 s15 => ?_⟩
            refine ⟨_, rfl, _, rfl, by omega, by omega, fun D nD => lc_keep (walk_range (lo := 0) (n := ((n : Nat) : Int).toNat)) (fun j => if decide (at0 nr j < at0 np j) then some (V.int (j : Int)) else none) nD ?_ (fun H1 e => trivial) (fun j x H1 H2 P1 P0 hj sm1 y h1 h0 => ?_) (fun H16 s16 e => ?_)⟩
            · exact small1000 (by show n ≤ 1000; omega)
            · have hj1 : j < np.length := by rw [lp]; exact hj
              have hj2 : j < nr.length := by rw [lr]; exact hj
              obtain ⟨rfl, rfl⟩ := y
              refine ⟨rfl, _, rfl, _, rfl, p, _, _, _, rfl, rfl, Same.tup (s15.trans sm1) qP, at_of (Int.zero_add _) (it0 hj1), _, rfl, _, rfl, r, _, _, _, rfl, rfl, Same.tup (s15.trans sm1) qR, at_of (Int.zero_add _) (it0 hj2), _, _, rfl, rfl, _, rfl, ?_⟩
              refine ite2 (fun e => ⟨_, rfl, h1 _ _ ?_ (Same.refl _)⟩) (fun e => h0 _ ?_ (Same.refl _))
              · rw [if_pos e]
                exact congrArg some at_lo
              · rw [if_neg e]
            · rw [fm_sel] at e
              refine ⟨by decide, fun o no => ?_⟩
              have s17 := same_new (o := .lst []) no
              refine eq_lst (ns := selI (fun j => decide (at0 nr j < at0 np j)) ((n : Nat) : Int).toNat) (ms := []) (.inl (.inl (s17 _ _ e))) (sql_new (o := [])) ?_
              rw [show ((n : Nat) : Int).toNat = n from rfl, dvd_sel lp lr]
              have sA7 := (s15.trans s16).trans s17
              generalize upd H16 o (.lst []) = H17 at sA7 ⊢
              have qP7 : SqT K H17 p (np.map V.int) := Same.tup sA7 qP
              have qR7 : SqT K H17 r (nr.map V.int) := Same.tup sA7 qR
              clear s17 no e s16 nD
              refine ⟨_, rfl, _, _, _, _, _, rfl, .ty "bool", .base (.bl _), kit_ty (by decide +kernel : _ = some true), _, rfl, iteF ⟨_, rfl, _, rfl, rfl, _, rfl, iteNS rfl ?_⟩⟩
              refine ⟨_, rfl, _, rfl, _, rfl, p, r, np, nr, rfl, qP7, qR7, lpr, by omega, fun q1 H18 s18 eQ => ⟨_, rfl, eq_tup eQ (Same.tup s18 qR7) ⟨rfl, _, rfl, iteNS (by rw [dvd_lcm lpr]) ?_⟩⟩⟩
              refine ⟨_, rfl, _, rfl, _, rfl, p, r, np, nr, rfl, Same.tup s18 qP7, Same.tup s18 qR7, lpr, by omega, fun q2 H19 s19 eQ2 => ⟨_, rfl, eq_tup eQ2 (Same.tup (s18.trans s19) qP7) ⟨rfl, _, rfl, iteNS (by rw [dvd_gcd lpr]) ?_⟩⟩⟩
              refine ⟨_, rfl, _, rfl, _, rfl, p, r, np, nr, rfl, Same.tup (s18.trans s19) qP7, Same.tup (s18.trans s19) qR7, lpr, by omega, fun q3 H20 s20 eQ3 => ⟨(by show 1 ≤ sizeLine; decide), fun o2 no2 => ⟨_, rfl, rep_one hn1 (by omega) upd_same fun z H21 s21 ez => ?_⟩⟩⟩
              have s20b := same_new (o := .tup [V.int 0]) no2
              have qz : SqT K H21 z ((List.replicate n 0).map V.int) := .inl (.inl (by rw [List.map_replicate]; exact ez))
              refine eq_tup (Same.tup (s20b.trans s21) eQ3) qz ⟨rfl, _, rfl, iteNS (by rw [← dvd_cut lpr, lp]) ?_⟩
              exact ⟨(s14.trans sA7).trans (((s18.trans s19).trans s20).trans (s20b.trans s21)), _, _, _, _, _, _, rfl⟩
          · obtain ⟨s14, y7, y8, y9, y10, y11, y12, rfl⟩ := h
            have eA4 : SqT K H14 pa (as.map V.int) := .inl (.inl (s14 _ _ eA3))
            have eB4 : SqT K H14 pb' (bs'.map V.int) := .inl (.inl (s14 _ _ eB3))
            have S14 := S13.trans s14
            have hz : as.length ≤ 1000 := by omega
            have hz2 : bs'.length ≤ 1000 := by omega
            refine ⟨_, rfl, _, rfl, pa, pb', as, bs', rfl, eA4, eB4, lab, hz, fun p1 G1 g1 f1 => ⟨_, rfl, _, rfl, pa, pb', as, bs', rfl, Same.tup g1 eA4, Same.tup g1 eB4, lab, hz, fun p2 G2 g2 f2 => ⟨p1, p2, _, _, rfl, Same.tup g2 f1, f2, _, rfl, iteNS rfl ?_⟩⟩⟩
            have g12 := g1.trans g2
            refine ⟨_, rfl, _, rfl, pa, pb', as, bs', rfl, Same.tup g12 eA4, Same.tup g12 eB4, lab, hz, fun p3 G3 g3 f3 => ⟨_, rfl, _, rfl, pa, pb', as, bs', rfl, Same.tup (g12.trans g3) eA4, Same.tup (g12.trans g3) eB4, lab, hz, fun p4 G4 g4 f4 => ⟨p3, p4, _, _, rfl, Same.tup g4 f3, f4, _, rfl, iteNS rfl ?_⟩⟩⟩
            have g14 := (g12.trans g3).trans g4
            refine ⟨_, rfl, _, rfl, pa, pb', as, bs', rfl, Same.tup g14 eA4, Same.tup g14 eB4, lab, hz, fun p5 G5 g5 f5 => ⟨_, rfl, _, rfl, pa, pb', as, bs', rfl, Same.tup (g14.trans g5) eA4, Same.tup (g14.trans g5) eB4, lab, hz, fun p6 G6 g6 f6 => ⟨p5, p6, _, _, rfl, Same.tup g6 f5, f6, _, rfl, iteNS rfl ?_⟩⟩⟩
            have g16 := (g14.trans g5).trans g6
            refine ⟨_, rfl, _, rfl, by omega, by omega, fun D nD => lc_keep (walk_range (lo := 0) (n := ((n : Nat) : Int).toNat)) (fun j => some (V.int (mnI (at0 as j) (at0 bs' j)))) nD ?_ (fun H1 e => trivial) (fun j x H1 H2 P1 P0 hj sm1 y h1 h0 => ?_) (fun G7 g7 e => ?_)⟩
            · exact small1000 (by show n ≤ 1000; omega)
            · have hj1 : j < as.length := by rw [la]; exact hj
              have hj2 : j < bs'.length := by rw [lb']; exact hj
              obtain ⟨rfl, rfl⟩ := y
              refine ⟨rfl, yes_ok ?_⟩
              exact ⟨_, rfl, _, rfl, pa, _, _, _, rfl, rfl, Same.tup (g16.trans sm1) eA4, at_of (Int.zero_add _) (it0 hj1), _, rfl, _, rfl, pb', _, _, _, rfl, rfl, Same.tup (g16.trans sm1) eB4, at_of (Int.zero_add _) (it0 hj2), _, _, rfl, h1 _ _ rfl (Same.refl _)⟩
            · rw [show ((n : Nat) : Int).toNat = as.length from la.symm, zw_fm1 lab] at e
              refine ⟨D, _, rfl, .inl ⟨.inl (.inl e), fun pc nc => ?_⟩⟩
              have g8 := (g16.trans g7).trans (same_new (o := .tup ((List.zipWith mnI as bs').map V.int)) nc)
              have f8 : SqT K (upd G7 pc (.tup ((List.zipWith mnI as bs').map V.int))) pc ((List.zipWith mnI as bs').map V.int) := sqt_new
              generalize upd G7 pc (.tup ((List.zipWith mnI as bs').map V.int)) = G8 at g8 f8 ⊢
              have eA8 := Same.tup g8 eA4
              have eB8 := Same.tup g8 eB4
              clear g7 e nc nD
              refine ⟨_, rfl, _, rfl, pa, pb', as, bs', rfl, eA8, eB8, lab, hz, fun p9 G9 g9 f9 => ⟨_, rfl, p9, pc, _, _, rfl, f9, Same.tup g9 f8, _, rfl, iteNS rfl ?_⟩⟩
              refine ⟨_, rfl, _, rfl, pb', pa, bs', as, rfl, Same.tup g9 eB8, Same.tup g9 eA8, lab.symm, hz2, fun p10 G10 g10 f10 => ⟨_, rfl, ne_tup f10 (Same.tup (g9.trans g10) f8) ⟨_, rfl, iteNS (zw_comm mn_comm lab.symm) ?_⟩⟩⟩
              have g11 := g9.trans g10
              refine ⟨_, rfl, _, rfl, pb', pa, bs', as, rfl, Same.tup g11 eB8, Same.tup g11 eA8, lab.symm, hz2, fun p11 G11 k11 f11 => ⟨_, rfl, _, rfl, pa, pb', as, bs', rfl, Same.tup (g11.trans k11) eA8, Same.tup (g11.trans k11) eB8, lab, hz, fun p12 G12 k12 f12 => ne_tup (Same.tup k12 f11) f12 ⟨_, rfl, iteNS (zw_comm mx_comm lab.symm) ?_⟩⟩⟩
              have g13 := (g11.trans k11).trans k12
              have lc1 := zw_len (g := ctI) lab
              have lc2 := zw_len (g := mnI) lab
              have lc3 := zw_len (g := mxI) lab
              refine ⟨_, rfl, _, rfl, pa, pb', as, bs', rfl, Same.tup g13 eA8, Same.tup g13 eB8, lab, hz, fun p13 G13 k13 f13 => ⟨_, rfl, p13, pc, _, _, rfl, f13, Same.tup (g13.trans k13) f8, lc1.trans lc2.symm, by omega, fun p14 G14 k14 f14 => ⟨_, rfl, ne_tup f14 (Same.tup ((g13.trans k13).trans k14) eA8) ⟨_, rfl, iteNS (cut_times lab) ?_⟩⟩⟩⟩
              have g15 := (g13.trans k13).trans k14
              refine ⟨_, rfl, _, rfl, pa, pb', as, bs', rfl, Same.tup g15 eA8, Same.tup g15 eB8, lab, hz, fun p15 G15 k15 f15 => ⟨_, rfl, p15, pc, _, _, rfl, f15, Same.tup (g15.trans k15) f8, lc3.trans lc2.symm, by omega, fun p16 G16 k16 f16 => ⟨_, rfl, _, rfl, pa, pb', as, bs', rfl, Same.tup ((g15.trans k15).trans k16) eA8, Same.tup ((g15.trans k15).trans k16) eB8, lab, hz, fun p17 G17 k17 f17 => ne_tup (Same.tup k17 f16) f17 ⟨_, rfl, iteNS (lcm_times lab) ?_⟩⟩⟩⟩
              exact ⟨S14.trans (g8.trans (((g15.trans k15).trans k16).trans k17)), _, _, _, _, _, _, _, _, _, _, _, _, rfl⟩
      · -- b = tuple([a[j] + _law_draw(m, 3) for j in range(n)])
        refine ⟨_, rfl, _, rfl, by omega, by omega, fun D nD => ?_⟩
        obtain ⟨neD, neC⟩ := hD8.ne nD
        refine lc_range (n := ((n : Nat) : Int).toNat) (fun j H1 => ∃ ms : List Int, ms.length = j ∧ Kp [d] H8 H1 ∧ Drw H1 d c (1000 + j) ∧ H1 D = some (.lst (ms.map V.int))) ?_ (fun j H1 hj h => ?_) (fun H1 h => ?_)
        · exact ⟨[], rfl, Kp.of (same_new nD), hD8.same (same_new nD) (by omega), upd_same⟩
        · obtain ⟨ms, lm, kp, hDm, eD⟩ := h
          have hj' : j < n := hj
          refine ⟨rfl, yes_ok ?_⟩
          refine ⟨_, rfl, _, rfl, pa, _, _, _, rfl, rfl, .inl (.inl (kp _ _ e8a (hD8.ne_tup e8a))), at_of (Int.zero_add _) (it0 (by omega)), _, rfl, d, c, 3, _, rfl, hDm, by omega, by decide, by decide, fun r H2 h0 h1 kp2 hD2' => ⟨_, _, rfl, rfl, ?_⟩⟩
          obtain ⟨acc, ea, la', f1, f2, f3⟩ := dr_step (y := at0 as j + r) nD neD neC hD2' (kp.trans kp2) (kp2 _ _ eD (by simpa using neD)) (by omega)
          exact ⟨acc, ea, la', ms ++ [at0 as j + r], by rw [List.length_append, lm]; rfl, f1, f2, f3⟩
        · obtain ⟨ms, lm, kp, hDm, eD⟩ := h
          have lm' : ms.length = n := lm
          refine ⟨D, _, rfl, .inl ⟨.inl (.inl eD), fun l2 nl2 => rest _ _ ⟨?_, l2, ms, rfl, lm', ?_, upd_same⟩⟩⟩
          · exact (same_kp S8 kp hHd).trans (same_new nl2)
          · exact same_new nl2 _ _ (kp _ _ e8a (hD8.ne_tup e8a))
    · obtain ⟨sm, x1, x2, x3, x4, x5, x6, x7, x8, x9, x10, x11, x12, rfl⟩ := h
      exact q _
end
end JN

set_option maxRecDepth 100000
set_option maxHeartbeats 8000000
namespace JN
open PySem PySem.Spec PyProof.Rows L2
theorem at_mk {K : PySem.W.Frag} {h : Heap} {mg : Str → Option Value} (X : K.In h) (G : h.Ns mainGlobals mg) {x : Str} {st : Stmt} {ps : List Str} {f : Addr} {od an : Option Addr} {sl : Array (Option Value)} {oc kV dc pm cd ct : Value}
    (hb : ∀ (kV doc pm : Value) (an : Option Addr) (cdv ct : Value) (us : List Value), us.length = ps.length → bindArgs (PySem.W.fnOf x x (defArgs st) (defBody st) (defScope st) .none kV doc pm an cdv ct) ⟨us, []⟩ = pure (ps.zip us))
    (a : PySem.W.nsIn K mainGlobals x = some (some (.ref f))) (l : K.lookup f = some ⟨oc, od, .func (PySem.W.fnOf x x (defArgs st) (defBody st) (defScope st) .none kV dc pm an cd ct), sl⟩) (c : PySem.W.codeIn K cd x = true) (k : PySem.W.keepIn K (.ref f) = true) :
    ∃ f fd, At K mg x st ps f fd :=
  ⟨f, _, fun_mk l c k, (fun_mk l c k).binds hb, PySem.W.mg_of X G a⟩
theorem all_mk {l : PySem.W.OpenLaw} {w : World} {K : PySem.W.Frag} {h : Heap} {mg : Str → Option Value} {fa f0 : Addr} (X : K.In h) (G : h.Ns mainGlobals mg) (hfa : mg "law" = some (.ref fa)) (T : Tx K mg)
    {od an : Option Addr} {sl : Array (Option Value)} {oc kV dc pm cd ct : Value}
    (a : PySem.W.nsIn K mainGlobals "law" = some (some (.ref f0))) (lk : K.lookup f0 = some ⟨oc, od, .func (PySem.W.fnOf "law" "law" (defArgs (topS 17)) (defBody (topS 17)) (defScope (topS 17)) .none kV dc pm an cd ct), sl⟩) (c : PySem.W.codeIn K cd "law" = true) (k : PySem.W.keepIn K (.ref f0) = true) :
    ∃ fd : FuncData, (∀ (s : Shared) (v : Value), BindsTo s fd ⟨[v], []⟩ [("script", v)]) ∧ ∀ base : Heap, K.In base → base.Ns mainGlobals mg → FnOk l.prog w K mg base CX0 3 fa fd ["script"] (spLaw K) := by
  have e := hfa.symm.trans (PySem.W.mg_of X G a)
  cases e
  exact ⟨_, fun s v => .of_eq rfl, fun base _ _ => ok_law (fun_mk lk c k) T⟩
end JN
open PySem PySem.W PyProof.Rows
set_option maxHeartbeats 0 in
theorem PySem.Challenge.cw_jointneeds_k00_monomials_holds : PySem.Challenge.rw_jointneeds_k00_monomials.Holds := by
  w_on; o_law; k_head; (case hw => w_witness2)
  k_fill
  refine L2.walk_of (l := PySem.Challenge.rw_jointneeds_k00_monomials) (n := 63) (k := 3) (x := "script") (CX := fun _ => L2.CX0) (sp := fun w => JN.spLaw _) rfl (by decide) rfl ⟨rfl, by decide, by decide⟩ (fun w h Y => PySem.W.kIn_of Y) ?F (fun _ _ a ns hl _ hS => ⟨a, ns, rfl, hS, hl, fun _ => rfl⟩) (fun _ _ _ _ _ h => h)
  case F =>
    intro w mg fa h KX G hmg
    have none : ∀ {x : Str}, PySem.W.nsIn _ mainGlobals x = some none → mg x = none := fun e => PySem.W.mg_none_of KX G e
    refine' JN.all_mk KX G hmg ?T ?aL ?lL ?cL ?kL
    case T =>
      refine' ⟨⟨⟨none ?z0, none ?z1⟩, none ?z2, none ?z3, none ?z4, none ?z5, none ?z6, none ?z7, none ?z8, none ?z9, none ?z10⟩, ?t0, ?t1, ?t2, ?t3, ?t4, ?t5, ?t6, ?t7, ?t8, ?t9, ?t10, ?t11, ?t12, ?t13, ?t14⟩
      case t0 => refine' JN.at_mk KX G (fun _ _ _ _ _ _ us hl => match us, hl with | [_, _], _ => rfl) ?a0 ?l0 ?c0 ?k0; (case a0 => k_is); (case l0 => k_is); (case c0 => k_is); (case k0 => k_is)
      case t1 => refine' JN.at_mk KX G (fun _ _ _ _ _ _ us hl => match us, hl with | [_, _], _ => rfl) ?a1 ?l1 ?c1 ?k1; (case a1 => k_is); (case l1 => k_is); (case c1 => k_is); (case k1 => k_is)
      case t2 => refine' JN.at_mk KX G (fun _ _ _ _ _ _ us hl => match us, hl with | [_, _], _ => rfl) ?a2 ?l2 ?c2 ?k2; (case a2 => k_is); (case l2 => k_is); (case c2 => k_is); (case k2 => k_is)
      case t3 => refine' JN.at_mk KX G (fun _ _ _ _ _ _ us hl => match us, hl with | [_, _], _ => rfl) ?a3 ?l3 ?c3 ?k3; (case a3 => k_is); (case l3 => k_is); (case c3 => k_is); (case k3 => k_is)
      case t4 => refine' JN.at_mk KX G (fun _ _ _ _ _ _ us hl => match us, hl with | [_, _], _ => rfl) ?a4 ?l4 ?c4 ?k4; (case a4 => k_is); (case l4 => k_is); (case c4 => k_is); (case k4 => k_is)
      case t5 => refine' JN.at_mk KX G (fun _ _ _ _ _ _ us hl => match us, hl with | [_, _], _ => rfl) ?a5 ?l5 ?c5 ?k5; (case a5 => k_is); (case l5 => k_is); (case c5 => k_is); (case k5 => k_is)
      case t6 => refine' JN.at_mk KX G (fun _ _ _ _ _ _ us hl => match us, hl with | [_, _, _], _ => rfl) ?a6 ?l6 ?c6 ?k6; (case a6 => k_is); (case l6 => k_is); (case c6 => k_is); (case k6 => k_is)
      case t7 => refine' JN.at_mk KX G (fun _ _ _ _ _ _ us hl => match us, hl with | [_, _], _ => rfl) ?a7 ?l7 ?c7 ?k7; (case a7 => k_is); (case l7 => k_is); (case c7 => k_is); (case k7 => k_is)
      case t8 => refine' JN.at_mk KX G (fun _ _ _ _ _ _ us hl => match us, hl with | [_], _ => rfl) ?a8 ?l8 ?c8 ?k8; (case a8 => k_is); (case l8 => k_is); (case c8 => k_is); (case k8 => k_is)
      case t9 => refine' JN.at_mk KX G (fun _ _ _ _ _ _ us hl => match us, hl with | [_], _ => rfl) ?a9 ?l9 ?c9 ?k9; (case a9 => k_is); (case l9 => k_is); (case c9 => k_is); (case k9 => k_is)
      case t10 => refine' JN.at_mk KX G (fun _ _ _ _ _ _ us hl => match us, hl with | [_, _], _ => rfl) ?a10 ?l10 ?c10 ?k10; (case a10 => k_is); (case l10 => k_is); (case c10 => k_is); (case k10 => k_is)
      case t11 => refine' JN.at_mk KX G (fun _ _ _ _ _ _ us hl => match us, hl with | [_, _], _ => rfl) ?a11 ?l11 ?c11 ?k11; (case a11 => k_is); (case l11 => k_is); (case c11 => k_is); (case k11 => k_is)
      case t12 => refine' JN.at_mk KX G (fun _ _ _ _ _ _ us hl => match us, hl with | [_, _], _ => rfl) ?a12 ?l12 ?c12 ?k12; (case a12 => k_is); (case l12 => k_is); (case c12 => k_is); (case k12 => k_is)
      case t13 => refine' JN.at_mk KX G (fun _ _ _ _ _ _ us hl => match us, hl with | [_, _], _ => rfl) ?a13 ?l13 ?c13 ?k13; (case a13 => k_is); (case l13 => k_is); (case c13 => k_is); (case k13 => k_is)
      case t14 => refine' JN.at_mk KX G (fun _ _ _ _ _ _ us hl => match us, hl with | [_, _], _ => rfl) ?a14 ?l14 ?c14 ?k14; (case a14 => k_is); (case l14 => k_is); (case c14 => k_is); (case k14 => k_is)
      (case z0 => k_is); (case z1 => k_is); (case z2 => k_is); (case z3 => k_is); (case z4 => k_is); (case z5 => k_is); (case z6 => k_is); (case z7 => k_is); (case z8 => k_is); (case z9 => k_is); (case z10 => k_is)
    (case aL => k_is); (case lL => k_is); (case cL => k_is); (case kL => k_is)

