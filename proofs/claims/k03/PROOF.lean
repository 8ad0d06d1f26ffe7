import PyProof.Rows.All
import Wide.All
import OpenK.AllK
import Wide.FinOn
import HandS.ForMost
import HandS.Zip
import HandS.Walk
import HandS.TupMul
import HandS.IsInst
import HandS.Flow
import KE.GoesEnum
import HandS.TupSets
import HandS.TupAny
import HandS.Style
import HandS.Sort
import PySem.Challenge.RW_jointneeds_k03_whole_sums_meets_products
set_option Elab.async false
set_option linter.all false
set_option maxRecDepth 100000
set_option maxHeartbeats 4000000
namespace JN
open PySem PySem.Spec PyProof.Rows L2
/-! a tuple walked by enumerate -/
def IteT (K : PySem.W.Frag) (a : Addr) : It where
  go := fun i H => ∃ (xs : List V) (x : V), SqT K H a xs ∧ xs[i]? = some x
  yld := fun i H v H' => ∃ T x, v = .ref T ∧ H T = none ∧ H' = upd H T (.tup [.int (i : Nat), x]) ∧ ∀ xs, SqT K H a xs → xs[i]? = some x
  stop := fun i H => ∃ xs : List V, SqT K H a xs ∧ xs.length ≤ i
theorem ne_by_cls {h : Heap} {a b : Addr} {o p : Obj} (ho : h.get? a = some o) (hp : h.get? b = some p) (n : o.cls ≠ p.cls) : a ≠ b := fun e => by
  subst e
  rw [ho] at hp
  cases hp
  exact n rfl
theorem turn_enumT {P : Program} {w : World} {K : PySem.W.Frag} {elts : List Expr} {kk : Nat} {tpos : Pos} (a e it : Addr) :
    Turn P w K (.Tuple elts kk tpos) (IteT K a) [e, it] e (fun i h => (∃ old, IsEnum h e it ((i : Nat) : Int) old) ∧ h.IsTupleIter it a i ∧ e ≠ it) where
  mem := by simp
  obj := fun i h st b hb => by
    obtain ⟨⟨old, he⟩, ⟨o, ho, hc, hd⟩, _⟩ := st
    rcases (show b = e ∨ b = it by simpa using hb) with rfl | rfl
    · exact ⟨_, he, fun v q => nomatch q⟩
    · exact ⟨o, ho, fun v q => by rw [hd] at q; cases q⟩
  keep := fun i h h' st k => ⟨let ⟨old, he⟩ := st.1; ⟨old, k e (by simp) _ he⟩, st.2.1.at fun o q => k it (by simp) o q, st.2.2⟩
  item := by
    intro X hP hw hK hc i pins s σ H E I hf st hg
    subst hP hw hK
    obtain ⟨⟨old, he⟩, hit, hne⟩ := st
    obtain ⟨xs, x, hq, hx⟩ := hg
    obtain ⟨its, rv, p, hz⟩ := I.tuple hq
    obtain ⟨u, hu, ru⟩ := rv.get hx
    have pt : s.heap.IsTuple a its.toArray := p
    have hel : e < s.heap.objs.size := Heap.lt_size he
    have hil : it < s.heap.objs.size := by obtain ⟨_, q, _⟩ := hit; exact Heap.lt_size q
    have hai : a ≠ it := by
      obtain ⟨o1, e1, c1, _⟩ := id pt
      obtain ⟨o2, e2, c2, _⟩ := id hit
      exact ne_by_cls e1 e2 (by rw [c1, c2]; decide)
    have hea : e ≠ a := by
      obtain ⟨o1, e1, c1, _⟩ := id pt
      exact ne_by_cls he e1 (by rw [c1]; show Value.type "enumerate" ≠ Value.type "tuple"; decide)
    have hlt : i < its.toArray.size := by
      have := (List.getElem?_eq_some_iff.mp hu).1
      simpa using this
    have D : Draws X.prog X.w X.A.in1 it [it, a] its.toArray.size (fun i v => its.toArray[i]? = some v) (fun i h => h.IsTupleIter it a i ∧ h.IsTuple a its.toArray) :=
      Draws.tuple (show X.A.in1.handled = none from I.ok.hd hc) it a hai its.toArray
    refine wpAny_pyNext_enum_itemD D he ⟨hit, pt⟩ hlt hne (by simp [hne, hea]) fun y h' tk hy ho hst' hT hsz hk => ?_
    have ey : y = u := by
      have q : its.toArray[i]? = some u := by simpa using hu
      rw [q] at hy
      exact (Option.some.inj hy).symm
    subst ey
    refine ⟨_, rfl, wpAny_letOwnedTupleGo_enum (s := { s with heap := h', toks := tk + 1 }) ho fun h'' he' sb => ?_⟩
    have hT2 : h''.get? s.heap.objs.size = some { cls := .type "tuple", data := .seq #[.int i tk, y] } := (sb.2 _ (Nat.ne_of_gt hel)).trans hT
    have new : ObjOk X.prog X.w (upd H s.heap.objs.size (.tup [.int (i : Nat), x])) h'' s.heap.objs.size (.tup [.int (i : Nat), x]) :=
      ⟨by show 2 ≤ sizeLine; decide, [.int i tk, y], .cons ⟨_, rfl⟩ (.cons ru .nil), ⟨_, hT2, rfl, _, rfl⟩⟩
    have I1 : Inv X pins σ (upd H s.heap.objs.size (.tup [.int (i : Nat), x])) { s with heap := h'', toks := tk + 1 } :=
      I.turnedNew (ch := [e, it]) (fun b ob hb q => (sb.2 b (fun z => hb (by simp [z]))).trans (hk b ob (fun z => hb (by simp [z])) (fun z => hb (by simp [z])) q)) hf (Nat.le_refl _) new
    refine ⟨.ref s.heap.objs.size, _, I1, rfl, ⟨_, x, rfl, I.hok.fresh (Nat.le_refl _), rfl, fun ys hy => by rw [I.tuple_inj hy hq]; exact hx⟩, ⟨⟨y, ?_⟩, hst'.1.at fun o q => (sb.2 it (Ne.symm hne)).trans q, hne⟩, fun b hb => ?_⟩
    · rw [show ((i + 1 : Nat) : Int) = (i : Int) + 1 by omega]
      exact he'
    · have hb' : b < s.heap.objs.size := by
        rcases (show b = e ∨ b = it by simpa using hb) with rfl | rfl
        · exact hel
        · exact hil
      rw [upd_ne (Nat.ne_of_lt hb')]
      exact (hf b hb).1
  done := by
    intro X hP hw hK hc i pins s σ H E I hf st hg
    subst hP hw hK
    obtain ⟨⟨old, he⟩, hit, hne⟩ := st
    obtain ⟨xs, hq, hx⟩ := hg
    obtain ⟨its, rv, p, hz⟩ := I.tuple hq
    have pt : s.heap.IsTuple a its.toArray := p
    have hh : X.A.in1.handled = none := I.ok.hd hc
    obtain ⟨f0, f1, f2, f3, f4, f5⟩ := hf it (by simp)
    have hl := rv.length
    have hT : s.TypeIs (.ref e) "enumerate" := ⟨_, he, rfl⟩
    unfold pyNext
    refine wpAny_bind (wpAny_attempt (wpAny_callSpecial?_slot (name := Str.ofString "__next__") hT F.slot_enumerate_next
      (wpAny_call_entry F.slot_enumerate_next hT F.entry_enumerate_next ?_ (F.args_enumerate_next_1 _))))
    show wpAny _ _ (field (.ref e) 2 >>= _) _ _ _
    refine wpAny_bind (wpAny_field he rfl (x := .ref it) rfl ?_)
    refine wpAny_bind (wpAny_nextOf_tuple_end hh hit pt (by simp; omega) fun h' x he' hx' => ?_)
    obtain ⟨o, ho, hc'⟩ := hx'
    refine wpAny_bind (wpAny_isInstance (T := "StopIteration") (b := true) ⟨o, ho, hc'⟩ isSubtype_stop ?_)
    exact wpAny_pure ⟨rfl, I.turned (t' := s.toks) (fun b o hb q => he' b o hb q) f0 f1 f3 f4 f5⟩
  self := fun A i s Q E st h => let ⟨⟨_, he⟩, _⟩ := st; wpAny_pyIter_enum he h
theorem new_enum1 {v : Value} {o : Obj} {H : Heap → Prop} (B : Begins v o H) :
    Meets (Builtin.«enumerate.__new__» ⟨[.type "enumerate", v], []⟩) (fun _ R s => H s.heap ∧
      R (.ok (.ret (.ref (s.heap.push o).objs.size))) { s with heap := (s.heap.push o).push { cls := .type "enumerate", data := .fields #[.none, .bool false, .ref s.heap.objs.size, rawInt 0, .none, .none] } }) :=
  .of_wp fun prog w A R s h => by
    obtain ⟨hp, g, d, tk, os⟩ := s; obtain ⟨h1, h⟩ := h
    have hsub := sub_enumerate
    have q1 : ∀ {A' : Around} {E : Value → Shared → Prop} {Q : Value → Shared → Prop}, Q (.ref hp.objs.size) ⟨hp.push o, g, d, tk, os⟩ → wpAny (model prog w) A' (pyIter v) Q E ⟨hp, g, d, tk, os⟩ :=
      fun q => B.iter prog w _ _ ⟨hp, g, d, tk, os⟩ _ h1 q
    wp_walk using q1
    refine wpAny_stack_any fun st => wpAny_pure ?_
    split
    · rename_i c _ _ _ _ _
      cases (c == Value.type "enumerate")
      · wp_walk using q1
        exact ⟨_, rfl, h⟩
      · wp_walk using q1
        exact ⟨_, rfl, h⟩
    · wp_walk using q1
      exact ⟨_, rfl, h⟩
theorem call_enum1 {prog : Program} {w : World} {A : Around} {E : Value → Shared → Prop} {s : Shared} {v : Value} {o : Obj} {H : Heap → Prop} {Q : Value → Shared → Prop} (B : Begins v o H) (h1 : H s.heap)
    (h : ∀ h', IsEnum h' (s.heap.objs.size + 1) s.heap.objs.size 0 .none → h'.get? s.heap.objs.size = some o → h'.objs.size = s.heap.objs.size + 2 →
      (∀ b o, s.heap.get? b = some o → h'.get? b = some o) → Q (.ref (s.heap.objs.size + 1)) { s with heap := h' }) :
    wpAny (model prog w) A (call (.type "enumerate") [v]) Q E s := by
  refine callType_new F.called_enumerate (by decide) (F.typeCall_enumerate_1 _) (F.newCall_enumerate_1 _) (fun obj => F.args_object_init_2 obj _) F.entry_enumerate_new (new_enum1 B) ⟨h1, ?_⟩
  have hz : (s.heap.push o).objs.size = s.heap.objs.size + 1 := Heap.size_push ..
  show _ ∧ _
  rw [hz]
  have he : IsEnum ((s.heap.push o).push { cls := .type "enumerate", data := .fields #[.none, .bool false, .ref s.heap.objs.size, rawInt 0, .none, .none] }) (s.heap.objs.size + 1) s.heap.objs.size 0 .none := by
    have := Heap.get?_push_size (s.heap.push o) (o := { cls := .type "enumerate", data := .fields #[.none, .bool false, .ref s.heap.objs.size, rawInt 0, .none, .none] }) rfl
    rw [hz] at this; exact this
  refine ⟨⟨_, he, rfl⟩, h _ he (Heap.get?_push_of_some _ (Heap.get?_push_size _ B.free)) (by rw [Heap.size_push, hz]) fun b o x => Heap.get?_push_of_some _ (Heap.get?_push_of_some _ x)⟩
def iEnumT (K : PySem.W.Frag) (ta : TA) : TI := fun σ H R => ta σ H fun vs H1 => ∃ a xs, vs = [.ref a] ∧ SqT K H1 a xs ∧ R (IteT K a) H1
theorem pi_enumT {X : Cx} {e : Expr} {ta : TA} {p pos tpos : Pos} {elts : List Expr} {kk : Nat} (hg : Gl X "enumerate") (hm : X.mg "enumerate" = none) (ha : PA X [e] ta) (hs : starEach [e] X.env = [(false, eval e X.env)] := by rfl) :
    PI X (.Tuple elts kk tpos) (.Call (.Name "enumerate" p) [e] [] pos) (iEnumT X.K ta) := by
  refine ⟨fun pins s σ H R I h => ?_⟩
  refine Call_ (ld_blt I hg hm boot_enumerate (PyProof.Rows.callWith_type1 (thn (ha.run pos pins s σ H _ I h) fun us s1 ⟨vs, H1, I1, r1, q1⟩ => ?_) hs rfl))
  obtain ⟨a, xs, ex, hq, q⟩ := q1
  subst ex
  cases r1 with
  | cons r rr =>
    cases rr
    cases r
    obtain ⟨its, rv, p', hz⟩ := I1.tuple hq
    refine call_enum1 (begins_tuple a its.toArray) p' fun h' he hit hsz hk => wpAny_pyIter_enum he ?_
    have I2 : Inv X pins σ H1 { s1 with heap := h' } := I1.kept (t' := s1.toks) hk
    refine ⟨s1.heap.objs.size + 1, [s1.heap.objs.size + 1, s1.heap.objs.size], _, _, H1, rfl, I2, turn_enumT a (s1.heap.objs.size + 1) s1.heap.objs.size, ⟨⟨.none, he⟩, ⟨_, hit, rfl, rfl⟩, Nat.succ_ne_self _⟩, fun b hb => ?_, q⟩
    have hle : s1.heap.objs.size ≤ b := by
      rcases (show b = s1.heap.objs.size + 1 ∨ b = s1.heap.objs.size by simpa using hb) with z | z
      · rw [z]; exact Nat.le_add_right _ _
      · rw [z]; exact Nat.le_refl _
    exact I1.fpOk hle (I1.hok.fresh hle)
theorem walk_enumT {K : PySem.W.Frag} {a : Addr} {xs : List V} : Walk (IteT K a) xs.length (fun H => SqT K H a xs) (YPair (fun i => some (.int (i : Nat))) (fun i => xs[i]?)) := by
  refine ⟨fun i _ hi q => ⟨xs, xs[i], q, by simp [hi]⟩, fun _ q => ⟨xs, q, Nat.le_refl _⟩, fun i H v H' _ q y => ?_⟩
  obtain ⟨T, x, h1, h2, h3, h4⟩ := y
  exact ⟨T, .int (i : Nat), x, h1, h2, h3, rfl, h4 xs q⟩
theorem walk_zipT {K : PySem.W.Frag} {a b : Addr} {xs ys : List V} {n : Nat} (hn : n = min xs.length ys.length) : Walk (RZ.ItzT K a b) n (fun H => SqT K H a xs ∧ SqT K H b ys) (YPair (fun i => xs[i]?) (fun i => ys[i]?)) := by
  subst hn
  refine ⟨fun i _ hi q => ?_, fun _ q => ⟨xs, ys, q.1, q.2, by omega⟩, fun i H v H' _ q y => ?_⟩
  · have h1 : i < xs.length := by omega
    have h2 : i < ys.length := by omega
    exact ⟨xs, ys, xs[i], ys[i], q.1, q.2, by simp [h1], by simp [h2]⟩
  · obtain ⟨T, x, z, h1, h2, h3, h4, h5⟩ := y
    exact ⟨T, x, z, h1, h2, h3, h4 xs q.1, h5 ys q.2⟩
/-! sum of a tuple of ints -/
theorem sum_tup {prog : Program} {w : World} {A : Around} {E : Value → Shared → Prop} {s : Shared} {l : Addr} {its : List Value} {ns : List Int} {Q : Value → Shared → Prop} (hh : A.handled = none) (hl : s.heap.IsTuple l its.toArray) (hi : IntsAre its ns)
    (h : ∀ h' tk t', (∀ b o, s.heap.get? b = some o → h'.get? b = some o) → Q (.int ns.sum t') { s with heap := h', toks := tk }) : wpAny (model prog w) A (call (.builtin "sum") [.ref l]) Q E s := by
  obtain ⟨xs, e⟩ := hi.allInts.items
  have hn : numsOf (intItems xs).toList = ns := by rw [← e]; exact hi.numsOf
  rw [nums_intItems] at hn
  rw [e] at hl
  have hlz : l < s.heap.objs.size := by obtain ⟨_, q, _⟩ := id hl; exact Heap.lt_size q
  have kp : ∀ b o, s.heap.get? b = some o → (s.heap.push { cls := .type "tuple_iterator", data := .fields #[.ref l, .int 0 0] }).get? b = some o := fun b o q => Heap.get?_push_of_some _ q
  refine call_sum_walkG (wpAny_pyIter_tuple hl ?_)
  refine ⟨s.heap.objs.size, [s.heap.objs.size, l], [s.heap.objs.size], (intItems xs).size, _, _, numAt xs, rfl, Walks.tuple (A := A.in1) hh s.heap.objs.size l (Nat.ne_of_lt hlz) (intItems xs),
    ⟨⟨_, Heap.get?_push_size _ rfl, rfl, rfl⟩, hl.at fun o q => kp l o q⟩, fun b hb => ?_, fun _ _ => intItems_at, fun h' tk t' hk => ?_⟩
  · rw [Heap.size_push]
    rcases (show b = s.heap.objs.size ∨ b = l by simpa using hb) with rfl | rfl
    · exact Nat.lt_succ_self _
    · exact Nat.lt_succ_of_lt hlz
  · have := h h' tk t' fun b o q => hk b o (by
      have : b < s.heap.objs.size := Heap.lt_size q
      simp only [List.mem_singleton]
      exact Nat.ne_of_lt this) (kp b o q)
    have ez : (intItems xs).size = xs.size := by simp [intItems]
    rw [ez, preSum_eq, List.take_of_length_le (by simp), hn]
    exact this
def rSumT (K : PySem.W.Frag) : List V → Hp → VK → Prop := fun vs H Q => ∃ (a : Addr) (ns : List Int), vs = [V.ref a] ∧ SqT K H a (ns.map V.int) ∧ Q (.int ns.sum) H
theorem cr_sumT {X : Cx} (hc : X.calm = true) : CallR X (.builtin "sum") (rSumT X.K) := by
  intro pins s σ H vs us Q I r h
  obtain ⟨a, ns, rfl, hs, q⟩ := h
  obtain ⟨its, rv, hl, _⟩ := I.tuple hs
  rw [Vals.ref1 r]
  exact sum_tup (I.ok.hd hc) hl rv.ints fun h' tk t' hk => ⟨.int _, H, I.kept hk, ⟨_, rfl⟩, q⟩
/-! a tuple times 1 -/
theorem tuple_mul1 (l : Addr) (items : Array Value) (n : Nat) (dd : Option Addr) (sl : Array (Option Value)) (u : Tok) :
    Meets (Builtin.«tuple.__mul__» ⟨[.ref l, .int 1 u], []⟩) (fun _ R s => s.heap.get? l = some { cls := .type "tuple", dict := dd, data := .seq items n, slots := sl } ∧ R (.ok (.ret (.ref l))) s) :=
  .of_wp fun prog w A R s h => by
    obtain ⟨hp, g, d, tk, os⟩ := s
    obtain ⟨hl, h⟩ := h
    have f1 := AutoSeq1.idx_int
    wp_walk using wpAny_loadPart' hl
    repeat (first
      | (refine wpAny_ite_false (decide_eq_false (by decide)) ?_; wp_walk using wpAny_loadPart' hl)
      | (refine wpAny_ite_true (decide_eq_true (by simp)) ?_; wp_walk using wpAny_loadPart' hl))
    exact ⟨_, rfl, h⟩
def rRep1 (K : PySem.W.Frag) : R2 := fun x y H Q => ∃ l xs, x = .ref l ∧ y = .int 1 ∧ SqT K H l xs ∧ Q (.ref l) H
theorem op_rep1 {X : Cx} : OpR X (binaryOp .Mult) (rRep1 X.K) := by
  intro pins s σ H x y v u Q I rx ry h
  obtain ⟨l, xs, rfl, rfl, hT, q⟩ := h
  cases rx
  obtain ⟨t, rfl⟩ := ry
  obtain ⟨its, r, ⟨⟨cls, dd, data, sl⟩, ho, hc, n, hd⟩, hs⟩ := I.tuple hT
  simp only at hc hd
  subst hc hd
  refine wpAny_binaryOp_repeat_ref (T := "tuple") (U := "int") (by decide) ⟨_, ho, rfl⟩ (fun s' => typeIs_int s' 1 t) noFill_tuple_mul F.fills_int_mul F.slot_int_rmul repeat_tuple F.slot_int_index.lookup
    (call_meets F.slot_int_rmul (typeIs_int s 1 t) F.entry_int_rmul (F.args_int_rmul_2 _ _) (int_rmul_tuple 1 t l its.toArray n dd sl)
      ⟨ho, rfl, ⟨_, ho, rfl⟩, call_meets F.slot_tuple_mul ⟨_, ho, rfl⟩ F.entry_tuple_mul (F.args_tuple_mul_2 _ _) (tuple_mul1 l its.toArray n dd sl t) ⟨ho, ?_⟩⟩)
  exact ⟨.ref l, H, I, rfl, q⟩
/-- a tuple times k, k at least 1 -/
def rRepA (K : PySem.W.Frag) : R2 := fun x y H Q => rRepT K x y H Q ∨ rRep1 K x y H Q
theorem op_repA {X : Cx} : OpR X (binaryOp .Mult) (rRepA X.K) := op_repT.or op_rep1
/-- (z,) * n -/
theorem rep_one {K : PySem.W.Frag} {H : Hp} {l : Addr} {z : V} {n : Nat} {Q : VK} (h1 : 1 ≤ n) (h2 : n ≤ 1000) (hl : H l = some (.tup [z]))
    (q : ∀ p H', Same H H' → H' p = some (.tup (List.replicate n z)) → Q (.ref p) H') : rRepA K (.ref l) (.int (n : Int)) H Q := by
  by_cases e : n = 1
  · subst e
    exact .inr ⟨l, [z], rfl, rfl, .inl (.inl hl), q l H (Same.refl H) hl⟩
  · refine .inl ⟨l, n, [z], rfl, rfl, .inl (.inl hl), by simp, by omega, by omega, by simp, fun p np => q p _ (fun b o e => ?_) ?_⟩
    · rw [upd_ne (ne_of_none e np)]
      exact e
    · rw [upd_same, Int.toNat_natCast]
      congr 2
      exact List.flatten_replicate_singleton
end JN

namespace JN
/-! ### lists of ints, place by place -/
def mxI (x y : Int) : Int := if y > x then y else x
def mnI (x y : Int) : Int := if y < x then y else x
def ctI (x y : Int) : Int := if 0 > x - y then 0 else x - y
abbrev at0 (l : List Int) (i : Nat) : Int := l.getD i 0
theorem at0_get {l : List Int} {i : Nat} (h : i < l.length) : l[i]? = some (at0 l i) := by
  rw [List.getElem?_eq_getElem h, at0, List.getD_eq_getElem?_getD, List.getElem?_eq_getElem h]
  rfl
theorem ext0 {l m : List Int} (hl : l.length = m.length) (h : ∀ i, i < l.length → at0 l i = at0 m i) : l = m := by
  apply List.ext_getElem hl
  intro i h1 h2
  have := h i h1
  have a := at0_get h1
  have b := at0_get h2
  rw [List.getElem?_eq_getElem h1] at a
  rw [List.getElem?_eq_getElem h2] at b
  rw [Option.some.inj a, Option.some.inj b, this]
theorem zw_len {g : Int → Int → Int} {l m : List Int} (hl : l.length = m.length) : (List.zipWith g l m).length = l.length := by
  rw [List.length_zipWith]; omega
theorem zw_at {g : Int → Int → Int} {l m : List Int} {i : Nat} (h1 : i < l.length) (h2 : i < m.length) : at0 (List.zipWith g l m) i = g (at0 l i) (at0 m i) := by
  have a := at0_get h1
  have b := at0_get h2
  rw [at0, List.getD_eq_getElem?_getD, List.getElem?_zipWith, a, b]
  rfl
theorem eq_iff0 {l m : List Int} (hl : l.length = m.length) : l = m ↔ ∀ i, i < l.length → at0 l i = at0 m i :=
  ⟨fun e i _ => by rw [e], ext0 hl⟩
/-- a divides b -/
def dvdI (l m : List Int) : Bool := (List.zipWith (fun x y => decide (x ≤ y)) l m).all id
theorem dvdI_iff : ∀ {l m : List Int}, l.length = m.length → (dvdI l m = true ↔ ∀ i, i < l.length → at0 l i ≤ at0 m i)
  | [], [], _ => by simp [dvdI]
  | a :: l, [], h => by simp at h
  | [], b :: m, h => by simp at h
  | a :: l, b :: m, h => by
    have hl : l.length = m.length := by simpa using h
    have ih := dvdI_iff hl
    constructor
    · intro hd i hi
      simp only [dvdI, List.zipWith_cons_cons, List.all_cons, Bool.and_eq_true, id, decide_eq_true_eq] at hd
      cases i with
      | zero => exact hd.1
      | succ i =>
        have := ih.mp hd.2 i (by simpa using hi)
        simpa [at0] using this
    · intro hd
      simp only [dvdI, List.zipWith_cons_cons, List.all_cons, Bool.and_eq_true, id, decide_eq_true_eq]
      refine ⟨by simpa [at0] using hd 0 (by simp), ih.mpr fun i hi => ?_⟩
      have := hd (i + 1) (by simpa using hi)
      simpa [at0] using this
/-- the places below n that p tells, as ints -/
def selI (p : Nat → Bool) (n : Nat) : List Int := (List.range n).filterMap fun i => if p i then some (i : Int) else none
theorem selI_nil {p : Nat → Bool} {n : Nat} : selI p n = [] ↔ ∀ i, i < n → p i = false := by
  unfold selI
  rw [List.filterMap_eq_nil_iff]
  constructor
  · intro h i hi
    have := h i (List.mem_range.mpr hi)
    cases hp : p i with
    | false => rfl
    | true => rw [hp] at this; simp at this
  · intro h i hi
    rw [h i (List.mem_range.mp hi)]
    rfl
theorem fm_congr {α β : Type} {f g : α → Option β} : ∀ {l : List α}, (∀ x ∈ l, f x = g x) → l.filterMap f = l.filterMap g
  | [], _ => rfl
  | a :: l, h => by
    have e := fm_congr fun x hx => h x (List.mem_cons_of_mem a hx)
    rw [List.filterMap_cons, List.filterMap_cons, h a List.mem_cons_self, e]
theorem selI_congr {p q : Nat → Bool} {n : Nat} (h : ∀ i, i < n → p i = q i) : selI p n = selI q n := by
  unfold selI
  exact fm_congr fun i hi => by rw [h i (List.mem_range.mp hi)]
theorem dvd_sel {l m : List Int} {n : Nat} (h1 : l.length = n) (h2 : m.length = n) : decide (selI (fun j => decide (at0 m j < at0 l j)) n = []) = dvdI l m := by
  rw [Bool.eq_iff_iff, decide_eq_true_iff, selI_nil, dvdI_iff (h1.trans h2.symm), h1]
  constructor
  · intro h i hi
    have := of_decide_eq_false (h i hi)
    omega
  · intro h i hi
    have := h i hi
    exact decide_eq_false (by omega)
theorem dvd_lcm {l m : List Int} (h : l.length = m.length) : decide (List.zipWith mxI l m = m) = dvdI l m := by
  rw [Bool.eq_iff_iff, decide_eq_true_iff, dvdI_iff h, eq_iff0 ((zw_len h).trans h), zw_len h]
  constructor
  · intro e i hi
    have := e i hi
    rw [zw_at hi (h ▸ hi), mxI] at this
    split at this <;> omega
  · intro e i hi
    have := e i hi
    rw [zw_at hi (h ▸ hi), mxI]
    split <;> omega
theorem dvd_gcd {l m : List Int} (h : l.length = m.length) : decide (List.zipWith mnI l m = l) = dvdI l m := by
  rw [Bool.eq_iff_iff, decide_eq_true_iff, dvdI_iff h, eq_iff0 (zw_len h), zw_len h]
  constructor
  · intro e i hi
    have := e i hi
    rw [zw_at hi (h ▸ hi), mnI] at this
    split at this <;> omega
  · intro e i hi
    have := e i hi
    rw [zw_at hi (h ▸ hi), mnI]
    split <;> omega
theorem rep_at {n i : Nat} {z : Int} (h : i < n) : at0 (List.replicate n z) i = z := by
  rw [at0, List.getD_eq_getElem?_getD, List.getElem?_replicate, if_pos h]
  rfl
theorem dvd_cut {l m : List Int} (h : l.length = m.length) : decide (List.zipWith ctI l m = List.replicate l.length 0) = dvdI l m := by
  rw [Bool.eq_iff_iff, decide_eq_true_iff, dvdI_iff h, eq_iff0 ((zw_len h).trans List.length_replicate.symm), zw_len h]
  constructor
  · intro e i hi
    have := e i hi
    rw [zw_at hi (h ▸ hi), ctI, rep_at hi] at this
    split at this <;> omega
  · intro e i hi
    have := e i hi
    rw [zw_at hi (h ▸ hi), ctI, rep_at hi]
    split <;> omega
theorem zw_comm {g : Int → Int → Int} (hg : ∀ x y, g x y = g y x) {l m : List Int} (h : l.length = m.length) : List.zipWith g l m = List.zipWith g m l := by
  refine ext0 ((zw_len h).trans (h.trans (zw_len h.symm).symm)) fun i hi => ?_
  rw [zw_len h] at hi
  rw [zw_at hi (h ▸ hi), zw_at (h ▸ hi) hi, hg]
theorem mx_comm (x y : Int) : mxI x y = mxI y x := by unfold mxI; split <;> split <;> omega
theorem mn_comm (x y : Int) : mnI x y = mnI y x := by unfold mnI; split <;> split <;> omega
theorem cut_times {l m : List Int} (h : l.length = m.length) : List.zipWith (· + ·) (List.zipWith ctI l m) (List.zipWith mnI l m) = l := by
  have h1 := zw_len (g := ctI) h
  have h2 := zw_len (g := mnI) h
  refine ext0 (by rw [zw_len (h1.trans h2.symm), h1]) fun i hi => ?_
  rw [zw_len (h1.trans h2.symm), h1] at hi
  rw [zw_at (h1 ▸ hi) (h2 ▸ hi), zw_at hi (h ▸ hi), zw_at hi (h ▸ hi), ctI, mnI]
  split <;> split <;> omega
theorem lcm_times {l m : List Int} (h : l.length = m.length) : List.zipWith (· + ·) (List.zipWith mxI l m) (List.zipWith mnI l m) = List.zipWith (· + ·) l m := by
  have h1 := zw_len (g := mxI) h
  have h2 := zw_len (g := mnI) h
  refine ext0 (by rw [zw_len (h1.trans h2.symm), h1, zw_len h]) fun i hi => ?_
  rw [zw_len (h1.trans h2.symm), h1] at hi
  rw [zw_at (h1 ▸ hi) (h2 ▸ hi), zw_at hi (h ▸ hi), zw_at hi (h ▸ hi), zw_at hi (h ▸ hi), mxI, mnI]
  split <;> split <;> omega
/-- what a comprehension over range(n) or zip makes, as zipWith -/
theorem range_zip {g : Int → Int → Int} {l m : List Int} {n : Nat} (hn : n = min l.length m.length) : (List.range n).map (fun i => g (at0 l i) (at0 m i)) = List.zipWith g l m := by
  refine ext0 (by rw [List.length_map, List.length_range, List.length_zipWith, hn]) fun i hi => ?_
  rw [List.length_map, List.length_range] at hi
  rw [zw_at (by omega) (by omega)]
  simp [at0, hi]
theorem fm_some {α β : Type} {f : α → Option β} {g : α → β} {l : List α} (h : ∀ x ∈ l, f x = some (g x)) : l.filterMap f = l.map g := by
  induction l with
  | nil => rfl
  | cons a l ih =>
    rw [List.filterMap_cons_some (h a List.mem_cons_self), List.map_cons, ih fun x hx => h x (List.mem_cons_of_mem _ hx)]
theorem fm_succ {β : Type} (f : Nat → Option β) (i : Nat) : (List.range (i + 1)).filterMap f = (List.range i).filterMap f ++ (f i).toList := by
  rw [List.range_succ, List.filterMap_append]
  congr 1
theorem fm_len {β : Type} (f : Nat → Option β) (i : Nat) : ((List.range i).filterMap f).length ≤ i := by
  have := List.length_filterMap_le f (List.range i)
  rw [List.length_range] at this
  exact this
end JN

set_option maxRecDepth 100000
set_option maxHeartbeats 4000000
namespace JN
open PySem PySem.Spec PyProof.Rows L2
/-! ### heaps that grow -/
/-- what was tracked is as it was, but for the places in S -/
def Kp (S : List Addr) (H H' : Hp) : Prop := ∀ b o, H b = some o → b ∉ S → H' b = some o
theorem Kp.refl {S : List Addr} (H : Hp) : Kp S H H := fun _ _ h _ => h
theorem Kp.trans {S : List Addr} {H H1 H2 : Hp} (a : Kp S H H1) (b : Kp S H1 H2) : Kp S H H2 := fun c o h n => b c o (a c o h n) n
theorem Kp.of {S : List Addr} {H H' : Hp} (a : Same H H') : Kp S H H' := fun b o h _ => a b o h
theorem Kp.none {S : List Addr} {H H' : Hp} (a : Kp S H H') {p : Addr} (n : p ∉ S) (h : H' p = Option.none) : H p = Option.none := by
  cases q : H p with
  | none => rfl
  | some o => rw [a p o q n] at h; cases h
theorem Kp.upd {S : List Addr} {H H1 : Hp} {d : Addr} {o : HO} (a : Kp S H H1) (m : d ∈ S) : Kp S H (upd H1 d o) := fun b q h n => by
  rw [upd_ne (fun e => by subst e; exact n m)]
  exact a b q h n
theorem same_new {H : Hp} {p : Addr} {o : HO} (h : H p = none) : Same H (upd H p o) := fun b x e => by
  rw [upd_ne (ne_of_none e h)]
  exact e
section
variable {K : PySem.W.Frag} {H H' : Hp} {a : Addr} {xs : List V}
theorem Same.tup (e : Same H H') (h : SqT K H a xs) : SqT K H' a xs := by
  rcases h with (h | ⟨o, h⟩) | h
  · exact .inl (.inl (e _ _ h))
  · exact .inl (.inr ⟨o, e _ _ h⟩)
  · exact .inr h
theorem Kp.tup {S : List Addr} (e : Kp S H H') (n : a ∉ S) (h : SqT K H a xs) : SqT K H' a xs := by
  rcases h with (h | ⟨o, h⟩) | h
  · exact .inl (.inl (e _ _ h n))
  · exact .inl (.inr ⟨o, e _ _ h n⟩)
  · exact .inr h
theorem Kp.seq {S : List Addr} (e : Kp S H H') (n : a ∉ S) (h : SqL K H a xs) : SqL K H' a xs := by
  rcases h with (h | ⟨o, h⟩) | h
  · exact .inl (.inl (e _ _ h n))
  · exact .inl (.inr ⟨o, e _ _ h n⟩)
  · exact .inr h
theorem sqt_new {o : List V} : SqT K (upd H a (.tup o)) a o := .inl (.inl upd_same)
theorem sql_new {o : List V} : SqL K (upd H a (.lst o)) a o := .inl (.inl upd_same)
/-! ### tuples and lists of ints compared -/
theorem dp_ints : ∀ ns : List Int, DpAll K H (ns.map V.int) (ns.map PyData.int)
  | [] => .nil
  | n :: ns => .cons (.int n) (dp_ints ns)
theorem dp_tup {ns : List Int} (h : SqT K H a (ns.map V.int)) : Dp K H (.ref a) (.tuple (ns.map PyData.int)) := .tup h (dp_ints ns)
theorem dp_lst {ns : List Int} (h : SqL K H a (ns.map V.int)) : Dp K H (.ref a) (.list (ns.map PyData.int)) := .lst h (dp_ints ns)
theorem eqv_ints : ∀ ns ms : List Int, PyData.eqvAll (ns.map PyData.int) (ms.map PyData.int) = decide (ns = ms)
  | [], [] => by simp [PyData.eqvAll]
  | [], m :: ms => by simp [PyData.eqvAll]
  | n :: ns, [] => by simp [PyData.eqvAll]
  | n :: ns, m :: ms => by
    have ih := eqv_ints ns ms
    rw [List.map_cons, List.map_cons]
    unfold PyData.eqvAll
    rw [ih, Bool.eq_iff_iff]
    simp [PyData.eqv]
theorem eqv_tup (ns ms : List Int) : PyData.eqv (.tuple (ns.map PyData.int)) (.tuple (ms.map PyData.int)) = decide (ns = ms) := by
  unfold PyData.eqv
  exact eqv_ints ns ms
theorem eqv_lst (ns ms : List Int) : PyData.eqv (.list (ns.map PyData.int)) (.list (ms.map PyData.int)) = decide (ns = ms) := by
  unfold PyData.eqv
  exact eqv_ints ns ms
theorem lay_ints : ∀ ns : List Int, PyData.canLayAll0 (ns.map PyData.int) = true
  | [] => by simp [PyData.canLayAll0]
  | n :: ns => by
    have ih := lay_ints ns
    rw [List.map_cons]
    unfold PyData.canLayAll0
    rw [ih]
    simp [PyData.canLay0]
theorem deep_ints : ∀ ns : List Int, PyData.depthAll (ns.map PyData.int) = 0
  | [] => by simp [PyData.depthAll]
  | n :: ns => by
    have ih := deep_ints ns
    rw [List.map_cons]
    unfold PyData.depthAll
    rw [ih]
    simp [PyData.depth]
theorem sh_tup (ns : List Int) : SeqAt.shaped (.tuple (ns.map PyData.int)) = true := by
  unfold SeqAt.shaped PyData.canLay0 PyData.depth
  rw [lay_ints, deep_ints]
  decide
theorem sh_lst (ns : List Int) : SeqAt.shaped (.list (ns.map PyData.int)) = true := by
  unfold SeqAt.shaped PyData.canLay0 PyData.depth
  rw [lay_ints, deep_ints]
  decide
/-- t == u of two tuples of ints -/
theorem eq_tup {b : Addr} {ns ms : List Int} {Q : VK} (h1 : SqT K H a (ns.map V.int)) (h2 : SqT K H b (ms.map V.int)) (q : Q (.bl (decide (ns = ms))) H) : rEqD K (.ref a) (.ref b) H Q :=
  ⟨_, _, dp_tup h1, dp_tup h2, sh_tup _, sh_tup _, by rw [eqv_tup]; exact q⟩
theorem ne_tup {b : Addr} {ns ms : List Int} {Q : VK} (h1 : SqT K H a (ns.map V.int)) (h2 : SqT K H b (ms.map V.int)) (q : Q (.bl (!decide (ns = ms))) H) : rNeD K (.ref a) (.ref b) H Q :=
  ⟨_, _, dp_tup h1, dp_tup h2, sh_tup _, sh_tup _, by rw [eqv_tup]; exact q⟩
theorem eq_lst {b : Addr} {ns ms : List Int} {Q : VK} (h1 : SqL K H a (ns.map V.int)) (h2 : SqL K H b (ms.map V.int)) (q : Q (.bl (decide (ns = ms))) H) : rEqD K (.ref a) (.ref b) H Q :=
  ⟨_, _, dp_lst h1, dp_lst h2, sh_lst _, sh_lst _, by rw [eqv_lst]; exact q⟩
theorem ne_lst {b : Addr} {ns ms : List Int} {Q : VK} (h1 : SqL K H a (ns.map V.int)) (h2 : SqL K H b (ms.map V.int)) (q : Q (.bl (!decide (ns = ms))) H) : rNeD K (.ref a) (.ref b) H Q :=
  ⟨_, _, dp_lst h1, dp_lst h2, sh_lst _, sh_lst _, by rw [eqv_lst]; exact q⟩
/-- an item in bounds -/
theorem it0 {ns : List Int} {i : Nat} (h : i < ns.length) : (ns.map V.int)[i]? = some (.int (at0 ns i)) := by
  rw [List.getElem?_map, at0_get h]
  rfl
theorem ix0 {ns : List Int} {i : Nat} (h : i < ns.length) : atI (ns.map V.int) (i : Int) = some (.int (at0 ns i)) := atI_nat (it0 h)
end
/-! ### a comprehension that only makes new things: f tells what turn i gives, if it gives anything -/
theorem lc_keep {J : It} {n : Nat} {G : Hp → Prop} {Y : Nat → Hp → V → Hp → Prop} (w : Walk J n G Y) {g : TG} {tt : TT} {te : TE} {vs : List Nat} {σ : L2.St} {H1 : Hp} {D : Addr} {Qd : Hp → Prop}
    (f : Nat → Option V) (nD : H1 D = none) (hn : n < sizeLine) (hG : ∀ H, Same H1 H → G H)
    (hs : ∀ i x H H' (P1 : V → Hp → Prop) (P0 : Hp → Prop), i < n → Same H1 H → Y i H x H' → (∀ y H4, f i = some y → Same H H4 → P1 y H4) → (∀ H4, f i = none → Same H H4 → P0 H4) →
      g x (wipe σ vs) H' fun σ2 H2 => wipe σ2 vs = wipe σ vs ∧ tt σ2 H2 fun b H3 => if b = true then te σ2 H3 P1 else P0 H3)
    (hd : ∀ H, Same H1 H → H D = some (.lst ((List.range n).filterMap f)) → Qd H) :
    ∃ W : Nat → Nat → Hp → Prop, (∃ m, W 0 m (upd H1 D (.lst []))) ∧ ∀ i m H, W i m H →
      (J.stop i H ∧ Qd H) ∨ (J.go i H ∧ ∃ Nx : Hp → Prop, (∀ H', Nx H' → ∃ m', m' < m ∧ W (i + 1) m' H') ∧ ∀ x H', J.yld i H x H' → g x (wipe σ vs) H' fun σ2 H2 => wipe σ2 vs = wipe σ vs ∧ tt σ2 H2 fun b H3 =>
        if b = true then te σ2 H3 fun y H4 => ∃ acc, H4 D = some (.lst acc) ∧ acc.length < sizeLine ∧ Nx (upd H4 D (.lst (acc ++ [y]))) else Nx H3) := by
  refine lc_it w (fun i H => Same H1 H ∧ H D = some (.lst ((List.range i).filterMap f))) ⟨same_new nD, upd_same⟩ (fun i H _ h => hG H h.1) (fun i x H H' hi h y => ?_) (fun H h => hd H h.1 h.2)
  obtain ⟨s1, eD⟩ := h
  refine hs i x H H' _ _ hi s1 y (fun z H4 ez s4 => ⟨_, s4 _ _ eD, Nat.lt_of_le_of_lt (fm_len f i) (Nat.lt_trans hi hn), ⟨fun b o e => ?_, ?_⟩⟩) (fun H4 ez s4 => ⟨s1.trans s4, ?_⟩)
  · rw [upd_ne (ne_of_none e nD)]
    exact s4 _ _ (s1 _ _ e)
  · rw [upd_same, fm_succ, ez]
    rfl
  · rw [s4 _ _ eD, fm_succ, ez, Option.toList_none, List.append_nil]
/-- the same, every turn gives an int -/
theorem fm_ints {f : Nat → Option V} {g : Nat → Option Int} {n : Nat} (h : ∀ i, i < n → f i = (g i).map V.int) : (List.range n).filterMap f = ((List.range n).filterMap g).map V.int := by
  rw [List.map_filterMap]
  exact fm_congr fun i hi => h i (List.mem_range.mp hi)
/-! ### the state of the draws -/
def mS (l s : Int) (c : Addr) (p : Int) : List (Key × V) := [(.inr "left", .int l), (.inr "seed", .int s), (.inr "cells", .ref c), (.inr "spot", .int p)]
theorem kls : ¬ (("left" : Str) = "seed") := by decide +kernel
theorem klc : ¬ (("left" : Str) = "cells") := by decide +kernel
theorem klp : ¬ (("left" : Str) = "spot") := by decide +kernel
theorem ksc : ¬ (("seed" : Str) = "cells") := by decide +kernel
theorem ksp : ¬ (("seed" : Str) = "spot") := by decide +kernel
theorem kcp : ¬ (("cells" : Str) = "spot") := by decide +kernel
section
variable {l s z : Int} {c : Addr} {p : Int}
theorem mS_left : valV (mS l s c p) (.inr "left") = some (.int l) := by simp [valV, mS]
theorem mS_seed : valV (mS l s c p) (.inr "seed") = some (.int s) := by simp [valV, mS, kls]
theorem mS_cells : valV (mS l s c p) (.inr "cells") = some (.ref c) := by simp [valV, mS, klc, ksc]
theorem mS_spot : valV (mS l s c p) (.inr "spot") = some (.int p) := by simp [valV, mS, klp, ksp, kcp]
theorem mS_put_left : putK (mS l s c p) (.inr "left") (.int z) = mS z s c p := by simp [putK, mS, Ne.symm kls, Ne.symm klc, Ne.symm klp]
theorem mS_put_spot : putK (mS l s c p) (.inr "spot") (.int z) = mS l s c z := by simp [putK, mS, klp, ksp, kcp]
end
/-- the draws' state stands at d, its cells at c, at most n drawn so far -/
def Drw (H : Hp) (d c : Addr) (n : Nat) : Prop := ∃ (l s : Int) (p : Int) (cs : List Int), H d = some (.dK (mS l s c p)) ∧ H c = some (.lst (cs.map V.int)) ∧ c ≠ d ∧ cs ≠ [] ∧ cs.length ≤ 1000 ∧ 0 ≤ s ∧ s < 2147483647 ∧ 0 ≤ p ∧ p ≤ n
theorem Drw.same {H H' : Hp} {d c : Addr} {n m : Nat} (D : Drw H d c n) (e : Same H H') (h : n ≤ m) : Drw H' d c m := by
  obtain ⟨l, s, p, cs, h1, h2, h3, h4, h5, h6, h7, h8, h9⟩ := D
  exact ⟨l, s, p, cs, e _ _ h1, e _ _ h2, h3, h4, h5, h6, h7, h8, by omega⟩
theorem Drw.put {H : Hp} {d c D : Addr} {o : HO} {n : Nat} (h : Drw H d c n) (n1 : D ≠ d) (n2 : D ≠ c) : Drw (upd H D o) d c n := by
  obtain ⟨l, s, p, cs, h1, h2, h3⟩ := h
  exact ⟨l, s, p, cs, by rw [upd_ne n1.symm]; exact h1, by rw [upd_ne n2.symm]; exact h2, h3⟩
theorem Drw.ne {H : Hp} {d c D : Addr} {n : Nat} (h : Drw H d c n) (e : H D = none) : D ≠ d ∧ D ≠ c := by
  obtain ⟨l, s, p, cs, h1, h2, h3⟩ := h
  exact ⟨(ne_of_none h1 e).symm, (ne_of_none h2 e).symm⟩
theorem Drw.tup {K : PySem.W.Frag} {H : Hp} {d c a : Addr} {n : Nat} {xs : List V} (h : Drw H d c n) (e : SqT K H a xs) (hk : K.lookup d = none) : a ≠ d := fun z => by
  obtain ⟨l, s, p, cs, h1, h2, h3⟩ := h
  subst z
  rcases e with (e | ⟨o, e⟩) | ⟨o, its, n, e, _⟩
  · rw [h1] at e; cases e
  · rw [h1] at e; cases e
  · rw [hk] at e; cases e
/-- _law_draw(m, below) -/
def spDraw : Sp := fun vs H Q _ => ∃ (d c : Addr) (below : Int) (n : Nat), vs = [.ref d, .int below] ∧ Drw H d c n ∧ n ≤ 1000000 ∧ 1 ≤ below ∧ below < 1073741824 ∧
  ∀ (r : Int) (H' : Hp), 0 ≤ r → r < below → Kp [d] H H' → Drw H' d c (n + 1) → Q (.int r) H'
/-- _law_of(m, some) -/
def spOf (K : PySem.W.Frag) : Sp := fun vs H Q _ => ∃ (d c l : Addr) (xs : List V) (n : Nat), vs = [.ref d, .ref l] ∧ Drw H d c n ∧ n ≤ 1000000 ∧ SqL K H l xs ∧ l ≠ d ∧ xs ≠ [] ∧ xs.length ≤ 1000 ∧
  ∀ (v : V) (H' : Hp), v ∈ xs → Kp [d] H H' → Drw H' d c (n + 1) → Q v H'
/-- _law_begun(script, k) -/
def spBegun (K : PySem.W.Frag) : Sp := fun vs H Q _ => ∃ (a : Addr) (ns : List Int) (k : Int), vs = [.ref a, .int k] ∧ SqL K H a (ns.map V.int) ∧ ns.length ≤ 63 ∧ 0 ≤ k ∧ k ≤ 100 ∧
  ∀ (d c : Addr) (H' : Hp), Same H H' → H d = none → H c = none → Drw H' d c 0 → Q (.ref d) H'
end JN

set_option maxRecDepth 100000
set_option maxHeartbeats 4000000
namespace JN
open PySem PySem.Spec PyProof.Rows L2
/-! the greatest of a tuple of ints -/
theorem max_tup {prog : Program} {w : World} {A : Around} {E : Value → Shared → Prop} {s : Shared} {l : Addr} {its : List Value} {ns : List Int} {Q : Value → Shared → Prop} (hh : A.handled = none) (hl : s.heap.IsTuple l its.toArray) (hi : IntsAre its ns) (hne : 0 < ns.length)
    (h : ∀ h' tk M t', (∀ b o, s.heap.get? b = some o → h'.get? b = some o) → M ∈ ns → (∀ a, a ∈ ns → a ≤ M) → Q (.int M t') { s with heap := h', toks := tk }) : wpAny (model prog w) A (call (.builtin "max") [.ref l]) Q E s := by
  obtain ⟨xs, e⟩ := hi.allInts.items
  have hn : numsOf (intItems xs).toList = ns := by rw [← e]; exact hi.numsOf
  rw [nums_intItems] at hn
  subst hn
  rw [e] at hl
  have hsz : 0 < xs.size := by simpa using hne
  have hlz : l < s.heap.objs.size := by obtain ⟨_, q, _⟩ := id hl; exact Heap.lt_size q
  have kp : ∀ b o, s.heap.get? b = some o → (s.heap.push { cls := .type "tuple_iterator", data := .fields #[.ref l, .int 0 0] }).get? b = some o := fun b o q => Heap.get?_push_of_some _ q
  refine call_max_walk (wpAny_pyIter_tuple hl ?_)
  refine ⟨s.heap.objs.size, [s.heap.objs.size, l], [s.heap.objs.size], (intItems xs).size, _, _, _, rfl, Walks.tuple (A := A.in1) hh s.heap.objs.size l (Nat.ne_of_lt hlz) (intItems xs),
    ⟨⟨_, Heap.get?_push_size _ rfl, rfl, rfl⟩, hl.at fun o q => kp l o q⟩, fun b hb => ?_, by simpa [intItems] using hsz, CmpOf.ints_gt (numAt xs) (fun _ _ => intItems_at), fun v h' tk hP hk => ?_⟩
  · rw [Heap.size_push]
    rcases (show b = s.heap.objs.size ∨ b = l by simpa using hb) with rfl | rfl
    · exact Nat.lt_succ_self _
    · exact Nat.lt_succ_of_lt hlz
  · obtain ⟨t, rfl⟩ := intItems_at hP
    have ez : (intItems xs).size = xs.size := by simp [intItems]
    rw [ez]
    obtain ⟨h1, h2⟩ := argBest_gt (numAt xs) (xs.size - 1)
    refine h h' tk _ t (fun b o q => hk b o (by
      have : b < s.heap.objs.size := Heap.lt_size q
      simp only [List.mem_singleton]
      exact Nat.ne_of_lt this) (kp b o q)) ?_ fun a ha => ?_
    · rw [numAt_eq]; exact PySem.getD_mem (by rw [List.length_map, Array.length_toList]; omega)
    · obtain ⟨j, hj, rfl⟩ := mem_getD ha
      rw [List.length_map, Array.length_toList] at hj
      rw [← numAt_eq]; exact h2 j (by omega)
def rMaxT (K : PySem.W.Frag) : List V → Hp → VK → Prop := fun vs H Q => ∃ (a : Addr) (ns : List Int), vs = [V.ref a] ∧ SqT K H a (ns.map V.int) ∧ 0 < ns.length ∧ ∀ m, m ∈ ns → (∀ y, y ∈ ns → y ≤ m) → Q (.int m) H
theorem cr_maxT {X : Cx} (hc : X.calm = true) : CallR X (.builtin "max") (rMaxT X.K) := by
  intro pins s σ H vs us Q I r h
  obtain ⟨a, ns, rfl, hs, hne, q⟩ := h
  obtain ⟨its, rv, hl, _⟩ := I.tuple hs
  rw [Vals.ref1 r]
  exact max_tup (I.ok.hd hc) hl rv.ints hne fun h' tk m t' hk h1 h2 => ⟨.int _, H, I.kept hk, ⟨_, rfl⟩, q m h1 h2⟩
/-! set(t), t a tuple of tuples of ints -/
section
variable {P : Program} {w : World} {A : Around} {E : Value → Shared → Prop} {s : Shared}
/-- the set as the call makes it, still empty -/
abbrev set0 (w : World) : Obj := { cls := .type "set", dict := none, data := .set #[] 0 (.fresh 0 0 (!w.params.followText "set-order")) }
theorem call_set_tupsT {l : Addr} {items : Array Value} (ks : List (Addr × List Int)) {Q : Value → Shared → Prop} (hh : A.handled = none) (hl : s.heap.IsTuple l items) (hit : items.toList = ks.map fun p => Value.ref p.1)
    (hk : ∀ p ∈ ks, IsT P w s.heap p.2 p.1) (hfew : ks.length < 64) (hu : A.units + 3 < cLine)
    (h : ∀ (h' : Heap) (tk : Nat) L es ep t, SetTR P w h' s.heap.objs.size L es ep t → Got ks ks.length L → (∀ b o, s.heap.get? b = some o → h'.get? b = some o) → Q (.ref s.heap.objs.size) { s with heap := h', toks := tk }) :
    wpAny (model P w) A (call (.type "set") [.ref l]) Q E s := by
  have hisz : items.size = ks.length := by
    have q := congrArg List.length hit
    rw [Array.length_toList, List.length_map] at q
    exact q
  obtain ⟨c, tl, hmro⟩ := F.called_set.mro
  have hmade := F.called_set.made
  have hsub := F.called_set.sub
  refine wpAny_call (codeAny_of_tree ?_)
  show wpAny _ _ (callAny (.type "set") _) _ _ _
  refine wpAny_pure ⟨Code.quiet_builtin _ (by decide +kernel), codeAny_builtin F.entry_type_call ?_⟩
  rw [Around.under_plain (weight_type_call_type "set" [.ref l] []) rfl]
  have h1 := F.called_set.notType
  have h2 := F.called_set.canCreate
  have hct := F.typeCall_set_1 (.ref l)
  repeat (any_goals (first | assumption | wp_step))
  refine codeAny_mono (code_set_led1 (.ref l) (E := E) (Q₁ := fun obj s₁ => obj = .ref s.heap.objs.size ∧ s₁ = { s with heap := s.heap.push (set0 w) }) ⟨rfl, rfl⟩) fun r s₁ hr => ?_
  cases r with
  | error e => exact hr
  | ok fl =>
    cases fl with
    | ret obj =>
      obtain ⟨rfl, rfl⟩ := hr
      have hS : (s.heap.push (set0 w)).get? s.heap.objs.size = some (set0 w) := Heap.get?_push_size _ rfl
      have hT : Shared.TypeIs { s with heap := s.heap.push (set0 w) } (.ref s.heap.objs.size) "set" := ⟨_, hS, rfl⟩
      have hli := F.called_set.init.lookup
      have hbi := F.called_set.init.bind (.ref s.heap.objs.size)
      repeat (any_goals (first | assumption | wp_step))
      refine codeAny_mono (codeAny_call_builtin (R := wants (fun r s₂ => r = .none ∧ ∃ h' tk L es ep t, s₂ = { s with heap := h', toks := tk } ∧ SetTR P w h' s.heap.objs.size L es ep t ∧ Got ks ks.length L ∧
          (∀ b o, s.heap.get? b = some o → h'.get? b = some o)) E) F.called_set.init.plain F.entry_set_init (check_set_init_1 hT ?_)) fun r₂ s₂ hr₂ => ?_
      · obtain ⟨ol, hol, hcl, nl, hdl⟩ := hl
        obtain ⟨ocls, odict, odata, oslots⟩ := ol
        simp only at hcl hdl
        subst hcl; subst hdl
        have hol' : (s.heap.push (set0 w)).get? l = some { cls := .type "tuple", dict := odict, data := .seq items nl, slots := oslots } := Heap.get?_push_of_some _ hol
        have hsls := F.sub_tuple_set
        have hslf := F.sub_tuple_frozenset
        have hne : (Value.type "tuple" == Value.type "dict") = false := by decide
        have hl1 : (s.heap.push (set0 w)).IsTuple l items := ⟨_, hol', rfl, nl, rfl⟩
        unfold Builtin.«set.__init__» noKeywords Builtin.Frozenset.updateFrom
        generalize hPI : pyIter = PI
        wp_walk
        subst hPI
        refine wpAny_pyIter_tuple hl1 ?_
        refine wpAny_bind (wpAny_runValue ?_)
        have hlS : l < s.heap.objs.size := Heap.lt_size hol
        have hh3 : A.in1.in1.in1.handled = none := by simp [hh]
        have hneI : l ≠ (s.heap.push (set0 w)).objs.size := by
          rw [Heap.size_push]; exact Nat.ne_of_lt (Nat.lt_succ_of_lt hlS)
        have hSf : s.heap.objs.size ∉ [(s.heap.push (set0 w)).objs.size, l] := by
          rw [Heap.size_push]; simp only [List.mem_cons, List.mem_singleton, List.not_mem_nil, or_false, not_or]
          exact ⟨Nat.ne_of_lt (Nat.lt_succ_self _), Nat.ne_of_gt hlS⟩
        have hval : ∀ (i : Nat) (v : Value), items[i]? = some v → ∃ p, ks[i]? = some p ∧ v = .ref p.1 := fun i v hv => by
          have q : items.toList[i]? = some v := by rw [Array.getElem?_toList]; exact hv
          rw [hit, List.getElem?_map] at q
          cases hq : ks[i]? with
          | none => rw [hq] at q; cases q
          | some p =>
            rw [hq] at q
            exact ⟨p, rfl, (Option.some.inj q).symm⟩
        have none_of : ∀ b, s.heap.objs.size ≤ b → s.heap.get? b = none := fun b hb => by
          cases q : s.heap.get? b with
          | none => rfl
          | some o => exact absurd (Nat.lt_of_lt_of_le (Heap.lt_size q) hb) (Nat.lt_irrefl _)
        refine set_update_tups ((Walks.tuple hh3 _ l hneI items).toS) s.heap.objs.size
          hSf ks hisz hfew hval s.heap hk (none_of _ (Nat.le_refl _)) (fun b hb => none_of b (by
            rw [List.mem_singleton.mp hb, Heap.size_push]
            exact Nat.le_succ _)) hu (items.size - 0) 0 _ (by omega) (Nat.zero_le _)
          ⟨⟨_, Heap.get?_push_size _ rfl, rfl, rfl⟩, hl1.at fun o q => Heap.get?_push_of_some _ q⟩ (fun b o e => Heap.get?_push_of_some _ (Heap.get?_push_of_some _ e)) ?hS0 ?hR
        case hS0 =>
          exact ⟨[], #[], 0, _, setTR_fresh (Heap.get?_push_of_some _ hS), Got.zero ks⟩
        case hR =>
          intro s' L es ep t hm hS' g' hkp
          obtain ⟨h', g2, d', tk', os'⟩ := s'
          obtain rfl : g2 = s.gens := hm.gens
          obtain rfl : d' = s.drawn := hm.drawn
          obtain rfl : os' = s.os := hm.os
          show wpAny _ _ _ _ _ _
          refine wpAny_pure ?_
          show wpAny _ _ (ret Value.none) _ _ _
          rw [hisz] at g'
          exact wpAny_pure ⟨rfl, h', tk', L, es, ep, t, rfl, hS', g', hkp⟩
      · cases r₂ with
        | error e => exact hr₂
        | ok fl₂ =>
          cases fl₂ with
          | ret r =>
            obtain ⟨rfl, h', tk, L, es, ep, t, rfl, hS', g', hk'⟩ := hr₂
            repeat (any_goals (first | assumption | wp_step))
            exact h _ _ _ _ _ _ hS' g' hk'
          | _ => exact hr₂.elim
    | _ => exact hr.elim
end
/-- set(xs), xs a list or a tuple of tuples of ints -/
def rSetOfA (K : PySem.W.Frag) (P : Program) (w : World) : List V → Hp → VK → Prop := fun xs H Q => ∃ (l : Addr) (ks : List (Addr × List Int)), xs = [V.ref l] ∧ (SqL K H l (ks.map fun p => V.ref p.1) ∨ SqT K H l (ks.map fun p => V.ref p.1)) ∧ (∀ p ∈ ks, SqT K H p.1 (p.2.map V.int)) ∧ ks.length < 64 ∧
  ∀ a L, H a = none → (∀ p ∈ L, p ∈ ks) → (∀ p ∈ ks, p.2 ∈ L.map (·.2)) → Q (.ref a) (upd H a (SetTO P w a L))
theorem cr_setOfA {X : Cx} (hc : X.calm = true) (hu : X.A.units + 64 < cLine) : CallR X (.type "set") (rSetOfA X.K X.prog X.w) := by
  intro pins s σ H xs us Q I r h
  obtain ⟨l, ks, rfl, hl, hk, hf, q⟩ := h
  have hn : H s.heap.objs.size = none := I.hok.fresh (Nat.le_refl _)
  rw [Vals.ref1 r]
  rcases hl with hl | hl
  · obtain ⟨its, rv, pl, hz⟩ := I.list hl
    refine call_set_tups (P := X.prog) (w := X.w) ks (I.ok.hd hc) pl.isList (by simpa using refs_of_vals rv) (fun p hp => I.isT (hk p hp)) hf (by omega) fun h' tk L es ep t R g k => ?_
    exact ⟨.ref s.heap.objs.size, upd H s.heap.objs.size (SetTO X.prog X.w s.heap.objs.size L), I.laid (t' := tk) k (Nat.le_refl _) (setTO_new R.t0), rfl, q _ L hn (fun p hp => List.mem_of_mem_take (g.sub p hp)) fun p hp => g.all p (by rw [List.take_length]; exact hp)⟩
  · obtain ⟨its, rv, pl, hz⟩ := I.tuple hl
    refine call_set_tupsT (P := X.prog) (w := X.w) ks (I.ok.hd hc) pl (by simpa using refs_of_vals rv) (fun p hp => I.isT (hk p hp)) hf (by omega) fun h' tk L es ep t R g k => ?_
    exact ⟨.ref s.heap.objs.size, upd H s.heap.objs.size (SetTO X.prog X.w s.heap.objs.size L), I.laid (t' := tk) k (Nat.le_refl _) (setTO_new R.t0), rfl, q _ L hn (fun p hp => List.mem_of_mem_take (g.sub p hp)) fun p hp => g.all p (by rw [List.take_length]; exact hp)⟩
end JN

namespace JN
open TS
/-! ### monomials of d exponents, their sequence, the least ones -/
abbrev B0 : Int := 1099511627776
abbrev cd (p : List Int) : Int := code B0 p
/-- d exponents, none negative, none great -/
def Mon (d : Nat) (p : List Int) : Prop := p.length = d ∧ Bd B0 p
theorem dvd_cons {x y : Int} {l m : List Int} : dvdI (x :: l) (y :: m) = true ↔ x ≤ y ∧ dvdI l m = true := by
  simp [dvdI]
theorem dvd_refl : ∀ p : List Int, dvdI p p = true
  | [] => rfl
  | x :: p => dvd_cons.mpr ⟨Int.le_refl _, dvd_refl p⟩
theorem dvd_trans : ∀ {p q r : List Int}, p.length = q.length → q.length = r.length → dvdI p q = true → dvdI q r = true → dvdI p r = true
  | [], [], [], _, _, _, _ => rfl
  | x :: p, y :: q, z :: r, h1, h2, a, b => by
    obtain ⟨a1, a2⟩ := dvd_cons.mp a
    obtain ⟨b1, b2⟩ := dvd_cons.mp b
    exact dvd_cons.mpr ⟨Int.le_trans a1 b1, dvd_trans (by simpa using h1) (by simpa using h2) a2 b2⟩
theorem cd_le : ∀ {p q : List Int}, p.length = q.length → dvdI p q = true → cd p ≤ cd q
  | [], [], _, _ => Int.le_refl _
  | x :: p, y :: q, h, a => by
    have hl : p.length = q.length := by simpa using h
    obtain ⟨a1, a2⟩ := dvd_cons.mp a
    have ih := cd_le hl a2
    show x * B0 ^ p.length + cd p ≤ y * B0 ^ q.length + cd q
    rw [← hl]
    have pp : (0 : Int) ≤ B0 ^ p.length := Int.pow_nonneg (by decide)
    have := Int.mul_le_mul_of_nonneg_right a1 pp
    omega
theorem cd_inj : ∀ {p q : List Int}, p.length = q.length → Bd B0 p → Bd B0 q → cd p = cd q → p = q
  | [], [], _, _, _, _ => rfl
  | x :: p, y :: q, h, hp, hq, e => by
    have hl : p.length = q.length := by simpa using h
    have exy : x = y := by
      apply Classical.byContradiction
      intro n
      rcases Int.lt_or_gt_of_ne n with c | c
      · exact absurd e (Int.ne_of_lt (code_lt (B := B0) hl hp.tail hq.tail c))
      · exact absurd e.symm (Int.ne_of_lt (code_lt (B := B0) hl.symm hq.tail hp.tail c))
    subst exy
    have e2 : cd p = cd q := by
      have e' : x * B0 ^ p.length + cd p = x * B0 ^ q.length + cd q := e
      rw [hl] at e'
      omega
    rw [cd_inj hl hp.tail hq.tail e2]
theorem dvd_lt {d : Nat} {p q : List Int} (hp : Mon d p) (hq : Mon d q) (h : dvdI p q = true) (n : p ≠ q) : cd p < cd q := by
  have h1 := cd_le (hp.1.trans hq.1.symm) h
  rcases Int.lt_or_eq_of_le h1 with c | c
  · exact c
  · exact absurd (cd_inj (hp.1.trans hq.1.symm) hp.2 hq.2 c) n
theorem cd_nn {d : Nat} {p : List Int} (h : Mon d p) : 0 ≤ cd p := (code_bd p h.2).1
/-- strictly ascending -/
abbrev Asc (R : List (List Int)) : Prop := R.Pairwise fun p q => cd p < cd q
theorem asc_ext {α : Type} {f : α → Int} : ∀ {l m : List α}, l.Pairwise (fun a b => f a < f b) → m.Pairwise (fun a b => f a < f b) → (∀ x, x ∈ l ↔ x ∈ m) → l = m
  | [], [], _, _, _ => rfl
  | [], b :: m, _, _, h => absurd ((h b).mpr List.mem_cons_self) (List.not_mem_nil)
  | a :: l, [], _, _, h => absurd ((h a).mp List.mem_cons_self) (List.not_mem_nil)
  | a :: l, b :: m, hl, hm, h => by
    obtain ⟨l1, l2⟩ := List.pairwise_cons.mp hl
    obtain ⟨m1, m2⟩ := List.pairwise_cons.mp hm
    have eab : a = b := by
      rcases List.mem_cons.mp ((h a).mp List.mem_cons_self) with e | e
      · exact e
      · rcases List.mem_cons.mp ((h b).mpr List.mem_cons_self) with e2 | e2
        · exact e2.symm
        · have := m1 a e
          have := l1 b e2
          omega
    subst eab
    congr 1
    refine asc_ext l2 m2 fun x => ⟨fun hx => ?_, fun hx => ?_⟩
    · rcases List.mem_cons.mp ((h x).mp (List.mem_cons_of_mem _ hx)) with e | e
      · subst e
        have := l1 x hx
        omega
      · exact e
    · rcases List.mem_cons.mp ((h x).mpr (List.mem_cons_of_mem _ hx)) with e | e
      · subst e
        have := m1 x hx
        omega
      · exact e
/-- R lists, ascending, those of ms that no other one divides -/
structure MinOf (ms R : List (List Int)) : Prop where
  asc : Asc R
  mem : ∀ p, p ∈ R ↔ p ∈ ms ∧ ∀ q ∈ ms, dvdI q p = true → q = p
theorem MinOf.uniq {ms ms' R R' : List (List Int)} (a : MinOf ms R) (b : MinOf ms' R') (h : ∀ p, p ∈ ms ↔ p ∈ ms') : R = R' := by
  refine asc_ext a.asc b.asc fun p => ?_
  rw [a.mem, b.mem, h p]
  constructor
  · rintro ⟨h1, h2⟩
    exact ⟨h1, fun q hq => h2 q ((h q).mpr hq)⟩
  · rintro ⟨h1, h2⟩
    exact ⟨h1, fun q hq => h2 q ((h q).mp hq)⟩
theorem MinOf.sub {ms R : List (List Int)} (a : MinOf ms R) {p : List Int} (h : p ∈ R) : p ∈ ms := ((a.mem p).mp h).1
/-- below each one stands a least one -/
theorem min_below {d : Nat} {ms : List (List Int)} (hm : ∀ p ∈ ms, Mon d p) : ∀ (k : Nat) (p : List Int), p ∈ ms → (cd p).toNat ≤ k → ∃ q ∈ ms, dvdI q p = true ∧ ∀ r ∈ ms, dvdI r q = true → r = q := by
  intro k
  induction k with
  | zero =>
    intro p hp hk
    refine ⟨p, hp, dvd_refl p, fun r hr hd => ?_⟩
    apply Classical.byContradiction
    intro n
    have := dvd_lt (hm r hr) (hm p hp) hd n
    have := cd_nn (hm r hr)
    omega
  | succ k ih =>
    intro p hp hk
    rcases Classical.em (∀ r ∈ ms, dvdI r p = true → r = p) with c | c
    · exact ⟨p, hp, dvd_refl p, c⟩
    · obtain ⟨r, hr⟩ := Classical.not_forall.mp c
      obtain ⟨hr1, hr2⟩ := Classical.not_imp.mp hr
      obtain ⟨hr2, hr3⟩ := Classical.not_imp.mp hr2
      have := dvd_lt (hm r hr1) (hm p hp) hr2 hr3
      have := cd_nn (hm r hr1)
      obtain ⟨q, q1, q2, q3⟩ := ih r hr1 (by omega)
      exact ⟨q, q1, dvd_trans ((hm q q1).1.trans (hm r hr1).1.symm) ((hm r hr1).1.trans (hm p hp).1.symm) q2 hr2, q3⟩
theorem MinOf.below {d : Nat} {ms R : List (List Int)} (a : MinOf ms R) (hm : ∀ p ∈ ms, Mon d p) {p : List Int} (h : p ∈ ms) : ∃ q ∈ R, dvdI q p = true := by
  obtain ⟨q, h1, h2, h3⟩ := min_below hm _ p h (Nat.le_refl _)
  exact ⟨q, (a.mem q).mpr ⟨h1, h3⟩, h2⟩
/-- lies in the ideal -/
def inG (gs : List (List Int)) (c : List Int) : Bool := gs.any fun g => dvdI g c
theorem inG_iff {gs : List (List Int)} {c : List Int} : inG gs c = true ↔ ∃ g ∈ gs, dvdI g c = true := by
  simp [inG]
theorem MinOf.inG {d : Nat} {ms R : List (List Int)} (a : MinOf ms R) (hm : ∀ p ∈ ms, Mon d p) {c : List Int} (hc : c.length = d) : inG R c = inG ms c := by
  rw [Bool.eq_iff_iff, inG_iff, inG_iff]
  constructor
  · rintro ⟨g, h1, h2⟩
    exact ⟨g, a.sub h1, h2⟩
  · rintro ⟨g, h1, h2⟩
    obtain ⟨q, q1, q2⟩ := a.below hm h1
    exact ⟨q, q1, dvd_trans ((hm q (a.sub q1)).1.trans (hm g h1).1.symm) ((hm g h1).1.trans hc.symm) q2 h2⟩
/-- an ascending list of which none divides another one is its own least ones, and those of all that lie above and hold it -/
theorem MinOf.of {d : Nat} {ms A : List (List Int)} (hA : Asc A) (self : ∀ p ∈ A, ∀ q ∈ A, dvdI q p = true → q = p) (hm : ∀ p ∈ ms, Mon d p) (sub : ∀ p ∈ A, p ∈ ms) (above : ∀ p ∈ ms, ∃ q ∈ A, dvdI q p = true) : MinOf ms A := by
  refine ⟨hA, fun p => ⟨fun hp => ⟨sub p hp, fun q hq hd => ?_⟩, fun h => ?_⟩⟩
  · obtain ⟨r, r1, r2⟩ := above q hq
    have hl1 := (hm r (sub r r1)).1.trans (hm q hq).1.symm
    have hl2 := (hm q hq).1.trans (hm p (sub p hp)).1.symm
    have e := self p hp r r1 (dvd_trans hl1 hl2 r2 hd)
    subst e
    apply Classical.byContradiction
    intro n
    have a1 := dvd_lt (hm q hq) (hm r (sub r r1)) hd n
    have a2 := cd_le hl1 r2
    omega
  · obtain ⟨r, r1, r2⟩ := above p h.1
    have e := h.2 r (sub r r1) r2
    subst e
    exact r1
theorem MinOf.self {ms R : List (List Int)} (a : MinOf ms R) : ∀ p ∈ R, ∀ q ∈ R, dvdI q p = true → q = p := fun p hp q hq h => ((a.mem p).mp hp).2 q (a.sub hq) h
/-- an ideal's generators: ascending, none divides another one -/
structure Gens (d : Nat) (R : List (List Int)) : Prop where
  asc : Asc R
  mon : ∀ p ∈ R, Mon d p
  self : ∀ p ∈ R, ∀ q ∈ R, dvdI q p = true → q = p
theorem MinOf.gens {d : Nat} {ms R : List (List Int)} (a : MinOf ms R) (hm : ∀ p ∈ ms, Mon d p) : Gens d R := ⟨a.asc, fun p hp => hm p (a.sub hp), a.self⟩
theorem Gens.min {d : Nat} {ms A : List (List Int)} (g : Gens d A) (hm : ∀ p ∈ ms, Mon d p) (sub : ∀ p ∈ A, p ∈ ms) (above : ∀ p ∈ ms, ∃ q ∈ A, dvdI q p = true) : MinOf ms A := MinOf.of g.asc g.self hm sub above
/-- the greedy way: one after another, kept if no kept one divides it -/
def grd : List (List Int) → List (List Int) → List (List Int)
  | acc, [] => acc
  | acc, x :: r => grd (if inG acc x = true then acc else acc ++ [x]) r
theorem grd_step {d : Nat} {pre acc : List (List Int)} {x : List Int} (a : MinOf pre acc) (hm : ∀ p ∈ pre, Mon d p) (hx : Mon d x) (hlt : ∀ p ∈ pre, cd p < cd x) : MinOf (pre ++ [x]) (if inG acc x = true then acc else acc ++ [x]) := by
  have nx : ∀ p ∈ pre, ¬ dvdI x p = true := fun p hp h => by
    have := cd_le (hx.1.trans (hm p hp).1.symm) h
    have := hlt p hp
    omega
  have old : ∀ p, p ∈ acc ↔ p ∈ pre ∧ ∀ q ∈ pre ++ [x], dvdI q p = true → q = p := fun p => by
    rw [a.mem]
    constructor
    · rintro ⟨h1, h2⟩
      refine ⟨h1, fun q hq hd => ?_⟩
      rcases List.mem_append.mp hq with h | h
      · exact h2 q h hd
      · rw [List.mem_singleton.mp h] at hd
        exact absurd hd (nx p h1)
    · rintro ⟨h1, h2⟩
      exact ⟨h1, fun q hq => h2 q (List.mem_append_left _ hq)⟩
  by_cases c : inG acc x = true
  · rw [if_pos c]
    refine ⟨a.asc, fun p => ?_⟩
    rw [old]
    constructor
    · rintro ⟨h1, h2⟩
      exact ⟨List.mem_append_left _ h1, h2⟩
    · rintro ⟨h1, h2⟩
      rcases List.mem_append.mp h1 with h | h
      · exact ⟨h, h2⟩
      · have e := List.mem_singleton.mp h
        subst e
        obtain ⟨g, g1, g2⟩ := inG_iff.mp c
        have := h2 g (List.mem_append_left _ (a.sub g1)) g2
        subst this
        exact ⟨a.sub g1, h2⟩
  · rw [if_neg c]
    refine ⟨?_, fun p => ?_⟩
    · refine List.pairwise_append.mpr ⟨a.asc, List.pairwise_singleton _ _, fun p hp q hq => ?_⟩
      rw [List.mem_singleton.mp hq]
      exact hlt p (a.sub hp)
    · rw [List.mem_append, List.mem_singleton, old]
      constructor
      · rintro (⟨h1, h2⟩ | e)
        · exact ⟨List.mem_append_left _ h1, h2⟩
        · subst e
          refine ⟨List.mem_append_right _ (List.mem_singleton.mpr rfl), fun q hq hd => ?_⟩
          rcases List.mem_append.mp hq with h | h
          · obtain ⟨g, g1, g2⟩ := a.below hm h
            exact absurd (inG_iff.mpr ⟨g, g1, dvd_trans ((hm g (a.sub g1)).1.trans (hm q h).1.symm) ((hm q h).1.trans hx.1.symm) g2 hd⟩) c
          · exact List.mem_singleton.mp h
      · rintro ⟨h1, h2⟩
        rcases List.mem_append.mp h1 with h | h
        · exact .inl ⟨h, h2⟩
        · exact .inr (List.mem_singleton.mp h)
/-- the filter's way -/
theorem min_filter {d : Nat} {L : List (List Int)} (hL : Asc L) : MinOf L (L.filter fun a => decide (L.filter (fun b => !decide (b = a) && dvdI b a) = [])) := by
  refine ⟨hL.filter _, fun p => ?_⟩
  rw [List.mem_filter, decide_eq_true_iff, List.filter_eq_nil_iff]
  constructor
  · rintro ⟨h1, h2⟩
    refine ⟨h1, fun q hq hd => ?_⟩
    have := h2 q hq
    apply Classical.byContradiction
    intro n
    apply this
    rw [hd, decide_eq_false n]
    rfl
  · rintro ⟨h1, h2⟩
    refine ⟨h1, fun q hq h => ?_⟩
    rw [Bool.and_eq_true] at h
    have := h2 q hq h.2
    rw [decide_eq_true this] at h
    exact absurd h.1 (by decide)
/-- from the sort's words: by the code, each once -/
theorem asc_of {α : Type} {f : α → List Int} {d : Nat} {L : List α} (hm : ∀ p ∈ L, Mon d (f p)) (hn : (L.map f).Nodup) (hp : L.Pairwise fun p q => cd (f p) ≤ cd (f q)) : Asc (L.map f) := by
  induction L with
  | nil => exact .nil
  | cons a L ih =>
    obtain ⟨h1, h2⟩ := List.pairwise_cons.mp hp
    rw [List.map_cons] at hn ⊢
    obtain ⟨n1, n2⟩ := List.nodup_cons.mp hn
    refine List.pairwise_cons.mpr ⟨fun q hq => ?_, ih (fun p hp => hm p (List.mem_cons_of_mem _ hp)) n2 h2⟩
    obtain ⟨b, hb, rfl⟩ := List.mem_map.mp hq
    rcases Int.lt_or_eq_of_le (h1 b hb) with c | c
    · exact c
    · have ma := hm a List.mem_cons_self
      have mb := hm b (List.mem_cons_of_mem _ hb)
      exact absurd (cd_inj (ma.1.trans mb.1.symm) ma.2 mb.2 c ▸ hq) n1
/-! sums, meets, products: which monomials lie in them -/
theorem lcm_dvd : ∀ {a b c : List Int}, a.length = c.length → b.length = c.length → (dvdI (List.zipWith mxI a b) c = true ↔ dvdI a c = true ∧ dvdI b c = true)
  | [], [], [], _, _ => by simp [dvdI]
  | [], _ :: _, [], _, h2 => by simp at h2
  | [], _ :: _, _ :: _, h1, _ => by simp at h1
  | _ :: _, [], [], h1, _ => by simp at h1
  | _ :: _, [], _ :: _, _, h2 => by simp at h2
  | x :: a, y :: b, z :: c, h1, h2 => by
    rw [List.zipWith_cons_cons, dvd_cons, dvd_cons, dvd_cons, lcm_dvd (by simpa using h1) (by simpa using h2)]
    have : mxI x y ≤ z ↔ x ≤ z ∧ y ≤ z := by
      unfold mxI
      split <;> omega
    rw [this]
    constructor
    · rintro ⟨⟨a1, a2⟩, a3, a4⟩; exact ⟨⟨a1, a3⟩, a2, a4⟩
    · rintro ⟨⟨a1, a3⟩, a2, a4⟩; exact ⟨⟨a1, a2⟩, a3, a4⟩
theorem lcm_dvd_times : ∀ {a b : List Int}, a.length = b.length → Bd B0 a → Bd B0 b → dvdI (List.zipWith mxI a b) (List.zipWith (· + ·) a b) = true
  | [], [], _, _, _ => rfl
  | [], _ :: _, h, _, _ => by simp at h
  | _ :: _, [], h, _, _ => by simp at h
  | x :: a, y :: b, h, h1, h2 => by
    rw [List.zipWith_cons_cons, List.zipWith_cons_cons, dvd_cons]
    refine ⟨?_, lcm_dvd_times (by simpa using h) h1.tail h2.tail⟩
    have := h1.head
    have := h2.head
    unfold mxI
    split <;> omega
theorem dvd_lcm_left : ∀ {a b : List Int}, a.length = b.length → dvdI a (List.zipWith mxI a b) = true
  | [], [], _ => rfl
  | x :: a, y :: b, h => by
    rw [List.zipWith_cons_cons, dvd_cons]
    refine ⟨?_, dvd_lcm_left (by simpa using h)⟩
    unfold mxI
    split <;> omega
theorem lcm_self : ∀ a : List Int, List.zipWith mxI a a = a
  | [] => rfl
  | x :: a => by
    rw [List.zipWith_cons_cons, lcm_self a]
    congr 1
    unfold mxI
    split <;> omega
theorem lcm_zero : ∀ {a : List Int}, Bd B0 a → List.zipWith mxI a (List.replicate a.length 0) = a
  | [], _ => rfl
  | x :: a, h => by
    rw [List.length_cons, List.replicate_succ, List.zipWith_cons_cons, lcm_zero h.tail]
    congr 1
    have := h.head
    unfold mxI
    split <;> omega
theorem times_zero : ∀ a : List Int, List.zipWith (· + ·) a (List.replicate a.length 0) = a
  | [] => rfl
  | x :: a => by
    rw [List.length_cons, List.replicate_succ, List.zipWith_cons_cons, times_zero a]
    congr 1
    exact Int.add_zero x
theorem add_comm' (x y : Int) : x + y = y + x := Int.add_comm x y
end JN

set_option maxRecDepth 100000
set_option maxHeartbeats 8000000
namespace JN
open PySem PySem.Spec PyProof.Rows L2
def topS (i : Nat) : Stmt := PySem.Challenge.pw_jointneeds_k03_whole_sums_meets_products.main.body.getD i (.Pass ⟨0, 0, 0, 0⟩)
abbrev S_divides : Stmt := topS 6
abbrev S_lcm_of : Stmt := topS 7
abbrev S_times : Stmt := topS 8
abbrev S_has_divisor : Stmt := topS 9
abbrev S_least_ones : Stmt := topS 10
abbrev S_ideal_of : Stmt := topS 13
abbrev S_contains : Stmt := topS 14
abbrev S_is_within : Stmt := topS 15
abbrev S_sum_of : Stmt := topS 17
abbrev S_product_of : Stmt := topS 18
abbrev S_meet_of : Stmt := topS 19
abbrev S_law_begun : Stmt := topS 21
abbrev S_law_draw : Stmt := topS 22
abbrev S_law_divides : Stmt := topS 23
abbrev S_law_lcm : Stmt := topS 24
abbrev S_law_times : Stmt := topS 25
abbrev S_law_least : Stmt := topS 26
abbrev S_law_in : Stmt := topS 27
abbrev S_law_monomial : Stmt := topS 28
abbrev S_law_ideal : Stmt := topS 29
abbrev S_law_box : Stmt := topS 30
abbrev S_law_drawn : Stmt := topS 31
abbrev S_law_pairs : Stmt := topS 32
abbrev S_law : Stmt := topS 33
end JN
namespace JN
open PySem PySem.Spec PyProof.Rows L2
/-- the built-in names stand as they are -/
structure Bt (mg : Str → Option Value) : Prop where
  int : mg "int" = none
  len : mg "len" = none
  tuple : mg "tuple" = none
  zip : mg "zip" = none
  enumerate : mg "enumerate" = none
  range : mg "range" = none
  max : mg "max" = none
  min : mg "min" = none
  sum : mg "sum" = none
  isinstance : mg "isinstance" = none
  bool : mg "bool" = none
  set : mg "set" = none
  sorted : mg "sorted" = none
  all : mg "all" = none
  list : mg "list" = none
/-- a def of the text, how it binds, where its name stands -/
structure At (K : PySem.W.Frag) (mg : Str → Option Value) (x : Str) (st : Stmt) (ps : List Str) (f : Addr) (fd : FuncData) : Prop where
  fn : Fun K x x st f fd
  bi : Binds K fd ps []
  gl : mg x = some (.ref f)
section
variable {P : Program} {w : World} {K : PySem.W.Frag} {mg : Str → Option Value} {base : Heap}
theorem scDraw : FnScope ["m", "below", "found", "spot", "cells", "extra", "cell", "blend"] ["m", "below"] (defScope S_law_draw) := ⟨rfl, rfl, rfl, by decide +kernel, rfl, by decide +kernel, by decide +kernel⟩
theorem ok_draw {f : Addr} {fd : FuncData} (F : Fun K "_law_draw" "_law_draw" S_law_draw f fd) (B : Bt mg) : FnOk P w K mg base CX0 1 f fd ["m", "below"] spDraw := by
  refine F.ok scDraw (fun vs H Q E h => ?_) (fun cdv A outer s H vs Q E hr h => ?_)
  · obtain ⟨d, c, below, n, rfl, _⟩ := h
    rfl
  · obtain ⟨d, c, below, n, rfl, ⟨l, sd, p, cs, h1, h2, h3, h4, h5, h6, h7, h8, h9⟩, hn, hb1, hb2, q⟩ := h
    have hu := hu_of hr
    have nd := scDraw.nd
    refine ⟨_, pss_cons (ps_if (pt_cmpR op_gt (pe_dget hu (pv 0) pe_str (fun _ _ => rfl)) pe_int (nomark _))
        (pss_cons (ps_set (i := 2) nd rfl (.inl rfl) (pe_op op_mod (pe_callTy call_int1 (by rfl) B.int (by decide +kernel) (pa_cons (pe_dget hu (pv 0) pe_str (fun _ _ => rfl)) pa_nil)) (pv 1)))
        (pss_cons (ps_dput hu (pv 0) pe_str (pe_op op_fdiv (pe_dget hu (pv 0) pe_str (fun _ _ => rfl)) (pv 1)) rfl)
        (pss_one (ps_ret (pv 2))))) pss_nil)
      (pss_cons (ps_set (i := 3) nd rfl (.inl rfl) (pe_dget hu (pv 0) pe_str (fun _ _ => rfl)))
      (pss_cons (ps_dput hu (pv 0) pe_str (pe_op op_add (pv 3) pe_int) rfl)
      (pss_cons (ps_par (i := 4) (j := 5) (by rfl) nd rfl rfl (by decide) rfl rfl (pa_cons (pe_dget hu (pv 0) pe_str (fun _ _ => rfl))
          (pa_cons (pe_op op_add (pe_dget hu (pv 0) pe_str (fun _ _ => rfl)) (pe_op op_mul (pe_op op_mul pe_int (pv 3)) (pv 3))) pa_nil)) (by rfl))
      (pss_cons (ps_set (i := 6) nd rfl (.inl rfl) (pe_ix ix_list (pv 4) (pe_op op_mod (pe_callTy call_int1 (by rfl) B.int (by decide +kernel) (pa_cons (pv 3) pa_nil))
          (pe_callB call_len_seq (by rfl) B.len PySem.boot_len (pa_cons (pv 4) pa_nil))) (fun _ _ => rfl)))
      (pss_cons (ps_set (i := 7) nd rfl (.inl rfl) (pe_op op_mod (pe_callTy call_int1 (by rfl) B.int (by decide +kernel)
          (pa_cons (pe_op op_add (pe_op op_mul (pv 6) (pe_op op_add (pe_op op_mul pe_int (pv 3)) pe_int)) (pv 5)) pa_nil)) pe_int))
      (pss_cons (ps_set (i := 7) nd rfl (.inl rfl) (pe_op op_mod (pe_callTy call_int1 (by rfl) B.int (by decide +kernel)
          (pa_cons (pe_op op_add (pe_op op_add (pe_op op_mul (pv 7) (pv 7)) (pe_op op_mul pe_int (pv 3))) (pe_dget hu (pv 0) pe_str (fun _ _ => rfl))) pa_nil)) pe_int))
      (pss_one (ps_ret (pe_op op_mod (pe_op op_fdiv (pe_op op_mod (pe_callTy call_int1 (by rfl) B.int (by decide +kernel)
          (pa_cons (pe_op op_add (pe_op op_mul (pv 7) pe_int) (pv 3)) pa_nil)) pe_int) pe_int) (pv 1)))))))))), ?_⟩
    have g1 : ∀ {H' : Hp} {l' p' : Int}, H' d = some (.dK (mS l' sd c p')) → DGet H' d (.str "left") (some (.int l')) := fun e => .inl ⟨_, Sum.inr "left", .inl e, rfl, mS_left.symm⟩
    have g2 : ∀ {H' : Hp} {l' p' : Int}, H' d = some (.dK (mS l' sd c p')) → DGet H' d (.str "seed") (some (.int sd)) := fun e => .inl ⟨_, Sum.inr "seed", .inl e, rfl, mS_seed.symm⟩
    have g3 : ∀ {H' : Hp} {l' p' : Int}, H' d = some (.dK (mS l' sd c p')) → DGet H' d (.str "cells") (some (.ref c)) := fun e => .inl ⟨_, Sum.inr "cells", .inl e, rfl, mS_cells.symm⟩
    have g4 : ∀ {H' : Hp} {l' p' : Int}, H' d = some (.dK (mS l' sd c p')) → DGet H' d (.str "spot") (some (.int p')) := fun e => .inl ⟨_, Sum.inr "spot", .inl e, rfl, mS_spot.symm⟩
    refine ⟨_, rfl, d, .int l, rfl, g1 h1, _, _, rfl, rfl, _, rfl, ite2 (fun e => ?_) (fun e => ?_)⟩
    · -- found = int(m["left"]) % below
      refine ⟨_, rfl, d, .int l, rfl, g1 h1, .inl ⟨_, rfl, _, rfl, _, _, rfl, rfl, by omega, ?_⟩⟩
      refine ⟨_, rfl, d, .int l, rfl, g1 h1, _, rfl, _, _, rfl, rfl, ⟨by omega, by omega⟩, _, rfl, d, _, rfl, DPut.k (k := Sum.inr "left") h1 (by show 4 < sizeLine; decide), ?_⟩
      refine ⟨_, rfl, q _ _ (Int.emod_nonneg _ (by omega)) (Int.emod_lt_of_pos _ (by omega)) ((Kp.refl H).upd (by simp)) ⟨l / below, sd, p, cs, ?_, ?_, h3, h4, h5, h6, h7, h8, by omega⟩⟩
      · rw [upd_same, mS_put_left]
      · rw [upd_ne h3]; exact h2
    · have hc : (1 : Int) ≤ (cs.length : Int) := by
        cases cs with
        | nil => exact absurd rfl h4
        | cons a r => rw [List.length_cons]; omega
      have hp : p ≤ 1000000 := by omega
      refine ⟨_, rfl, d, .int p, rfl, g4 h1, ?_⟩
      refine ⟨_, rfl, _, _, rfl, rfl, _, rfl, d, _, rfl, DPut.k (k := Sum.inr "spot") h1 (by show 4 < sizeLine; decide), ?_⟩
      generalize hH2 : upd H d (.dK (putK (mS l sd c p) (Sum.inr "spot") (.int (p + 1)))) = H2
      have k2 : Kp [d] H H2 := by
        rw [← hH2]
        exact (Kp.refl H).upd (by simp)
      have e2 : H2 d = some (.dK (mS l sd c (p + 1))) := by rw [← hH2, upd_same, mS_put_spot]
      have hC0 : H2 c = some (.lst (cs.map V.int)) := k2 _ _ h2 (by simp [h3])
      have hC : SqL K H2 c (cs.map V.int) := .inl (.inl hC0)
      have hm1 : 0 ≤ p % (cs.length : Int) := Int.emod_nonneg _ (by omega)
      have hm2 : p % (cs.length : Int) < (cs.length : Int) := Int.emod_lt_of_pos _ (by omega)
      refine ⟨_, rfl, d, .ref c, rfl, g3 e2, _, rfl, d, .int sd, rfl, g2 e2, _, rfl, _, _, rfl, rfl, .inl ⟨by decide, by decide⟩, _, rfl, _, _, rfl, rfl, .inr ⟨by omega, by omega⟩, _, _, rfl, rfl, _, _, rfl, ?_⟩
      have hix : atI (cs.map V.int) (p % (cs.length : Int)) = some (.int (at0 cs (p % (cs.length : Int)).toNat)) := by
        have := ix0 (ns := cs) (i := (p % (cs.length : Int)).toNat) (by omega)
        rwa [Int.toNat_of_nonneg hm1] at this
      refine ⟨_, rfl, _, rfl, .inl ⟨_, rfl, _, rfl, c, _, rfl, .inl hC, _, _, rfl, rfl, ?_, c, _, _, .int (at0 cs (p % (cs.length : Int)).toNat), rfl, rfl, hC, ?_, ?_⟩⟩
      · rw [List.length_map]; omega
      · rw [List.length_map]; exact hix
      generalize at0 cs (p % (cs.length : Int)).toNat = cell
      refine ⟨_, rfl, _, rfl, _, _, rfl, rfl, .inl ⟨by decide, by decide⟩, _, _, rfl, rfl, _, _, rfl, rfl, .inr ⟨by omega, by omega⟩, _, rfl, _, _, rfl, rfl, .inl ⟨_, rfl, _, _, rfl, rfl, (by decide : (0 : Int) < 2147483647), ?_⟩⟩
      generalize hb0 : (cell * (2 * p + 3) + (sd + 40503 * p * p)) % 2147483647 = b0
      have hb1 : 0 ≤ b0 := by omega
      have hb2 : b0 < 2147483647 := by omega
      refine ⟨_, rfl, _, rfl, _, _, rfl, rfl, .inl ⟨by omega, by omega⟩, _, rfl, _, _, rfl, rfl, .inl ⟨by decide, by decide⟩, _, _, rfl, rfl, _, rfl, d, .int sd, rfl, g2 e2, _, _, rfl, rfl, .inl ⟨_, rfl, _, _, rfl, rfl, (by decide : (0 : Int) < 2147483629), ?_⟩⟩
      generalize hb3 : (b0 * b0 + 69621 * p + sd) % 2147483629 = b3
      refine ⟨_, rfl, _, _, rfl, rfl, .inr ⟨by decide, by decide⟩, _, rfl, _, _, rfl, rfl, .inl ⟨_, rfl, _, _, rfl, rfl, (by decide : (0 : Int) < 2147483647), _, _, rfl, rfl, ⟨by decide, by decide⟩, _, rfl, _, _, rfl, rfl, by omega, ?_⟩⟩
      exact q _ _ (Int.emod_nonneg _ (by omega)) (Int.emod_lt_of_pos _ (by omega)) k2 ⟨l, sd, p + 1, cs, e2, hC0, h3, h4, h5, h6, h7, by omega, by omega⟩
end
section
variable {P : Program} {w : World} {K : PySem.W.Frag} {mg : Str → Option Value} {base : Heap}
theorem cut_ints (ns : List Int) (lo hi : Option Int) : ∃ ms : List Int, cutV (ns.map V.int) lo hi = ms.map V.int ∧ ms.length ≤ ns.length := by
  refine ⟨(ns.drop (HT.sIx (ns.map V.int).length 0 lo)).take (HT.sIx (ns.map V.int).length (ns.map V.int).length hi - HT.sIx (ns.map V.int).length 0 lo), ?_, ?_⟩
  · unfold cutV
    rw [List.map_take, List.map_drop]
  · rw [List.length_take, List.length_drop]
    omega
theorem mS_made {l s p : Int} {c : Addr} : mergeK [] [(.inr "left", .int l), (.inr "seed", .int s), (.inr "cells", .ref c), (.inr "spot", .int p)] = mS l s c p := by
  simp [mergeK, putK, mS, kls, klc, klp, ksc, ksp, kcp]
theorem scBegun : FnScope ["script", "k", "cells", "cell", "great", "seed"] ["script", "k"] (defScope S_law_begun) := ⟨rfl, rfl, rfl, by decide +kernel, rfl, by decide +kernel, by decide +kernel⟩
theorem ok_begun {f : Addr} {fd : FuncData} (F : Fun K "_law_begun" "_law_begun" S_law_begun f fd) (B : Bt mg) : FnOk P w K mg base CX0 1 f fd ["script", "k"] (spBegun K) := by
  refine F.ok scBegun (fun vs H Q E h => ?_) (fun cdv A outer s H vs Q E hr h => ?_)
  · obtain ⟨a, ns, k, rfl, _⟩ := h
    rfl
  · obtain ⟨a, ns, k, rfl, hS, hl, hk0, hk1, q⟩ := h
    have hu := hu_of hr
    have nd := scBegun.nd
    refine ⟨_, pss_cons (ps_set (i := 2) nd rfl (.inl rfl) (pe_op op_cat (pe_slice sl_list (pv 0) (po_some (pv 1)) po_none) (pe_slice sl_list (pv 0) po_none (po_some (pv 1)))))
      (pss_cons (ps_setLc (i := 4) (own := [("cell", 3)]) (g := gName 3) (by rfl) nd rfl rfl (sw_true rfl rfl rfl (by decide +kernel)) (pi_list (pv 2)) (blkOk_by (own := [("cell", 3)]) (N := ["script", "k", "cells", "cell", "great", "seed"]) (sc := defScope S_law_begun) (by decide +kernel))
          (fun _ _ _ _ _ => pg_name (i := 3) nd rfl (.inl rfl)) (fun _ _ _ _ _ => pts_one (pt_cmpR op_ge (pv 3) (pe_op op_pow pe_int pe_int) (nomark _))) (fun _ _ _ _ _ => pv 3))
      (pss_cons (ps_set (i := 5) nd rfl (.inl rfl) (pe_op op_add pe_int (pv 1)))
      (pss_cons (ps_for PassesOwn.never rfl (pi_list (pv 2)) (pg_name (i := 3) nd rfl (.inl rfl))
          (pss_one (ps_set (i := 5) nd rfl (.inl rfl) (pe_op op_mod (pe_callTy call_int1 (by rfl) B.int (by decide +kernel) (pa_cons (pe_op op_add (pe_op op_mul (pv 5) pe_int) (pv 3)) pa_nil)) pe_int))))
      (pss_one (ps_ret (pe_disp (pps_cons pe_str (pe_ifExp (pt_cmpR (op_neD hr.units) (pv 4) (pe_lst pa_nil) (nomark _)) (pe_ix ix_list (pv 4) pe_int (fun _ _ => rfl)) pe_int)
          (pps_cons pe_str (pv 5) (pps_cons pe_str (pe_op op_cat (pv 2) (pe_lst (pa_cons (pe_op op_add (pe_op op_mul pe_int (pv 1)) pe_int) pa_nil)))
          (pps_cons pe_str pe_int pps_nil)))) (by rfl) (by rfl) (fun z => by cases z) (by decide))))))), ?_⟩
    obtain ⟨m1, e1, l1⟩ := cut_ints ns (some k) none
    obtain ⟨m2, e2, l2⟩ := cut_ints ns none (some k)
    refine ⟨.ref a, rfl, .int k, rfl, k, rfl, a, _, rfl, hS, fun p1 np1 => ?_⟩
    have s1 := same_new (o := .lst (cutV (ns.map V.int) (some k) none)) np1
    refine ⟨.ref a, rfl, .int k, rfl, k, rfl, a, _, rfl, s1.seq hS, fun p2 np2 => ?_⟩
    have s2 := same_new (o := .lst (cutV (ns.map V.int) none (some k))) np2
    have n12 : p1 ≠ p2 := ne_of_none upd_same np2
    refine ⟨p1, p2, _, _, rfl, rfl, (by rw [upd_ne n12]; exact upd_same), upd_same, ?_, fun c nc => ?_⟩
    · rw [e1, e2, List.length_map, List.length_map, sizeLine_eq]; omega
    have s3 := same_new (o := .lst (cutV (ns.map V.int) (some k) none ++ cutV (ns.map V.int) none (some k))) nc
    rw [e1, e2, ← List.map_append] at s3 ⊢
    rw [e1, e2] at s2
    rw [e1] at s1
    generalize hcs : m1 ++ m2 = cs at s3 ⊢
    have hcl : cs.length ≤ 126 := by rw [← hcs, List.length_append]; omega
    have s0 := (s1.trans s2).trans s3
    generalize hH3 : upd (upd (upd H p1 (.lst (m1.map V.int))) p2 (.lst (m2.map V.int))) c (.lst (cs.map V.int)) = H3 at s0 ⊢
    have hC : H3 c = some (.lst (cs.map V.int)) := by rw [← hH3]; exact upd_same
    refine ⟨.ref c, rfl, c, rfl, ⟨_, .inl (.inl hC)⟩, fun D nD => lc_list (xs := cs.map V.int) (fun i H4 => ∃ gs : List Int, Same H3 H4 ∧ H4 D = some (.lst (gs.map V.int)) ∧ gs.length ≤ i) ⟨[], same_new nD, upd_same, Nat.le_refl _⟩ (fun i H4 _ h => ?_) (fun i x H4 hx h => ?_) (fun H4 h => ?_)⟩
    · obtain ⟨gs, sm, _⟩ := h
      exact sm.seq (.inl (.inl hC))
    · obtain ⟨gs, sm, eD, hgl⟩ := h
      have hi := (List.getElem?_eq_some_iff.mp hx).1
      rw [List.length_map] at hi
      have ex : x = .int (at0 cs i) := Option.some.inj (hx.symm.trans (it0 hi))
      subst ex
      refine ⟨rfl, .int (at0 cs i), rfl, 10, 18, rfl, rfl, ⟨by decide, by decide, by decide⟩, at0 cs i, _, rfl, rfl, _, rfl, ?_⟩
      refine ite2 (fun e => ?_) (fun e => ?_)
      · refine ⟨_, rfl, gs.map V.int, eD, ?_, gs ++ [at0 cs i], fun b o e => ?_, ?_, ?_⟩
        · rw [List.length_map, sizeLine_eq]; omega
        · rw [upd_ne (ne_of_none e nD)]
          exact sm _ _ e
        · rw [upd_same, List.map_append]
          rfl
        · rw [List.length_append]
          exact Nat.add_le_add_right hgl 1
      · exact ⟨gs, sm, eD, by omega⟩
    · obtain ⟨gs, sm4, eG, hgl⟩ := h
      have hC4 : H4 c = some (.lst (cs.map V.int)) := sm4 _ _ hC
      refine ⟨.int k, rfl, _, _, rfl, rfl, ?_⟩
      refine ⟨.ref c, rfl, c, rfl, ⟨_, .inl (.inl hC4)⟩, for_list (xs := cs.map V.int) (fun i σ H5 => H5 = H4 ∧ ∃ (z : Option V) (sd : Int), σ = [some (.ref a), some (.int k), some (.ref c), z, some (.ref D), some (.int sd)] ∧ 0 ≤ sd ∧ sd < 2147483647)
        ⟨rfl, _, 71 + k, rfl, by omega, by omega⟩ (fun i σ H5 _ h => ?_) (fun i x σ H5 hx h => ?_) (fun σ H5 h => ?_)⟩
      · rw [h.1]; exact .inl (.inl hC4)
      · obtain ⟨rfl, z, sd, rfl, h0, h1⟩ := h
        have hi := (List.getElem?_eq_some_iff.mp hx).1
        rw [List.length_map] at hi
        have ex : x = .int (at0 cs i) := Option.some.inj (hx.symm.trans (it0 hi))
        subst ex
        refine ⟨.int sd, rfl, _, _, rfl, rfl, .inr ⟨by decide, by decide⟩, .int (at0 cs i), rfl, _, _, rfl, rfl, .inl ⟨_, rfl, _, _, rfl, rfl, (by decide : (0 : Int) < 2147483647), ?_⟩⟩
        exact ⟨rfl, _, _, rfl, Int.emod_nonneg _ (by decide), Int.emod_lt_of_pos _ (by decide)⟩
      · obtain ⟨rfl, z, sd, rfl, h0, h1⟩ := h
        refine fun d nd' => ?_
        have sd1 := same_new (o := .dK []) nd'
        refine ⟨.ref D, rfl, by decide, fun o no => ?_⟩
        have so := same_new (o := .lst []) no
        refine ne_lst (ns := gs) (ms := []) (.inl (.inl (so _ _ (sd1 _ _ eG)))) (sql_new (o := [])) ⟨_, rfl, ?_⟩
        have fin : ∀ (l : Int), tPairs [(tC (.str "seed"), tVar 5), (tC (.str "cells"), tOp rCat (tVar 2) (tLst (tCons (tOp (rI0 fun i j => .int (i + j)) (tOp (rI CMul fun i j => .int (i * j)) (tC (.int 53)) (tVar 1)) (tC (.int 11))) tNil))), (tC (.str "spot"), tC (.int 0))]
            [some (.ref a), some (.int k), some (.ref c), z, some (.ref D), some (.int sd)] (upd (upd H5 d (.dK [])) o (.lst [])) (fun ps H6 => H6 d = some (.dK []) ∧ ∃ kvs : List (Key × V), (V.str "left", V.int l) :: ps = kvs.map (fun kv => (kV kv.1, kv.2)) ∧ kvs.length ≤ 15 ∧ Q (.ref d) (upd H6 d (.dK (mergeK [] kvs)))) := by
          intro l
          have eC : (upd (upd H5 d (.dK [])) o (.lst [])) c = some (.lst (cs.map V.int)) := so _ _ (sd1 _ _ hC4)
          have eD : (upd (upd H5 d (.dK [])) o (.lst [])) d = some (.dK []) := so _ _ upd_same
          refine ⟨.int sd, rfl, .ref c, rfl, .int k, rfl, _, _, rfl, rfl, .inl ⟨by decide, by decide⟩, _, _, rfl, rfl, (by show 1 ≤ sizeLine; decide), fun y ny => ?_⟩
          have sy := same_new (o := .lst [V.int (53 * k + 11)]) ny
          refine ⟨c, y, _, _, rfl, rfl, sy _ _ eC, upd_same, ?_, fun p np => ?_⟩
          · rw [List.length_map, sizeLine_eq]
            show cs.length + 1 ≤ _
            omega
          have sp := same_new (o := .lst (cs.map V.int ++ [V.int (53 * k + 11)])) np
          have ndp : d ≠ p := ne_of_none (sy _ _ eD) np
          refine ⟨sp _ _ (sy _ _ eD), [(.inr "left", .int l), (.inr "seed", .int sd), (.inr "cells", .ref p), (.inr "spot", .int 0)], rfl, by show 4 ≤ 15; decide, ?_⟩
          rw [mS_made]
          have sall : Same H5 (upd (upd (upd (upd H5 d (.dK [])) o (.lst [])) y (.lst [V.int (53 * k + 11)])) p (.lst (cs.map V.int ++ [V.int (53 * k + 11)]))) := ((sd1.trans so).trans sy).trans sp
          have s05 : Same H H5 := s0.trans sm4
          refine q d p _ (fun b u e => ?_) (s05.free nd') ((s05.trans (sd1.trans (so.trans sy))).free np) ⟨l, sd, 0, cs ++ [53 * k + 11], upd_same, ?_, ndp.symm, by simp, by rw [List.length_append]; show cs.length + 1 ≤ 1000; omega, h0, h1, by decide, by decide⟩
          · rw [upd_ne (ne_of_none (s05 _ _ e) nd')]
            exact sall _ _ (s05 _ _ e)
          · rw [upd_ne ndp.symm, upd_same, List.map_append]
            rfl
        refine ite2 (fun e => ?_) (fun e => fin 0)
        have hg : gs ≠ [] := fun z => by
          rw [z] at e
          exact absurd e (by decide)
        refine ⟨.ref D, rfl, D, _, 0, .int (at0 gs 0), rfl, rfl, .inl (.inl (so _ _ (sd1 _ _ eG))), ix0 (i := 0) (List.length_pos_iff.mpr hg), fin _⟩
end
theorem yes_ok {te : TE} {σ : L2.St} {H : Hp} {P1 : V → Hp → Prop} {P0 : Hp → Prop} (h : te σ H P1) : tYes σ H fun b H3 => if b = true then te σ H3 P1 else P0 H3 := by
  show if true = true then te σ H P1 else P0 H
  rw [if_pos rfl]
  exact h
def spZw (K : PySem.W.Frag) (g : Int → Int → Int) : Sp := fun vs H Q _ => ∃ (a b : Addr) (ns ms : List Int), vs = [.ref a, .ref b] ∧ SqT K H a (ns.map V.int) ∧ SqT K H b (ms.map V.int) ∧ ns.length = ms.length ∧ ns.length ≤ 1000 ∧
  ∀ (p : Addr) (H' : Hp), Same H H' → SqT K H' p ((List.zipWith g ns ms).map V.int) → Q (.ref p) H'
theorem zw_fm {g : Int → Int → Int} {ns ms : List Int} (hl : ns.length = ms.length) : (List.range (min ns.length ms.length)).filterMap (fun i => some (V.int (g (at0 ns i) (at0 ms i)))) = (List.zipWith g ns ms).map V.int := by
  rw [← range_zip (g := g) (n := min ns.length ms.length) rfl, List.map_map, fm_some (g := fun i => V.int (g (at0 ns i) (at0 ms i))) fun _ _ => rfl]
  rfl
section
variable {P : Program} {w : World} {K : PySem.W.Frag} {mg : Str → Option Value} {base : Heap}
theorem sc_lcm_of : FnScope ["a", "b", "x", "y"] ["a", "b"] (defScope S_lcm_of) := ⟨rfl, rfl, rfl, by decide +kernel, rfl, by decide +kernel, by decide +kernel⟩
theorem ok_lcm_of {f : Addr} {fd : FuncData} (F : Fun K "lcm_of" "lcm_of" S_lcm_of f fd) (B : Bt mg) : FnOk P w K mg base CX0 1 f fd ["a", "b"] (spZw K mxI) := by
  refine F.ok sc_lcm_of (fun vs H Q E h => ?_) (fun cdv A outer s H vs Q E hr h => ?_)
  · obtain ⟨a, b, ns, ms, rfl, _⟩ := h
    rfl
  · obtain ⟨a, b, ns, ms, rfl, hA, hB, hl, hz, q⟩ := h
    have nd := sc_lcm_of.nd
    refine ⟨_, pss_one (ps_ret (pe_callTy call_tuple_of (by rfl) B.tuple (by decide +kernel) (pa_cons (pe_lc (own := [("x", 2), ("y", 3)]) (g := gTup K 2 (gCons (gName 2) (gCons (gName 3) gNil))) (by rfl) nd (RZ.pi_zipA (by rfl) B.zip (pa_cons (pv 0) (pa_cons (pv 1) pa_nil)))
        (blkOk_by (own := [("x", 2), ("y", 3)]) (N := ["a", "b", "x", "y"]) (sc := defScope S_lcm_of) (by decide +kernel))
        (fun _ _ _ _ _ => pg_tup (by rfl) (pgs_cons (pg_name (i := 2) nd rfl (.inl rfl)) (pgs_cons (pg_name (i := 3) nd rfl (.inl rfl)) pgs_nil))) (fun _ _ _ _ _ => pts_nil)
        (fun _ _ _ _ _ => pe_callB (call_max2 (by rfl)) (by rfl) B.max (by decide +kernel) (pa_cons (pv 2) (pa_cons (pv 3) pa_nil)))) pa_nil))), ?_⟩
    refine ⟨_, rfl, _, rfl, a, b, _, _, rfl, .inr ⟨hA, hB, fun D nD => lc_keep (walk_zipT (n := min ns.length ms.length) (by rw [List.length_map, List.length_map])) (fun i => some (V.int (mxI (at0 ns i) (at0 ms i)))) nD ?_ (fun H1 e => ⟨Same.tup e hA, Same.tup e hB⟩) (fun i x H1 H2 P1 P0 hi sm y h1 h0 => ?_) (fun H1 sm e => ?_)⟩⟩
    · exact small1000 (by omega)
    · obtain ⟨T, u, v, rfl, nT, rfl, hu, hv⟩ := y
      have hu' : some (V.int (at0 ns i)) = some u := (it0 (by omega)).symm.trans hu
      have hv' : some (V.int (at0 ms i)) = some v := (it0 (by omega)).symm.trans hv
      obtain rfl := Option.some.inj hu'
      obtain rfl := Option.some.inj hv'
      refine ⟨T, _, rfl, sqt_new, rfl, _, _, rfl, _, _, rfl, rfl, rfl, ?_⟩
      refine yes_ok ?_
      exact ⟨_, rfl, _, rfl, _, _, rfl, h1 _ _ rfl (same_new nT)⟩
    · rw [zw_fm hl] at e
      refine ⟨D, _, rfl, .inl ⟨.inl (.inl e), fun l nl => q l _ (sm.trans (same_new nl)) sqt_new⟩⟩
end
section
variable {P : Program} {w : World} {K : PySem.W.Frag} {mg : Str → Option Value} {base : Heap}
theorem sc_times : FnScope ["a", "b", "x", "y"] ["a", "b"] (defScope S_times) := ⟨rfl, rfl, rfl, by decide +kernel, rfl, by decide +kernel, by decide +kernel⟩
theorem ok_times {f : Addr} {fd : FuncData} (F : Fun K "times" "times" S_times f fd) (B : Bt mg) : FnOk P w K mg base CX0 1 f fd ["a", "b"] (spZw K (· + ·)) := by
  refine F.ok sc_times (fun vs H Q E h => ?_) (fun cdv A outer s H vs Q E hr h => ?_)
  · obtain ⟨a, b, ns, ms, rfl, _⟩ := h
    rfl
  · obtain ⟨a, b, ns, ms, rfl, hA, hB, hl, hz, q⟩ := h
    have nd := sc_times.nd
    refine ⟨_, pss_one (ps_ret (pe_callTy call_tuple_of (by rfl) B.tuple (by decide +kernel) (pa_cons (pe_lc (own := [("x", 2), ("y", 3)]) (g := gTup K 2 (gCons (gName 2) (gCons (gName 3) gNil))) (by rfl) nd (RZ.pi_zipA (by rfl) B.zip (pa_cons (pv 0) (pa_cons (pv 1) pa_nil)))
        (blkOk_by (own := [("x", 2), ("y", 3)]) (N := ["a", "b", "x", "y"]) (sc := defScope S_times) (by decide +kernel))
        (fun _ _ _ _ _ => pg_tup (by rfl) (pgs_cons (pg_name (i := 2) nd rfl (.inl rfl)) (pgs_cons (pg_name (i := 3) nd rfl (.inl rfl)) pgs_nil))) (fun _ _ _ _ _ => pts_nil)
        (fun _ _ _ _ _ => pe_op op_add (pv 2) (pv 3))) pa_nil))), ?_⟩
    refine ⟨_, rfl, _, rfl, a, b, _, _, rfl, .inr ⟨hA, hB, fun D nD => lc_keep (walk_zipT (n := min ns.length ms.length) (by rw [List.length_map, List.length_map])) (fun i => some (V.int ((· + ·) (at0 ns i) (at0 ms i)))) nD ?_ (fun H1 e => ⟨Same.tup e hA, Same.tup e hB⟩) (fun i x H1 H2 P1 P0 hi sm y h1 h0 => ?_) (fun H1 sm e => ?_)⟩⟩
    · exact small1000 (by omega)
    · obtain ⟨T, u, v, rfl, nT, rfl, hu, hv⟩ := y
      have hu' : some (V.int (at0 ns i)) = some u := (it0 (by omega)).symm.trans hu
      have hv' : some (V.int (at0 ms i)) = some v := (it0 (by omega)).symm.trans hv
      obtain rfl := Option.some.inj hu'
      obtain rfl := Option.some.inj hv'
      refine ⟨T, _, rfl, sqt_new, rfl, _, _, rfl, _, _, rfl, rfl, rfl, ?_⟩
      refine yes_ok ?_
      exact ⟨_, rfl, _, rfl, _, _, rfl, rfl, h1 _ _ rfl (same_new nT)⟩
    · rw [zw_fm hl] at e
      refine ⟨D, _, rfl, .inl ⟨.inl (.inl e), fun l nl => q l _ (sm.trans (same_new nl)) sqt_new⟩⟩
end
theorem toNat_len {α : Type} (xs : List α) : ((xs.length : Nat) : Int).toNat = xs.length := rfl
def spSumT (K : PySem.W.Frag) : Sp := fun vs H Q _ => ∃ (a : Addr) (ns : List Int), vs = [.ref a] ∧ SqT K H a (ns.map V.int) ∧ Q (.int ns.sum) H
def spSupp (K : PySem.W.Frag) : Sp := fun vs H Q _ => ∃ (a : Addr) (ns : List Int), vs = [.ref a] ∧ SqT K H a (ns.map V.int) ∧ ns.length ≤ 1000 ∧
  ∀ (p : Addr) (H' : Hp), Same H H' → SqT K H' p ((selI (fun j => decide (0 < at0 ns j)) ns.length).map V.int) → Q (.ref p) H'
def spDvd (K : PySem.W.Frag) : Sp := fun vs H Q _ => ∃ (a b : Addr) (ns ms : List Int), vs = [.ref a, .ref b] ∧ SqT K H a (ns.map V.int) ∧ SqT K H b (ms.map V.int) ∧ ns.length = ms.length ∧
  ∀ (H' : Hp), Same H H' → Q (.bl (dvdI ns ms)) H'
def spPlain (K : PySem.W.Frag) : Sp := fun vs H Q _ => ∃ (a b : Addr) (ns ms : List Int), vs = [.ref a, .ref b] ∧ SqT K H a (ns.map V.int) ∧ SqT K H b (ms.map V.int) ∧ Q (.bl (decide (ns = ms))) H
def spRow (K : PySem.W.Frag) : Sp := fun vs H Q _ => ∃ (d c : Addr) (n : Nat) (wide : Int) (m : Nat), vs = [.ref d, .int (n : Int), .int wide] ∧ Drw H d c m ∧ m ≤ 100000 ∧ n ≤ 1000 ∧ 1 ≤ wide ∧ wide < 1073741824 ∧
  ∀ (p : Addr) (H' : Hp) (ns : List Int), ns.length = n → (∀ x ∈ ns, 0 ≤ x ∧ x < wide) → Kp [d] H H' → Drw H' d c (m + 2 * n) → H' p = some (.tup (ns.map V.int)) → Q (.ref p) H'
theorem fm_sel {p : Nat → Bool} {n : Nat} : (List.range n).filterMap (fun i => if p i then some (V.int (i : Int)) else none) = (selI p n).map V.int := by
  unfold selI
  refine fm_ints fun i _ => ?_
  cases p i <;> rfl
theorem sqt_ty {K : PySem.W.Frag} {H : Hp} {a : Addr} {xs : List V} (h : SqT K H a xs) : TyX K H (.ref a) (.type "tuple") := by
  rcases h with (h | ⟨o, h⟩) | ⟨o, its, n, h, hc, _⟩
  · exact .base (.tup h)
  · exact .fTuple h
  · exact .kTuple h hc
section
variable {P : Program} {w : World} {K : PySem.W.Frag} {mg : Str → Option Value} {base : Heap}
theorem sc_dvd : FnScope ["a", "b", "low", "high"] ["a", "b"] (defScope S_divides) := ⟨rfl, rfl, rfl, by decide +kernel, rfl, by decide +kernel, by decide +kernel⟩
theorem ok_dvd {f : Addr} {fd : FuncData} (F : Fun K "divides" "divides" S_divides f fd) (B : Bt mg) : FnOk P w K mg base CX0 1 f fd ["a", "b"] (spDvd K) := by
  refine F.ok sc_dvd (fun vs H Q E h => ?_) (fun cdv A outer s H vs Q E hr h => ?_)
  · obtain ⟨a, b, ns, ms, rfl, _⟩ := h
    rfl
  · obtain ⟨a, b, ns, ms, rfl, hA, hB, hl, q⟩ := h
    have nd := sc_dvd.nd
    refine ⟨_, pss_cons (ps_for PassesOwn.never rfl (RZ.pi_zipA (by rfl) B.zip (pa_cons (pv 0) (pa_cons (pv 1) pa_nil))) (pg_tup (by rfl) (pgs_cons (pg_name (i := 2) nd rfl (.inl rfl)) (pgs_cons (pg_name (i := 3) nd rfl (.inl rfl)) pgs_nil)))
        (pss_one (ps_if (pt_cmpR op_gt (pv 2) (pv 3) (nomark _)) (pss_one (ps_ret pe_bl)) pss_nil)))
      (pss_one (ps_ret pe_bl)), ?_⟩
    refine ⟨_, rfl, _, rfl, a, b, _, _, rfl, .inr ⟨hA, hB, for_it (walk_zipT (n := ns.length) (by rw [List.length_map, List.length_map]; omega)) (fun i σ H1 => Same H H1 ∧ (∀ j, j < i → at0 ns j ≤ at0 ms j) ∧ ∃ z2 z3, σ = [some (.ref a), some (.ref b), z2, z3]) ⟨Same.refl H, fun j h => absurd h (Nat.not_lt_zero j), _, _, rfl⟩
      (fun i σ H1 _ h => ⟨Same.tup h.1 hA, Same.tup h.1 hB⟩) (fun i x σ H1 H2 hi h y => ?_) (fun σ H1 h => ?_)⟩⟩
    · obtain ⟨sm, hall, z2, z3, rfl⟩ := h
      obtain ⟨T, u, v, rfl, nT, rfl, hu, hv⟩ := y
      have hu' : some (V.int (at0 ns i)) = some u := (it0 hi).symm.trans hu
      have hv' : some (V.int (at0 ms i)) = some v := (it0 (hl ▸ hi)).symm.trans hv
      obtain rfl := Option.some.inj hu'
      obtain rfl := Option.some.inj hv'
      refine ⟨T, _, rfl, sqt_new, rfl, _, _, rfl, _, _, rfl, rfl, _, rfl, _, rfl, _, _, rfl, rfl, _, rfl, ?_⟩
      refine ite2 (fun e => ?_) (fun e => ?_)
      · have e1 : at0 ms i < at0 ns i := of_decide_eq_true e
        have hd : dvdI ns ms = false := by
          cases hd : dvdI ns ms with
          | false => rfl
          | true => have := (dvdI_iff hl).mp hd i hi; omega
        have := q _ (sm.trans (same_new (o := .tup [.int (at0 ns i), .int (at0 ms i)]) nT))
        rw [hd] at this
        exact this
      · have e1 : ¬ at0 ms i < at0 ns i := fun z => e (decide_eq_true z)
        refine ⟨sm.trans (same_new nT), fun j hj => ?_, _, _, rfl⟩
        by_cases ej : j = i
        · subst ej; omega
        · exact hall j (by omega)
    · obtain ⟨sm, hall, z2, z3, rfl⟩ := h
      have := q _ sm
      rw [(dvdI_iff hl).mpr hall] at this
      exact this
end
theorem zw_fm1 {g : Int → Int → Int} {ns ms : List Int} (hl : ns.length = ms.length) : (List.range ns.length).filterMap (fun i => some (V.int (g (at0 ns i) (at0 ms i)))) = (List.zipWith g ns ms).map V.int := by
  have := zw_fm (g := g) hl
  rwa [show min ns.length ms.length = ns.length by omega] at this
section
variable {P : Program} {w : World} {K : PySem.W.Frag} {mg : Str → Option Value} {base : Heap}
theorem sc_lawlcm : FnScope ["a", "b", "k"] ["a", "b"] (defScope S_law_lcm) := ⟨rfl, rfl, rfl, by decide +kernel, rfl, by decide +kernel, by decide +kernel⟩
theorem ok_lawlcm {f : Addr} {fd : FuncData} (F : Fun K "_law_lcm" "_law_lcm" S_law_lcm f fd) (B : Bt mg) : FnOk P w K mg base CX0 1 f fd ["a", "b"] (spZw K mxI) := by
  refine F.ok sc_lawlcm (fun vs H Q E h => ?_) (fun cdv A outer s H vs Q E hr h => ?_)
  · obtain ⟨a, b, ns, ms, rfl, _⟩ := h
    rfl
  · obtain ⟨a, b, ns, ms, rfl, hA, hB, hl, hz, q⟩ := h
    have nd := sc_lawlcm.nd
    refine ⟨_, pss_one (ps_ret (pe_callTy call_tuple_of (by rfl) B.tuple (by decide +kernel) (pa_cons (pe_lc (own := [("k", 2)]) (g := gName 2) (te := tCB (fun xs H Q => ∃ i j, xs = [.int i, .int j] ∧ Q (.int (if j > i then j else i)) H) (tCons (tOp (rIxT K) (tVar 0) (tVar 2)) (tCons (tOp (rIxT K) (tVar 1) (tVar 2)) tNil))) (by rfl) nd (pi_range1 (by rfl) B.range (pa_cons (pe_callB call_len_seq (by rfl) B.len PySem.boot_len (pa_cons (pv 0) pa_nil)) pa_nil))
        (blkOk_by (own := [("k", 2)]) (N := ["a", "b", "k"]) (sc := defScope S_law_lcm) (by decide +kernel))
        (fun _ _ _ _ _ => pg_name (i := 2) nd rfl (.inl rfl)) (fun _ _ _ _ _ => pts_nil)
        (fun _ _ _ _ _ => pe_callB (call_max2 (by rfl)) (by rfl) B.max (by decide +kernel) (pa_cons (pe_ix ix_tup (pv 0) (pv 2) (fun _ _ => rfl)) (pa_cons (pe_ix ix_tup (pv 1) (pv 2) (fun _ _ => rfl)) pa_nil)))) pa_nil))), ?_⟩
    have hc : (((ns.map V.int).length : Nat) : Int).toNat = ns.length := by rw [toNat_len, List.length_map]
    refine ⟨_, rfl, a, _, rfl, .inr hA, _, rfl, by omega, by rw [List.length_map]; omega, fun D nD => lc_keep (walk_range (lo := 0)) (fun i => some (V.int (mxI (at0 ns i) (at0 ms i)))) nD ?_ (fun H1 e => trivial) (fun i x H1 H2 P1 P0 hi sm y h1 h0 => ?_) (fun H1 sm e => ?_)⟩
    · rw [hc]
      exact small1000 (by omega)
    · rw [hc] at hi
      obtain ⟨rfl, rfl⟩ := y
      refine ⟨rfl, yes_ok ?_⟩
      exact ⟨_, rfl, _, rfl, a, _, _, _, rfl, rfl, Same.tup sm hA, at_of (Int.zero_add _) (it0 hi), _, rfl, _, rfl, b, _, _, _, rfl, rfl, Same.tup sm hB, at_of (Int.zero_add _) (it0 (hl ▸ hi)), _, _, rfl, h1 _ _ rfl (Same.refl _)⟩
    · rw [hc, zw_fm1 hl] at e
      refine ⟨D, _, rfl, .inl ⟨.inl (.inl e), fun l nl => q l _ (sm.trans (same_new nl)) sqt_new⟩⟩
end
section
variable {P : Program} {w : World} {K : PySem.W.Frag} {mg : Str → Option Value} {base : Heap}
theorem sc_lawtimes : FnScope ["a", "b", "k"] ["a", "b"] (defScope S_law_times) := ⟨rfl, rfl, rfl, by decide +kernel, rfl, by decide +kernel, by decide +kernel⟩
theorem ok_lawtimes {f : Addr} {fd : FuncData} (F : Fun K "_law_times" "_law_times" S_law_times f fd) (B : Bt mg) : FnOk P w K mg base CX0 1 f fd ["a", "b"] (spZw K (· + ·)) := by
  refine F.ok sc_lawtimes (fun vs H Q E h => ?_) (fun cdv A outer s H vs Q E hr h => ?_)
  · obtain ⟨a, b, ns, ms, rfl, _⟩ := h
    rfl
  · obtain ⟨a, b, ns, ms, rfl, hA, hB, hl, hz, q⟩ := h
    have nd := sc_lawtimes.nd
    refine ⟨_, pss_one (ps_ret (pe_callTy call_tuple_of (by rfl) B.tuple (by decide +kernel) (pa_cons (pe_lc (own := [("k", 2)]) (g := gName 2) (te := tOp (rI0 fun i j => .int (i + j)) (tOp (rIxT K) (tVar 0) (tVar 2)) (tOp (rIxT K) (tVar 1) (tVar 2))) (by rfl) nd (pi_range1 (by rfl) B.range (pa_cons (pe_callB call_len_seq (by rfl) B.len PySem.boot_len (pa_cons (pv 0) pa_nil)) pa_nil))
        (blkOk_by (own := [("k", 2)]) (N := ["a", "b", "k"]) (sc := defScope S_law_times) (by decide +kernel))
        (fun _ _ _ _ _ => pg_name (i := 2) nd rfl (.inl rfl)) (fun _ _ _ _ _ => pts_nil)
        (fun _ _ _ _ _ => pe_op op_add (pe_ix ix_tup (pv 0) (pv 2) (fun _ _ => rfl)) (pe_ix ix_tup (pv 1) (pv 2) (fun _ _ => rfl)))) pa_nil))), ?_⟩
    have hc : (((ns.map V.int).length : Nat) : Int).toNat = ns.length := by rw [toNat_len, List.length_map]
    refine ⟨_, rfl, a, _, rfl, .inr hA, _, rfl, by omega, by rw [List.length_map]; omega, fun D nD => lc_keep (walk_range (lo := 0)) (fun i => some (V.int ((· + ·) (at0 ns i) (at0 ms i)))) nD ?_ (fun H1 e => trivial) (fun i x H1 H2 P1 P0 hi sm y h1 h0 => ?_) (fun H1 sm e => ?_)⟩
    · rw [hc]
      exact small1000 (by omega)
    · rw [hc] at hi
      obtain ⟨rfl, rfl⟩ := y
      refine ⟨rfl, yes_ok ?_⟩
      exact ⟨_, rfl, _, rfl, a, _, _, _, rfl, rfl, Same.tup sm hA, at_of (Int.zero_add _) (it0 hi), _, rfl, _, rfl, b, _, _, _, rfl, rfl, Same.tup sm hB, at_of (Int.zero_add _) (it0 (hl ▸ hi)), _, _, rfl, rfl, h1 _ _ rfl (Same.refl _)⟩
    · rw [hc, zw_fm1 hl] at e
      refine ⟨D, _, rfl, .inl ⟨.inl (.inl e), fun l nl => q l _ (sm.trans (same_new nl)) sqt_new⟩⟩
end
theorem same_kp {S : List Addr} {H0 H1 H2 : Hp} (s : Same H0 H1) (k : Kp S H1 H2) (n : ∀ x ∈ S, H0 x = none) : Same H0 H2 := fun b o e => k b o (s b o e) fun m => by
  rw [n b m] at e; cases e
theorem ite_cut {t : TS} {D : Ends} {σ : L2.St} {H : Hp} {c : Prop} [Decidable c] (R : L2.St → Hp → Prop) (h2 : ∀ σ' H', R σ' H' → D.nx σ' H') (hA : (∀ σ' H', R σ' H' → D.nx σ' H') → c → t D σ H) (hB : ¬ c → R σ H) : if c then t D σ H else tNext D σ H :=
  ite2 (fun e => hA h2 e) (fun e => h2 _ _ (hB e))
theorem at_lo {j : Nat} : V.int (j : Int) = V.int (0 + (j : Int)) := by rw [Int.zero_add]
theorem Drw.ne_tup {H : Hp} {d c p : Addr} {n : Nat} {xs : List V} (h : Drw H d c n) (e : H p = some (.tup xs)) : p ∉ [d] := fun m => by
  obtain ⟨l, s, z, cs, h1, _⟩ := h
  rw [List.mem_singleton.mp m, h1] at e
  cases e
theorem dr_step {H H3 : Hp} {D d c : Addr} {ns : List Int} {y : Int} {m : Nat} (nD : H D = none) (n1 : D ≠ d) (n2 : D ≠ c) (hD3 : Drw H3 d c m) (kp3 : Kp [d] H H3) (e3 : H3 D = some (.lst (ns.map V.int))) (hl : ns.length < 1000) :
    ∃ acc, H3 D = some (.lst acc) ∧ acc.length < sizeLine ∧ Kp [d] H (upd H3 D (.lst (acc ++ [V.int y]))) ∧ Drw (upd H3 D (.lst (acc ++ [V.int y]))) d c m ∧ (upd H3 D (.lst (acc ++ [V.int y]))) D = some (.lst ((ns ++ [y]).map V.int)) := by
  refine ⟨_, e3, ?_, fun b o e nb => ?_, hD3.put n1 n2, ?_⟩
  · rw [List.length_map]; exact small1000 (by omega)
  · rw [upd_ne (ne_of_none e nD)]
    exact kp3 _ _ e nb
  · rw [upd_same, List.map_append]; rfl
end JN

set_option maxRecDepth 100000
set_option maxHeartbeats 8000000
namespace JN
open PySem PySem.Spec PyProof.Rows L2
/-! ### tuples of tuples of ints; ideals -/
abbrev refs (ks : List (Addr × List Int)) : List V := ks.map fun p => V.ref p.1
abbrev mons (ks : List (Addr × List Int)) : List (List Int) := ks.map fun p => p.2
/-- each place holds its ints -/
def Rows (K : PySem.W.Frag) (H : Hp) (ks : List (Addr × List Int)) : Prop := ∀ p ∈ ks, SqT K H p.1 (p.2.map V.int)
def TpM (K : PySem.W.Frag) (H : Hp) (g : Addr) (gs : List (List Int)) : Prop := ∃ ks, mons ks = gs ∧ SqT K H g (refs ks) ∧ Rows K H ks
def IsI (K : PySem.W.Frag) (H : Hp) (v : Addr) (n : Int) (gs : List (List Int)) : Prop := ∃ g, SqT K H v [.int n, .ref g] ∧ TpM K H g gs
section
variable {K : PySem.W.Frag} {H H' : Hp}
theorem Rows.same {ks : List (Addr × List Int)} (h : Rows K H ks) (e : Same H H') : Rows K H' ks := fun p hp => Same.tup e (h p hp)
theorem TpM.same {g : Addr} {gs : List (List Int)} (h : TpM K H g gs) (e : Same H H') : TpM K H' g gs := by
  obtain ⟨ks, a, b, c⟩ := h
  exact ⟨ks, a, Same.tup e b, c.same e⟩
theorem IsI.same {v : Addr} {n : Int} {gs : List (List Int)} (h : IsI K H v n gs) (e : Same H H') : IsI K H' v n gs := by
  obtain ⟨g, a, b⟩ := h
  exact ⟨g, Same.tup e a, b.same e⟩
theorem mem_mons {ks : List (Addr × List Int)} {p : List Int} : p ∈ mons ks ↔ ∃ q ∈ ks, q.2 = p := List.mem_map
theorem refs_at {ks : List (Addr × List Int)} {i : Nat} (h : i < ks.length) : (refs ks)[i]? = some (.ref ks[i].1) := by
  rw [List.getElem?_map, List.getElem?_eq_getElem h]
  rfl
theorem mons_at {ks : List (Addr × List Int)} {i : Nat} (h : i < ks.length) : (mons ks)[i]? = some ks[i].2 := by
  rw [List.getElem?_map, List.getElem?_eq_getElem h]
  rfl
theorem refs_get {ks : List (Addr × List Int)} {i : Nat} {x : V} (h : (refs ks)[i]? = some x) : ∃ hi : i < ks.length, x = .ref ks[i].1 := by
  have hi := (List.getElem?_eq_some_iff.mp h).1
  rw [List.length_map] at hi
  exact ⟨hi, Option.some.inj (h.symm.trans (refs_at hi))⟩
theorem take_mons {ks : List (Addr × List Int)} {i : Nat} (h : i < ks.length) : (mons ks).take (i + 1) = (mons ks).take i ++ [ks[i].2] := by
  rw [List.take_add_one, mons_at h]
  rfl
/-- a change at a list's place leaves tuples as they are -/
theorem Kp.tupL {D a : Addr} {xs ys : List V} (e : Kp [D] H H') (hD : H D = some (.lst xs)) (h : SqT K H a ys) : SqT K H' a ys := by
  have ne : ∀ {o : HO}, H a = some o → (∀ zs, o ≠ .lst zs) → a ∉ [D] := fun {o} ho n m => by
    rw [List.mem_singleton.mp m, hD] at ho
    exact n xs (Option.some.inj ho).symm
  rcases h with (h | ⟨o, h⟩) | h
  · exact .inl (.inl (e _ _ h (ne h fun zs z => by cases z)))
  · exact .inl (.inr ⟨o, e _ _ h (ne h fun zs z => by cases z)⟩)
  · exact .inr h
/-- a change at the draws' place leaves tuples as they are -/
theorem Kp.tupD {d c a : Addr} {n : Nat} {ys : List V} (e : Kp [d] H H') (hD : Drw H d c n) (h : SqT K H a ys) : SqT K H' a ys := by
  obtain ⟨l, s, p, cs, h1, _⟩ := hD
  have ne : ∀ {o : HO}, H a = some o → (∀ zs, o ≠ .dK zs) → a ∉ [d] := fun {o} ho n m => by
    rw [List.mem_singleton.mp m, h1] at ho
    exact n _ (Option.some.inj ho).symm
  rcases h with (h | ⟨o, h⟩) | h
  · exact .inl (.inl (e _ _ h (ne h fun zs z => by cases z)))
  · exact .inl (.inr ⟨o, e _ _ h (ne h fun zs z => by cases z)⟩)
  · exact .inr h
theorem Kp.rowsD {d c : Addr} {n : Nat} {ks : List (Addr × List Int)} (e : Kp [d] H H') (hD : Drw H d c n) (h : Rows K H ks) : Rows K H' ks := fun p hp => e.tupD hD (h p hp)
theorem Kp.tpmD {d c g : Addr} {n : Nat} {gs : List (List Int)} (e : Kp [d] H H') (hD : Drw H d c n) (h : TpM K H g gs) : TpM K H' g gs := by
  obtain ⟨ks, a, b, r⟩ := h
  exact ⟨ks, a, e.tupD hD b, e.rowsD hD r⟩
theorem Kp.isiD {d c v : Addr} {n : Nat} {m : Int} {gs : List (List Int)} (e : Kp [d] H H') (hD : Drw H d c n) (h : IsI K H v m gs) : IsI K H' v m gs := by
  obtain ⟨g, a, b⟩ := h
  exact ⟨g, e.tupD hD a, e.tpmD hD b⟩
theorem refs_app (a b : List (Addr × List Int)) : refs (a ++ b) = refs a ++ refs b := List.map_append
theorem mons_app (a b : List (Addr × List Int)) : mons (a ++ b) = mons a ++ mons b := List.map_append
/-! compared -/
abbrev pM (g : List Int) : PyData := .tuple (g.map PyData.int)
abbrev pG (gs : List (List Int)) : PyData := .tuple (gs.map pM)
abbrev pI (n : Int) (gs : List (List Int)) : PyData := .tuple [.int n, pG gs]
theorem dp_rows : ∀ {ks : List (Addr × List Int)}, Rows K H ks → DpAll K H (refs ks) ((mons ks).map pM)
  | [], _ => .nil
  | p :: ks, h => .cons (dp_tup (h p List.mem_cons_self)) (dp_rows fun q hq => h q (List.mem_cons_of_mem _ hq))
theorem dp_tpm {g : Addr} {gs : List (List Int)} (h : TpM K H g gs) : Dp K H (.ref g) (pG gs) := by
  obtain ⟨ks, rfl, b, c⟩ := h
  exact .tup b (dp_rows c)
theorem dp_isi {v : Addr} {n : Int} {gs : List (List Int)} (h : IsI K H v n gs) : Dp K H (.ref v) (pI n gs) := by
  obtain ⟨g, a, b⟩ := h
  exact .tup a (.cons (.int n) (.cons (dp_tpm b) .nil))
theorem eqv_gens : ∀ gs hs : List (List Int), PyData.eqvAll (gs.map pM) (hs.map pM) = decide (gs = hs)
  | [], [] => by simp [PyData.eqvAll]
  | [], m :: ms => by simp [PyData.eqvAll]
  | n :: ns, [] => by simp [PyData.eqvAll]
  | n :: ns, m :: ms => by
    have ih := eqv_gens ns ms
    rw [List.map_cons, List.map_cons]
    unfold PyData.eqvAll
    rw [ih, eqv_tup, Bool.eq_iff_iff]
    simp
theorem eqv_G (gs hs : List (List Int)) : PyData.eqv (pG gs) (pG hs) = decide (gs = hs) := by
  unfold PyData.eqv
  exact eqv_gens gs hs
theorem eqv_I (n m : Int) (gs hs : List (List Int)) : PyData.eqv (pI n gs) (pI m hs) = decide (n = m ∧ gs = hs) := by
  unfold PyData.eqv PyData.eqvAll PyData.eqvAll PyData.eqvAll
  rw [eqv_G, Bool.eq_iff_iff]
  simp [PyData.eqv]
theorem lay_gens : ∀ gs : List (List Int), PyData.canLayAll0 (gs.map pM) = true
  | [] => by simp [PyData.canLayAll0]
  | g :: gs => by
    have ih := lay_gens gs
    rw [List.map_cons]
    unfold PyData.canLayAll0 PyData.canLay0
    rw [ih, lay_ints]
    rfl
theorem deep_gens : ∀ gs : List (List Int), PyData.depthAll (gs.map pM) ≤ 1
  | [] => by simp [PyData.depthAll]
  | g :: gs => by
    have ih := deep_gens gs
    rw [List.map_cons]
    unfold PyData.depthAll PyData.depth
    rw [deep_ints]
    omega
theorem sh_G (gs : List (List Int)) : SeqAt.shaped (pG gs) = true := by
  unfold SeqAt.shaped PyData.canLay0 PyData.depth
  rw [lay_gens, decide_eq_true (by have := deep_gens gs; omega)]
  rfl
theorem sh_I (n : Int) (gs : List (List Int)) : SeqAt.shaped (pI n gs) = true := by
  have h1 : PyData.canLay0 (pG gs) = true := by
    unfold PyData.canLay0
    exact lay_gens gs
  have h2 : PyData.depth (pG gs) ≤ 2 := by
    unfold PyData.depth
    have := deep_gens gs
    omega
  unfold SeqAt.shaped PyData.canLay0 PyData.canLayAll0 PyData.canLayAll0 PyData.canLayAll0 PyData.depth PyData.depthAll PyData.depthAll PyData.depthAll
  rw [h1, decide_eq_true (by
    have : PyData.depth (.int n) = 0 := by simp [PyData.depth]
    omega)]
  simp [PyData.canLay0]
theorem eq_I {v u : Addr} {n m : Int} {gs hs : List (List Int)} {Q : VK} (h1 : IsI K H v n gs) (h2 : IsI K H u m hs) (q : Q (.bl (decide (n = m ∧ gs = hs))) H) : rEqD K (.ref v) (.ref u) H Q :=
  ⟨_, _, dp_isi h1, dp_isi h2, sh_I _ _, sh_I _ _, by rw [eqv_I]; exact q⟩
theorem ne_I {v u : Addr} {n m : Int} {gs hs : List (List Int)} {Q : VK} (h1 : IsI K H v n gs) (h2 : IsI K H u m hs) (q : Q (.bl (!decide (n = m ∧ gs = hs))) H) : rNeD K (.ref v) (.ref u) H Q :=
  ⟨_, _, dp_isi h1, dp_isi h2, sh_I _ _, sh_I _ _, by rw [eqv_I]; exact q⟩
end
theorem nodup_len {α : Type} [DecidableEq α] : ∀ {l m : List α}, l.Nodup → (∀ x ∈ l, x ∈ m) → l.length ≤ m.length
  | [], _, _, _ => Nat.zero_le _
  | a :: l, m, hn, hs => by
    obtain ⟨h1, h2⟩ := List.nodup_cons.mp hn
    have ha := hs a List.mem_cons_self
    have ih := nodup_len (m := m.erase a) h2 fun x hx => by
      have ne : x ≠ a := fun e => h1 (e ▸ hx)
      exact (List.mem_erase_of_ne ne).mpr (hs x (List.mem_cons_of_mem _ hx))
    rw [List.length_erase_of_mem ha] at ih
    have : 0 < m.length := List.length_pos_of_mem ha
    rw [List.length_cons]
    omega
theorem grd_all {d : Nat} : ∀ {rest pre acc : List (List Int)}, MinOf pre acc → (∀ p ∈ pre, Mon d p) → (∀ p ∈ rest, Mon d p) → Asc (pre ++ rest) → MinOf (pre ++ rest) (grd acc rest)
  | [], pre, acc, a, _, _, _ => by rw [List.append_nil]; exact a
  | x :: r, pre, acc, a, h1, h2, h3 => by
    have hx := h2 x List.mem_cons_self
    have hlt : ∀ p ∈ pre, cd p < cd x := fun p hp => (List.pairwise_append.mp h3).2.2 p hp x List.mem_cons_self
    have st := grd_step a h1 hx hlt
    have e : pre ++ x :: r = (pre ++ [x]) ++ r := by simp
    rw [e] at h3 ⊢
    exact grd_all st (fun p hp => by
      rcases List.mem_append.mp hp with h | h
      · exact h1 p h
      · rw [List.mem_singleton.mp h]; exact hx) (fun p hp => h2 p (List.mem_cons_of_mem _ hp)) h3
theorem min_nil : MinOf [] [] := ⟨.nil, fun p => by simp⟩
end JN

set_option maxRecDepth 100000
set_option maxHeartbeats 8000000
namespace JN
open PySem PySem.Spec PyProof.Rows L2
/-- sorted(set(x)), x a name of few tuples of d ints each -/
def tSortSet (K : PySem.W.Frag) (i : Nat) : TE := fun σ H Q => ∃ (l : Addr) (ks : List (Addr × List Int)) (d : Nat), σ[i]? = some (some (.ref l)) ∧ (SqL K H l (refs ks) ∨ SqT K H l (refs ks)) ∧ Rows K H ks ∧ 1 ≤ d ∧ (∀ p ∈ ks, Mon d p.2) ∧ ks.length < 64 ∧
  ∀ (p : Addr) (H' : Hp) (L : List (Addr × List Int)), Same H H' → H p = none → H' p = some (.lst (refs L)) → (∀ x ∈ L, x ∈ ks) → (∀ x, x ∈ mons L ↔ x ∈ mons ks) → Asc (mons L) → L.length ≤ ks.length → Q (.ref p) H'
theorem pe_sortSet {X : Cx} {i : Nat} {x : Str} {p p2 px q pos : Pos} (hN : X.N[i]? = some x) (hv : Vis X.env.scope x) (hc : X.calm = true) (hu : X.A.units + 64 < cLine) (g1 : Gl X "sorted") (m1 : X.mg "sorted" = none) (g2 : Gl X "set") (m2 : X.mg "set" = none)
    (hd : (x == ("__debug__" : Str)) = false := by decide) (hcd : (x == ("__classdict__" : Str)) = false := by decide)
    (he : starEach [Expr.Call (.Name "set" p2) [.Name x px] [] q] X.env = (false, eval (Expr.Call (.Name "set" p2) [.Name x px] [] q) X.env) :: starEach [] X.env := by rfl) (he2 : starEach [Expr.Name x px] X.env = (false, eval (.Name x px) X.env) :: starEach [] X.env := by rfl) :
    PE X (.Call (.Name "sorted" p) [.Call (.Name "set" p2) [.Name x px] [] q] [] pos) (tSortSet X.K i) := by
  have base : PE X (.Call (.Name "sorted" p) [.Call (.Name "set" p2) [.Name x px] [] q] [] pos) _ :=
    pe_callB (cr_sortedT hc) g1 m1 (by decide +kernel) (pa_cons (pe_callTy (cr_setOfA hc hu) g2 m2 (by decide +kernel) (pa_cons (pe_var (i := i) hN hv hd hcd) pa_nil)) pa_nil)
  refine ⟨fun pins s σ H Q I h => base.run pins s σ H Q I ?_⟩
  obtain ⟨l, ks, d, h1, hL, hR, hd, hm, h64, qq⟩ := h
  refine ⟨_, h1, l, ks, rfl, hL, hR, h64, fun a L na hL2 hL3 => ?_⟩
  have s2 := same_new (o := SetTO X.prog X.w a L) na
  refine ⟨a, L, d, B0, rfl, upd_same, fun p hp => Same.tup s2 (hR p (hL2 p hp)), hd, fun p hp => hm p (hL2 p hp), fun L' p pm nd' l64 pw np => ?_⟩
  have hsub : ∀ x ∈ L', x ∈ ks := fun x hx => hL2 x (pm.mem_iff.mp hx)
  have hmem : ∀ x, x ∈ mons L' ↔ x ∈ mons ks := fun x => by
    rw [mem_mons, mem_mons]
    constructor
    · rintro ⟨r, h1, h2⟩; exact ⟨r, hsub r h1, h2⟩
    · rintro ⟨r, h1, h2⟩
      obtain ⟨r', h3, h4⟩ := List.mem_map.mp (hL3 r h1)
      exact ⟨r', pm.mem_iff.mpr h3, h4.trans h2⟩
  have hlen : (mons L').length ≤ (mons ks).length := nodup_len nd' fun x hx => (hmem x).mp hx
  rw [List.length_map, List.length_map] at hlen
  exact qq p _ L' (s2.trans (same_new np)) (s2.free np) upd_same hsub hmem (asc_of (fun x hx => hm x (hsub x hx)) nd' pw) hlen
def spHasL (K : PySem.W.Frag) : Sp := fun vs H Q _ => ∃ (x l : Addr) (m : List Int) (ks : List (Addr × List Int)), vs = [.ref x, .ref l] ∧ SqT K H x (m.map V.int) ∧ SqL K H l (refs ks) ∧ Rows K H ks ∧ (∀ p ∈ ks, p.2.length = m.length) ∧
  ∀ (H' : Hp), Same H H' → Q (.bl (inG (mons ks) m)) H'
def spHasT (K : PySem.W.Frag) : Sp := fun vs H Q _ => ∃ (x l : Addr) (m : List Int) (gs : List (List Int)), vs = [.ref x, .ref l] ∧ SqT K H x (m.map V.int) ∧ TpM K H l gs ∧ (∀ p ∈ gs, p.length = m.length) ∧
  ∀ (H' : Hp), Same H H' → Q (.bl (inG gs m)) H'
theorem inG_take {ks : List (Addr × List Int)} {m : List Int} {i : Nat} (h : i < ks.length) : inG ((mons ks).take (i + 1)) m = (inG ((mons ks).take i) m || dvdI ks[i].2 m) := by
  rw [take_mons h]
  simp [inG]
theorem inG_full {ks : List (Addr × List Int)} {m : List Int} {i : Nat} (hi : i < ks.length) (h : dvdI ks[i].2 m = true) : inG (mons ks) m = true := inG_iff.mpr ⟨_, mem_mons.mpr ⟨ks[i], List.getElem_mem hi, rfl⟩, h⟩
section
variable {P : Program} {w : World} {K : PySem.W.Frag} {mg : Str → Option Value} {base : Heap}
theorem sc_has_divisor : FnScope ["monomial", "others", "other"] ["monomial", "others"] (defScope S_has_divisor) := ⟨rfl, rfl, rfl, by decide +kernel, rfl, by decide +kernel, by decide +kernel⟩
theorem ok_hasL {f fD : Addr} {fd dD : FuncData} (F : Fun K "has_divisor" "has_divisor" S_has_divisor f fd) (AD : At K mg "divides" S_divides ["a", "b"] fD dD) (GD : FnOk P w K mg base CX0 1 fD dD ["a", "b"] (spDvd K)) : FnOk P w K mg base CX0 2 f fd ["monomial", "others"] (spHasL K) := by
  refine F.ok sc_has_divisor (fun vs H Q E h => ?_) (fun cdv A outer s H vs Q E hr h => ?_)
  · obtain ⟨x, l, m, ks, rfl, _⟩ := h
    rfl
  · obtain ⟨x, l, m, ks, rfl, hX, hL, hR, hl, q⟩ := h
    have nd := sc_has_divisor.nd
    refine ⟨_, pss_cons (ps_for PassesOwn.never rfl (pi_list (pv 1)) (pg_name (i := 2) nd rfl (.inl rfl))
        (pss_one (ps_if (pt_val (pe_call GD hr (by rfl) AD.gl AD.fn.kp AD.bi .nil pass0 (pa_cons (pv 2) (pa_cons (pv 0) pa_nil)))) (pss_one (ps_ret pe_bl)) pss_nil)))
      (pss_one (ps_ret pe_bl)), ?_⟩
    refine ⟨_, rfl, l, rfl, ⟨_, hL⟩, for_list (xs := refs ks) (fun i σ H1 => Same H H1 ∧ inG ((mons ks).take i) m = false ∧ ∃ z, σ = [some (.ref x), some (.ref l), z]) ⟨Same.refl H, rfl, _, rfl⟩ (fun i σ H1 _ h => h.1.seq hL) (fun i y σ H1 hy h => ?_) (fun σ H1 h => ?_)⟩
    · obtain ⟨sm, hn, z, rfl⟩ := h
      obtain ⟨hi, rfl⟩ := refs_get hy
      refine ⟨_, rfl, _, rfl, ks[i].1, x, ks[i].2, m, rfl, Same.tup sm (hR _ (List.getElem_mem hi)), Same.tup sm hX, hl _ (List.getElem_mem hi), fun H2 s2 => ⟨_, rfl, ?_⟩⟩
      cases hd : dvdI ks[i].2 m with
      | true =>
        refine iteT ?_
        have := q H2 (sm.trans s2)
        rw [inG_full hi hd] at this
        exact this
      | false =>
        refine iteF ⟨sm.trans s2, ?_, _, rfl⟩
        rw [inG_take hi, hn, hd]
        rfl
    · obtain ⟨sm, hn, z, rfl⟩ := h
      have := q H1 sm
      rw [List.take_of_length_le (by rw [List.length_map, List.length_map]; exact Nat.le_refl _)] at hn
      rw [hn] at this
      exact this
theorem ok_hasT {f fD : Addr} {fd dD : FuncData} (F : Fun K "has_divisor" "has_divisor" S_has_divisor f fd) (AD : At K mg "divides" S_divides ["a", "b"] fD dD) (GD : FnOk P w K mg base CX0 1 fD dD ["a", "b"] (spDvd K)) : FnOk P w K mg base CX0 2 f fd ["monomial", "others"] (spHasT K) := by
  refine F.ok sc_has_divisor (fun vs H Q E h => ?_) (fun cdv A outer s H vs Q E hr h => ?_)
  · obtain ⟨x, l, m, ks, rfl, _⟩ := h
    rfl
  · obtain ⟨x, l, m, gs, rfl, hX, ⟨ks, rfl, hL, hR⟩, hl, q⟩ := h
    have nd := sc_has_divisor.nd
    refine ⟨_, pss_cons (ps_for PassesOwn.never rfl (pi_tup (pv 1)) (pg_name (i := 2) nd rfl (.inl rfl))
        (pss_one (ps_if (pt_val (pe_call GD hr (by rfl) AD.gl AD.fn.kp AD.bi .nil pass0 (pa_cons (pv 2) (pa_cons (pv 0) pa_nil)))) (pss_one (ps_ret pe_bl)) pss_nil)))
      (pss_one (ps_ret pe_bl)), ?_⟩
    refine ⟨_, rfl, l, rfl, ⟨_, hL⟩, for_tup (xs := refs ks) (fun i σ H1 => Same H H1 ∧ inG ((mons ks).take i) m = false ∧ ∃ z, σ = [some (.ref x), some (.ref l), z]) ⟨Same.refl H, rfl, _, rfl⟩ (fun i σ H1 _ h => Same.tup h.1 hL) (fun i y σ H1 hy h => ?_) (fun σ H1 h => ?_)⟩
    · obtain ⟨sm, hn, z, rfl⟩ := h
      obtain ⟨hi, rfl⟩ := refs_get hy
      refine ⟨_, rfl, _, rfl, ks[i].1, x, ks[i].2, m, rfl, Same.tup sm (hR _ (List.getElem_mem hi)), Same.tup sm hX, hl _ (mem_mons.mpr ⟨_, List.getElem_mem hi, rfl⟩), fun H2 s2 => ⟨_, rfl, ?_⟩⟩
      cases hd : dvdI ks[i].2 m with
      | true =>
        refine iteT ?_
        have := q H2 (sm.trans s2)
        rw [inG_full hi hd] at this
        exact this
      | false =>
        refine iteF ⟨sm.trans s2, ?_, _, rfl⟩
        rw [inG_take hi, hn, hd]
        rfl
    · obtain ⟨sm, hn, z, rfl⟩ := h
      have := q H1 sm
      rw [List.take_of_length_le (by rw [List.length_map, List.length_map]; exact Nat.le_refl _)] at hn
      rw [hn] at this
      exact this
/-- least_ones(monomials, most) of few monomials -/
def spLeast (K : PySem.W.Frag) : Sp := fun vs H Q _ => ∃ (l : Addr) (most : Int) (ks : List (Addr × List Int)) (d : Nat), vs = [.ref l, .int most] ∧ (SqL K H l (refs ks) ∨ SqT K H l (refs ks)) ∧ Rows K H ks ∧ 1 ≤ d ∧ (∀ p ∈ ks, Mon d p.2) ∧ ks.length ≤ 60 ∧ 61 ≤ most ∧
  ∀ (D : Addr) (H' : Hp) (ks' : List (Addr × List Int)), Same H H' → H' D = some (.lst (refs ks')) → (∀ p ∈ ks', p ∈ ks) → MinOf (mons ks) (mons ks') → Q (.ref D) H'
theorem sc_least_ones : FnScope ["monomials", "most", "found", "monomial"] ["monomials", "most"] (defScope S_least_ones) := ⟨rfl, rfl, rfl, by decide +kernel, rfl, by decide +kernel, by decide +kernel⟩
theorem ok_least {f fH : Addr} {fd dH : FuncData} (F : Fun K "least_ones" "least_ones" S_least_ones f fd) (B : Bt mg) (AH : At K mg "has_divisor" S_has_divisor ["monomial", "others"] fH dH) (GH : FnOk P w K mg base CX0 2 fH dH ["monomial", "others"] (spHasL K)) : FnOk P w K mg base CX0 3 f fd ["monomials", "most"] (spLeast K) := by
  refine F.ok sc_least_ones (fun vs H Q E h => ?_) (fun cdv A outer s H vs Q E hr h => ?_)
  · obtain ⟨l, most, ks, d, rfl, _⟩ := h
    rfl
  · obtain ⟨l, most, ks, d, rfl, hL, hR, hd, hm, h60, hmost, q⟩ := h
    have nd := sc_least_ones.nd
    refine ⟨_, pss_cons (ps_set (i := 2) nd rfl (.inl rfl) (pe_lst pa_nil))
      (pss_cons (ps_for PassesOwn.never rfl (pi_list (pe_sortSet (i := 0) rfl (.inl rfl) rfl hr.units (by rfl) B.sorted (by rfl) B.set)) (pg_name (i := 3) nd rfl (.inl rfl))
        (pss_cons (ps_if (pt_not (pt_val (pe_call GH hr (by rfl) AH.gl AH.fn.kp AH.bi .nil pass0 (pa_cons (pv 3) (pa_cons (pv 2) pa_nil))))) (pss_one (ps_expr (pe_bm PySem.F.plainAttrs_list PySem.F.slot_list_append PySem.F.type_list_append mt_append (pv 2) (pa_cons (pv 3) pa_nil)))) pss_nil)
        (pss_one (ps_if (pt_cmpR op_ge (pe_callB call_len_seq (by rfl) B.len PySem.boot_len (pa_cons (pv 2) pa_nil)) (pv 1) (nomark _)) (pss_one (ps_break)) pss_nil))))
      (pss_one (ps_ret (pv 2)))), ?_⟩
    refine ⟨Nat.zero_le _, fun D nD => ?_⟩
    have s1 := same_new (o := .lst []) nD
    have hL1 : SqL K (upd H D (.lst [])) l (refs ks) ∨ SqT K (upd H D (.lst [])) l (refs ks) := hL.imp (fun h => s1.seq h) (fun h => Same.tup s1 h)
    refine ⟨l, ks, d, rfl, hL1, hR.same s1, hd, hm, by omega, fun p H3 L' s2 np hp3 hsub hmem hasc hlen => ?_⟩
    have hD3 : H3 D = some (.lst []) := s2 _ _ upd_same
    have npD : p ≠ D := fun e => by
      rw [e, upd_same] at np
      cases np
    have sall := s1.trans s2
    have hmL : ∀ x ∈ L', Mon d x.2 := fun x hx => hm x (hsub x hx)
    have hR3 : Rows K H3 L' := fun x hx => Same.tup sall (hR x (hsub x hx))
    refine ⟨p, rfl, ⟨_, .inl (.inl hp3)⟩, for_list (xs := refs L') (fun i σ H1 => Kp [D] H3 H1 ∧ Same H H1 ∧ ∃ (acc : List (Addr × List Int)) (z : Option V), H1 D = some (.lst (refs acc)) ∧ acc.length ≤ i ∧ (∀ x ∈ acc, x ∈ L') ∧ mons acc = grd [] ((mons L').take i) ∧ σ = [some (.ref l), some (.int most), some (.ref D), z])
      ⟨Kp.refl _, sall, [], none, hD3, Nat.le_refl _, fun x hx => absurd hx List.not_mem_nil, rfl, rfl⟩ (fun i σ H1 _ h => h.1.seq (by simpa using npD) (.inl (.inl hp3))) (fun i x σ H1 hx h => ?_) (fun σ H1 h => ?_)⟩
    · obtain ⟨kp, sm, acc, z, eD, hal, has, hg, rfl⟩ := h
      obtain ⟨hi, rfl⟩ := refs_get hx
      have hLi : L'[i] ∈ L' := List.getElem_mem hi
      have row1 : Rows K H1 L' := fun y hy => kp.tupL hD3 (hR3 y hy)
      have gtake : grd [] ((mons L').take (i + 1)) = (if inG (mons acc) L'[i].2 = true then mons acc else mons acc ++ [L'[i].2]) := by
        rw [take_mons hi, hg]
        have : ∀ (l acc : List (List Int)) (x : List Int), grd acc (l ++ [x]) = (if inG (grd acc l) x = true then grd acc l else grd acc l ++ [x]) := by
          intro l
          induction l with
          | nil => intro acc x; rfl
          | cons y l ih => intro acc x; exact ih _ x
        exact this _ _ _
      refine ⟨_, rfl, _, rfl, L'[i].1, D, L'[i].2, acc, rfl, row1 _ hLi, .inl (.inl eD), fun y hy => row1 y (has y hy), fun y hy => (hmL y (has y hy)).1.trans (hmL _ hLi).1.symm, fun H2 s2' => ⟨_, rfl, ?_⟩⟩
      have eD2 := s2' _ _ eD
      cases hd' : inG (mons acc) L'[i].2 with
      | true =>
        refine iteF ?_
        refine ⟨_, rfl, D, _, rfl, .inl (.inl (.inl eD2)), .int most, rfl, _, _, rfl, rfl, _, rfl, ?_⟩
        refine ite2 (fun e => ?_) (fun e => ?_)
        · have := of_decide_eq_true e
          rw [List.length_map] at this
          omega
        · refine ⟨kp.trans (Kp.of s2'), sm.trans s2', acc, _, eD2, by omega, has, ?_, rfl⟩
          rw [gtake, if_pos hd']
      | false =>
        refine iteT ?_
        refine ⟨_, rfl, .inl ⟨rfl, _, .inl (.inl eD2)⟩, _, rfl, D, _, _, rfl, rfl, eD2, ?_, ?_⟩
        · rw [List.length_map]; exact small1000 (by omega)
        · have hn : H D = none := nD
          have e3 : (upd H2 D (.lst (refs acc ++ [V.ref L'[i].1]))) D = some (.lst (refs (acc ++ [L'[i]]))) := by
            rw [upd_same, refs_app]
            rfl
          refine ⟨_, rfl, D, _, rfl, .inl (.inl (.inl e3)), .int most, rfl, _, _, rfl, rfl, _, rfl, ?_⟩
          refine ite2 (fun e => ?_) (fun e => ?_)
          · have := of_decide_eq_true e
            rw [List.length_map, List.length_append] at this
            have h1 : ([L'[i]] : List (Addr × List Int)).length = 1 := rfl
            omega
          · refine ⟨(kp.trans (Kp.of s2')).upd (List.mem_singleton.mpr rfl), fun b o eb => ?_, acc ++ [L'[i]], _, e3, ?_, fun y hy => ?_, ?_, rfl⟩
            · rw [upd_ne (ne_of_none eb hn)]
              exact s2' _ _ (sm _ _ eb)
            · rw [List.length_append]
              exact Nat.add_le_add_right hal 1
            · rcases List.mem_append.mp hy with h | h
              · exact has y h
              · rw [List.mem_singleton.mp h]; exact hLi
            · rw [gtake, if_neg (by rw [hd']; decide), mons_app]
              rfl
    · obtain ⟨kp, sm, acc, z, eD, hal, has, hg, rfl⟩ := h
      rw [List.take_of_length_le (by rw [List.length_map, List.length_map]; exact Nat.le_refl _)] at hg
      have mn : MinOf (mons L') (mons acc) := by
        rw [hg]
        exact grd_all (d := d) min_nil (fun p hp => absurd hp List.not_mem_nil) (fun p hp => by
          obtain ⟨r, h1, rfl⟩ := mem_mons.mp hp
          exact hmL r h1) hasc
      refine ⟨_, rfl, q D H1 acc sm eD (fun x hx => hsub x (has x hx)) ⟨mn.asc, fun x => ?_⟩⟩
      rw [mn.mem, hmem x]
      constructor
      · rintro ⟨h1, h2⟩; exact ⟨h1, fun y hy => h2 y ((hmem y).mpr hy)⟩
      · rintro ⟨h1, h2⟩; exact ⟨h1, fun y hy => h2 y ((hmem y).mp hy)⟩
end
end JN

set_option maxRecDepth 100000
set_option maxHeartbeats 8000000
namespace JN
open PySem PySem.Spec PyProof.Rows L2
theorem yes_any {σ : L2.St} {H : Hp} {A P0 : Hp → Prop} (h : A H) : tYes σ H fun b H3 => if b = true then A H3 else P0 H3 := by
  show if true = true then A H else P0 H
  rw [if_pos rfl]
  exact h
/-- all of one of each, in sequence -/
def prodL (F : List Int → List Int → List Int) (A B : List (List Int)) : List (List Int) := A.flatMap fun a => B.map fun b => F a b
theorem prodL_mem {F : List Int → List Int → List Int} {A B : List (List Int)} {p : List Int} : p ∈ prodL F A B ↔ ∃ a ∈ A, ∃ b ∈ B, F a b = p := by
  simp [prodL]
theorem prodL_take {F : List Int → List Int → List Int} {ks : List (Addr × List Int)} {B : List (List Int)} {i : Nat} (h : i < ks.length) : prodL F ((mons ks).take (i + 1)) B = prodL F ((mons ks).take i) B ++ B.map (F ks[i].2) := by
  rw [take_mons h]
  simp [prodL]
theorem prodL_len {F : List Int → List Int → List Int} {B : List (List Int)} : ∀ {A : List (List Int)}, (prodL F A B).length = A.length * B.length
  | [] => by simp [prodL]
  | a :: A => by
    have ih := prodL_len (F := F) (B := B) (A := A)
    show (B.map (F a) ++ prodL F A B).length = _
    rw [List.length_append, List.length_map, ih, List.length_cons, Nat.add_mul, Nat.one_mul, Nat.add_comm]
/-- the reading of [f(x, y) for x in a for y in b], a and b tuples of tuples of ints, f making a new tuple of ints -/
theorem lc2_tups {K : PySem.W.Frag} {a b D : Addr} {ks1 ks2 : List (Addr × List Int)} {σ : L2.St} {H1 : Hp} {vs vs1 : List Nat} {i0 j0 t0 : Nat} {te : TE} {Qd : Hp → Prop} (F : List Int → List Int → List Int) (nD : H1 D = none)
    (hA : SqT K H1 a (refs ks1)) (hB : SqT K H1 b (refs ks2)) (hb : ∀ v, ((wipe σ vs).set i0 v)[t0]? = some (some (.ref b))) (hw : ∀ v, wipe ((wipe σ vs).set i0 v) vs = wipe σ vs)
    (hw1 : ∀ v u, wipe ((wipe ((wipe σ vs).set i0 v) vs1).set j0 u) vs1 = wipe ((wipe σ vs).set i0 v) vs1) (hz : ks1.length * ks2.length < 1000)
    (hte : ∀ x ∈ ks1, ∀ y ∈ ks2, ∀ (H6 : Hp) (P1 : V → Hp → Prop), Same H1 H6 → (∀ p H7, Same H6 H7 → SqT K H7 p ((F x.2 y.2).map V.int) → P1 (.ref p) H7) → te ((wipe ((wipe σ vs).set i0 (some (.ref x.1))) vs1).set j0 (some (.ref y.1))) H6 P1)
    (hd : ∀ H ks, Same H1 H → H D = some (.lst (refs ks)) → Rows K H ks → mons ks = prodL F (mons ks1) (mons ks2) → Qd H) :
    ∃ W : Nat → Nat → Hp → Prop, (∃ m, W 0 m (upd H1 D (.lst []))) ∧ ∀ i m H, W i m H →
      ((Itt K a).stop i H ∧ Qd H) ∨ ((Itt K a).go i H ∧ ∃ Nx : Hp → Prop, (∀ H', Nx H' → ∃ m', m' < m ∧ W (i + 1) m' H') ∧ ∀ x H', (Itt K a).yld i H x H' → gName i0 x (wipe σ vs) H' fun σ2 H2 => wipe σ2 vs = wipe σ vs ∧ tYes σ2 H2 fun b H3 =>
        if b = true then iTup K (tVar t0) σ2 H3 fun J1 H4 => ∃ W1 : Nat → Nat → Hp → Prop, (∃ m, W1 0 m H4) ∧ ∀ j k H, W1 j k H →
          (J1.stop j H ∧ Nx H) ∨ (J1.go j H ∧ ∃ Nx1 : Hp → Prop, (∀ H', Nx1 H' → ∃ k', k' < k ∧ W1 (j + 1) k' H') ∧ ∀ x H', J1.yld j H x H' → gName j0 x (wipe σ2 vs1) H' fun σ3 H5 => wipe σ3 vs1 = wipe σ2 vs1 ∧ tYes σ3 H5 fun b H6 =>
            if b = true then te σ3 H6 fun y H7 => ∃ acc, H7 D = some (.lst acc) ∧ acc.length < sizeLine ∧ Nx1 (upd H7 D (.lst (acc ++ [y]))) else Nx1 H6)
        else Nx H3) := by
  have o : ∀ i H, Same H1 H → i < ks1.length → (Itt K a).go i H := fun i H e hi => ⟨refs ks1, .ref ks1[i].1, Same.tup e hA, refs_at hi⟩
  refine ⟨fun i m H => m = ks1.length - i ∧ i ≤ ks1.length ∧ Same H1 H ∧ ∃ acc, H D = some (.lst (refs acc)) ∧ Rows K H acc ∧ mons acc = prodL F ((mons ks1).take i) (mons ks2), ⟨ks1.length, by simp, Nat.zero_le _, same_new nD, [], upd_same, fun p hp => absurd hp List.not_mem_nil, rfl⟩, ?_⟩
  rintro i m H ⟨rfl, hi, sm, acc, eD, hR, hm⟩
  by_cases hlt : i < ks1.length
  · refine .inr ⟨o i H sm hlt, fun H' => Same H1 H' ∧ ∃ acc, H' D = some (.lst (refs acc)) ∧ Rows K H' acc ∧ mons acc = prodL F ((mons ks1).take (i + 1)) (mons ks2), fun H' h => ⟨ks1.length - (i + 1), by omega, rfl, hlt, h⟩, fun x H' y => ?_⟩
    obtain ⟨rfl, hx⟩ := y
    obtain rfl : V.ref ks1[i].1 = x := Option.some.inj ((refs_at hlt).symm.trans (hx _ (Same.tup sm hA)))
    refine ⟨hw _, ?_⟩
    refine yes_any ?_
    refine ⟨.ref b, hb _, b, rfl, ⟨_, Same.tup sm hB⟩, fun j k H => k = ks2.length - j ∧ j ≤ ks2.length ∧ Same H1 H ∧ ∃ acc, H D = some (.lst (refs acc)) ∧ Rows K H acc ∧ mons acc = prodL F ((mons ks1).take i) (mons ks2) ++ ((mons ks2).take j).map (F ks1[i].2),
      ⟨ks2.length, by simp, Nat.zero_le _, sm, acc, eD, hR, by simpa using hm⟩, ?_⟩
    rintro j k H2 ⟨rfl, hj, sm2, acc2, eD2, hR2, hm2⟩
    by_cases hlt2 : j < ks2.length
    · refine .inr ⟨⟨refs ks2, .ref ks2[j].1, Same.tup sm2 hB, refs_at hlt2⟩, fun H' => Same H1 H' ∧ ∃ acc, H' D = some (.lst (refs acc)) ∧ Rows K H' acc ∧ mons acc = prodL F ((mons ks1).take i) (mons ks2) ++ ((mons ks2).take (j + 1)).map (F ks1[i].2), fun H' h => ⟨ks2.length - (j + 1), by omega, rfl, hlt2, h⟩, fun x H' y => ?_⟩
      obtain ⟨rfl, hx⟩ := y
      obtain rfl : V.ref ks2[j].1 = x := Option.some.inj ((refs_at hlt2).symm.trans (hx _ (Same.tup sm2 hB)))
      refine ⟨hw1 _ _, ?_⟩
      refine yes_any ?_
      refine hte _ (List.getElem_mem hlt) _ (List.getElem_mem hlt2) _ _ sm2 fun p H7 s7 hp => ⟨_, s7 _ _ eD2, ?_, ?_⟩
      · have h1 : (mons acc2).length ≤ ks1.length * ks2.length := by
          simp only [hm2, List.length_append, prodL_len, List.length_map, List.length_take]
          rw [Nat.min_eq_left hi]
          have a1 : (i + 1) * ks2.length ≤ ks1.length * ks2.length := Nat.mul_le_mul_right _ hlt
          have a2 : (i + 1) * ks2.length = i * ks2.length + ks2.length := by rw [Nat.add_mul, Nat.one_mul]
          omega
        rw [List.length_map] at h1 ⊢
        exact small1000 (by omega)
      · have kp : Kp [D] H7 (upd H7 D (.lst (refs acc2 ++ [V.ref p]))) := (Kp.refl H7).upd (List.mem_singleton.mpr rfl)
        have eD7 := s7 _ _ eD2
        refine ⟨fun b o e => ?_, acc2 ++ [(p, F ks1[i].2 ks2[j].2)], ?_, fun q hq => ?_, ?_⟩
        · rw [upd_ne (ne_of_none e nD)]
          exact s7 _ _ (sm2 _ _ e)
        · rw [upd_same, refs_app]
          rfl
        · refine kp.tupL eD7 ?_
          rcases List.mem_append.mp hq with h | h
          · exact Same.tup s7 (hR2 q h)
          · rw [List.mem_singleton.mp h]
            exact hp
        · rw [mons_app, hm2, take_mons hlt2, List.map_append, List.append_assoc]
          rfl
    · refine .inl ⟨⟨refs ks2, Same.tup sm2 hB, by rw [List.length_map]; omega⟩, sm2, acc2, eD2, hR2, ?_⟩
      rw [hm2, prodL_take hlt, List.take_of_length_le (l := mons ks2) (i := j) (by rw [List.length_map]; omega)]
  · refine .inl ⟨⟨refs ks1, Same.tup sm hA, by rw [List.length_map]; omega⟩, hd H acc sm eD hR ?_⟩
    rw [hm, List.take_of_length_le (l := mons ks1) (i := i) (by rw [List.length_map]; omega)]
end JN

set_option maxRecDepth 100000
set_option maxHeartbeats 8000000
namespace JN
open PySem PySem.Spec PyProof.Rows L2
/-- all exponents at most 60 -/
def Le60 (p : List Int) : Prop := ∀ x ∈ p, x ≤ 60
def spIdeal (K : PySem.W.Frag) : Sp := fun vs H Q _ => ∃ (l : Addr) (n : Int) (ks : List (Addr × List Int)) (d : Nat), vs = [.int n, .ref l] ∧ (SqL K H l (refs ks) ∨ SqT K H l (refs ks)) ∧ Rows K H ks ∧ 1 ≤ d ∧ (∀ p ∈ ks, Mon d p.2 ∧ Le60 p.2) ∧ ks.length ≤ 60 ∧
  ∀ (v : Addr) (H' : Hp) (R : List (List Int)), Same H H' → MinOf (mons ks) R → IsI K H' v n R → Q (.ref v) H'
def spCont (K : PySem.W.Frag) : Sp := fun vs H Q _ => ∃ (v x : Addr) (n : Int) (m : List Int) (gs : List (List Int)), vs = [.ref v, .ref x] ∧ IsI K H v n gs ∧ SqT K H x (m.map V.int) ∧ (∀ p ∈ gs, p.length = m.length) ∧
  ∀ (H' : Hp), Same H H' → Q (.bl (inG gs m)) H'
def spWith (K : PySem.W.Frag) : Sp := fun vs H Q _ => ∃ (v u : Addr) (n m : Int) (gs hs : List (List Int)) (d : Nat), vs = [.ref v, .ref u] ∧ IsI K H v n gs ∧ IsI K H u m hs ∧ (∀ p ∈ gs, p.length = d) ∧ (∀ p ∈ hs, p.length = d) ∧ gs.length ≤ 1000 ∧
  ∀ (H' : Hp), Same H H' → Q (.bl (gs.all fun g => inG hs g)) H'
/-- an operation on two ideals, of few generators -/
def spOp2 (K : PySem.W.Frag) (R : List (List Int) → List (List Int) → List (List Int)) (few : Nat → Nat → Nat) : Sp := fun vs H Q _ => ∃ (v u : Addr) (n m : Int) (gs hs : List (List Int)) (d : Nat), vs = [.ref v, .ref u] ∧ IsI K H v n gs ∧ IsI K H u m hs ∧ 1 ≤ d ∧ d ≤ 1000 ∧ (∀ p ∈ gs, Mon d p ∧ Le60 p) ∧ (∀ p ∈ hs, Mon d p ∧ Le60 p) ∧ (∀ p ∈ R gs hs, Mon d p ∧ Le60 p) ∧ few gs.length hs.length ≤ 60 ∧
  ∀ (w : Addr) (H' : Hp) (T : List (List Int)), Same H H' → MinOf (R gs hs) T → IsI K H' w n T → Q (.ref w) H'
section
variable {P : Program} {w : World} {K : PySem.W.Frag} {mg : Str → Option Value} {base : Heap}
theorem sc_ideal_of : FnScope ["n", "monomials", "generators", "generator"] ["n", "monomials"] (defScope S_ideal_of) := ⟨rfl, rfl, rfl, by decide +kernel, rfl, by decide +kernel, by decide +kernel⟩
theorem ok_ideal {f fL : Addr} {fd dL : FuncData} (F : Fun K "ideal_of" "ideal_of" S_ideal_of f fd) (B : Bt mg) {tG tE : Tok} (hG : mg "MOST_GENERATORS" = some (.int 60 tG)) (hE : mg "MOST_EXPONENT" = some (.int 60 tE)) (AL : At K mg "least_ones" S_least_ones ["monomials", "most"] fL dL) (GL : FnOk P w K mg base CX0 3 fL dL ["monomials", "most"] (spLeast K)) : FnOk P w K mg base CX0 4 f fd ["n", "monomials"] (spIdeal K) := by
  refine F.ok sc_ideal_of (fun vs H Q E h => ?_) (fun cdv A outer s H vs Q E hr h => ?_)
  · obtain ⟨l, n, ks, d, rfl, _⟩ := h
    rfl
  · obtain ⟨l, n, ks, d, rfl, hL, hR, hd, hm, h60, q⟩ := h
    have nd := sc_ideal_of.nd
    refine ⟨_, pss_cons (ps_set (i := 2) nd rfl (.inl rfl) (pe_call GL hr (by rfl) AL.gl AL.fn.kp AL.bi .nil pass0 (pa_cons (pv 1) (pa_cons (pe_op op_add (pe_glob (v := .int 60) (by rfl) hG ⟨_, rfl⟩) pe_int) pa_nil))))
      (pss_cons (ps_if (pt_cmpR op_gt (pe_callB call_len_seq (by rfl) B.len PySem.boot_len (pa_cons (pv 2) pa_nil)) (pe_glob (v := .int 60) (by rfl) hG ⟨_, rfl⟩) (nomark _)) (pss_one (ps_never)) pss_nil)
      (pss_cons (ps_for PassesOwn.never rfl (pi_list (pv 2)) (pg_name (i := 3) nd rfl (.inl rfl))
        (pss_one (ps_if (pt_cmpR op_gt (pe_callB (cr_maxT (by rfl)) (by rfl) B.max (by decide +kernel) (pa_cons (pv 3) pa_nil)) (pe_glob (v := .int 60) (by rfl) hE ⟨_, rfl⟩) (nomark _)) (pss_one (ps_never)) pss_nil)))
      (pss_one (ps_ret (pe_tup (pa_cons (pv 0) (pa_cons (pe_callTy call_tuple_of (by rfl) B.tuple (by decide +kernel) (pa_cons (pv 2) pa_nil)) pa_nil))))))), ?_⟩
    refine ⟨_, rfl, _, _, rfl, rfl, l, _, ks, d, rfl, hL, hR, hd, fun p hp => (hm p hp).1, h60, by decide, fun D H1 ks' s1 eD hsub hmin => ?_⟩
    have hlen : ks'.length ≤ 60 := by
      have h1 : (mons ks').Nodup := List.Pairwise.imp (fun {a b} h e => by rw [e] at h; omega) hmin.asc
      have h2 : (mons ks').length ≤ (mons ks).length := nodup_len h1 fun x hx => hmin.sub hx
      rw [List.length_map, List.length_map] at h2
      omega
    have hR1 : Rows K H1 ks' := fun x hx => Same.tup s1 (hR x (hsub x hx))
    refine ⟨_, rfl, D, _, rfl, .inl (.inl (.inl eD)), _, _, rfl, rfl, _, rfl, ?_⟩
    refine ite2 (fun e => ?_) (fun _ => ?_)
    · have := of_decide_eq_true e
      rw [List.length_map] at this
      omega
    refine ⟨_, rfl, D, rfl, ⟨_, .inl (.inl eD)⟩, for_list (xs := refs ks') (fun i σ H2 => H2 = H1 ∧ ∃ z, σ = [some (.int n), some (.ref l), some (.ref D), z]) ⟨rfl, _, rfl⟩ (fun i σ H2 _ h => h.1 ▸ .inl (.inl eD)) (fun i x σ H2 hx h => ?_) (fun σ H2 h => ?_)⟩
    · obtain ⟨rfl, z, rfl⟩ := h
      obtain ⟨hi, rfl⟩ := refs_get hx
      have hk := hm _ (hsub _ (List.getElem_mem hi))
      refine ⟨_, rfl, ks'[i].1, ks'[i].2, rfl, hR1 _ (List.getElem_mem hi), by rw [hk.1.1]; exact hd, fun m hmm _ => ⟨_, _, rfl, rfl, _, rfl, ?_⟩⟩
      refine ite2 (fun e => ?_) (fun _ => ⟨rfl, _, rfl⟩)
      have := of_decide_eq_true e
      have := hk.2 m hmm
      omega
    · obtain ⟨rfl, z, rfl⟩ := h
      refine ⟨_, rfl, _, rfl, D, _, rfl, .inl ⟨.inl (.inl eD), fun g ng => ?_⟩⟩
      have s2 := same_new (o := .tup (refs ks')) ng
      refine ⟨by show 2 ≤ sizeLine; decide, fun v nv => ?_⟩
      have s3 := same_new (o := .tup [V.int n, V.ref g]) nv
      exact q v _ (mons ks') (s1.trans (s2.trans s3)) hmin ⟨g, sqt_new, ks', rfl, Same.tup s3 sqt_new, hR1.same (s2.trans s3)⟩
theorem sc_contains : FnScope ["ideal", "monomial", "_", "generators"] ["ideal", "monomial"] (defScope S_contains) := ⟨rfl, rfl, rfl, by decide +kernel, rfl, by decide +kernel, by decide +kernel⟩
theorem ok_cont {f fH : Addr} {fd dH : FuncData} (F : Fun K "contains" "contains" S_contains f fd) (AH : At K mg "has_divisor" S_has_divisor ["monomial", "others"] fH dH) (GH : FnOk P w K mg base CX0 2 fH dH ["monomial", "others"] (spHasT K)) : FnOk P w K mg base CX0 3 f fd ["ideal", "monomial"] (spCont K) := by
  refine F.ok sc_contains (fun vs H Q E h => ?_) (fun cdv A outer s H vs Q E hr h => ?_)
  · obtain ⟨v, x, n, m, gs, rfl, _⟩ := h
    rfl
  · obtain ⟨v, x, n, m, gs, rfl, ⟨g, hV, hG⟩, hX, hl, q⟩ := h
    have nd := sc_contains.nd
    refine ⟨_, pss_cons (ps_asg (pv 0) (pg_tup (by rfl) (pgs_cons (pg_name (i := 2) nd rfl (.inl rfl)) (pgs_cons (pg_name (i := 3) nd rfl (.inl rfl)) pgs_nil))))
      (pss_one (ps_ret (pe_call GH hr (by rfl) AH.gl AH.fn.kp AH.bi .nil pass0 (pa_cons (pv 1) (pa_cons (pv 3) pa_nil))))), ?_⟩
    exact ⟨_, rfl, v, _, rfl, hV, rfl, _, _, rfl, _, _, rfl, rfl, _, rfl, _, rfl, x, g, m, gs, rfl, hX, hG, hl, q⟩
theorem sc_is_within : FnScope ["a", "b", "_", "generators", "generator"] ["a", "b"] (defScope S_is_within) := ⟨rfl, rfl, rfl, by decide +kernel, rfl, by decide +kernel, by decide +kernel⟩
theorem ok_with {f fC : Addr} {fd dC : FuncData} (F : Fun K "is_within" "is_within" S_is_within f fd) (B : Bt mg) (AC : At K mg "contains" S_contains ["ideal", "monomial"] fC dC) (GC : FnOk P w K mg base CX0 3 fC dC ["ideal", "monomial"] (spCont K)) : FnOk P w K mg base CX0 4 f fd ["a", "b"] (spWith K) := by
  refine F.ok sc_is_within (fun vs H Q E h => ?_) (fun cdv A outer s H vs Q E hr h => ?_)
  · obtain ⟨v, u, n, m, gs, hs, d, rfl, _⟩ := h
    rfl
  · obtain ⟨v, u, n, m, gs, hs, d, rfl, ⟨g, hV, ⟨ks, rfl, hG, hR⟩⟩, hU, h1, h2, hz, q⟩ := h
    have nd := sc_is_within.nd
    refine ⟨_, pss_cons (ps_asg (pv 0) (pg_tup (by rfl) (pgs_cons (pg_name (i := 2) nd rfl (.inl rfl)) (pgs_cons (pg_name (i := 3) nd rfl (.inl rfl)) pgs_nil))))
      (pss_one (ps_ret (pe_callB (cr_all (by rfl)) (by rfl) B.all (by decide +kernel) (pa_cons (pe_lc (own := [("generator", 4)]) (g := gName 4) (te := tCall (spCont K) [] E0 (tCons (tVar 1) (tCons (tVar 4) tNil))) (by rfl) nd (pi_tup (pv 3)) (blkOk_by (own := [("generator", 4)]) (N := ["a", "b", "_", "generators", "generator"]) (sc := defScope S_is_within) (by decide +kernel)) (fun _ _ _ _ _ => pg_name (i := 4) nd rfl (.inl rfl)) (fun _ _ _ _ _ => pts_nil) (fun _ _ _ _ _ => pe_call GC hr (by rfl) AC.gl AC.fn.kp AC.bi .nil pass0 (pa_cons (pv 1) (pa_cons (pv 4) pa_nil)))) pa_nil)))), ?_⟩
    rw [List.length_map] at hz
    refine ⟨_, rfl, v, _, rfl, hV, rfl, _, _, rfl, _, _, rfl, rfl, _, rfl, g, rfl, ⟨_, hG⟩, fun D nD => lc_keep (walk_tup (xs := refs ks)) (fun i => some (V.bl (inG hs ((mons ks).getD i [])))) nD ?_ (fun H1 e => Same.tup e hG) (fun i x H1 H2 P1 P0 hi sm y k1 k0 => ?_) (fun H1 sm e => ?_)⟩
    · rw [List.length_map]; exact small1000 hz
    · rw [List.length_map] at hi
      obtain ⟨rfl, hx⟩ := y
      obtain ⟨hi', rfl⟩ := refs_get hx
      have hmem : ks[i].2 ∈ mons ks := mem_mons.mpr ⟨_, List.getElem_mem hi, rfl⟩
      refine ⟨rfl, yes_ok ?_⟩
      refine ⟨_, rfl, _, rfl, u, ks[i].1, m, ks[i].2, hs, rfl, hU.same sm, Same.tup sm (hR _ (List.getElem_mem hi)), fun p hp => (h2 p hp).trans (h1 _ hmem).symm, fun H3 s3 => k1 _ _ ?_ s3⟩
      rw [List.getD_eq_getElem?_getD, mons_at hi]
      rfl
    · have e2 : (List.range (refs ks).length).filterMap (fun i => some (V.bl (inG hs ((mons ks).getD i [])))) = (((mons ks).map fun g => inG hs g).map V.bl) := by
        rw [fm_some (g := fun i => V.bl (inG hs ((mons ks).getD i []))) (fun _ _ => rfl)]
        apply List.ext_getElem
        · simp
        · intro i a b
          simp only [List.getElem_map, List.getElem_range]
          rw [List.getD_eq_getElem?_getD, mons_at (by simpa using a)]
          rfl
      rw [e2] at e
      refine ⟨D, _, rfl, .inl (.inl e), ?_⟩
      have := q H1 sm
      rw [List.all_map]
      exact this
theorem sc_sum_of : FnScope ["a", "b", "n", "ours", "_", "theirs"] ["a", "b"] (defScope S_sum_of) := ⟨rfl, rfl, rfl, by decide +kernel, rfl, by decide +kernel, by decide +kernel⟩
theorem ok_sum {f fI : Addr} {fd dI : FuncData} (F : Fun K "sum_of" "sum_of" S_sum_of f fd) (AI : At K mg "ideal_of" S_ideal_of ["n", "monomials"] fI dI) (GI : FnOk P w K mg base CX0 4 fI dI ["n", "monomials"] (spIdeal K)) : FnOk P w K mg base CX0 5 f fd ["a", "b"] (spOp2 K (· ++ ·) (· + ·)) := by
  refine F.ok sc_sum_of (fun vs H Q E h => ?_) (fun cdv A outer s H vs Q E hr h => ?_)
  · obtain ⟨v, u, n, m, gs, hs, d, rfl, _⟩ := h
    rfl
  · obtain ⟨v, u, n, m, gs, hs, d, rfl, ⟨g, hV, ⟨ks, rfl, hG, hR⟩⟩, ⟨g2, hU, ⟨ks2, rfl, hG2, hR2⟩⟩, hd, hd2, h1, h2, _, hz, q⟩ := h
    have nd := sc_sum_of.nd
    refine ⟨_, pss_cons (ps_asg (pv 0) (pg_tup (by rfl) (pgs_cons (pg_name (i := 2) nd rfl (.inl rfl)) (pgs_cons (pg_name (i := 3) nd rfl (.inl rfl)) pgs_nil))))
      (pss_cons (ps_asg (pv 1) (pg_tup (by rfl) (pgs_cons (pg_name (i := 4) nd rfl (.inl rfl)) (pgs_cons (pg_name (i := 5) nd rfl (.inl rfl)) pgs_nil))))
      (pss_one (ps_ret (pe_call GI hr (by rfl) AI.gl AI.fn.kp AI.bi .nil pass0 (pa_cons (pv 2) (pa_cons (pe_op op_catA (pv 3) (pv 5)) pa_nil)))))), ?_⟩
    refine ⟨_, rfl, v, _, rfl, hV, rfl, _, _, rfl, _, _, rfl, rfl, _, rfl, u, _, rfl, hU, rfl, _, _, rfl, _, _, rfl, rfl, _, rfl, _, rfl, _, rfl, ?_⟩
    rw [List.length_map, List.length_map] at hz
    have key : ∀ (x : Addr) (H' : Hp), Same H H' → SqT K H' x (refs (ks ++ ks2)) → spIdeal K [V.int n, V.ref x] H' Q E := fun x H' sm hx =>
      ⟨x, n, ks ++ ks2, d, rfl, .inr hx, fun p hp => by
        rcases List.mem_append.mp hp with h | h
        · exact Same.tup sm (hR p h)
        · exact Same.tup sm (hR2 p h), hd, fun p hp => by
        rcases List.mem_append.mp hp with h | h
        · exact h1 _ (mem_mons.mpr ⟨p, h, rfl⟩)
        · exact h2 _ (mem_mons.mpr ⟨p, h, rfl⟩), by rw [List.length_append]; exact hz, fun v' H2 R s2 hmin hI => q v' H2 R (sm.trans s2) (by rw [mons_app] at hmin; exact hmin) hI⟩
    refine ⟨g, g2, _, _, rfl, rfl, hG, hG2, ?_, fun e => ?_, fun e e2 => ?_, fun e e2 x nx => ?_⟩
    · rw [List.length_map, List.length_map, sizeLine_eq]
      have : ks.length + ks2.length ≤ 60 := hz
      omega
    · have : ks = [] := by simpa using e
      subst this
      exact key g2 H (Same.refl H) hG2
    · have : ks2 = [] := by simpa using e2
      subst this
      refine key g H (Same.refl H) ?_
      rw [List.append_nil]
      exact hG
    · refine key x _ (same_new nx) ?_
      rw [refs_app]
      exact sqt_new
theorem sc_product_of : FnScope ["a", "b", "n", "ours", "_", "theirs", "x", "y"] ["a", "b"] (defScope S_product_of) := ⟨rfl, rfl, rfl, by decide +kernel, rfl, by decide +kernel, by decide +kernel⟩
theorem ok_product {f fI fT : Addr} {fd dI dT : FuncData} (F : Fun K "product_of" "product_of" S_product_of f fd) (AI : At K mg "ideal_of" S_ideal_of ["n", "monomials"] fI dI) (GI : FnOk P w K mg base CX0 4 fI dI ["n", "monomials"] (spIdeal K)) (AT : At K mg "times" S_times ["a", "b"] fT dT) (GT : FnOk P w K mg base CX0 1 fT dT ["a", "b"] (spZw K (· + ·))) :
    FnOk P w K mg base CX0 5 f fd ["a", "b"] (spOp2 K (prodL (List.zipWith (· + ·))) (· * ·)) := by
  refine F.ok sc_product_of (fun vs H Q E h => ?_) (fun cdv A outer s H vs Q E hr h => ?_)
  · obtain ⟨v, u, n, m, gs, hs, d, rfl, _⟩ := h
    rfl
  · obtain ⟨v, u, n, m, gs, hs, d, rfl, ⟨g, hV, ⟨ks, rfl, hG, hR⟩⟩, ⟨g2, hU, ⟨ks2, rfl, hG2, hR2⟩⟩, hd, hd2, h1, h2, h3, hz, q⟩ := h
    have nd := sc_product_of.nd
    refine ⟨_, pss_cons (ps_asg (pv 0) (pg_tup (by rfl) (pgs_cons (pg_name (i := 2) nd rfl (.inl rfl)) (pgs_cons (pg_name (i := 3) nd rfl (.inl rfl)) pgs_nil))))
      (pss_cons (ps_asg (pv 1) (pg_tup (by rfl) (pgs_cons (pg_name (i := 4) nd rfl (.inl rfl)) (pgs_cons (pg_name (i := 5) nd rfl (.inr rfl)) pgs_nil))))
      (pss_one (ps_ret (pe_call GI hr (by rfl) AI.gl AI.fn.kp AI.bi .nil pass0 (pa_cons (pv 2) (pa_cons (pe_lc2 (own := [("x", 6), ("y", 7)]) (vs1 := [7]) (g := gName 6) (g1 := gName 7) (wi1 := iTup K (tVar 5)) (te := tCall (spZw K (· + ·)) [] E0 (tCons (tVar 6) (tCons (tVar 7) tNil))) (by rfl) nd (pi_tup (pv 3))
        (blkOk_by (own := [("x", 6), ("y", 7)]) (N := ["a", "b", "n", "ours", "_", "theirs", "x", "y"]) (sc := defScope S_product_of) (by decide +kernel)) (by decide)
        (fun _ _ _ _ _ => pg_name (i := 6) nd rfl (.inl rfl)) (fun _ _ _ _ _ => pts_nil) (fun _ _ _ _ _ => pi_tup (pv 5)) (fun _ _ _ _ _ => pg_name (i := 7) nd rfl (.inl rfl)) (fun _ _ _ _ _ => pts_nil)
        (fun _ _ _ _ _ => pe_call GT (hr.mono (by decide)) (by rfl) AT.gl AT.fn.kp AT.bi .nil pass0 (pa_cons (pv 6) (pa_cons (pv 7) pa_nil)))) pa_nil)))))), ?_⟩
    refine ⟨_, rfl, v, _, rfl, hV, rfl, _, _, rfl, _, _, rfl, rfl, _, rfl, u, _, rfl, hU, rfl, _, _, rfl, _, _, rfl, rfl, _, rfl, _, rfl, g, rfl, ⟨_, hG⟩, fun D nD => ?_⟩
    rw [List.length_map, List.length_map] at hz
    have hz' : ks.length * ks2.length ≤ 60 := hz
    refine lc2_tups (List.zipWith (· + ·)) nD hG hG2 (fun _ => rfl) (fun _ => rfl) (fun _ _ => rfl) (by omega) (fun x hx y hy H6 P1 s6 k => ?_) (fun H2 ks' sm eD hR' hm => ?_)
    · have e1 := (h1 _ (mem_mons.mpr ⟨x, hx, rfl⟩)).1.1
      have e2 := (h2 _ (mem_mons.mpr ⟨y, hy, rfl⟩)).1.1
      refine ⟨_, rfl, _, rfl, x.1, y.1, x.2, y.2, rfl, Same.tup s6 (hR x hx), Same.tup s6 (hR2 y hy), e1.trans e2.symm, ?_, fun p H7 s7 hp => k p H7 s7 hp⟩
      omega
    · have hl : ks'.length ≤ 60 := by
        have : (mons ks').length = ks.length * ks2.length := by rw [hm, prodL_len, List.length_map, List.length_map]
        rw [List.length_map] at this
        omega
      refine ⟨D, n, ks', d, rfl, .inl (.inl (.inl eD)), hR', hd, fun p hp => h3 p.2 ?_, hl, fun w' H3 R s3 hmin hI => q w' H3 R (sm.trans s3) (by rw [hm] at hmin; exact hmin) hI⟩
      show p.2 ∈ prodL _ _ _
      rw [← hm]
      exact mem_mons.mpr ⟨p, hp, rfl⟩
theorem sc_meet_of : FnScope ["a", "b", "n", "ours", "_", "theirs", "x", "y"] ["a", "b"] (defScope S_meet_of) := ⟨rfl, rfl, rfl, by decide +kernel, rfl, by decide +kernel, by decide +kernel⟩
theorem ok_meet {f fI fT : Addr} {fd dI dT : FuncData} (F : Fun K "meet_of" "meet_of" S_meet_of f fd) (AI : At K mg "ideal_of" S_ideal_of ["n", "monomials"] fI dI) (GI : FnOk P w K mg base CX0 4 fI dI ["n", "monomials"] (spIdeal K)) (AT : At K mg "lcm_of" S_lcm_of ["a", "b"] fT dT) (GT : FnOk P w K mg base CX0 1 fT dT ["a", "b"] (spZw K mxI)) :
    FnOk P w K mg base CX0 5 f fd ["a", "b"] (spOp2 K (prodL (List.zipWith mxI)) (· * ·)) := by
  refine F.ok sc_meet_of (fun vs H Q E h => ?_) (fun cdv A outer s H vs Q E hr h => ?_)
  · obtain ⟨v, u, n, m, gs, hs, d, rfl, _⟩ := h
    rfl
  · obtain ⟨v, u, n, m, gs, hs, d, rfl, ⟨g, hV, ⟨ks, rfl, hG, hR⟩⟩, ⟨g2, hU, ⟨ks2, rfl, hG2, hR2⟩⟩, hd, hd2, h1, h2, h3, hz, q⟩ := h
    have nd := sc_meet_of.nd
    refine ⟨_, pss_cons (ps_asg (pv 0) (pg_tup (by rfl) (pgs_cons (pg_name (i := 2) nd rfl (.inl rfl)) (pgs_cons (pg_name (i := 3) nd rfl (.inl rfl)) pgs_nil))))
      (pss_cons (ps_asg (pv 1) (pg_tup (by rfl) (pgs_cons (pg_name (i := 4) nd rfl (.inl rfl)) (pgs_cons (pg_name (i := 5) nd rfl (.inr rfl)) pgs_nil))))
      (pss_one (ps_ret (pe_call GI hr (by rfl) AI.gl AI.fn.kp AI.bi .nil pass0 (pa_cons (pv 2) (pa_cons (pe_lc2 (own := [("x", 6), ("y", 7)]) (vs1 := [7]) (g := gName 6) (g1 := gName 7) (wi1 := iTup K (tVar 5)) (te := tCall (spZw K mxI) [] E0 (tCons (tVar 6) (tCons (tVar 7) tNil))) (by rfl) nd (pi_tup (pv 3))
        (blkOk_by (own := [("x", 6), ("y", 7)]) (N := ["a", "b", "n", "ours", "_", "theirs", "x", "y"]) (sc := defScope S_meet_of) (by decide +kernel)) (by decide)
        (fun _ _ _ _ _ => pg_name (i := 6) nd rfl (.inl rfl)) (fun _ _ _ _ _ => pts_nil) (fun _ _ _ _ _ => pi_tup (pv 5)) (fun _ _ _ _ _ => pg_name (i := 7) nd rfl (.inl rfl)) (fun _ _ _ _ _ => pts_nil)
        (fun _ _ _ _ _ => pe_call GT (hr.mono (by decide)) (by rfl) AT.gl AT.fn.kp AT.bi .nil pass0 (pa_cons (pv 6) (pa_cons (pv 7) pa_nil)))) pa_nil)))))), ?_⟩
    refine ⟨_, rfl, v, _, rfl, hV, rfl, _, _, rfl, _, _, rfl, rfl, _, rfl, u, _, rfl, hU, rfl, _, _, rfl, _, _, rfl, rfl, _, rfl, _, rfl, g, rfl, ⟨_, hG⟩, fun D nD => ?_⟩
    rw [List.length_map, List.length_map] at hz
    have hz' : ks.length * ks2.length ≤ 60 := hz
    refine lc2_tups (List.zipWith mxI) nD hG hG2 (fun _ => rfl) (fun _ => rfl) (fun _ _ => rfl) (by omega) (fun x hx y hy H6 P1 s6 k => ?_) (fun H2 ks' sm eD hR' hm => ?_)
    · have e1 := (h1 _ (mem_mons.mpr ⟨x, hx, rfl⟩)).1.1
      have e2 := (h2 _ (mem_mons.mpr ⟨y, hy, rfl⟩)).1.1
      refine ⟨_, rfl, _, rfl, x.1, y.1, x.2, y.2, rfl, Same.tup s6 (hR x hx), Same.tup s6 (hR2 y hy), e1.trans e2.symm, ?_, fun p H7 s7 hp => k p H7 s7 hp⟩
      omega
    · have hl : ks'.length ≤ 60 := by
        have : (mons ks').length = ks.length * ks2.length := by rw [hm, prodL_len, List.length_map, List.length_map]
        rw [List.length_map] at this
        omega
      refine ⟨D, n, ks', d, rfl, .inl (.inl (.inl eD)), hR', hd, fun p hp => h3 p.2 ?_, hl, fun w' H3 R s3 hmin hI => q w' H3 R (sm.trans s3) (by rw [hm] at hmin; exact hmin) hI⟩
      show p.2 ∈ prodL _ _ _
      rw [← hm]
      exact mem_mons.mpr ⟨p, hp, rfl⟩
end
end JN

set_option maxRecDepth 100000
set_option maxHeartbeats 8000000
namespace JN
open PySem PySem.Spec PyProof.Rows L2
theorem filt_fm {α β : Type} {p : α → Bool} {g : α → β} : ∀ {l : List α}, l.filterMap (fun x => if p x = true then some (g x) else none) = (l.filter p).map g
  | [] => rfl
  | a :: l => by
    have ih := filt_fm (p := p) (g := g) (l := l)
    cases h : p a with
    | true => rw [List.filterMap_cons_some (b := g a) (by rw [if_pos h]), List.filter_cons_of_pos h, List.map_cons, ih]
    | false => rw [List.filterMap_cons_none (by rw [if_neg (by rw [h]; decide)]), List.filter_cons_of_neg (by rw [h]; decide), ih]
/-- a filter by places -/
theorem range_filt {α : Type} {ks : List α} (p : α → Bool) (r : α → V) (z : α) : (List.range ks.length).filterMap (fun i => if p (ks.getD i z) = true then some (r (ks.getD i z)) else none) = (ks.filter p).map r := by
  rw [← filt_fm]
  induction ks with
  | nil => rfl
  | cons a l ih =>
    rw [List.length_cons, List.range_succ_eq_map, List.filterMap_cons, List.filterMap_cons, List.filterMap_map]
    have e : (List.range l.length).filterMap ((fun i => if p ((a :: l).getD i z) = true then some (r ((a :: l).getD i z)) else none) ∘ Nat.succ) = l.filterMap (fun x => if p x = true then some (r x) else none) := by
      rw [← ih]
      rfl
    rw [e]
    rfl
theorem getD_at {α : Type} {ks : List α} {i : Nat} {z : α} (h : i < ks.length) : ks.getD i z = ks[i] := by
  rw [List.getD_eq_getElem?_getD, List.getElem?_eq_getElem h]
  rfl
abbrev z0 : Addr × List Int := (0, [])
def spLLeast (K : PySem.W.Frag) : Sp := fun vs H Q _ => ∃ (l : Addr) (ks : List (Addr × List Int)) (d : Nat), vs = [.ref l] ∧ (SqL K H l (refs ks) ∨ SqT K H l (refs ks)) ∧ Rows K H ks ∧ 1 ≤ d ∧ d ≤ 1000 ∧ (∀ p ∈ ks, Mon d p.2) ∧ ks.length < 64 ∧
  ∀ (g : Addr) (H' : Hp) (R : List (List Int)), Same H H' → MinOf (mons ks) R → TpM K H' g R → Q (.ref g) H'
def spIn (K : PySem.W.Frag) : Sp := fun vs H Q _ => ∃ (g b : Addr) (gs : List (List Int)) (c : List Int), vs = [.ref g, .ref b] ∧ TpM K H g gs ∧ SqT K H b (c.map V.int) ∧ (∀ p ∈ gs, p.length = c.length) ∧ c.length ≤ 1000 ∧ gs.length ≤ 1000 ∧
  ∀ (H' : Hp), Same H H' → Q (.bl (inG gs c)) H'
def spLDvd (K : PySem.W.Frag) : Sp := fun vs H Q _ => ∃ (a b : Addr) (ns ms : List Int), vs = [.ref a, .ref b] ∧ SqT K H a (ns.map V.int) ∧ SqT K H b (ms.map V.int) ∧ ns.length = ms.length ∧ ns.length ≤ 1000 ∧
  ∀ (H' : Hp), Same H H' → Q (.bl (dvdI ns ms)) H'
/-- the scope of the outer of two comprehensions -/
abbrev leastSc : Scope := { kind := .function, names := [(".0", .local), ("a", .cell), ("some", .cell)], isGenerator := false, isCoroutine := false }
section
variable {P : Program} {w : World} {K : PySem.W.Frag} {mg : Str → Option Value} {base : Heap}
theorem sc_law_divides : FnScope ["a", "b", "k"] ["a", "b"] (defScope S_law_divides) := ⟨rfl, rfl, rfl, by decide +kernel, rfl, by decide +kernel, by decide +kernel⟩
theorem ok_ldvd {f : Addr} {fd : FuncData} (F : Fun K "_law_divides" "_law_divides" S_law_divides f fd) (B : Bt mg) : FnOk P w K mg base CX0 1 f fd ["a", "b"] (spLDvd K) := by
  refine F.ok sc_law_divides (fun vs H Q E h => ?_) (fun cdv A outer s H vs Q E hr h => ?_)
  · obtain ⟨a, b, ns, ms, rfl, _⟩ := h
    rfl
  · obtain ⟨a, b, ns, ms, rfl, hA, hB, hl, hz, q⟩ := h
    have nd := sc_law_divides.nd
    refine ⟨_, pss_one (ps_ret (pe_cmpR (op_eqD hr.units) (pe_lc (own := [("k", 2)]) (g := gName 2) (tt := tTest (tOp (rI0 fun i j => .bl (decide (j < i))) (tOp (rIxT K) (tVar 0) (tVar 2)) (tOp (rIxT K) (tVar 1) (tVar 2)))) (by rfl) nd (pi_range1 (by rfl) B.range (pa_cons (pe_callB call_len_seq (by rfl) B.len PySem.boot_len (pa_cons (pv 0) pa_nil)) pa_nil)) (blkOk_by (own := [("k", 2)]) (N := ["a", "b", "k"]) (sc := defScope S_law_divides) (by decide +kernel)) (fun _ _ _ _ _ => pg_name (i := 2) nd rfl (.inl rfl)) (fun _ _ _ _ _ => pts_one (pt_cmpR op_gt (pe_ix ix_tup (pv 0) (pv 2) (fun _ _ => rfl)) (pe_ix ix_tup (pv 1) (pv 2) (fun _ _ => rfl)) (nomark _))) (fun _ _ _ _ _ => pv 2)) (pe_lst pa_nil) (nomark _))), ?_⟩
    have hc : (((ns.map V.int).length : Nat) : Int).toNat = ns.length := by rw [toNat_len, List.length_map]
    refine ⟨_, rfl, a, _, rfl, .inr hA, _, rfl, by omega, by rw [List.length_map]; omega, fun D nD => lc_keep (walk_range (lo := 0)) (fun j => if decide (at0 ms j < at0 ns j) then some (V.int (j : Int)) else none) nD ?_ (fun H1 e => trivial) (fun j x H1 H2 P1 P0 hj sm1 y h1 h0 => ?_) (fun H1 sm e => ?_)⟩
    · rw [hc]; exact small1000 hz
    · rw [hc] at hj
      obtain ⟨rfl, rfl⟩ := y
      refine ⟨rfl, _, rfl, _, rfl, a, _, _, _, rfl, rfl, Same.tup sm1 hA, at_of (Int.zero_add _) (it0 hj), _, rfl, _, rfl, b, _, _, _, rfl, rfl, Same.tup sm1 hB, at_of (Int.zero_add _) (it0 (hl ▸ hj)), _, _, rfl, rfl, _, rfl, ?_⟩
      refine ite2 (fun e => ⟨_, rfl, h1 _ _ ?_ (Same.refl _)⟩) (fun e => h0 _ ?_ (Same.refl _))
      · rw [if_pos e]
        exact congrArg some at_lo
      · rw [if_neg e]
    · rw [hc, fm_sel] at e
      refine ⟨by decide, fun o no => ?_⟩
      have s2 := same_new (o := .lst []) no
      refine eq_lst (ns := selI (fun j => decide (at0 ms j < at0 ns j)) ns.length) (ms := []) (.inl (.inl (s2 _ _ e))) (sql_new (o := [])) ?_
      rw [dvd_sel rfl hl.symm]
      exact q _ (sm.trans s2)
theorem sc_law_in : FnScope ["generators", "b", "a"] ["generators", "b"] (defScope S_law_in) := ⟨rfl, rfl, rfl, by decide +kernel, rfl, by decide +kernel, by decide +kernel⟩
theorem ok_in {f fD : Addr} {fd dD : FuncData} (F : Fun K "_law_in" "_law_in" S_law_in f fd) (AD : At K mg "_law_divides" S_law_divides ["a", "b"] fD dD) (GD : FnOk P w K mg base CX0 1 fD dD ["a", "b"] (spLDvd K)) : FnOk P w K mg base CX0 2 f fd ["generators", "b"] (spIn K) := by
  refine F.ok sc_law_in (fun vs H Q E h => ?_) (fun cdv A outer s H vs Q E hr h => ?_)
  · obtain ⟨g, b, gs, c, rfl, _⟩ := h
    rfl
  · obtain ⟨g, b, gs, c, rfl, ⟨ks, rfl, hG, hR⟩, hB, hl, hz, hz2, q⟩ := h
    have nd := sc_law_in.nd
    refine ⟨_, pss_one (ps_ret (pe_cmpR (op_neD hr.units) (pe_lc (own := [("a", 2)]) (g := gName 2) (tt := tB (tCall (spLDvd K) [] E0 (tCons (tVar 2) (tCons (tVar 1) tNil)))) (by rfl) nd (pi_tup (pv 0)) (blkOk_by (own := [("a", 2)]) (N := ["generators", "b", "a"]) (sc := defScope S_law_in) (by decide +kernel)) (fun _ _ _ _ _ => pg_name (i := 2) nd rfl (.inl rfl)) (fun _ _ _ _ _ => pts_one (pt_val (pe_call GD hr (by rfl) AD.gl AD.fn.kp AD.bi .nil pass0 (pa_cons (pv 2) (pa_cons (pv 1) pa_nil))))) (fun _ _ _ _ _ => pv 2)) (pe_lst pa_nil) (nomark _))), ?_⟩
    rw [List.length_map] at hz2
    refine ⟨_, rfl, g, rfl, ⟨_, hG⟩, fun D nD => lc_keep (walk_tup (xs := refs ks)) (fun i => if dvdI (ks.getD i z0).2 c = true then some (V.ref (ks.getD i z0).1) else none) nD ?_ (fun H1 e => Same.tup e hG) (fun i x H1 H2 P1 P0 hi sm y k1 k0 => ?_) (fun H1 sm e => ?_)⟩
    · rw [List.length_map]; exact small1000 hz2
    · rw [List.length_map] at hi
      obtain ⟨rfl, hx⟩ := y
      obtain ⟨hi', rfl⟩ := refs_get hx
      refine ⟨rfl, _, rfl, _, rfl, ks[i].1, b, ks[i].2, c, rfl, Same.tup sm (hR _ (List.getElem_mem hi)), Same.tup sm hB, hl _ (mem_mons.mpr ⟨_, List.getElem_mem hi, rfl⟩), ?_, fun H3 s3 => ⟨_, rfl, ?_⟩⟩
      · rw [hl _ (mem_mons.mpr ⟨_, List.getElem_mem hi, rfl⟩)]; exact hz
      · refine ite2 (fun e => ⟨_, rfl, k1 _ _ ?_ s3⟩) (fun e => k0 _ ?_ s3)
        · rw [getD_at hi, if_pos e]
        · rw [getD_at hi, if_neg e]
    · rw [List.length_map, range_filt (fun p => dvdI p.2 c) (fun p => V.ref p.1) z0] at e
      refine ⟨by decide, fun o no => ?_⟩
      have s2 := same_new (o := .lst []) no
      have hR2 : Rows K (upd H1 o (.lst [])) (ks.filter fun p => dvdI p.2 c) := fun p hp => Same.tup (sm.trans s2) (hR p (List.mem_filter.mp hp).1)
      refine ⟨.list ((mons (ks.filter fun p => dvdI p.2 c)).map pM), .list [], .lst (.inl (.inl (s2 _ _ e))) (dp_rows hR2), .lst sql_new .nil, ?_, by decide, ?_⟩
      · have := sh_G (mons (ks.filter fun p => dvdI p.2 c))
        exact this
      · have e3 : (!PyData.eqv (.list ((mons (ks.filter fun p => dvdI p.2 c)).map pM)) (.list [])) = inG (mons ks) c := by
          have : PyData.eqv (.list ((mons (ks.filter fun p => dvdI p.2 c)).map pM)) (.list []) = decide (mons (ks.filter fun p => dvdI p.2 c) = []) := eqv_gens _ []
          rw [this, Bool.eq_iff_iff, inG_iff]
          simp [mem_mons]
          exact ⟨fun ⟨x, y, h1, h2⟩ => ⟨y, ⟨x, h1⟩, h2⟩, fun ⟨y, ⟨x, h1⟩, h2⟩ => ⟨x, y, h1, h2⟩⟩
        rw [e3]
        exact q _ (sm.trans s2)
theorem sc_law_least : FnScope ["monomials", "some", "a", "b"] ["monomials"] (defScope S_law_least) := ⟨rfl, rfl, rfl, by decide +kernel, rfl, by decide +kernel, by decide +kernel⟩
theorem ok_lleast {f fD : Addr} {fd dD : FuncData} (F : Fun K "_law_least" "_law_least" S_law_least f fd) (B : Bt mg) (AD : At K mg "_law_divides" S_law_divides ["a", "b"] fD dD) (GD : FnOk P w K mg base CX0 1 fD dD ["a", "b"] (spLDvd K)) : FnOk P w K mg base CX0 2 f fd ["monomials"] (spLLeast K) := by
  refine F.ok sc_law_least (fun vs H Q E h => ?_) (fun cdv A outer s H vs Q E hr h => ?_)
  · obtain ⟨l, ks, d, rfl, _⟩ := h
    rfl
  · obtain ⟨l, ks, d, rfl, hL, hR, hd, hd2, hm, h64, q⟩ := h
    have nd := sc_law_least.nd
    refine ⟨_, pss_cons (ps_set (i := 1) nd rfl (.inr rfl) (pe_sortSet (i := 0) rfl (.inl rfl) rfl hr.units (by rfl) B.sorted (by rfl) B.set))
      (pss_one (ps_ret (pe_callTy call_tuple_of (by rfl) B.tuple (by decide +kernel) (pa_cons (pe_lc (own := [("a", 2)]) (g := gName 2) (tt := tTest (tOp (rEqD K) (tLc (iList K (tVar 1)) (gName 3) (tAnd (tTest (tOp (rNeD K) (tVar 3) (tVar 2))) (tB (tCall (spLDvd K) [] E0 (tCons (tVar 3) (tCons (tVar 2) tNil))))) (tVar 3) [3]) (tLst tNil))) (by rfl) nd (pi_list (pv 1)) (blkOk_by (own := [("a", 2)]) (N := ["monomials", "some", "a", "b"]) (sc := defScope S_law_least) (by decide +kernel)) (fun _ _ _ _ _ => pg_name (i := 2) nd rfl (.inr rfl)) (fun _ _ _ _ _ => pts_one (pt_cmpR (op_eqD hr.units) (pe_lc (own := [("b", 3)]) (g := gName 3) (tt := tAnd (tTest (tOp (rNeD K) (tVar 3) (tVar 2))) (tB (tCall (spLDvd K) [] E0 (tCons (tVar 3) (tCons (tVar 2) tNil))))) (by rfl) nd (pi_list (pv 1)) (blkOk_by (own := [("b", 3)]) (N := ["monomials", "some", "a", "b"]) (sc := leastSc) (by decide +kernel)) (fun _ _ _ _ _ => pg_name (i := 3) nd rfl (.inl rfl)) (fun _ _ _ _ _ => pts_one (PW.pt (pw_and (pt_cmpR (op_neD hr.units) (pv 3) (pv 2) (nomark _)) (pw_and1 (pt_val (pe_call GD hr (by rfl) AD.gl AD.fn.kp AD.bi .nil pass0 (pa_cons (pv 3) (pa_cons (pv 2) pa_nil)))))))) (fun _ _ _ _ _ => pv 3)) (pe_lst pa_nil) (nomark _))) (fun _ _ _ _ _ => pv 2)) pa_nil)))), ?_⟩
    refine ⟨l, ks, d, rfl, hL, hR, hd, hm, h64, fun p H1 L s1 np hp hsub hmem hasc hlen => ?_⟩
    have qL : SqL K H1 p (refs L) := .inl (.inl hp)
    have hRL : Rows K H1 L := fun x hx => Same.tup s1 (hR x (hsub x hx))
    have hmL : ∀ x ∈ L, Mon d x.2 := fun x hx => hm x (hsub x hx)
    let keep : Addr × List Int → Bool := fun x => decide (L.filter (fun y => !decide (y.2 = x.2) && dvdI y.2 x.2) = [])
    refine ⟨_, rfl, p, rfl, ⟨_, qL⟩, fun D nD => lc_keep (walk_list (xs := refs L)) (fun i => if keep (L.getD i z0) = true then some (V.ref (L.getD i z0).1) else none) nD ?_ (fun H2 e => e.seq qL) (fun i x H2 H2' P1 P0 hi sm y k1 k0 => ?_) (fun H2 sm e => ?_)⟩
    · rw [List.length_map]; exact small1000 (by omega)
    · rw [List.length_map] at hi
      obtain ⟨rfl, hx⟩ := y
      obtain ⟨hi', rfl⟩ := refs_get hx
      refine ⟨rfl, ?_⟩
      refine ⟨_, rfl, p, rfl, ⟨_, sm.seq qL⟩, fun D2 nD2 => lc_keep (walk_list (xs := refs L)) (fun j => if (!decide ((L.getD j z0).2 = L[i].2) && dvdI (L.getD j z0).2 L[i].2) = true then some (V.ref (L.getD j z0).1) else none) nD2 ?_ (fun H3 e => (sm.trans e).seq qL) (fun j x H3 H3' P1' P0' hj sm3 y k1' k0' => ?_) (fun H3 sm3 e => ?_)⟩
      · rw [List.length_map]; exact small1000 (by omega)
      · rw [List.length_map] at hj
        obtain ⟨rfl, hx⟩ := y
        obtain ⟨hj', rfl⟩ := refs_get hx
        have ri := Same.tup (sm.trans sm3) (hRL _ (List.getElem_mem hi))
        have rj := Same.tup (sm.trans sm3) (hRL _ (List.getElem_mem hj))
        have li := (hmL _ (List.getElem_mem hi)).1
        have lj := (hmL _ (List.getElem_mem hj)).1
        refine ⟨rfl, _, rfl, _, rfl, ne_tup rj ri ⟨_, rfl, ?_⟩⟩
        refine ite2 (fun e1 => ?_) (fun e1 => ?_)
        · refine ⟨_, rfl, _, rfl, L[j].1, L[i].1, L[j].2, L[i].2, rfl, rj, ri, lj.trans li.symm, by rw [lj]; exact hd2, fun H4 s4 => ⟨_, rfl, ?_⟩⟩
          refine ite2 (fun e2 => ⟨_, rfl, k1' _ _ ?_ s4⟩) (fun e2 => k0' _ ?_ s4)
          · rw [getD_at hj, e1, e2]
            rfl
          · rw [getD_at hj, if_neg (by rw [e1]; simpa using e2)]
        · refine k0' _ ?_ (Same.refl _)
          rw [getD_at hj, if_neg (by
            have : (!decide (L[j].2 = L[i].2)) = false := by simpa using e1
            rw [this]; simp)]
      · rw [List.length_map, range_filt (fun y => !decide (y.2 = L[i].2) && dvdI y.2 L[i].2) (fun y => V.ref y.1) z0] at e
        refine ⟨by decide, fun o no => ?_⟩
        have s2 := same_new (o := .lst []) no
        have hR2 : Rows K (upd H3 o (.lst [])) (L.filter fun y => !decide (y.2 = L[i].2) && dvdI y.2 L[i].2) := fun x hx => Same.tup ((sm.trans sm3).trans s2) (hRL x (List.mem_filter.mp hx).1)
        refine ⟨.list ((mons (L.filter fun y => !decide (y.2 = L[i].2) && dvdI y.2 L[i].2)).map pM), .list [], .lst (.inl (.inl (s2 _ _ e))) (dp_rows hR2), .lst sql_new .nil, sh_G _, by decide, _, rfl, ?_⟩
        have e3 : PyData.eqv (.list ((mons (L.filter fun y => !decide (y.2 = L[i].2) && dvdI y.2 L[i].2)).map pM)) (.list []) = keep L[i] := by
          have : PyData.eqv (.list ((mons (L.filter fun y => !decide (y.2 = L[i].2) && dvdI y.2 L[i].2)).map pM)) (.list []) = decide (mons (L.filter fun y => !decide (y.2 = L[i].2) && dvdI y.2 L[i].2) = []) := eqv_gens _ []
          rw [this, Bool.eq_iff_iff, decide_eq_true_iff, decide_eq_true_iff, List.map_eq_nil_iff]
        rw [e3]
        refine ite2 (fun e1 => ⟨_, rfl, k1 _ _ ?_ (sm3.trans s2)⟩) (fun e1 => k0 _ ?_ (sm3.trans s2))
        · rw [getD_at hi, if_pos e1]
        · rw [getD_at hi, if_neg e1]
    · rw [List.length_map, range_filt keep (fun y => V.ref y.1) z0] at e
      refine ⟨D, _, rfl, .inl ⟨.inl (.inl e), fun g ng => ?_⟩⟩
      have s3 := same_new (o := .tup (refs (L.filter keep))) ng
      have hmin : MinOf (mons L) (mons (L.filter keep)) := by
        have e4 : mons (L.filter keep) = (mons L).filter fun a => decide ((mons L).filter (fun b => !decide (b = a) && dvdI b a) = []) := by
          show (L.filter keep).map _ = (L.map _).filter _
          rw [List.filter_map]
          congr 1
          apply List.filter_congr
          intro x _
          show decide (L.filter _ = []) = decide ((L.map _).filter _ = [])
          rw [List.filter_map, Bool.eq_iff_iff, decide_eq_true_iff, decide_eq_true_iff, List.map_eq_nil_iff]
          rfl
        rw [e4]
        exact min_filter (d := d) hasc
      refine q g _ (mons (L.filter keep)) ((s1.trans sm).trans s3) ⟨hmin.asc, fun x => ?_⟩ ⟨L.filter keep, rfl, sqt_new, fun x hx => Same.tup (sm.trans s3) (hRL x (List.mem_filter.mp hx).1)⟩
      rw [hmin.mem, hmem x]
      constructor
      · rintro ⟨h1, h2⟩; exact ⟨h1, fun y hy => h2 y ((hmem y).mpr hy)⟩
      · rintro ⟨h1, h2⟩; exact ⟨h1, fun y hy => h2 y ((hmem y).mp hy)⟩
end
end JN

set_option maxRecDepth 100000
set_option maxHeartbeats 8000000
namespace JN
open PySem PySem.Spec PyProof.Rows L2
def spMonomial : Sp := fun vs H Q _ => ∃ (d c : Addr) (n : Nat) (top : Int) (m : Nat), vs = [.ref d, .int (n : Int), .int top] ∧ Drw H d c m ∧ m ≤ 100000 ∧ n ≤ 12 ∧ 0 ≤ top ∧ top ≤ 60 ∧
  ∀ (p : Addr) (H' : Hp) (ns : List Int), ns.length = n → (∀ x ∈ ns, 0 ≤ x ∧ x ≤ top) → Kp [d] H H' → Drw H' d c (m + 24) → H' p = some (.tup (ns.map V.int)) → Q (.ref p) H'
/-- drawn monomials -/
def Few (n : Nat) (top : Int) (p : List Int) : Prop := p.length = n ∧ ∀ x ∈ p, 0 ≤ x ∧ x ≤ top
theorem Few.mon {n : Nat} {top : Int} {p : List Int} (h : Few n top p) (ht : top ≤ 60) : Mon n p := ⟨h.1, fun x hx => ⟨(h.2 x hx).1, by have := (h.2 x hx).2; show x < 1099511627776; omega⟩⟩
theorem Few.le {n : Nat} {top : Int} {p : List Int} (h : Few n top p) (ht : top ≤ 60) : Le60 p := fun x hx => by have := (h.2 x hx).2; omega
def spLIdeal (K : PySem.W.Frag) : Sp := fun vs H Q _ => ∃ (d c : Addr) (n : Nat) (count : Nat) (top : Int) (m : Nat), vs = [.ref d, .int (n : Int), .int (count : Int), .int top] ∧ Drw H d c m ∧ m ≤ 50000 ∧ 1 ≤ n ∧ n ≤ 12 ∧ count ≤ 40 ∧ 0 ≤ top ∧ top ≤ 60 ∧
  ∀ (v : Addr) (H' : Hp) (R : List (List Int)), Kp [d] H H' → Drw H' d c (m + 1000) → IsI K H' v n R → Gens n R → (∀ p ∈ R, Few n top p) → R.length ≤ count → Q (.ref v) H'
section
variable {P : Program} {w : World} {K : PySem.W.Frag} {mg : Str → Option Value} {base : Heap}
theorem sc_law_monomial : FnScope ["m", "n", "top", "k"] ["m", "n", "top"] (defScope S_law_monomial) := ⟨rfl, rfl, rfl, by decide +kernel, rfl, by decide +kernel, by decide +kernel⟩
theorem ok_monomial {f fD : Addr} {fd fdD : FuncData} (F : Fun K "_law_monomial" "_law_monomial" S_law_monomial f fd) (B : Bt mg) (AW : At K mg "_law_draw" S_law_draw ["m", "below"] fD fdD) (GW : FnOk P w K mg base CX0 1 fD fdD ["m", "below"] spDraw) : FnOk P w K mg base CX0 2 f fd ["m", "n", "top"] spMonomial := by
  refine F.ok sc_law_monomial (fun vs H Q E h => ?_) (fun cdv A outer s H vs Q E hr h => ?_)
  · obtain ⟨d, c, n, top, m, rfl, _⟩ := h
    rfl
  · obtain ⟨d, c, n, top, m, rfl, hD, hm, hn, hw1, hw2, q⟩ := h
    have nd := sc_law_monomial.nd
    refine ⟨_, pss_one (ps_ret (pe_callTy call_tuple_of (by rfl) B.tuple (by decide +kernel) (pa_cons (pe_lc (own := [("k", 3)]) (g := gName 3) (by rfl) nd (pi_range1 (by rfl) B.range (pa_cons (pv 1) pa_nil))
        (blkOk_by (own := [("k", 3)]) (N := ["m", "n", "top", "k"]) (sc := defScope S_law_monomial) (by decide +kernel))
        (fun _ _ _ _ _ => pg_name (i := 3) nd rfl (.inl rfl)) (fun _ _ _ _ _ => pts_nil)
        (fun _ _ _ _ _ => pe_ifExp (pt_cmpR op_gt (pe_call GW hr (by rfl) AW.gl AW.fn.kp AW.bi .nil pass0 (pa_cons (pv 0) (pa_cons pe_int pa_nil))) pe_int (nomark _)) (pe_call GW hr (by rfl) AW.gl AW.fn.kp AW.bi .nil pass0 (pa_cons (pv 0) (pa_cons (pe_op op_add (pv 2) pe_int) pa_nil))) pe_int)) pa_nil))), ?_⟩
    refine ⟨_, rfl, _, rfl, by omega, by omega, fun D nD => ?_⟩
    obtain ⟨neD, neC⟩ := hD.ne nD
    refine lc_range (n := ((n : Nat) : Int).toNat) (fun i H1 => ∃ ns : List Int, ns.length = i ∧ (∀ x ∈ ns, 0 ≤ x ∧ x ≤ top) ∧ Kp [d] H H1 ∧ Drw H1 d c (m + 2 * i) ∧ H1 D = some (.lst (ns.map V.int))) ?_ (fun i H1 hi h => ?_) (fun H1 h => ?_)
    · exact ⟨[], rfl, by simp, Kp.of (same_new nD), hD.same (same_new nD) (Nat.le_refl _), upd_same⟩
    · obtain ⟨ns, hl, ha, kp, hD1, eD⟩ := h
      have hi' : i < n := hi
      refine ⟨rfl, yes_ok ?_⟩
      have step : ∀ (y : Int) (H3 : Hp), 0 ≤ y → y ≤ top → Kp [d] H H3 → Drw H3 d c (m + 2 * (i + 1)) → H3 D = some (.lst (ns.map V.int)) →
          ∃ acc, H3 D = some (.lst acc) ∧ acc.length < sizeLine ∧ ∃ ns' : List Int, ns'.length = i + 1 ∧ (∀ x ∈ ns', 0 ≤ x ∧ x ≤ top) ∧ Kp [d] H (upd H3 D (.lst (acc ++ [V.int y]))) ∧ Drw (upd H3 D (.lst (acc ++ [V.int y]))) d c (m + 2 * (i + 1)) ∧ (upd H3 D (.lst (acc ++ [V.int y]))) D = some (.lst (ns'.map V.int)) := by
        intro y H3 y0 y1 kp3 hD3 e3
        obtain ⟨acc, f0, f1, f2, f3, f4⟩ := dr_step (y := y) nD neD neC hD3 kp3 e3 (by omega)
        refine ⟨acc, f0, f1, ns ++ [y], by rw [List.length_append, hl]; rfl, fun x hx => ?_, f2, f3, f4⟩
        rcases List.mem_append.mp hx with h | h
        · exact ha x h
        · rw [List.mem_singleton.mp h]; exact ⟨y0, y1⟩
      refine ⟨_, rfl, d, c, 3, m + 2 * i, rfl, hD1, by omega, by decide, by decide, fun r H2 h0 h1 kp2 hD2 => ⟨_, _, rfl, rfl, _, rfl, ?_⟩⟩
      have e2 : H2 D = some (.lst (ns.map V.int)) := kp2 _ _ eD (by simpa using neD)
      refine ite2 (fun e => ?_) (fun e => ?_)
      · refine ⟨_, rfl, _, rfl, _, _, rfl, rfl, d, c, top + 1, m + 2 * i + 1, rfl, hD2, by omega, by omega, by omega, fun r2 H3 h2 h3 kp3 hD3 => step r2 H3 h2 (by omega) ((kp.trans kp2).trans kp3) ?_ (kp3 _ _ e2 (by simpa using neD))⟩
        rw [show m + 2 * (i + 1) = m + 2 * i + 1 + 1 by omega]
        exact hD3
      · exact step 0 H2 (by decide) (by omega) (kp.trans kp2) (hD2.same (Same.refl _) (by omega)) e2
    · obtain ⟨ns, hl, ha, kp, hD1, eD⟩ := h
      have hl' : ns.length = n := hl
      refine ⟨D, _, rfl, .inl ⟨.inl (.inl eD), fun l nl => q l _ ns hl' ha (kp.trans (Kp.of (same_new nl))) (hD1.same (same_new nl) (by show m + 2 * n ≤ m + 24; omega)) upd_same⟩⟩
theorem sc_law_ideal : FnScope ["m", "n", "count", "top", "some", "k", "a"] ["m", "n", "count", "top"] (defScope S_law_ideal) := ⟨rfl, rfl, rfl, by decide +kernel, rfl, by decide +kernel, by decide +kernel⟩
theorem ok_lideal {f fD fM fL : Addr} {fd fdD dM dL : FuncData} (F : Fun K "_law_ideal" "_law_ideal" S_law_ideal f fd) (B : Bt mg) (AW : At K mg "_law_draw" S_law_draw ["m", "below"] fD fdD) (GW : FnOk P w K mg base CX0 1 fD fdD ["m", "below"] spDraw)
    (AM : At K mg "_law_monomial" S_law_monomial ["m", "n", "top"] fM dM) (GM : FnOk P w K mg base CX0 2 fM dM ["m", "n", "top"] spMonomial) (AL : At K mg "_law_least" S_law_least ["monomials"] fL dL) (GL : FnOk P w K mg base CX0 2 fL dL ["monomials"] (spLLeast K)) : FnOk P w K mg base CX0 3 f fd ["m", "n", "count", "top"] (spLIdeal K) := by
  refine F.ok sc_law_ideal (fun vs H Q E h => ?_) (fun cdv A outer s H vs Q E hr h => ?_)
  · obtain ⟨d, c, n, count, top, m, rfl, _⟩ := h
    rfl
  · obtain ⟨d, c, n, count, top, m, rfl, hD, hm, hn1, hn, hcn, ht0, ht, q⟩ := h
    have nd := sc_law_ideal.nd
    refine ⟨_, pss_cons (ps_setLc (i := 4) (own := [("k", 5)]) (g := gName 5) (te := tCall spMonomial [] E0 (tCons (tVar 0) (tCons (tVar 1) (tCons (tVar 3) tNil)))) (by rfl) nd rfl rfl (sw_true rfl rfl rfl (by decide +kernel)) (pi_range1 (by rfl) B.range (pa_cons (pe_call GW (hr.mono (by decide)) (by rfl) AW.gl AW.fn.kp AW.bi .nil pass0 (pa_cons (pv 0) (pa_cons (pe_op op_add (pv 2) pe_int) pa_nil))) pa_nil)) (blkOk_by (own := [("k", 5)]) (N := ["m", "n", "count", "top", "some", "k", "a"]) (sc := defScope S_law_ideal) (by decide +kernel)) (fun _ _ _ _ _ => pg_name (i := 5) nd rfl (.inl rfl)) (fun _ _ _ _ _ => pts_nil) (fun _ _ _ _ _ => pe_call GM hr (by rfl) AM.gl AM.fn.kp AM.bi .nil pass0 (pa_cons (pv 0) (pa_cons (pv 1) (pa_cons (pv 3) pa_nil)))))
      (pss_one (ps_ret (pe_tup (pa_cons (pv 1) (pa_cons (pe_call GL hr (by rfl) AL.gl AL.fn.kp AL.bi .nil pass0 (pa_cons (pe_lc (own := [("a", 6)]) (g := gName 6) (tt := tTest (tOp (rI0 fun i j => .bl (decide (j < i))) (tCB (rSumT K) (tCons (tVar 6) tNil)) (tC (.int 0)))) (by rfl) nd (pi_list (pv 4)) (blkOk_by (own := [("a", 6)]) (N := ["m", "n", "count", "top", "some", "k", "a"]) (sc := defScope S_law_ideal) (by decide +kernel)) (fun _ _ _ _ _ => pg_name (i := 6) nd rfl (.inl rfl)) (fun _ _ _ _ _ => pts_one (pt_cmpR op_gt (pe_callB (cr_sumT (by rfl)) (by rfl) B.sum (by decide +kernel) (pa_cons (pv 6) pa_nil)) pe_int (nomark _))) (fun _ _ _ _ _ => pv 6)) pa_nil)) pa_nil))))), ?_⟩
    refine ⟨_, rfl, _, rfl, _, _, rfl, rfl, d, c, (count : Int) + 1, m, rfl, hD, by omega, by omega, by omega, fun r H1 r0 r1 k1 hD1 => ⟨r, rfl, by omega, by omega, fun D nD => ?_⟩⟩
    obtain ⟨neD, neC⟩ := hD1.ne nD
    refine lc_range (n := r.toNat) (fun i H2 => ∃ ks : List (Addr × List Int), ks.length = i ∧ H2 D = some (.lst (refs ks)) ∧ Rows K H2 ks ∧ (∀ p ∈ ks, Few n top p.2) ∧ Kp [d] H1 H2 ∧ Drw H2 d c (m + 1 + 24 * i)) ?_ (fun i H2 hi h => ?_) (fun H2 h => ?_)
    · exact ⟨[], rfl, upd_same, fun p hp => absurd hp List.not_mem_nil, fun p hp => absurd hp List.not_mem_nil, Kp.of (same_new nD), hD1.same (same_new nD) (Nat.le_refl _)⟩
    · obtain ⟨ks, hl, eD, hR, hf, kp, hD2⟩ := h
      refine ⟨rfl, yes_ok ?_⟩
      refine ⟨_, rfl, _, rfl, _, rfl, d, c, n, top, m + 1 + 24 * i, rfl, hD2, by omega, hn, ht0, ht, fun p H3 ns ln hns k3 hD3 ep => ?_⟩
      have eD3 := k3 _ _ eD (by simpa using neD)
      refine ⟨_, eD3, by rw [List.length_map]; exact small1000 (by omega), ks ++ [(p, ns)], by rw [List.length_append, hl]; rfl, by rw [upd_same, refs_app]; rfl, fun y hy => ?_, fun y hy => ?_, fun b o e nb => ?_, hD3.put neD neC⟩
      · have k4 : Kp [D] H3 (upd H3 D (.lst (refs ks ++ [V.ref p]))) := (Kp.refl H3).upd (List.mem_singleton.mpr rfl)
        refine k4.tupL eD3 ?_
        rcases List.mem_append.mp hy with h | h
        · exact k3.tupD hD2 (hR y h)
        · rw [List.mem_singleton.mp h]
          exact .inl (.inl ep)
      · rcases List.mem_append.mp hy with h | h
        · exact hf y h
        · rw [List.mem_singleton.mp h]
          exact ⟨ln, hns⟩
      · rw [upd_ne (ne_of_none e nD)]
        exact k3 _ _ (kp _ _ e nb) nb
    · obtain ⟨ks, hl, eD, hR, hf, kp, hD2⟩ := h
      have qD : SqL K H2 D (refs ks) := .inl (.inl eD)
      let pos : Addr × List Int → Bool := fun p => decide (0 < p.2.sum)
      refine ⟨_, rfl, _, rfl, D, rfl, ⟨_, qD⟩, fun D2 nD2 => lc_keep (walk_list (xs := refs ks)) (fun i => if pos (ks.getD i z0) = true then some (V.ref (ks.getD i z0).1) else none) nD2 ?_ (fun H3 e => e.seq qD) (fun i x H3 H3' P1 P0 hi sm y y1 y0 => ?_) (fun H3 sm e => ?_)⟩
      · rw [List.length_map]; exact small1000 (by omega)
      · rw [List.length_map] at hi
        obtain ⟨rfl, hx⟩ := y
        obtain ⟨hi', rfl⟩ := refs_get hx
        refine ⟨rfl, _, rfl, ks[i].1, ks[i].2, rfl, Same.tup sm (hR _ (List.getElem_mem hi)), _, _, rfl, rfl, _, rfl, ?_⟩
        refine ite2 (fun e => ⟨_, rfl, y1 _ _ ?_ (Same.refl _)⟩) (fun e => y0 _ ?_ (Same.refl _))
        · rw [getD_at hi, if_pos e]
        · rw [getD_at hi, if_neg e]
      · rw [List.length_map, range_filt pos (fun p => V.ref p.1) z0] at e
        have hR3 : Rows K H3 (ks.filter pos) := fun p hp => Same.tup sm (hR p (List.mem_filter.mp hp).1)
        have hf3 : ∀ p ∈ ks.filter pos, Few n top p.2 := fun p hp => hf p (List.mem_filter.mp hp).1
        have hl3 : (ks.filter pos).length ≤ count := by
          have := List.length_filter_le pos ks
          omega
        refine ⟨D2, ks.filter pos, n, rfl, .inl (.inl (.inl e)), hR3, hn1, by omega, fun p hp => (hf3 p hp).mon ht, by omega, fun g H4 R s4 hmin hg => ⟨by show 2 ≤ sizeLine; decide, fun v nv => ?_⟩⟩
        have s5 := same_new (o := .tup [V.int (n : Int), V.ref g]) nv
        have hmm : ∀ p ∈ mons (ks.filter pos), Mon n p := fun p hp => by
          obtain ⟨x, h1, rfl⟩ := mem_mons.mp hp
          exact (hf3 x h1).mon ht
        refine q v _ R ((k1.trans kp).trans (Kp.of ((sm.trans s4).trans s5))) (hD2.same ((sm.trans s4).trans s5) (by omega)) ⟨g, sqt_new, hg.same s5⟩ (hmin.gens hmm) (fun p hp => ?_) ?_
        · obtain ⟨x, h1, rfl⟩ := mem_mons.mp (hmin.sub hp)
          exact hf3 x h1
        · have h1 : R.Nodup := List.Pairwise.imp (fun {a b} h e => by rw [e] at h; omega) hmin.asc
          have h2 : R.length ≤ (mons (ks.filter pos)).length := nodup_len h1 fun x hx => hmin.sub hx
          rw [List.length_map] at h2
          omega
end
end JN

set_option maxRecDepth 100000
set_option maxHeartbeats 8000000
namespace JN
open PySem PySem.Spec PyProof.Rows L2
/-- the box's monomials: as many exponents as tops, none negative, none great -/
def spBox (K : PySem.W.Frag) : Sp := fun vs H Q _ => ∃ (t : Addr) (tops : List Int), vs = [.ref t] ∧ SqT K H t (tops.map V.int) ∧ tops.length ≤ 4 ∧ (∀ x ∈ tops, 0 ≤ x ∧ x ≤ 5) ∧
  ∀ (l : Addr) (H' : Hp) (ks : List (Addr × List Int)), Same H H' → H' l = some (.lst (refs ks)) → Rows K H' ks → (∀ p ∈ ks, Few tops.length 5 p.2) → Q (.ref l) H'
theorem pow6 {i : Nat} (h : i ≤ 4) : 6 ^ i ≤ 1296 := by
  have : ∀ i, i < 5 → 6 ^ i ≤ 1296 := by decide
  exact this i (by omega)
/-- the reading of _law_box -/
theorem cat_one {K : PySem.W.Frag} {H H0 : Hp} {a o : Addr} {ns : List Int} {z : Int} {Q : VK} (hA : SqT K H a (ns.map V.int)) (ho : H o = some (.tup [V.int z])) (hz : ns.length ≤ 1000) (q : ∀ (x : Addr) (H' : Hp), Same H H' → SqT K H' x ((ns ++ [z]).map V.int) → Q (.ref x) H') : rCatA K (.ref a) (.ref o) H Q := by
  refine ⟨a, o, ns.map V.int, [V.int z], rfl, rfl, hA, .inl (.inl ho), ?_, fun e => ?_, fun _ e => absurd e (List.cons_ne_nil _ _), fun _ _ p np => ?_⟩
  · rw [List.length_map, sizeLine_eq]
    show ns.length + 1 ≤ _
    omega
  · have : ns = [] := by simpa using e
    subst this
    exact q o H (Same.refl H) (.inl (.inl ho))
  · refine q p _ (same_new np) ?_
    rw [List.map_append]
    exact sqt_new
section
variable {P : Program} {w : World} {K : PySem.W.Frag} {mg : Str → Option Value} {base : Heap}
theorem sc_law_box : FnScope ["tops", "found", "top", "wider", "a", "k"] ["tops"] (defScope S_law_box) := ⟨rfl, rfl, rfl, by decide +kernel, rfl, by decide +kernel, by decide +kernel⟩
theorem ok_box {f : Addr} {fd : FuncData} (F : Fun K "_law_box" "_law_box" S_law_box f fd) (B : Bt mg) : FnOk P w K mg base CX0 1 f fd ["tops"] (spBox K) := by
  refine F.ok sc_law_box (fun vs H Q E h => ?_) (fun cdv A outer s H vs Q E hr h => ?_)
  · obtain ⟨t, tops, rfl, _⟩ := h
    rfl
  · obtain ⟨t, tops, rfl, hT, hl, hb, q⟩ := h
    have nd := sc_law_box.nd
    refine ⟨_, pss_cons (ps_set (i := 1) nd rfl (.inl rfl) (pe_lst (pa_cons (pe_tup pa_nil) pa_nil)))
      (pss_cons (ps_for PassesOwn.never rfl (pi_tup (pv 0)) (pg_name (i := 2) nd rfl (.inl rfl))
        (pss_cons (ps_set (i := 3) nd rfl (.inl rfl) (pe_lst pa_nil))
        (pss_cons (ps_for PassesOwn.never rfl (pi_list (pv 1)) (pg_name (i := 4) nd rfl (.inr rfl))
          (pss_one (ps_expr (pe_bm PySem.F.plainAttrs_list PySem.F.slot_list_extend PySem.F.type_list_extend mt_extend (pv 3) (pa_cons (pe_lc (own := [("k", 5)]) (g := gName 5) (te := tOp (rCatA K) (tVar 4) (tTup (tCons (tVar 5) tNil))) (by rfl) nd (pi_range1 (by rfl) B.range (pa_cons (pe_op op_add (pv 2) pe_int) pa_nil)) (blkOk_by (own := [("k", 5)]) (N := ["tops", "found", "top", "wider", "a", "k"]) (sc := defScope S_law_box) (by decide +kernel)) (fun _ _ _ _ _ => pg_name (i := 5) nd rfl (.inl rfl)) (fun _ _ _ _ _ => pts_nil) (fun _ _ _ _ _ => pe_op op_catA (pv 4) (pe_tup (pa_cons (pv 5) pa_nil)))) pa_nil)))))
        (pss_one (ps_set (i := 1) nd rfl (.inl rfl) (pv 3))))))
      (pss_one (ps_ret (pv 1)))), ?_⟩
    refine ⟨by decide, fun e0 n0 => ⟨(by show 1 ≤ sizeLine; decide), fun f0 nf => ?_⟩⟩
    have s1 := same_new (o := .tup []) n0
    have s2 := same_new (o := .lst [V.ref e0]) nf
    refine ⟨_, rfl, t, rfl, ⟨_, Same.tup (s1.trans s2) hT⟩, for_tup (xs := tops.map V.int) (fun i σ H1 => Same H H1 ∧ ∃ (l : Addr) (ks : List (Addr × List Int)) (z2 z3 z4 z5 : Option V), σ = [some (.ref t), some (.ref l), z2, z3, z4, z5] ∧ H1 l = some (.lst (refs ks)) ∧ Rows K H1 ks ∧ ks.length ≤ 6 ^ i ∧ ∀ p ∈ ks, Few i 5 p.2)
      ⟨s1.trans s2, f0, [(e0, [])], _, _, _, _, rfl, upd_same, fun p hp => ?_, Nat.le_refl _, fun p hp => ?_⟩ (fun i σ H1 _ h => Same.tup h.1 hT) (fun i x σ H1 hx h => ?_) (fun σ H1 h => ?_)⟩
    · rw [List.mem_singleton.mp hp]
      exact Same.tup s2 sqt_new
    · rw [List.mem_singleton.mp hp]
      exact ⟨rfl, fun x hx => absurd hx List.not_mem_nil⟩
    · obtain ⟨sm, l, ks, z2, z3, z4, z5, rfl, el, hR, hk, hf⟩ := h
      have hi := (List.getElem?_eq_some_iff.mp hx).1
      rw [List.length_map] at hi
      obtain rfl : V.int (at0 tops i) = x := Option.some.inj ((it0 hi).symm.trans hx)
      have ht := hb (at0 tops i) (List.mem_of_getElem? (at0_get hi))
      have p6 := pow6 (show i ≤ 4 by omega)
      refine ⟨by decide, fun W nW => ?_⟩
      have s3 := same_new (o := .lst []) nW
      have nlW : l ≠ W := ne_of_none el nW
      have qL : SqL K (upd H1 W (.lst [])) l (refs ks) := .inl (.inl (s3 _ _ el))
      refine ⟨_, rfl, l, rfl, ⟨_, qL⟩, for_list (xs := refs ks) (fun j σ H2 => Same H1 H2 ∧ ∃ (ws : List (Addr × List Int)) (z4 z5 : Option V), σ = [some (.ref t), some (.ref l), some (.int (at0 tops i)), some (.ref W), z4, z5] ∧ H2 W = some (.lst (refs ws)) ∧ Rows K H2 ws ∧ ws.length ≤ 6 * j ∧ ∀ p ∈ ws, Few (i + 1) 5 p.2)
        ⟨s3, [], _, _, rfl, upd_same, fun p hp => absurd hp List.not_mem_nil, Nat.le_refl _, fun p hp => absurd hp List.not_mem_nil⟩ (fun j σ H2 _ h => .inl (.inl (h.1 _ _ el))) (fun j x σ H2 hx h => ?_) (fun σ H2 h => ?_)⟩
      · obtain ⟨s4, ws, y4, y5, rfl, eW, hRW, hlw, hfw⟩ := h
        obtain ⟨hj, rfl⟩ := refs_get hx
        have hKj := hf _ (List.getElem_mem hj)
        refine ⟨_, rfl, .inl ⟨rfl, _, .inl (.inl eW)⟩, _, rfl, _, _, rfl, rfl, _, rfl, by omega, by omega, fun D nD => ?_⟩
        refine lc_range (n := (at0 tops i + 1).toNat) (fun u H3 => Same H2 H3 ∧ ∃ us : List (Addr × List Int), us.length = u ∧ H3 D = some (.lst (refs us)) ∧ Rows K H3 us ∧ ∀ p ∈ us, Few (i + 1) 5 p.2) ?_ (fun u H3 hu h => ?_) (fun H3 h => ?_)
        · exact ⟨same_new nD, [], rfl, upd_same, fun p hp => absurd hp List.not_mem_nil, fun p hp => absurd hp List.not_mem_nil⟩
        · obtain ⟨s5, us, lu, eD, hRU, hfu⟩ := h
          refine ⟨rfl, yes_ok ?_⟩
          refine ⟨_, rfl, _, rfl, (by show 1 ≤ sizeLine; decide), fun o no => ?_⟩
          have s6 := same_new (o := .tup [V.int (0 + (u : Int))]) no
          refine cat_one (H0 := H) (Same.tup ((s4.trans s5).trans s6) (hR _ (List.getElem_mem hj))) upd_same (by rw [hKj.1]; omega) fun x H4 s7 hx4 => ?_
          have s67 := s6.trans s7
          have eD4 := s67 _ _ eD
          have kp : Kp [D] H4 (upd H4 D (.lst (refs us ++ [V.ref x]))) := (Kp.refl H4).upd (List.mem_singleton.mpr rfl)
          refine ⟨_, eD4, by rw [List.length_map]; exact small1000 (by omega), fun b o e => ?_, us ++ [(x, ks[j].2 ++ [0 + (u : Int)])], by rw [List.length_append, lu]; rfl, by rw [upd_same, refs_app]; rfl, fun p hp => ?_, fun p hp => ?_⟩
          · rw [upd_ne (ne_of_none e nD)]
            exact s67 _ _ (s5 _ _ e)
          · refine kp.tupL eD4 ?_
            rcases List.mem_append.mp hp with h | h
            · exact Same.tup s67 (hRU p h)
            · rw [List.mem_singleton.mp h]; exact hx4
          · rcases List.mem_append.mp hp with h | h
            · exact hfu p h
            · rw [List.mem_singleton.mp h]
              refine ⟨by show (ks[j].2 ++ [0 + (u : Int)]).length = i + 1; rw [List.length_append, hKj.1]; rfl, fun x hx => ?_⟩
              rcases List.mem_append.mp hx with h | h
              · exact hKj.2 x h
              · rw [List.mem_singleton.mp h]
                omega
        · obtain ⟨s5, us, lu, eD, hRU, hfu⟩ := h
          have eW3 := s5 _ _ eW
          have hlu : us.length ≤ 6 := by omega
          have hws : ws.length + us.length ≤ 10000 := by
            have : 6 * j ≤ 6 * 1296 := by omega
            omega
          have kp : Kp [W] H3 (upd H3 W (.lst (refs ws ++ refs us))) := (Kp.refl H3).upd (List.mem_singleton.mpr rfl)
          refine ⟨W, D, _, _, rfl, rfl, eW3, eD, ?_, fun b o e => ?_, ws ++ us, _, _, rfl, by rw [upd_same, refs_app], fun p hp => ?_, ?_, fun p hp => ?_⟩
          · rw [List.length_map, List.length_map, sizeLine_eq]; omega
          · rw [upd_ne (ne_of_none e nW)]
            exact s5 _ _ (s4 _ _ e)
          · refine kp.tupL eW3 ?_
            rcases List.mem_append.mp hp with h | h
            · exact Same.tup s5 (hRW p h)
            · exact hRU p h
          · rw [List.length_append]; omega
          · rcases List.mem_append.mp hp with h | h
            · exact hfw p h
            · exact hfu p h
      · obtain ⟨s4, ws, y4, y5, rfl, eW, hRW, hlw, hfw⟩ := h
        refine ⟨_, rfl, sm.trans s4, W, ws, _, _, _, _, rfl, eW, hRW, ?_, hfw⟩
        rw [List.length_map] at hlw
        have : 6 ^ (i + 1) = 6 ^ i * 6 := Nat.pow_succ ..
        omega
    · obtain ⟨sm, l, ks, z2, z3, z4, z5, rfl, el, hR, hk, hf⟩ := h
      rw [List.length_map] at hf
      exact ⟨_, rfl, q l H1 ks sm el hR hf⟩
end
end JN

set_option maxRecDepth 100000
set_option maxHeartbeats 8000000
namespace JN
open PySem PySem.Spec PyProof.Rows L2
/-- a drawn ideal, the zero ideal or the whole ring now and then -/
def spDrawn (K : PySem.W.Frag) : Sp := fun vs H Q _ => ∃ (d c : Addr) (n : Nat) (m : Nat), vs = [.ref d, .int (n : Int)] ∧ Drw H d c m ∧ m ≤ 40000 ∧ 1 ≤ n ∧ n ≤ 12 ∧
  ∀ (v : Addr) (H' : Hp) (R : List (List Int)), Kp [d] H H' → Drw H' d c (m + 2000) → IsI K H' v n R → Gens n R → (∀ p ∈ R, Few n 3 p) → R.length ≤ 5 → Q (.ref v) H'
theorem gens_nil {n : Nat} : Gens n [] := ⟨.nil, fun p hp => absurd hp List.not_mem_nil, fun p hp => absurd hp List.not_mem_nil⟩
theorem few_rep {n : Nat} {top : Int} (h : 0 ≤ top) : Few n top (List.replicate n 0) := ⟨List.length_replicate, fun x hx => by rw [List.eq_of_mem_replicate hx]; exact ⟨Int.le_refl _, h⟩⟩
theorem gens_one {n : Nat} {p : List Int} (h : Mon n p) : Gens n [p] := ⟨List.pairwise_singleton _ _, fun q hq => by rw [List.mem_singleton.mp hq]; exact h, fun q hq r hr _ => by rw [List.mem_singleton.mp hq, List.mem_singleton.mp hr]⟩
/-- pairs of tuples of ints, each pair at its place -/
structure PrAt (K : PySem.W.Frag) (H : Hp) (t : Addr) (p q : Addr × List Int) : Prop where
  at_ : SqT K H t [.ref p.1, .ref q.1]
  fst : SqT K H p.1 (p.2.map V.int)
  snd : SqT K H q.1 (q.2.map V.int)
theorem PrAt.same {K : PySem.W.Frag} {H H' : Hp} {t : Addr} {p q : Addr × List Int} (h : PrAt K H t p q) (e : Same H H') : PrAt K H' t p q := ⟨Same.tup e h.at_, Same.tup e h.fst, Same.tup e h.snd⟩
abbrev Tri := Addr × (Addr × List Int) × (Addr × List Int)
abbrev trefs (ts : List Tri) : List V := ts.map fun t => V.ref t.1
abbrev tmons (ts : List Tri) : List (List Int × List Int) := ts.map fun t => (t.2.1.2, t.2.2.2)
def TRows (K : PySem.W.Frag) (H : Hp) (ts : List Tri) : Prop := ∀ t ∈ ts, PrAt K H t.1 t.2.1 t.2.2
theorem TRows.same {K : PySem.W.Frag} {H H' : Hp} {ts : List Tri} (h : TRows K H ts) (e : Same H H') : TRows K H' ts := fun t ht => (h t ht).same e
theorem Kp.prL {K : PySem.W.Frag} {H H' : Hp} {D t : Addr} {xs : List V} {p q : Addr × List Int} (e : Kp [D] H H') (hD : H D = some (.lst xs)) (h : PrAt K H t p q) : PrAt K H' t p q := ⟨e.tupL hD h.at_, e.tupL hD h.fst, e.tupL hD h.snd⟩
theorem trefs_get {ts : List Tri} {i : Nat} {x : V} (h : (trefs ts)[i]? = some x) : ∃ hi : i < ts.length, x = .ref ts[i].1 := by
  have hi := (List.getElem?_eq_some_iff.mp h).1
  rw [List.length_map] at hi
  refine ⟨hi, Option.some.inj (h.symm.trans ?_)⟩
  rw [List.getElem?_map, List.getElem?_eq_getElem hi]
  rfl
theorem trefs_app (a b : List Tri) : trefs (a ++ b) = trefs a ++ trefs b := List.map_append
theorem tmons_app (a b : List Tri) : tmons (a ++ b) = tmons a ++ tmons b := List.map_append
/-- all pairs of one of each, in sequence -/
def pairL (A B : List (List Int)) : List (List Int × List Int) := A.flatMap fun a => B.map fun b => (a, b)
theorem pairL_take {ks : List (Addr × List Int)} {B : List (List Int)} {i : Nat} (h : i < ks.length) : pairL ((mons ks).take (i + 1)) B = pairL ((mons ks).take i) B ++ B.map (fun b => (ks[i].2, b)) := by
  rw [take_mons h]
  simp [pairL]
theorem pairL_mem {A B : List (List Int)} {p : List Int × List Int} : p ∈ pairL A B ↔ p.1 ∈ A ∧ p.2 ∈ B := by
  obtain ⟨x, y⟩ := p
  simp [pairL]
theorem pairL_prod {F : List Int → List Int → List Int} {A B : List (List Int)} : (pairL A B).map (fun p => F p.1 p.2) = prodL F A B := by
  simp [pairL, prodL, List.map_flatMap]
  rfl
def spPairs (K : PySem.W.Frag) : Sp := fun vs H Q _ => ∃ (a b : Addr) (gs hs : List (List Int)), vs = [.ref a, .ref b] ∧ TpM K H a gs ∧ TpM K H b hs ∧ gs.length ≤ 30 ∧ hs.length ≤ 30 ∧
  ∀ (l : Addr) (H' : Hp) (ts : List Tri), Same H H' → H' l = some (.lst (trefs ts)) → TRows K H' ts → tmons ts = pairL gs hs → Q (.ref l) H'
section
variable {P : Program} {w : World} {K : PySem.W.Frag} {mg : Str → Option Value} {base : Heap}
theorem sc_law_drawn : FnScope ["m", "n", "word"] ["m", "n"] (defScope S_law_drawn) := ⟨rfl, rfl, rfl, by decide +kernel, rfl, by decide +kernel, by decide +kernel⟩
theorem ok_drawn {f fD fI : Addr} {fd fdD dI : FuncData} (F : Fun K "_law_drawn" "_law_drawn" S_law_drawn f fd) (AW : At K mg "_law_draw" S_law_draw ["m", "below"] fD fdD) (GW : FnOk P w K mg base CX0 1 fD fdD ["m", "below"] spDraw)
    (AI : At K mg "_law_ideal" S_law_ideal ["m", "n", "count", "top"] fI dI) (GI : FnOk P w K mg base CX0 3 fI dI ["m", "n", "count", "top"] (spLIdeal K)) : FnOk P w K mg base CX0 4 f fd ["m", "n"] (spDrawn K) := by
  refine F.ok sc_law_drawn (fun vs H Q E h => ?_) (fun cdv A outer s H vs Q E hr h => ?_)
  · obtain ⟨d, c, n, m, rfl, _⟩ := h
    rfl
  · obtain ⟨d, c, n, m, rfl, hD, hm, hn1, hn, q⟩ := h
    have nd := sc_law_drawn.nd
    refine ⟨_, pss_cons (ps_set (i := 2) nd rfl (.inl rfl) (pe_call GW (hr.mono (by decide)) (by rfl) AW.gl AW.fn.kp AW.bi .nil pass0 (pa_cons (pv 0) (pa_cons pe_int pa_nil))))
      (pss_cons (ps_if (pt_cmpR op_eq (pv 2) pe_int (nomark _)) (pss_one (ps_ret (pe_tup (pa_cons (pv 1) (pa_cons (pe_tup pa_nil) pa_nil))))) pss_nil)
      (pss_one (ps_ret (pe_ifExp (pt_cmpR op_eq (pv 2) pe_int (nomark _)) (pe_tup (pa_cons (pv 1) (pa_cons (pe_tup (pa_cons (pe_op op_repA (pe_tup (pa_cons pe_int pa_nil)) (pv 1)) pa_nil)) pa_nil))) (pe_call GI hr (by rfl) AI.gl AI.fn.kp AI.bi .nil pass0 (pa_cons (pv 0) (pa_cons (pv 1) (pa_cons pe_int (pa_cons pe_int pa_nil))))))))), ?_⟩
    refine ⟨_, rfl, d, c, 9, m, rfl, hD, by omega, by decide, by decide, fun r H1 r0 r1 k1 hD1 => ⟨_, rfl, rfl, _, rfl, ?_⟩⟩
    refine ite2 (fun _ => ?_) (fun _ => ⟨_, rfl, rfl, _, rfl, ite2 (fun _ => ?_) (fun _ => ?_)⟩)
    · refine ⟨_, rfl, by decide, fun e ne => ⟨(by show 2 ≤ sizeLine; decide), fun v nv => ?_⟩⟩
      have s1 := same_new (o := .tup []) ne
      have s2 := same_new (o := .tup [V.int (n : Int), V.ref e]) nv
      exact q v _ [] (k1.trans (Kp.of (s1.trans s2))) (hD1.same (s1.trans s2) (by omega)) ⟨e, sqt_new, [], rfl, Same.tup s2 sqt_new, fun p hp => absurd hp List.not_mem_nil⟩ gens_nil (fun p hp => absurd hp List.not_mem_nil) (Nat.zero_le _)
    · refine ⟨_, rfl, (by show 1 ≤ sizeLine; decide), fun o no => ⟨_, rfl, rep_one hn1 (by omega) upd_same fun z H2 s2 ez => ⟨(by show 1 ≤ sizeLine; decide), fun e ne => ⟨(by show 2 ≤ sizeLine; decide), fun v nv => ?_⟩⟩⟩⟩
      have s1 := same_new (o := .tup [V.int 0]) no
      have s3 := same_new (o := .tup [V.ref z]) ne
      have s4 := same_new (o := .tup [V.int (n : Int), V.ref e]) nv
      have sall := (s1.trans s2).trans (s3.trans s4)
      have hf : Few n 3 (List.replicate n 0) := few_rep (by decide)
      refine q v _ [List.replicate n 0] (k1.trans (Kp.of sall)) (hD1.same sall (by omega)) ⟨e, sqt_new, [(z, List.replicate n 0)], rfl, Same.tup s4 sqt_new, fun p hp => ?_⟩ (gens_one (hf.mon (by decide))) (fun p hp => by rw [List.mem_singleton.mp hp]; exact hf) (by show 1 ≤ 5; decide)
      rw [List.mem_singleton.mp hp]
      refine .inl (.inl ((s3.trans s4) _ _ ?_))
      rw [List.map_replicate]
      exact ez
    · refine ⟨_, rfl, _, rfl, d, c, n, 5, 3, m + 1, rfl, hD1, by omega, hn1, hn, by decide, by decide, by decide, fun v H2 R k2 hD2 hI hg hf hl => ?_⟩
      exact q v H2 R (k1.trans k2) (hD2.same (Same.refl _) (by omega)) hI hg hf hl
theorem sc_law_pairs : FnScope ["rows", "others", "found", "one", "other"] ["rows", "others"] (defScope S_law_pairs) := ⟨rfl, rfl, rfl, by decide +kernel, rfl, by decide +kernel, by decide +kernel⟩
theorem ok_pairs {f : Addr} {fd : FuncData} (F : Fun K "_law_pairs" "_law_pairs" S_law_pairs f fd) : FnOk P w K mg base CX0 1 f fd ["rows", "others"] (spPairs K) := by
  refine F.ok sc_law_pairs (fun vs H Q E h => ?_) (fun cdv A outer s H vs Q E hr h => ?_)
  · obtain ⟨a, b, gs, hs, rfl, _⟩ := h
    rfl
  · obtain ⟨a, b, gs, hs, rfl, ⟨ks, rfl, hA, hR⟩, ⟨js, rfl, hB, hJ⟩, hl1, hl2, q⟩ := h
    have nd := sc_law_pairs.nd
    rw [List.length_map] at hl1 hl2
    refine ⟨_, pss_cons (ps_set (i := 2) nd rfl (.inl rfl) (pe_lst pa_nil))
      (pss_cons (ps_for PassesOwn.never rfl (pi_tup (pv 0)) (pg_name (i := 3) nd rfl (.inr rfl))
        (pss_one (ps_expr (pe_bm PySem.F.plainAttrs_list PySem.F.slot_list_extend PySem.F.type_list_extend mt_extend (pv 2) (pa_cons (pe_lc (own := [("other", 4)]) (g := gName 4) (by rfl) nd (pi_tup (pv 1)) (blkOk_by (own := [("other", 4)]) (N := ["rows", "others", "found", "one", "other"]) (sc := defScope S_law_pairs) (by decide +kernel)) (fun _ _ _ _ _ => pg_name (i := 4) nd rfl (.inl rfl)) (fun _ _ _ _ _ => pts_nil) (fun _ _ _ _ _ => pe_tup (pa_cons (pv 3) (pa_cons (pv 4) pa_nil)))) pa_nil)))))
      (pss_one (ps_ret (pv 2)))), ?_⟩
    refine ⟨by decide, fun W nW => ?_⟩
    have s1 := same_new (o := .lst []) nW
    refine ⟨_, rfl, a, rfl, ⟨_, Same.tup s1 hA⟩, for_tup (xs := refs ks) (fun i σ H1 => Same H H1 ∧ ∃ (ts : List Tri) (z3 z4 : Option V), σ = [some (.ref a), some (.ref b), some (.ref W), z3, z4] ∧ H1 W = some (.lst (trefs ts)) ∧ TRows K H1 ts ∧ ts.length ≤ 30 * i ∧ tmons ts = pairL ((mons ks).take i) (mons js))
      ⟨s1, [], _, _, rfl, upd_same, fun p hp => absurd hp List.not_mem_nil, Nat.le_refl _, rfl⟩ (fun i σ H1 _ h => Same.tup h.1 hA) (fun i x σ H1 hx h => ?_) (fun σ H1 h => ?_)⟩
    · obtain ⟨sm, ts, z3, z4, rfl, eW, hT, hlt, htm⟩ := h
      obtain ⟨hi, rfl⟩ := refs_get hx
      refine ⟨_, rfl, .inl ⟨rfl, _, .inl (.inl eW)⟩, _, rfl, b, rfl, ⟨_, Same.tup sm hB⟩, fun D nD => ?_⟩
      refine lc_tup (xs := refs js) (fun j H2 => Same H1 H2 ∧ ∃ us : List Tri, us.length = j ∧ H2 D = some (.lst (trefs us)) ∧ TRows K H2 us ∧ tmons us = ((mons js).take j).map fun y => (ks[i].2, y)) ?_ (fun j H2 _ h => Same.tup (sm.trans h.1) hB) (fun j x H2 hx h => ?_) (fun H2 h => ?_)
      · exact ⟨same_new nD, [], rfl, upd_same, fun p hp => absurd hp List.not_mem_nil, rfl⟩
      · obtain ⟨s2, us, lu, eD, hU, hum⟩ := h
        obtain ⟨hj, rfl⟩ := refs_get hx
        refine ⟨rfl, yes_ok ?_⟩
        refine ⟨_, rfl, _, rfl, (by show 2 ≤ sizeLine; decide), fun T nT => ?_⟩
        have s3 := same_new (o := .tup [V.ref ks[i].1, V.ref js[j].1]) nT
        have eD3 := s3 _ _ eD
        have kp : Kp [D] (upd H2 T (.tup [V.ref ks[i].1, V.ref js[j].1])) (upd (upd H2 T (.tup [V.ref ks[i].1, V.ref js[j].1])) D (.lst (trefs us ++ [V.ref T]))) := (Kp.refl _).upd (List.mem_singleton.mpr rfl)
        refine ⟨_, eD3, by rw [List.length_map]; exact small1000 (by omega), fun b o e => ?_, us ++ [(T, ks[i], js[j])], by rw [List.length_append, lu]; rfl, by rw [upd_same, trefs_app]; rfl, fun t ht => ?_, ?_⟩
        · rw [upd_ne (ne_of_none e nD)]
          exact s3 _ _ (s2 _ _ e)
        · refine kp.prL eD3 ?_
          rcases List.mem_append.mp ht with h | h
          · exact (hU t h).same s3
          · rw [List.mem_singleton.mp h]
            exact ⟨sqt_new, Same.tup ((sm.trans s2).trans s3) (hR _ (List.getElem_mem hi)), Same.tup ((sm.trans s2).trans s3) (hJ _ (List.getElem_mem hj))⟩
        · rw [tmons_app, hum, take_mons hj, List.map_append]
          rfl
      · obtain ⟨s2, us, lu, eD, hU, hum⟩ := h
        have eW2 := s2 _ _ eW
        have lu' : us.length = js.length := by rw [lu, List.length_map]
        have kp : Kp [W] H2 (upd H2 W (.lst (trefs ts ++ trefs us))) := (Kp.refl _).upd (List.mem_singleton.mpr rfl)
        refine ⟨W, D, _, _, rfl, rfl, eW2, eD, ?_, fun b o e => ?_, ts ++ us, _, _, rfl, by rw [upd_same, trefs_app], fun t ht => ?_, ?_, ?_⟩
        · rw [List.length_map, List.length_map, sizeLine_eq]; omega
        · rw [upd_ne (ne_of_none e nW)]
          exact s2 _ _ (sm _ _ e)
        · refine kp.prL eW2 ?_
          rcases List.mem_append.mp ht with h | h
          · exact (hT t h).same s2
          · exact hU t h
        · rw [List.length_append]; omega
        · rw [tmons_app, htm, hum, pairL_take hi, List.take_of_length_le (l := mons js) (by rw [List.length_map, List.length_map]; exact Nat.le_refl _)]
    · obtain ⟨sm, ts, z3, z4, rfl, eW, hT, hlt, htm⟩ := h
      refine ⟨_, rfl, q W H1 ts sm eW hT ?_⟩
      rw [htm, List.take_of_length_le (by rw [List.length_map, List.length_map]; exact Nat.le_refl _)]
end
end JN

set_option maxRecDepth 100000
set_option maxHeartbeats 8000000
namespace JN
open PySem PySem.Spec PyProof.Rows L2
section
variable {n : Nat} {A B S T : List (List Int)}
theorem mon_zw {F : Int → Int → Int} (hF : ∀ x y : Int, 0 ≤ x → x ≤ 60 → 0 ≤ y → y ≤ 60 → 0 ≤ F x y ∧ F x y ≤ 1000) {p q : List Int} (hp : Mon n p ∧ Le60 p) (hq : Mon n q ∧ Le60 q) : Mon n (List.zipWith F p q) := by
  have hl : p.length = q.length := hp.1.1.trans hq.1.1.symm
  refine ⟨(zw_len hl).trans hp.1.1, fun x hx => ?_⟩
  obtain ⟨i, hi, e⟩ := List.mem_iff_getElem.mp hx
  have h1 : i < p.length := by rw [zw_len hl] at hi; exact hi
  have e2 := zw_at (g := F) h1 (hl ▸ h1)
  have e3 := at0_get hi
  rw [List.getElem?_eq_getElem hi, e] at e3
  rw [Option.some.inj e3, e2]
  have a1 := hp.1.2 (at0 p i) (List.mem_of_getElem? (at0_get h1))
  have a2 := hp.2 (at0 p i) (List.mem_of_getElem? (at0_get h1))
  have b1 := hq.1.2 (at0 q i) (List.mem_of_getElem? (at0_get (hl ▸ h1)))
  have b2 := hq.2 (at0 q i) (List.mem_of_getElem? (at0_get (hl ▸ h1)))
  have := hF (at0 p i) (at0 q i) a1.1 a2 b1.1 b2
  refine ⟨this.1, ?_⟩
  show F (at0 p i) (at0 q i) < 1099511627776
  omega
theorem few_zw {F : Int → Int → Int} {a b r : Int} (hF : ∀ x y : Int, 0 ≤ x → x ≤ a → 0 ≤ y → y ≤ b → 0 ≤ F x y ∧ F x y ≤ r) {p q : List Int} (hp : Few n a p) (hq : Few n b q) : Few n r (List.zipWith F p q) := by
  have hl : p.length = q.length := hp.1.trans hq.1.symm
  refine ⟨(zw_len hl).trans hp.1, fun x hx => ?_⟩
  obtain ⟨i, hi, e⟩ := List.mem_iff_getElem.mp hx
  have h1 : i < p.length := by rw [zw_len hl] at hi; exact hi
  have e2 := zw_at (g := F) h1 (hl ▸ h1)
  have e3 := at0_get hi
  rw [List.getElem?_eq_getElem hi, e] at e3
  rw [Option.some.inj e3, e2]
  have a1 := hp.2 (at0 p i) (List.mem_of_getElem? (at0_get h1))
  have b1 := hq.2 (at0 q i) (List.mem_of_getElem? (at0_get (hl ▸ h1)))
  exact hF _ _ a1.1 a1.2 b1.1 b1.2
theorem few_lcm {a : Int} {p q : List Int} (hp : Few n a p) (hq : Few n a q) : Few n a (List.zipWith mxI p q) := few_zw (fun x y h1 h2 h3 h4 => by unfold mxI; split <;> omega) hp hq
theorem few_times {a b : Int} {p q : List Int} (hp : Few n a p) (hq : Few n b q) : Few n (a + b) (List.zipWith (· + ·) p q) := few_zw (fun x y h1 h2 h3 h4 => by omega) hp hq
theorem few_up {a b : Int} {p : List Int} (h : a ≤ b) (hp : Few n a p) : Few n b p := ⟨hp.1, fun x hx => by have := hp.2 x hx; omega⟩
theorem few_prod {F : List Int → List Int → List Int} {a b r : Int} (hF : ∀ p q, Few n a p → Few n b q → Few n r (F p q)) (hA : ∀ p ∈ A, Few n a p) (hB : ∀ p ∈ B, Few n b p) : ∀ p ∈ prodL F A B, Few n r p := fun p hp => by
  obtain ⟨x, hx, y, hy, rfl⟩ := prodL_mem.mp hp
  exact hF x y (hA x hx) (hB y hy)
theorem few_app {a : Int} (hA : ∀ p ∈ A, Few n a p) (hB : ∀ p ∈ B, Few n a p) : ∀ p ∈ A ++ B, Few n a p := fun p hp => by
  rcases List.mem_append.mp hp with h | h
  · exact hA p h
  · exact hB p h
theorem mon_few {a : Int} (h : a ≤ 60) (hA : ∀ p ∈ A, Few n a p) : ∀ p ∈ A, Mon n p := fun p hp => (hA p hp).mon h
theorem ml_few {a : Int} (h : a ≤ 60) (hA : ∀ p ∈ A, Few n a p) : ∀ p ∈ A, Mon n p ∧ Le60 p := fun p hp => ⟨(hA p hp).mon h, (hA p hp).le h⟩
theorem MinOf.few {a : Int} {ms R : List (List Int)} (m : MinOf ms R) (h : ∀ p ∈ ms, Few n a p) : ∀ p ∈ R, Few n a p := fun p hp => h p (m.sub hp)
theorem MinOf.len {ms R : List (List Int)} (m : MinOf ms R) : R.length ≤ ms.length :=
  nodup_len (List.Pairwise.imp (fun {a b} h e => by rw [e] at h; omega) m.asc) fun x hx => m.sub hx
theorem inG_app {c : List Int} : inG (A ++ B) c = (inG A c || inG B c) := List.any_append
theorem inG_lcm {c : List Int} (hA : ∀ p ∈ A, p.length = c.length) (hB : ∀ p ∈ B, p.length = c.length) : inG (prodL (List.zipWith mxI) A B) c = (inG A c && inG B c) := by
  rw [Bool.eq_iff_iff, Bool.and_eq_true, inG_iff, inG_iff, inG_iff]
  constructor
  · rintro ⟨g, h1, h2⟩
    obtain ⟨x, hx, y, hy, rfl⟩ := prodL_mem.mp h1
    obtain ⟨h3, h4⟩ := (lcm_dvd (hA x hx) (hB y hy)).mp h2
    exact ⟨⟨x, hx, h3⟩, y, hy, h4⟩
  · rintro ⟨⟨x, hx, h3⟩, y, hy, h4⟩
    exact ⟨_, prodL_mem.mpr ⟨x, hx, y, hy, rfl⟩, (lcm_dvd (hA x hx) (hB y hy)).mpr ⟨h3, h4⟩⟩
theorem prod_comm {F : Int → Int → Int} (hF : ∀ x y, F x y = F y x) (hA : ∀ p ∈ A, p.length = n) (hB : ∀ p ∈ B, p.length = n) (p : List Int) : p ∈ prodL (List.zipWith F) A B ↔ p ∈ prodL (List.zipWith F) B A := by
  rw [prodL_mem, prodL_mem]
  constructor
  · rintro ⟨x, hx, y, hy, rfl⟩
    exact ⟨y, hy, x, hx, zw_comm hF ((hB y hy).trans (hA x hx).symm)⟩
  · rintro ⟨x, hx, y, hy, rfl⟩
    exact ⟨y, hy, x, hx, zw_comm hF ((hA y hy).trans (hB x hx).symm)⟩
theorem self_sum (gA : Gens n A) : MinOf (A ++ A) A := gA.min (fun p hp => gA.mon p (by simpa using hp)) (fun p hp => List.mem_append_left _ hp) (fun p hp => ⟨p, by simpa using hp, dvd_refl p⟩)
theorem self_sum0 (gA : Gens n A) : MinOf (A ++ []) A := by
  rw [List.append_nil]
  exact gA.min gA.mon (fun p hp => hp) (fun p hp => ⟨p, hp, dvd_refl p⟩)
theorem self_meet {a : Int} (gA : Gens n A) (hA : ∀ p ∈ A, Few n a p) (ha : a ≤ 60) : MinOf (prodL (List.zipWith mxI) A A) A := by
  refine gA.min (mon_few ha (few_prod (fun p q => few_lcm) hA hA)) (fun p hp => prodL_mem.mpr ⟨p, hp, p, hp, lcm_self p⟩) (fun p hp => ?_)
  obtain ⟨x, hx, y, hy, rfl⟩ := prodL_mem.mp hp
  exact ⟨x, hx, dvd_lcm_left ((hA x hx).1.trans (hA y hy).1.symm)⟩
theorem meet_one (gA : Gens n A) : MinOf (prodL (List.zipWith mxI) A [List.replicate n 0]) A := by
  have e : prodL (List.zipWith mxI) A [List.replicate n 0] = A := by
    have : ∀ p ∈ A, List.zipWith mxI p (List.replicate n 0) = p := fun p hp => by
      have h := gA.mon p hp
      rw [← h.1]
      exact lcm_zero h.2
    show A.flatMap (fun a => [List.zipWith mxI a (List.replicate n 0)]) = A
    clear gA
    induction A with
    | nil => rfl
    | cons a A ih =>
      rw [List.flatMap_cons, this a List.mem_cons_self, ih fun p hp => this p (List.mem_cons_of_mem _ hp)]
      rfl
  rw [e]
  exact gA.min gA.mon (fun p hp => hp) (fun p hp => ⟨p, hp, dvd_refl p⟩)
theorem times_one (gA : Gens n A) : MinOf (prodL (List.zipWith (· + ·)) A [List.replicate n 0]) A := by
  have e : prodL (List.zipWith (· + ·)) A [List.replicate n 0] = A := by
    have : ∀ p ∈ A, List.zipWith (· + ·) p (List.replicate n 0) = p := fun p hp => by
      have h := gA.mon p hp
      rw [← h.1]
      exact times_zero p
    show A.flatMap (fun a => [List.zipWith (· + ·) a (List.replicate n 0)]) = A
    clear gA
    induction A with
    | nil => rfl
    | cons a A ih =>
      rw [List.flatMap_cons, this a List.mem_cons_self, ih fun p hp => this p (List.mem_cons_of_mem _ hp)]
      rfl
  rw [e]
  exact gA.min gA.mon (fun p hp => hp) (fun p hp => ⟨p, hp, dvd_refl p⟩)
theorem times_none : MinOf (prodL (List.zipWith (· + ·)) A []) [] := by
  have e : prodL (List.zipWith (· + ·)) A [] = [] := by
    show A.flatMap (fun _ => []) = []
    induction A with
    | nil => rfl
    | cons a A ih => rw [List.flatMap_cons, ih]; rfl
  rw [e]
  exact min_nil
theorem within_min {ms R hs : List (List Int)} (m : MinOf ms R) (h : ∀ p ∈ ms, inG hs p = true) : R.all (fun g => inG hs g) = true := List.all_eq_true.mpr fun g hg => h g (m.sub hg)
end
end JN

set_option maxRecDepth 100000
set_option maxHeartbeats 8000000
namespace JN
open PySem PySem.Spec PyProof.Rows L2
theorem orV {ta tb : TE} {σ : L2.St} {H : Hp} {Q : VK} {x y : Bool} (h1 : ∀ Z : VK, Z (.bl x) H → ta σ H Z) (h2 : ∀ Z : VK, Z (.bl y) H → tb σ H Z) (q : Q (.bl (x || y)) H) : tOrV ta tb σ H Q :=
  h1 _ ⟨x, rfl, by cases x with
    | true => exact iteT q
    | false => exact iteF (h2 _ q)⟩
theorem andV {ta tb : TE} {σ : L2.St} {H : Hp} {Q : VK} {x y : Bool} (h1 : ∀ Z : VK, Z (.bl x) H → ta σ H Z) (h2 : ∀ Z : VK, Z (.bl y) H → tb σ H Z) (q : Q (.bl (x && y)) H) : tAndV ta tb σ H Q :=
  h1 _ ⟨x, rfl, by cases x with
    | true => exact iteT (h2 _ q)
    | false => exact iteF q⟩
/-- two tuples of tuples put together -/
theorem cat_tpm {K : PySem.W.Frag} {H : Hp} {a b : Addr} {gs hs : List (List Int)} {Q : VK} (hA : TpM K H a gs) (hB : TpM K H b hs) (hz : gs.length + hs.length ≤ 1000)
    (q : ∀ (x : Addr) (H' : Hp) (ks : List (Addr × List Int)), Same H H' → SqT K H' x (refs ks) → Rows K H' ks → mons ks = gs ++ hs → Q (.ref x) H') : rCatA K (.ref a) (.ref b) H Q := by
  obtain ⟨ks, rfl, qA, rA⟩ := hA
  obtain ⟨js, rfl, qB, rB⟩ := hB
  have rows : Rows K H (ks ++ js) := fun p hp => by
    rcases List.mem_append.mp hp with h | h
    · exact rA p h
    · exact rB p h
  rw [List.length_map, List.length_map] at hz
  refine ⟨a, b, refs ks, refs js, rfl, rfl, qA, qB, ?_, fun e => ?_, fun _ e => ?_, fun _ _ p np => ?_⟩
  · rw [List.length_map, List.length_map, sizeLine_eq]; omega
  · have : ks = [] := by simpa using e
    subst this
    exact q b H js (Same.refl H) qB rB rfl
  · have : js = [] := by simpa using e
    subst this
    exact q a H ks (Same.refl H) qA rA (List.append_nil _).symm
  · refine q p _ (ks ++ js) (same_new np) ?_ (rows.same (same_new np)) (mons_app _ _)
    rw [refs_app]
    exact sqt_new
/-- the reading of [f(one, other) for one, other in pairs], f making a new thing at a place -/
theorem lc_tris {K : PySem.W.Frag} {l D : Addr} {ts : List Tri} {σ : L2.St} {H1 : Hp} {vs : List Nat} {i0 j0 : Nat} {te : TE} {Qd : Hp → Prop} {β : Type} (Ok : Hp → Addr → β → Prop) (F : Tri → β) (nD : H1 D = none)
    (hL : SqL K H1 l (trefs ts)) (hT : TRows K H1 ts) (hw : ∀ v u, wipe (((wipe σ vs).set i0 v).set j0 u) vs = wipe σ vs) (hz : ts.length < 1000)
    (okS : ∀ H H' a b, Same H H' → Ok H a b → Ok H' a b) (okL : ∀ H H' a b xs, Kp [D] H H' → H D = some (.lst xs) → Ok H a b → Ok H' a b)
    (hte : ∀ t ∈ ts, ∀ (H6 : Hp) (P1 : V → Hp → Prop), Same H1 H6 → (∀ a H7, Same H6 H7 → Ok H7 a (F t) → P1 (.ref a) H7) → te (((wipe σ vs).set i0 (some (.ref t.2.1.1))).set j0 (some (.ref t.2.2.1))) H6 P1)
    (hd : ∀ H (zs : List (Addr × β)), Same H1 H → H D = some (.lst (zs.map fun z => V.ref z.1)) → (∀ z ∈ zs, Ok H z.1 z.2) → zs.map (·.2) = ts.map F → Qd H) :
    ∃ W : Nat → Nat → Hp → Prop, (∃ m, W 0 m (upd H1 D (.lst []))) ∧ ∀ i m H, W i m H →
      ((Itl K l).stop i H ∧ Qd H) ∨ ((Itl K l).go i H ∧ ∃ Nx : Hp → Prop, (∀ H', Nx H' → ∃ m', m' < m ∧ W (i + 1) m' H') ∧ ∀ x H', (Itl K l).yld i H x H' → gTup K 2 (gCons (gName i0) (gCons (gName j0) gNil)) x (wipe σ vs) H' fun σ2 H2 => wipe σ2 vs = wipe σ vs ∧ tYes σ2 H2 fun b H3 =>
        if b = true then te σ2 H3 fun y H4 => ∃ acc, H4 D = some (.lst acc) ∧ acc.length < sizeLine ∧ Nx (upd H4 D (.lst (acc ++ [y]))) else Nx H3) := by
  refine lc_list (xs := trefs ts) (fun i H => Same H1 H ∧ ∃ zs : List (Addr × β), zs.length = i ∧ H D = some (.lst (zs.map fun z => V.ref z.1)) ∧ (∀ z ∈ zs, Ok H z.1 z.2) ∧ zs.map (·.2) = (ts.take i).map F) ⟨same_new nD, [], rfl, upd_same, fun z hz => absurd hz List.not_mem_nil, rfl⟩ (fun i H _ h => h.1.seq hL) (fun i x H hx h => ?_) (fun H h => ?_)
  · obtain ⟨sm, zs, lz, eD, hok, hm⟩ := h
    obtain ⟨hi, rfl⟩ := trefs_get hx
    have pr := (hT _ (List.getElem_mem hi)).same sm
    refine ⟨ts[i].1, _, rfl, pr.at_, rfl, _, _, rfl, _, _, rfl, rfl, hw _ _, ?_⟩
    refine yes_any ?_
    refine hte _ (List.getElem_mem hi) _ _ sm fun a H7 s7 ok => ⟨_, s7 _ _ eD, ?_, fun b o e => ?_, zs ++ [(a, F ts[i])], by rw [List.length_append, lz]; rfl, by rw [upd_same, List.map_append]; rfl, fun z hz => ?_, ?_⟩
    · rw [List.length_map]; exact small1000 (by omega)
    · rw [upd_ne (ne_of_none e nD)]
      exact s7 _ _ (sm _ _ e)
    · refine okL H7 _ _ _ _ ((Kp.refl H7).upd (List.mem_singleton.mpr rfl)) (s7 _ _ eD) ?_
      rcases List.mem_append.mp hz with h | h
      · exact okS _ _ _ _ s7 (hok z h)
      · rw [List.mem_singleton.mp h]; exact ok
    · rw [List.map_append, hm, List.take_add_one, List.getElem?_eq_getElem hi, List.map_append]
      rfl
  · obtain ⟨sm, zs, lz, eD, hok, hm⟩ := h
    refine hd H zs sm eD hok ?_
    rw [hm, List.take_of_length_le (by rw [List.length_map]; exact Nat.le_refl _)]
end JN

set_option maxRecDepth 100000
set_option maxHeartbeats 8000000
namespace JN
open PySem PySem.Spec PyProof.Rows L2
abbrev nLaw : List Str := ["script", "k", "m", "n", "a", "b", "both", "common", "product", "pairs", "due", "c", "inside", "hits", "one", "other"]
def forB : Stmt → List Stmt
  | .For _ _ b _ _ => b
  | _ => []
abbrev lawB : List Stmt := forB ((defBody S_law).getD 0 (.Pass ⟨0, 0, 0, 0⟩))
/-- the state behind the law's five ideals and its pairs -/
def ShL (sA : Addr) (n : Nat) (va vb vS vM vP DP : Addr) (σ : L2.St) : Prop := ∃ y1 y2 y10 y11 y12 y13 y14 y15 : Option V, σ = [some (.ref sA), y1, y2, some (.int (n : Int)), some (.ref va), some (.ref vb), some (.ref vS), some (.ref vM), some (.ref vP), some (.ref DP), y10, y11, y12, y13, y14, y15]
structure LS (K : PySem.W.Frag) (H : Hp) (n : Nat) (va vb vS vM vP DP : Addr) (A B S M Pd : List (List Int)) (zs : List Tri) : Prop where
  n1 : 1 ≤ n
  n3 : n ≤ 3
  jA : IsI K H va n A
  jB : IsI K H vb n B
  jS : IsI K H vS n S
  jM : IsI K H vM n M
  jP : IsI K H vP n Pd
  mS : MinOf (A ++ B) S
  mM : MinOf (prodL (List.zipWith mxI) A B) M
  mP : MinOf (prodL (List.zipWith (· + ·)) A B) Pd
  gA : Gens n A
  gB : Gens n B
  fA : ∀ p ∈ A, Few n 3 p
  fB : ∀ p ∈ B, Few n 3 p
  lA : A.length ≤ 5
  lB : B.length ≤ 5
  eP : H DP = some (.lst (trefs zs))
  rP : TRows K H zs
  tP : tmons zs = pairL A B
section
variable {K : PySem.W.Frag} {H H' : Hp} {n : Nat} {va vb vS vM vP DP : Addr} {A B S M Pd : List (List Int)} {zs : List Tri}
theorem LS.same (L : LS K H n va vb vS vM vP DP A B S M Pd zs) (e : Same H H') : LS K H' n va vb vS vM vP DP A B S M Pd zs :=
  ⟨L.n1, L.n3, L.jA.same e, L.jB.same e, L.jS.same e, L.jM.same e, L.jP.same e, L.mS, L.mM, L.mP, L.gA, L.gB, L.fA, L.fB, L.lA, L.lB, e _ _ L.eP, L.rP.same e, L.tP⟩
variable (L : LS K H n va vb vS vM vP DP A B S M Pd zs)
include L
theorem LS.mlA : ∀ p ∈ A, Mon n p ∧ Le60 p := ml_few (by decide) L.fA
theorem LS.mlB : ∀ p ∈ B, Mon n p ∧ Le60 p := ml_few (by decide) L.fB
theorem LS.fS : ∀ p ∈ S, Few n 3 p := L.mS.few (few_app L.fA L.fB)
theorem LS.fM : ∀ p ∈ M, Few n 3 p := L.mM.few (few_prod (F := List.zipWith mxI) (fun p q => few_lcm) L.fA L.fB)
theorem LS.fPp : ∀ p ∈ prodL (List.zipWith (· + ·)) A B, Few n (3 + 3) p := few_prod (F := List.zipWith (· + ·)) (fun p q => few_times) L.fA L.fB
theorem LS.fMp : ∀ p ∈ prodL (List.zipWith mxI) A B, Few n 3 p := few_prod (F := List.zipWith mxI) (fun p q => few_lcm) L.fA L.fB
theorem LS.fP : ∀ p ∈ Pd, Few n (3 + 3) p := L.mP.few L.fPp
theorem LS.lS : S.length ≤ 10 := by
  have := L.mS.len
  rw [List.length_append] at this
  have := L.lA
  have := L.lB
  omega
theorem LS.lM : M.length ≤ 25 := by
  have h := L.mM.len
  rw [prodL_len] at h
  exact Nat.le_trans h (Nat.mul_le_mul L.lA L.lB)
theorem LS.lP : Pd.length ≤ 25 := by
  have h := L.mP.len
  rw [prodL_len] at h
  exact Nat.le_trans h (Nat.mul_le_mul L.lA L.lB)
theorem LS.inS {c : List Int} (hc : c.length = n) : inG S c = (inG A c || inG B c) := by
  rw [L.mS.inG (mon_few (by decide) (few_app L.fA L.fB)) hc, inG_app]
theorem LS.inM {c : List Int} (hc : c.length = n) : inG M c = (inG A c && inG B c) := by
  rw [L.mM.inG (mon_few (by decide) L.fMp) hc, inG_lcm (fun p hp => (L.fA p hp).1.trans hc.symm) (fun p hp => (L.fB p hp).1.trans hc.symm)]
theorem LS.lz : zs.length ≤ 25 := by
  have h1 := congrArg List.length L.tP
  have h2 := congrArg List.length (pairL_prod (F := fun a b => a) (A := A) (B := B))
  rw [List.length_map] at h1 h2
  rw [prodL_len] at h2
  have := Nat.mul_le_mul L.lA L.lB
  omega
theorem LS.hz : ∀ t ∈ zs, t.2.1.2 ∈ A ∧ t.2.2.2 ∈ B := fun t ht => by
  have : (t.2.1.2, t.2.2.2) ∈ tmons zs := List.mem_map.mpr ⟨t, ht, rfl⟩
  rw [L.tP] at this
  exact pairL_mem.mp this
theorem LS.inP {c : List Int} (hc : c.length = n) : inG Pd c = inG (zs.map fun t => List.zipWith (· + ·) t.2.1.2 t.2.2.2) c := by
  rw [L.mP.inG (mon_few (by decide) L.fPp) hc, ← pairL_prod, ← L.tP, List.map_map]
  rfl
/-- the product lies in the meet, the meet in a, b in the sum -/
theorem LS.wPM : (Pd.all fun g => inG M g) = true := within_min L.mP fun p hp => by
  have hl := (L.fPp p hp).1
  obtain ⟨x, hx, y, hy, rfl⟩ := prodL_mem.mp hp
  rw [L.mM.inG (mon_few (by decide) L.fMp) hl]
  exact inG_iff.mpr ⟨_, prodL_mem.mpr ⟨x, hx, y, hy, rfl⟩, lcm_dvd_times ((L.fA x hx).1.trans (L.fB y hy).1.symm) ((L.mlA x hx).1.2) ((L.mlB y hy).1.2)⟩
theorem LS.wMA : (M.all fun g => inG A g) = true := within_min L.mM fun p hp => by
  obtain ⟨x, hx, y, hy, rfl⟩ := prodL_mem.mp hp
  exact inG_iff.mpr ⟨x, hx, dvd_lcm_left ((L.fA x hx).1.trans (L.fB y hy).1.symm)⟩
theorem LS.wBS : (B.all fun g => inG S g) = true := List.all_eq_true.mpr fun g hg => by
  rw [L.inS (L.fB g hg).1, Bool.or_eq_true]
  exact .inr (inG_iff.mpr ⟨g, hg, dvd_refl g⟩)
end
abbrev t0 : Tri := (0, z0, z0)
theorem hits_eq {zs : List Tri} {F : Tri → List Int} {c : List Int} : (!decide (((List.range zs.length).filterMap fun i => if dvdI (F (zs.getD i t0)) c = true then some (1 : Int) else none) = [])) = inG (zs.map F) c := by
  by_cases h : inG (zs.map F) c = true
  · rw [h, Bool.not_eq_true', decide_eq_false_iff_not]
    obtain ⟨g, hg, hd⟩ := inG_iff.mp h
    obtain ⟨t, ht, rfl⟩ := List.mem_map.mp hg
    obtain ⟨i, hi, rfl⟩ := List.mem_iff_getElem.mp ht
    intro e
    have := List.filterMap_eq_nil_iff.mp e i (List.mem_range.mpr hi)
    rw [getD_at hi, if_pos hd] at this
    cases this
  · rw [Bool.not_eq_true _ |>.mp h, Bool.not_eq_false', decide_eq_true_iff]
    refine List.filterMap_eq_nil_iff.mpr fun i hi => if_neg fun e => h ?_
    have hi := List.mem_range.mp hi
    rw [getD_at hi] at e
    exact inG_iff.mpr ⟨_, List.mem_map.mpr ⟨zs[i], List.getElem_mem hi, rfl⟩, e⟩
theorem iteNB {b : Bool} {A B : Prop} (hb : b = true) (h : B) : if (!b) = true then A else B := by rw [hb]; exact iteF h
theorem sub1 {K : PySem.W.Frag} {H : Hp} {v : Addr} {n : Int} {gs : List (List Int)} {Q : VK} (h : IsI K H v n gs) (q : ∀ g, TpM K H g gs → Q (.ref g) H) : rIxT K (.ref v) (.int 1) H Q := by
  obtain ⟨g, a, b⟩ := h
  exact ⟨v, _, 1, .ref g, rfl, rfl, a, rfl, q g b⟩
theorem isi_new {K : PySem.W.Frag} {H : Hp} {v g : Addr} {n : Int} {gs : List (List Int)} (nv : H v = none) (h : TpM K H g gs) : IsI K (upd H v (.tup [V.int n, V.ref g])) v n gs := ⟨g, sqt_new, h.same (same_new nv)⟩
theorem ps_use {X : Cx} {st : Stmt} {t t' : TS} (h : PS X st t) (hw : ∀ D σ H, t' D σ H → t D σ H) : PS X st t' := ⟨fun pins s σ H D I q => h.run pins s σ H D I (hw D σ H q)⟩
/-- what each of the four last statements does: nothing that is seen -/
def tKeep (K : PySem.W.Frag) : TS := fun D σ H => ∃ (sA : Addr) (n : Nat) (va vb vS vM vP DP : Addr) (A B S M Pd : List (List Int)) (zs : List Tri), ShL sA n va vb vS vM vP DP σ ∧ LS K H n va vb vS vM vP DP A B S M Pd zs ∧ ∀ σ' H', Same H H' → ShL sA n va vb vS vM vP DP σ' → D.nx σ' H'
theorem sc_law : FnScope ["script", "k", "m", "n", "a", "b", "both", "common", "product", "pairs", "due", "c", "inside", "hits", "one", "other"] ["script"] (defScope S_law) := ⟨rfl, rfl, rfl, by decide +kernel, rfl, by decide +kernel, by decide +kernel⟩
end JN

set_option maxRecDepth 100000
set_option maxHeartbeats 8000000
namespace JN
open PySem PySem.Spec PyProof.Rows L2
section
variable {P : Program} {w : World} {K : PySem.W.Frag} {mg : Str → Option Value} {base : Heap} {f : Addr} {cdv : Value} {A : Around} {outer : List Env} {s : Shared} {H0 : Hp} {E : XK}
theorem p_box (B : Bt mg) (hr : Room 5 (A.deeper (envOfC "law" (defScope S_law) s.heap.objs.size f cdv))) {fG3 : Addr} {dG3 : FuncData} (A3 : At K mg "_law_divides" S_law_divides ["a", "b"] fG3 dG3) (G3 : FnOk P w K mg base CX0 1 fG3 dG3 ["a", "b"] (spLDvd K)) {fG5 : Addr} {dG5 : FuncData} (A5 : At K mg "_law_times" S_law_times ["a", "b"] fG5 dG5) (G5 : FnOk P w K mg base CX0 1 fG5 dG5 ["a", "b"] (spZw K (· + ·))) {fG7 : Addr} {dG7 : FuncData} (A7 : At K mg "_law_in" S_law_in ["generators", "b"] fG7 dG7) (G7 : FnOk P w K mg base CX0 2 fG7 dG7 ["generators", "b"] (spIn K)) {fG8 : Addr} {dG8 : FuncData} (A8 : At K mg "_law_box" S_law_box ["tops"] fG8 dG8) (G8 : FnOk P w K mg base CX0 1 fG8 dG8 ["tops"] (spBox K)) : PS (cxOf CX0 P w K mg base nLaw "law" (defScope S_law) f cdv A outer s H0 E).nox (lawB.getD 10 (.Pass ⟨0, 0, 0, 0⟩)) (tKeep K) := by
  have nd := sc_law.nd
  refine ps_use (ps_for PassesOwn.never rfl (pi_list (pe_call G8 (hr.mono (by decide)) (by rfl) A8.gl A8.fn.kp A8.bi .nil pass0 (pa_cons (pe_op op_repA (pe_tup (pa_cons pe_int pa_nil)) (pv 3)) pa_nil))) (pg_name (i := 11) nd rfl (.inr rfl))
          (pss_cons (ps_set (i := 12) nd rfl (.inl rfl) (pe_lst (pa_cons (pe_call G7 (hr.mono (by decide)) (by rfl) A7.gl A7.fn.kp A7.bi .nil pass0 (pa_cons (pe_ix ix_tup (pv 4) pe_int (fun _ _ => rfl)) (pa_cons (pv 11) pa_nil))) (pa_cons (pe_call G7 (hr.mono (by decide)) (by rfl) A7.gl A7.fn.kp A7.bi .nil pass0 (pa_cons (pe_ix ix_tup (pv 5) pe_int (fun _ _ => rfl)) (pa_cons (pv 11) pa_nil))) pa_nil))))
          (pss_cons (ps_if (pt_cmpR op_ne (pe_call G7 (hr.mono (by decide)) (by rfl) A7.gl A7.fn.kp A7.bi .nil pass0 (pa_cons (pe_ix ix_tup (pv 6) pe_int (fun _ _ => rfl)) (pa_cons (pv 11) pa_nil))) (pe_or (pe_ix ix_list (pv 12) pe_int (fun _ _ => rfl)) (pe_one (pe_ix ix_list (pv 12) pe_int (fun _ _ => rfl)))) (nomark _)) (pss_one (ps_ret pe_bl)) pss_nil)
          (pss_cons (ps_if (pt_cmpR op_ne (pe_call G7 (hr.mono (by decide)) (by rfl) A7.gl A7.fn.kp A7.bi .nil pass0 (pa_cons (pe_ix ix_tup (pv 7) pe_int (fun _ _ => rfl)) (pa_cons (pv 11) pa_nil))) (pe_and (pe_ix ix_list (pv 12) pe_int (fun _ _ => rfl)) (pe_one (pe_ix ix_list (pv 12) pe_int (fun _ _ => rfl)))) (nomark _)) (pss_one (ps_ret pe_bl)) pss_nil)
          (pss_cons (ps_setLc (i := 13) (own := [("one", 14), ("other", 15)]) (g := gTup K 2 (gCons (gName 14) (gCons (gName 15) gNil))) (tt := tB (tCall (spLDvd K) [] E0 (tCons (tCall (spZw K (· + ·)) [] E0 (tCons (tVar 14) (tCons (tVar 15) tNil))) (tCons (tVar 11) tNil)))) (by rfl) nd rfl rfl (sw_true rfl rfl rfl (by decide +kernel)) (pi_list (pv 9)) (blkOk_by (own := [("one", 14), ("other", 15)]) (N := ["script", "k", "m", "n", "a", "b", "both", "common", "product", "pairs", "due", "c", "inside", "hits", "one", "other"]) (sc := defScope S_law) (by decide +kernel)) (fun _ _ _ _ _ => pg_tup (by rfl) (pgs_cons (pg_name (i := 14) nd rfl (.inl rfl)) (pgs_cons (pg_name (i := 15) nd rfl (.inl rfl)) pgs_nil))) (fun _ _ _ _ _ => pts_one (pt_val (pe_call G3 (hr.mono (by decide)) (by rfl) A3.gl A3.fn.kp A3.bi .nil pass0 (pa_cons (pe_call G5 (hr.mono (by decide)) (by rfl) A5.gl A5.fn.kp A5.bi .nil pass0 (pa_cons (pv 14) (pa_cons (pv 15) pa_nil))) (pa_cons (pv 11) pa_nil))))) (fun _ _ _ _ _ => pe_int))
          (pss_one (ps_if (pt_cmpR op_ne (pe_call G7 (hr.mono (by decide)) (by rfl) A7.gl A7.fn.kp A7.bi .nil pass0 (pa_cons (pe_ix ix_tup (pv 8) pe_int (fun _ _ => rfl)) (pa_cons (pv 11) pa_nil))) (pe_cmpR (op_neD hr.units) (pv 13) (pe_lst pa_nil) (nomark _)) (nomark _)) (pss_one (ps_ret pe_bl)) pss_nil))))))) (fun D σ H h => ?_)
  obtain ⟨sA, n, va, vb, vS, vM, vP, DP, A, B, S, M, Pd, zs, ⟨y1, y2, y10, y11, y12, y13, y14, y15, rfl⟩, L, q⟩ := h
  have n3 := L.n3
  have n1 := L.n1
  refine ⟨by show 1 ≤ sizeLine; decide, fun o no => ⟨_, rfl, rep_one L.n1 (by omega) upd_same fun z H1 s1 ez => ?_⟩⟩
  have sz := (same_new (o := .tup [V.int 4]) no).trans s1
  refine ⟨z, List.replicate n 4, rfl, .inl (.inl (by rw [List.map_replicate]; exact ez)), by rw [List.length_replicate]; omega, fun x hx => by rw [List.eq_of_mem_replicate hx]; decide, fun l H2 ks s2 e2 r2 f2 => ?_⟩
  rw [List.length_replicate] at f2
  have s02 := sz.trans s2
  refine ⟨l, rfl, ⟨_, .inl (.inl e2)⟩, for_list (xs := refs ks) (fun j σ H1 => Same H2 H1 ∧ ShL sA n va vb vS vM vP DP σ) ⟨Same.refl _, _, _, _, _, _, _, _, _, rfl⟩ (fun j σ H1 hj h => h.1.seq (.inl (.inl e2))) (fun j x σ H3 hx h => ?_) (fun σ H3 h => q σ H3 (s02.trans h.1) h.2)⟩
  obtain ⟨s3, y1, y2, y10, y11, y12, y13, y14, y15, rfl⟩ := h
  obtain ⟨hj, rfl⟩ := refs_get hx
  generalize ec : ks[j] = cc
  have rc : SqT K H3 cc.1 (cc.2.map V.int) := by rw [← ec]; exact Same.tup s3 (r2 _ (List.getElem_mem hj))
  have fc : Few n 5 cc.2 := by rw [← ec]; exact f2 _ (List.getElem_mem hj)
  obtain ⟨bc, c⟩ := cc
  replace rc : SqT K H3 bc (c.map V.int) := rc
  have hc : c.length = n := fc.1
  clear ec fc hj hx
  replace L := L.same (s02.trans s3)
  have lA := L.lA
  have lB := L.lB
  have lS := L.lS
  have lM := L.lM
  have lP := L.lP
  obtain ⟨gA, qA, tA⟩ := id L.jA
  obtain ⟨gB, qB, tB⟩ := id L.jB
  refine ⟨_, rfl, va, _, 1, .ref gA, rfl, rfl, qA, rfl, _, rfl, gA, bc, A, c, rfl, tA, rc, fun p hp => (L.fA p hp).1.trans hc.symm, by omega, by omega, fun H4 s4 => ?_⟩
  refine ⟨_, rfl, vb, _, 1, .ref gB, rfl, rfl, Same.tup s4 qB, rfl, _, rfl, gB, bc, B, c, rfl, tB.same s4, Same.tup s4 rc, fun p hp => (L.fB p hp).1.trans hc.symm, by omega, by omega, fun H5 s5 => ?_⟩
  refine ⟨by show 2 ≤ sizeLine; decide, fun l12 n12 => ?_⟩
  have s35 := s4.trans (s5.trans (same_new (o := .lst [V.bl (inG A c), V.bl (inG B c)]) n12))
  have e12 : upd H5 l12 (.lst [V.bl (inG A c), V.bl (inG B c)]) l12 = some (.lst [V.bl (inG A c), V.bl (inG B c)]) := upd_same
  generalize upd H5 l12 (.lst [V.bl (inG A c), V.bl (inG B c)]) = H6 at s35 e12 ⊢
  replace L := L.same s35
  replace rc := Same.tup s35 rc
  replace s3 := s3.trans s35
  clear s35 s4 s5 n12 tA tB qA qB
  have in0 : ∀ {σ : L2.St} {H : Hp} {Z : VK}, σ[12]? = some (some (.ref l12)) → H l12 = some (.lst [V.bl (inG A c), V.bl (inG B c)]) → Z (.bl (inG A c)) H → tOp (rIxL K) (tVar 12) (tC (.int 0)) σ H Z := fun e1 e2 h => ⟨_, e1, l12, _, 0, _, rfl, rfl, .inl (.inl e2), rfl, h⟩
  have in1 : ∀ {σ : L2.St} {H : Hp} {Z : VK}, σ[12]? = some (some (.ref l12)) → H l12 = some (.lst [V.bl (inG A c), V.bl (inG B c)]) → Z (.bl (inG B c)) H → tOp (rIxL K) (tVar 12) (tC (.int 1)) σ H Z := fun e1 e2 h => ⟨_, e1, l12, _, 1, _, rfl, rfl, .inl (.inl e2), rfl, h⟩
  obtain ⟨gS, qS, tS⟩ := id L.jS
  refine ⟨_, rfl, vS, _, 1, .ref gS, rfl, rfl, qS, rfl, _, rfl, gS, bc, S, c, rfl, tS, rc, fun p hp => (L.fS p hp).1.trans hc.symm, by omega, by omega, fun H7 s7 => orV (fun Z h => in0 rfl (s7 _ _ e12) h) (fun Z h => in1 rfl (s7 _ _ e12) h) ⟨rfl, _, rfl, iteNS (congrArg V.bl (L.inS hc)) ?_⟩⟩
  replace L := L.same s7
  replace rc := Same.tup s7 rc
  replace s3 := s3.trans s7
  replace e12 := s7 _ _ e12
  clear s7 qS tS
  obtain ⟨gM, qM, tM⟩ := id L.jM
  refine ⟨_, rfl, vM, _, 1, .ref gM, rfl, rfl, qM, rfl, _, rfl, gM, bc, M, c, rfl, tM, rc, fun p hp => (L.fM p hp).1.trans hc.symm, by omega, by omega, fun H7 s7 => andV (fun Z h => in0 rfl (s7 _ _ e12) h) (fun Z h => in1 rfl (s7 _ _ e12) h) ⟨rfl, _, rfl, iteNS (congrArg V.bl (L.inM hc)) ?_⟩⟩
  replace L := L.same s7
  replace rc := Same.tup s7 rc
  replace s3 := s3.trans s7
  clear s7 qM tM e12 in0 in1
  have lz := L.lz
  have rP := L.rP
  have qP : SqL K H7 DP (trefs zs) := .inl (.inl L.eP)
  refine ⟨_, rfl, DP, rfl, ⟨_, qP⟩, fun D9 nD9 => lc_keep (walk_list (xs := trefs zs)) (fun i => if dvdI ((fun t : Tri => List.zipWith (· + ·) t.2.1.2 t.2.2.2) (zs.getD i t0)) c = true then some (V.int 1) else none) nD9 ?_ (fun H1 e => e.seq qP) (fun i x H8 H9 P1 P0 hi sm y k1 k0 => ?_) (fun H8 sm e => ?_)⟩
  · rw [List.length_map]; exact small1000 (by omega)
  · rw [List.length_map] at hi
    obtain ⟨rfl, hx⟩ := y
    obtain ⟨hi', rfl⟩ := trefs_get hx
    have pr := (rP _ (List.getElem_mem hi)).same sm
    have hz := L.hz _ (List.getElem_mem hi)
    have l1 := (L.fA _ hz.1).1
    have l2 := (L.fB _ hz.2).1
    refine ⟨zs[i].1, _, rfl, pr.at_, rfl, _, _, rfl, _, _, rfl, rfl, rfl, ?_⟩
    refine ⟨_, rfl, _, rfl, zs[i].2.1.1, zs[i].2.2.1, zs[i].2.1.2, zs[i].2.2.2, rfl, pr.fst, pr.snd, l1.trans l2.symm, by omega, fun p H10 s10 hp => ?_⟩
    have lp : (List.zipWith (· + ·) zs[i].2.1.2 zs[i].2.2.2).length = n := (zw_len (l1.trans l2.symm)).trans l1
    refine ⟨_, rfl, p, bc, _, c, rfl, hp, Same.tup (sm.trans s10) rc, lp.trans hc.symm, by omega, fun H11 s11 => ⟨_, rfl, ite2 (fun e => k1 _ _ ?_ (s10.trans s11)) (fun e => k0 _ ?_ (s10.trans s11))⟩⟩
    · rw [getD_at hi, if_pos e]
    · rw [getD_at hi, if_neg e]
  · rw [List.length_map, fm_ints (g := fun i => if dvdI ((fun t : Tri => List.zipWith (· + ·) t.2.1.2 t.2.2.2) (zs.getD i t0)) c = true then some (1 : Int) else none) (fun i hi => by split <;> rfl)] at e
    replace L := L.same sm
    replace rc := Same.tup sm rc
    replace s3 := s3.trans sm
    obtain ⟨gP, qP, tP⟩ := id L.jP
    refine ⟨_, rfl, vP, _, 1, .ref gP, rfl, rfl, qP, rfl, _, rfl, gP, bc, Pd, c, rfl, tP, rc, fun p hp => (L.fP p hp).1.trans hc.symm, by omega, by omega, fun H12 s12 => ⟨_, rfl, by decide, fun o no => ?_⟩⟩
    have s13 := same_new (o := .lst []) no
    refine ne_lst (ms := []) (.inl (.inl (s13 _ _ (s12 _ _ e)))) (sql_new (o := [])) ⟨rfl, _, rfl, iteNS ?_ ⟨s3.trans (s12.trans s13), _, _, _, _, _, _, _, _, rfl⟩⟩
    exact congrArg V.bl ((L.inP hc).trans (hits_eq (F := fun t : Tri => List.zipWith (· + ·) t.2.1.2 t.2.2.2)).symm)
end
end JN

set_option maxRecDepth 100000
set_option maxHeartbeats 8000000
namespace JN
open PySem PySem.Spec PyProof.Rows L2
section
variable {P : Program} {w : World} {K : PySem.W.Frag} {mg : Str → Option Value} {base : Heap} {f : Addr} {cdv : Value} {A : Around} {outer : List Env} {s : Shared} {H0 : Hp} {E : XK}
theorem p_with (hr : Room 5 (A.deeper (envOfC "law" (defScope S_law) s.heap.objs.size f cdv))) {fG14 : Addr} {dG14 : FuncData} (A14 : At K mg "is_within" S_is_within ["a", "b"] fG14 dG14) (G14 : FnOk P w K mg base CX0 4 fG14 dG14 ["a", "b"] (spWith K)) : PS (cxOf CX0 P w K mg base nLaw "law" (defScope S_law) f cdv A outer s H0 E).nox (lawB.getD 11 (.Pass ⟨0, 0, 0, 0⟩)) (tKeep K) := by
  have nd := sc_law.nd
  refine ps_use (ps_if (PW.pt (pw_or (pt_not (pt_val (pe_call G14 (hr.mono (by decide)) (by rfl) A14.gl A14.fn.kp A14.bi .nil pass0 (pa_cons (pv 8) (pa_cons (pv 7) pa_nil))))) (pw_or (pt_not (pt_val (pe_call G14 (hr.mono (by decide)) (by rfl) A14.gl A14.fn.kp A14.bi .nil pass0 (pa_cons (pv 7) (pa_cons (pv 4) pa_nil))))) (pw_or1 (pt_not (pt_val (pe_call G14 (hr.mono (by decide)) (by rfl) A14.gl A14.fn.kp A14.bi .nil pass0 (pa_cons (pv 5) (pa_cons (pv 6) pa_nil))))))))) (pss_one (ps_ret pe_bl)) pss_nil) (fun D σ H h => ?_)
  obtain ⟨sA, n, va, vb, vS, vM, vP, DP, A, B, S, M, Pd, zs, ⟨y1, y2, y10, y11, y12, y13, y14, y15, rfl⟩, L, q⟩ := h
  have n3 := L.n3
  have lB := L.lB
  have lM := L.lM
  have lP := L.lP
  refine ⟨_, rfl, _, rfl, vP, vM, n, n, Pd, M, n, rfl, L.jP, L.jM, fun p hp => (L.fP p hp).1, fun p hp => (L.fM p hp).1, by omega, fun H1 s1 => ⟨_, rfl, iteNB L.wPM ?_⟩⟩
  replace L := L.same s1
  refine ⟨_, rfl, _, rfl, vM, va, n, n, M, A, n, rfl, L.jM, L.jA, fun p hp => (L.fM p hp).1, fun p hp => (L.fA p hp).1, by omega, fun H2 s2 => ⟨_, rfl, iteNB L.wMA ?_⟩⟩
  replace L := L.same s2
  exact ⟨_, rfl, _, rfl, vb, vS, n, n, B, S, n, rfl, L.jB, L.jS, fun p hp => (L.fB p hp).1, fun p hp => (L.fS p hp).1, by omega, fun H3 s3 => ⟨_, rfl, iteNB L.wBS (q _ _ (s1.trans (s2.trans s3)) ⟨_, _, _, _, _, _, _, _, rfl⟩)⟩⟩
end
end JN

set_option maxRecDepth 100000
set_option maxHeartbeats 8000000
namespace JN
open PySem PySem.Spec PyProof.Rows L2
theorem isi_none {K : PySem.W.Frag} {H : Hp} {e v : Addr} {n : Int} {nv : upd H e (.tup []) v = none} : IsI K (upd (upd H e (.tup [])) v (.tup [V.int n, V.ref e])) v n [] := isi_new nv ⟨[], rfl, sqt_new, fun p hp => absurd hp List.not_mem_nil⟩
theorem isi_one {K : PySem.W.Frag} {H : Hp} {z g v : Addr} {n : Nat} (ez : H z = some (.tup (List.replicate n (V.int 0)))) (ng : H g = none) (nv : upd H g (.tup [V.ref z]) v = none) : IsI K (upd (upd H g (.tup [V.ref z])) v (.tup [V.int (n : Int), V.ref g])) v n [List.replicate n 0] :=
  isi_new nv ⟨[(z, List.replicate n 0)], rfl, sqt_new, fun p hp => by
    rw [List.mem_singleton.mp hp]
    refine Same.tup (same_new ng) (.inl (.inl ?_))
    rw [List.map_replicate]
    exact ez⟩
section
variable {P : Program} {w : World} {K : PySem.W.Frag} {mg : Str → Option Value} {base : Heap} {f : Addr} {cdv : Value} {A : Around} {outer : List Env} {s : Shared} {H0 : Hp} {E : XK}
theorem p_sums (hr : Room 5 (A.deeper (envOfC "law" (defScope S_law) s.heap.objs.size f cdv))) {fG11 : Addr} {dG11 : FuncData} (A11 : At K mg "sum_of" S_sum_of ["a", "b"] fG11 dG11) (G11 : FnOk P w K mg base CX0 5 fG11 dG11 ["a", "b"] (spOp2 K (· ++ ·) (· + ·))) {fG12 : Addr} {dG12 : FuncData} (A12 : At K mg "meet_of" S_meet_of ["a", "b"] fG12 dG12) (G12 : FnOk P w K mg base CX0 5 fG12 dG12 ["a", "b"] (spOp2 K (prodL (List.zipWith mxI)) (· * ·))) : PS (cxOf CX0 P w K mg base nLaw "law" (defScope S_law) f cdv A outer s H0 E).nox (lawB.getD 12 (.Pass ⟨0, 0, 0, 0⟩)) (tKeep K) := by
  have nd := sc_law.nd
  refine ps_use (ps_if (PW.pt (pw_or (pt_cmpR (op_neD hr.units) (pe_call G11 hr (by rfl) A11.gl A11.fn.kp A11.bi .nil pass0 (pa_cons (pv 4) (pa_cons (pv 4) pa_nil))) (pv 4) (nomark _)) (pw_or (pt_cmpR (op_neD hr.units) (pe_call G12 hr (by rfl) A12.gl A12.fn.kp A12.bi .nil pass0 (pa_cons (pv 4) (pa_cons (pv 4) pa_nil))) (pv 4) (nomark _)) (pw_or (pt_cmpR (op_neD hr.units) (pe_call G11 hr (by rfl) A11.gl A11.fn.kp A11.bi .nil pass0 (pa_cons (pv 4) (pa_cons (pe_tup (pa_cons (pv 3) (pa_cons (pe_tup pa_nil) pa_nil))) pa_nil))) (pv 4) (nomark _)) (pw_or1 (pt_cmpR (op_neD hr.units) (pe_call G12 hr (by rfl) A12.gl A12.fn.kp A12.bi .nil pass0 (pa_cons (pv 4) (pa_cons (pe_tup (pa_cons (pv 3) (pa_cons (pe_tup (pa_cons (pe_op op_repA (pe_tup (pa_cons pe_int pa_nil)) (pv 3)) pa_nil)) pa_nil))) pa_nil))) (pv 4) (nomark _))))))) (pss_one (ps_ret pe_bl)) pss_nil) (fun D σ H h => ?_)
  obtain ⟨sA, n, va, vb, vS, vM, vP, DP, A, B, S, M, Pd, zs, ⟨y1, y2, y10, y11, y12, y13, y14, y15, rfl⟩, L, q⟩ := h
  have n3 := L.n3
  have n1 := L.n1
  have lA := L.lA
  have t3 : (3 : Int) ≤ 60 := by decide
  have lAA : A.length * A.length ≤ 25 := Nat.mul_le_mul lA lA
  have f1 : ∀ p ∈ [List.replicate n (0 : Int)], Few n 3 p := fun p hp => by rw [List.mem_singleton.mp hp]; exact few_rep (by decide)
  have f0 : ∀ p ∈ ([] : List (List Int)), Few n 3 p := fun p hp => absurd hp List.not_mem_nil
  refine ⟨_, rfl, _, rfl, va, va, n, n, A, A, n, rfl, L.jA, L.jA, n1, by omega, L.mlA, L.mlA, ml_few t3 (few_app L.fA L.fA), by show A.length + A.length ≤ 60; omega, fun v1 H1 T1 s1 m1 i1 => ⟨_, rfl, ne_I i1 (L.jA.same s1) ⟨_, rfl, iteNS ⟨rfl, m1.uniq (self_sum L.gA) fun _ => Iff.rfl⟩ ?_⟩⟩⟩
  replace L := L.same s1
  refine ⟨_, rfl, _, rfl, va, va, n, n, A, A, n, rfl, L.jA, L.jA, n1, by omega, L.mlA, L.mlA, ml_few t3 (few_prod (F := List.zipWith mxI) (fun p q => few_lcm) L.fA L.fA), by show A.length * A.length ≤ 60; omega, fun v2 H2 T2 s2 m2 i2 => ⟨_, rfl, ne_I i2 (L.jA.same s2) ⟨_, rfl, iteNS ⟨rfl, m2.uniq (self_meet L.gA L.fA t3) fun _ => Iff.rfl⟩ ?_⟩⟩⟩
  replace L := L.same s2
  have s02 := s1.trans s2
  clear s1 s2 i1 i2 m1 m2
  refine ⟨_, rfl, _, rfl, by decide, fun e3 ne3 => ⟨by show 2 ≤ sizeLine; decide, fun v3 nv3 => ?_⟩⟩
  have i3 := isi_none (K := K) (n := (n : Int)) (nv := nv3)
  have u3 := (same_new ne3).trans (same_new (o := .tup [V.int (n : Int), V.ref e3]) nv3)
  replace L := L.same u3
  refine ⟨va, v3, n, n, A, [], n, rfl, L.jA, i3, n1, by omega, L.mlA, ml_few t3 f0, ml_few t3 (few_app L.fA f0), by show A.length + 0 ≤ 60; omega, fun v4 H4 T4 s4 m4 i4 => ⟨_, rfl, ne_I i4 (L.jA.same s4) ⟨_, rfl, iteNS ⟨rfl, m4.uniq (self_sum0 L.gA) fun _ => Iff.rfl⟩ ?_⟩⟩⟩
  replace L := L.same s4
  have s04 := s02.trans (u3.trans s4)
  clear u3 s4 i3 i4 m4 s02
  refine ⟨_, rfl, _, rfl, by show 1 ≤ sizeLine; decide, fun o no => ⟨_, rfl, rep_one n1 (by omega) upd_same fun z H5 s5 ez => ⟨by show 1 ≤ sizeLine; decide, fun g6 n6 => ⟨by show 2 ≤ sizeLine; decide, fun v6 nv6 => ?_⟩⟩⟩⟩
  have i6 := isi_one (K := K) (n := n) ez n6 nv6
  have u6 := (same_new (o := .tup [V.int 0]) no).trans (s5.trans ((same_new (o := .tup [V.ref z]) n6).trans (same_new (o := .tup [V.int (n : Int), V.ref g6]) nv6)))
  replace L := L.same u6
  exact ⟨va, v6, n, n, A, [List.replicate n 0], n, rfl, L.jA, i6, n1, by omega, L.mlA, ml_few t3 f1, ml_few t3 (few_prod (F := List.zipWith mxI) (fun p q => few_lcm) L.fA f1), by show A.length * 1 ≤ 60; omega, fun v7 H7 T7 s7 m7 i7 => ⟨_, rfl, ne_I i7 (L.jA.same s7) ⟨_, rfl, iteNS ⟨rfl, m7.uniq (meet_one L.gA) fun _ => Iff.rfl⟩ (q _ _ (s04.trans (u6.trans s7)) ⟨_, _, _, _, _, _, _, _, rfl⟩)⟩⟩⟩
end
end JN

set_option maxRecDepth 100000
set_option maxHeartbeats 8000000
namespace JN
open PySem PySem.Spec PyProof.Rows L2
section
variable {P : Program} {w : World} {K : PySem.W.Frag} {mg : Str → Option Value} {base : Heap} {f : Addr} {cdv : Value} {A : Around} {outer : List Env} {s : Shared} {H0 : Hp} {E : XK}
theorem p_prods (hr : Room 5 (A.deeper (envOfC "law" (defScope S_law) s.heap.objs.size f cdv))) {fG13 : Addr} {dG13 : FuncData} (A13 : At K mg "product_of" S_product_of ["a", "b"] fG13 dG13) (G13 : FnOk P w K mg base CX0 5 fG13 dG13 ["a", "b"] (spOp2 K (prodL (List.zipWith (· + ·))) (· * ·))) : PS (cxOf CX0 P w K mg base nLaw "law" (defScope S_law) f cdv A outer s H0 E).nox (lawB.getD 13 (.Pass ⟨0, 0, 0, 0⟩)) (tKeep K) := by
  have nd := sc_law.nd
  refine ps_use (ps_if (PW.pt (pw_or (pt_cmpR (op_neD hr.units) (pe_call G13 hr (by rfl) A13.gl A13.fn.kp A13.bi .nil pass0 (pa_cons (pv 4) (pa_cons (pe_tup (pa_cons (pv 3) (pa_cons (pe_tup (pa_cons (pe_op op_repA (pe_tup (pa_cons pe_int pa_nil)) (pv 3)) pa_nil)) pa_nil))) pa_nil))) (pv 4) (nomark _)) (pw_or1 (pt_cmpR (op_neD hr.units) (pe_call G13 hr (by rfl) A13.gl A13.fn.kp A13.bi .nil pass0 (pa_cons (pv 4) (pa_cons (pe_tup (pa_cons (pv 3) (pa_cons (pe_tup pa_nil) pa_nil))) pa_nil))) (pe_tup (pa_cons (pv 3) (pa_cons (pe_tup pa_nil) pa_nil))) (nomark _))))) (pss_one (ps_ret pe_bl)) pss_nil) (fun D σ H h => ?_)
  obtain ⟨sA, n, va, vb, vS, vM, vP, DP, A, B, S, M, Pd, zs, ⟨y1, y2, y10, y11, y12, y13, y14, y15, rfl⟩, L, q⟩ := h
  have n3 := L.n3
  have n1 := L.n1
  have lA := L.lA
  have t3 : (3 : Int) ≤ 60 := by decide
  have t6 : (3 + 3 : Int) ≤ 60 := by decide
  have f1 : ∀ p ∈ [List.replicate n (0 : Int)], Few n 3 p := fun p hp => by rw [List.mem_singleton.mp hp]; exact few_rep (by decide)
  have f0 : ∀ p ∈ ([] : List (List Int)), Few n 3 p := fun p hp => absurd hp List.not_mem_nil
  refine ⟨_, rfl, _, rfl, by show 1 ≤ sizeLine; decide, fun o no => ⟨_, rfl, rep_one n1 (by omega) upd_same fun z H5 s5 ez => ⟨by show 1 ≤ sizeLine; decide, fun g6 n6 => ⟨by show 2 ≤ sizeLine; decide, fun v6 nv6 => ?_⟩⟩⟩⟩
  have i6 := isi_one (K := K) (n := n) ez n6 nv6
  have u6 := (same_new (o := .tup [V.int 0]) no).trans (s5.trans ((same_new (o := .tup [V.ref z]) n6).trans (same_new (o := .tup [V.int (n : Int), V.ref g6]) nv6)))
  replace L := L.same u6
  refine ⟨va, v6, n, n, A, [List.replicate n 0], n, rfl, L.jA, i6, n1, by omega, L.mlA, ml_few t3 f1, ml_few t6 (few_prod (F := List.zipWith (· + ·)) (fun p q => few_times) L.fA f1), by show A.length * 1 ≤ 60; omega, fun v7 H7 T7 s7 m7 i7 => ⟨_, rfl, ne_I i7 (L.jA.same s7) ⟨_, rfl, iteNS ⟨rfl, m7.uniq (times_one L.gA) fun _ => Iff.rfl⟩ ?_⟩⟩⟩
  replace L := L.same s7
  have s07 := u6.trans s7
  clear u6 s7 i6 i7 m7
  refine ⟨_, rfl, _, rfl, by decide, fun e3 ne3 => ⟨by show 2 ≤ sizeLine; decide, fun v3 nv3 => ?_⟩⟩
  have i3 := isi_none (K := K) (n := (n : Int)) (nv := nv3)
  have u3 := (same_new ne3).trans (same_new (o := .tup [V.int (n : Int), V.ref e3]) nv3)
  replace L := L.same u3
  refine ⟨va, v3, n, n, A, [], n, rfl, L.jA, i3, n1, by omega, L.mlA, ml_few t3 f0, ml_few t6 (few_prod (F := List.zipWith (· + ·)) (fun p q => few_times) L.fA f0), by show A.length * 0 ≤ 60; omega, fun v4 H4 T4 s4 m4 i4 => ?_⟩
  refine ⟨_, rfl, by decide, fun e8 ne8 => ⟨by show 2 ≤ sizeLine; decide, fun v8 nv8 => ?_⟩⟩
  have u8 := (same_new ne8).trans (same_new (o := .tup [V.int (n : Int), V.ref e8]) nv8)
  exact ne_I (i4.same u8) (isi_none (nv := nv8)) ⟨_, rfl, iteNS ⟨rfl, m4.uniq times_none fun _ => Iff.rfl⟩ (q _ _ (s07.trans (u3.trans (s4.trans u8))) ⟨_, _, _, _, _, _, _, _, rfl⟩)⟩
end
end JN

set_option maxRecDepth 100000
set_option maxHeartbeats 8000000
namespace JN
open PySem PySem.Spec PyProof.Rows L2
def spLaw (K : PySem.W.Frag) : Sp := fun vs H Q _ => ∃ (a : Addr) (ns : List Int), vs = [.ref a] ∧ SqL K H a (ns.map V.int) ∧ ns.length ≤ 63 ∧ ∀ H', Q (.bl true) H'
section
variable {P : Program} {w : World} {K : PySem.W.Frag} {mg : Str → Option Value} {base : Heap}
structure Tx (K : PySem.W.Frag) (mg : Str → Option Value) : Prop extends Bt mg where
  cG : ∃ t, mg "MOST_GENERATORS" = some (.int 60 t)
  cE : ∃ t, mg "MOST_EXPONENT" = some (.int 60 t)
  t_divides : ∃ f fd, At K mg "divides" S_divides ["a", "b"] f fd
  t_lcm : ∃ f fd, At K mg "lcm_of" S_lcm_of ["a", "b"] f fd
  t_times : ∃ f fd, At K mg "times" S_times ["a", "b"] f fd
  t_has : ∃ f fd, At K mg "has_divisor" S_has_divisor ["monomial", "others"] f fd
  t_least : ∃ f fd, At K mg "least_ones" S_least_ones ["monomials", "most"] f fd
  t_ideal : ∃ f fd, At K mg "ideal_of" S_ideal_of ["n", "monomials"] f fd
  t_cont : ∃ f fd, At K mg "contains" S_contains ["ideal", "monomial"] f fd
  t_with : ∃ f fd, At K mg "is_within" S_is_within ["a", "b"] f fd
  t_sum : ∃ f fd, At K mg "sum_of" S_sum_of ["a", "b"] f fd
  t_product : ∃ f fd, At K mg "product_of" S_product_of ["a", "b"] f fd
  t_meet : ∃ f fd, At K mg "meet_of" S_meet_of ["a", "b"] f fd
  t_begun : ∃ f fd, At K mg "_law_begun" S_law_begun ["script", "k"] f fd
  t_draw : ∃ f fd, At K mg "_law_draw" S_law_draw ["m", "below"] f fd
  t_ldvd : ∃ f fd, At K mg "_law_divides" S_law_divides ["a", "b"] f fd
  t_llcm : ∃ f fd, At K mg "_law_lcm" S_law_lcm ["a", "b"] f fd
  t_ltimes : ∃ f fd, At K mg "_law_times" S_law_times ["a", "b"] f fd
  t_lleast : ∃ f fd, At K mg "_law_least" S_law_least ["monomials"] f fd
  t_in : ∃ f fd, At K mg "_law_in" S_law_in ["generators", "b"] f fd
  t_monomial : ∃ f fd, At K mg "_law_monomial" S_law_monomial ["m", "n", "top"] f fd
  t_lideal : ∃ f fd, At K mg "_law_ideal" S_law_ideal ["m", "n", "count", "top"] f fd
  t_box : ∃ f fd, At K mg "_law_box" S_law_box ["tops"] f fd
  t_drawn : ∃ f fd, At K mg "_law_drawn" S_law_drawn ["m", "n"] f fd
  t_pairs : ∃ f fd, At K mg "_law_pairs" S_law_pairs ["rows", "others"] f fd
set_option maxHeartbeats 0 in
theorem ok_law {f : Addr} {fd : FuncData} (F : Fun K "law" "law" S_law f fd) (T : Tx K mg) : FnOk P w K mg base CX0 6 f fd ["script"] (spLaw K) := by
  have B := T.toBt
  obtain ⟨tG, hG⟩ := T.cG
  obtain ⟨tE, hE⟩ := T.cE
  obtain ⟨_, _, B1⟩ := T.t_divides
  obtain ⟨_, _, B2⟩ := T.t_lcm
  obtain ⟨_, _, B3⟩ := T.t_times
  obtain ⟨_, _, B4⟩ := T.t_has
  obtain ⟨_, _, B5⟩ := T.t_least
  obtain ⟨_, _, B6⟩ := T.t_ideal
  obtain ⟨_, _, B7⟩ := T.t_cont
  obtain ⟨_, _, A14⟩ := T.t_with
  obtain ⟨_, _, A11⟩ := T.t_sum
  obtain ⟨_, _, A13⟩ := T.t_product
  obtain ⟨_, _, A12⟩ := T.t_meet
  obtain ⟨_, _, A1⟩ := T.t_begun
  obtain ⟨_, _, A2⟩ := T.t_draw
  obtain ⟨_, _, A3⟩ := T.t_ldvd
  obtain ⟨_, _, A4⟩ := T.t_llcm
  obtain ⟨_, _, A5⟩ := T.t_ltimes
  obtain ⟨_, _, A6⟩ := T.t_lleast
  obtain ⟨_, _, A7⟩ := T.t_in
  obtain ⟨_, _, B8⟩ := T.t_monomial
  obtain ⟨_, _, B9⟩ := T.t_lideal
  obtain ⟨_, _, A8⟩ := T.t_box
  obtain ⟨_, _, A9⟩ := T.t_drawn
  obtain ⟨_, _, A10⟩ := T.t_pairs
  have E1 := ok_dvd (P := P) (w := w) (base := base) B1.fn B
  have E2 := ok_lcm_of (P := P) (w := w) (base := base) B2.fn B
  have E3 := ok_times (P := P) (w := w) (base := base) B3.fn B
  have E4 := ok_hasL (P := P) (w := w) (base := base) B4.fn B1 E1
  have E4' := ok_hasT (P := P) (w := w) (base := base) B4.fn B1 E1
  have E5 := ok_least (P := P) (w := w) (base := base) B5.fn B B4 E4
  have E6 := ok_ideal (P := P) (w := w) (base := base) B6.fn B hG hE B5 E5
  have E7 := ok_cont (P := P) (w := w) (base := base) B7.fn B4 E4'
  have G14 := ok_with (P := P) (w := w) (base := base) A14.fn B B7 E7
  have G11 := ok_sum (P := P) (w := w) (base := base) A11.fn B6 E6
  have G13 := ok_product (P := P) (w := w) (base := base) A13.fn B6 E6 B3 E3
  have G12 := ok_meet (P := P) (w := w) (base := base) A12.fn B6 E6 B2 E2
  have G1 := ok_begun (P := P) (w := w) (base := base) A1.fn B
  have G2 := ok_draw (P := P) (w := w) (K := K) (base := base) A2.fn B
  have G3 := ok_ldvd (P := P) (w := w) (base := base) A3.fn B
  have G4 := ok_lawlcm (P := P) (w := w) (base := base) A4.fn B
  have G5 := ok_lawtimes (P := P) (w := w) (base := base) A5.fn B
  have G6 := ok_lleast (P := P) (w := w) (base := base) A6.fn B A3 G3
  have G7 := ok_in (P := P) (w := w) (base := base) A7.fn A3 G3
  have E8 := ok_monomial (P := P) (w := w) (base := base) B8.fn B A2 G2
  have E9 := ok_lideal (P := P) (w := w) (base := base) B9.fn B A2 G2 B8 E8 A6 G6
  have G8 := ok_box (P := P) (w := w) (base := base) A8.fn B
  have G9 := ok_drawn (P := P) (w := w) (base := base) A9.fn A2 G2 B9 E9
  have G10 := ok_pairs (P := P) (w := w) (mg := mg) (base := base) A10.fn
  refine F.ok sc_law (fun vs H Q E h => ?_) (fun cdv A outer s H vs Q E hr h => ?_)
  · obtain ⟨a, ns, rfl, _⟩ := h
    rfl
  · obtain ⟨sA, ns, rfl, hS, hlen, q⟩ := h
    have nd := sc_law.nd
    refine ⟨_, pss_cons (ps_for PassesOwn.never rfl (pi_range1 (by rfl) B.range (pa_cons (pe_callB (call_max2 (by rfl)) (by rfl) B.max (by decide +kernel) (pa_cons pe_int (pa_cons (pe_callB (call_min2 (by rfl)) (by rfl) B.min (by decide +kernel) (pa_cons (pe_callB call_len_seq (by rfl) B.len PySem.boot_len (pa_cons (pv 0) pa_nil)) (pa_cons pe_int pa_nil))) pa_nil))) pa_nil)) (pg_name (i := 1) nd rfl (.inl rfl))
        (pss_cons (ps_set (i := 2) nd rfl (.inl rfl) (pe_call G1 (hr.mono (by decide)) (by rfl) A1.gl A1.fn.kp A1.bi .nil pass0 (pa_cons (pv 0) (pa_cons (pv 1) pa_nil))))
        (pss_cons (ps_set (i := 3) nd rfl (.inl rfl) (pe_op op_add pe_int (pe_call G2 (hr.mono (by decide)) (by rfl) A2.gl A2.fn.kp A2.bi .nil pass0 (pa_cons (pv 2) (pa_cons pe_int pa_nil)))))
        (pss_cons (ps_par (i := 4) (j := 5) (by rfl) nd rfl rfl (by decide) rfl rfl (pa_cons (pe_call G9 (hr.mono (by decide)) (by rfl) A9.gl A9.fn.kp A9.bi .nil pass0 (pa_cons (pv 2) (pa_cons (pv 3) pa_nil))) (pa_cons (pe_call G9 (hr.mono (by decide)) (by rfl) A9.gl A9.fn.kp A9.bi .nil pass0 (pa_cons (pv 2) (pa_cons (pv 3) pa_nil))) pa_nil)) (by rfl))
        (pss_cons (ps_par3 (i := 6) (j := 7) (l := 8) (by rfl) nd rfl rfl rfl (by decide) (by decide) (by decide) rfl rfl rfl (pa_cons (pe_call G11 hr (by rfl) A11.gl A11.fn.kp A11.bi .nil pass0 (pa_cons (pv 4) (pa_cons (pv 5) pa_nil))) (pa_cons (pe_call G12 hr (by rfl) A12.gl A12.fn.kp A12.bi .nil pass0 (pa_cons (pv 4) (pa_cons (pv 5) pa_nil))) (pa_cons (pe_call G13 hr (by rfl) A13.gl A13.fn.kp A13.bi .nil pass0 (pa_cons (pv 4) (pa_cons (pv 5) pa_nil))) pa_nil))) (by rfl))
        (pss_cons (ps_if (PW.pt (pw_or (pt_cmpR (op_neD hr.units) (pv 6) (pe_tup (pa_cons (pv 3) (pa_cons (pe_call G6 (hr.mono (by decide)) (by rfl) A6.gl A6.fn.kp A6.bi .nil pass0 (pa_cons (pe_op op_catA (pe_ix ix_tup (pv 4) pe_int (fun _ _ => rfl)) (pe_ix ix_tup (pv 5) pe_int (fun _ _ => rfl))) pa_nil)) pa_nil))) (nomark _)) (pw_or1 (pt_cmpR (op_neD hr.units) (pe_call G11 hr (by rfl) A11.gl A11.fn.kp A11.bi .nil pass0 (pa_cons (pv 5) (pa_cons (pv 4) pa_nil))) (pv 6) (nomark _))))) (pss_one (ps_ret pe_bl)) pss_nil)
        (pss_cons (ps_setLc (i := 9) (own := [("one", 14), ("other", 15)]) (g := gTup K 2 (gCons (gName 14) (gCons (gName 15) gNil))) (by rfl) nd rfl rfl (sw_true rfl rfl rfl (by decide +kernel)) (pi_list (pe_call G10 (hr.mono (by decide)) (by rfl) A10.gl A10.fn.kp A10.bi .nil pass0 (pa_cons (pe_ix ix_tup (pv 4) pe_int (fun _ _ => rfl)) (pa_cons (pe_ix ix_tup (pv 5) pe_int (fun _ _ => rfl)) pa_nil)))) (blkOk_by (own := [("one", 14), ("other", 15)]) (N := ["script", "k", "m", "n", "a", "b", "both", "common", "product", "pairs", "due", "c", "inside", "hits", "one", "other"]) (sc := defScope S_law) (by decide +kernel)) (fun _ _ _ _ _ => pg_tup (by rfl) (pgs_cons (pg_name (i := 14) nd rfl (.inl rfl)) (pgs_cons (pg_name (i := 15) nd rfl (.inl rfl)) pgs_nil))) (fun _ _ _ _ _ => pts_nil) (fun _ _ _ _ _ => pe_tup (pa_cons (pv 14) (pa_cons (pv 15) pa_nil))))
        (pss_cons (ps_set (i := 10) nd rfl (.inl rfl) (pe_call G6 (hr.mono (by decide)) (by rfl) A6.gl A6.fn.kp A6.bi .nil pass0 (pa_cons (pe_lc (own := [("one", 14), ("other", 15)]) (g := gTup K 2 (gCons (gName 14) (gCons (gName 15) gNil))) (te := tCall (spZw K mxI) [] E0 (tCons (tVar 14) (tCons (tVar 15) tNil))) (by rfl) nd (pi_list (pv 9)) (blkOk_by (own := [("one", 14), ("other", 15)]) (N := ["script", "k", "m", "n", "a", "b", "both", "common", "product", "pairs", "due", "c", "inside", "hits", "one", "other"]) (sc := defScope S_law) (by decide +kernel)) (fun _ _ _ _ _ => pg_tup (by rfl) (pgs_cons (pg_name (i := 14) nd rfl (.inl rfl)) (pgs_cons (pg_name (i := 15) nd rfl (.inl rfl)) pgs_nil))) (fun _ _ _ _ _ => pts_nil) (fun _ _ _ _ _ => pe_call G4 (hr.mono (by decide)) (by rfl) A4.gl A4.fn.kp A4.bi .nil pass0 (pa_cons (pv 14) (pa_cons (pv 15) pa_nil)))) pa_nil)))
        (pss_cons (ps_if (PW.pt (pw_or (pt_cmpR (op_neD hr.units) (pv 7) (pe_tup (pa_cons (pv 3) (pa_cons (pv 10) pa_nil))) (nomark _)) (pw_or1 (pt_cmpR (op_neD hr.units) (pe_call G12 hr (by rfl) A12.gl A12.fn.kp A12.bi .nil pass0 (pa_cons (pv 5) (pa_cons (pv 4) pa_nil))) (pv 7) (nomark _))))) (pss_one (ps_ret pe_bl)) pss_nil)
        (pss_cons (ps_set (i := 10) nd rfl (.inl rfl) (pe_call G6 (hr.mono (by decide)) (by rfl) A6.gl A6.fn.kp A6.bi .nil pass0 (pa_cons (pe_lc (own := [("one", 14), ("other", 15)]) (g := gTup K 2 (gCons (gName 14) (gCons (gName 15) gNil))) (te := tCall (spZw K (· + ·)) [] E0 (tCons (tVar 14) (tCons (tVar 15) tNil))) (by rfl) nd (pi_list (pv 9)) (blkOk_by (own := [("one", 14), ("other", 15)]) (N := ["script", "k", "m", "n", "a", "b", "both", "common", "product", "pairs", "due", "c", "inside", "hits", "one", "other"]) (sc := defScope S_law) (by decide +kernel)) (fun _ _ _ _ _ => pg_tup (by rfl) (pgs_cons (pg_name (i := 14) nd rfl (.inl rfl)) (pgs_cons (pg_name (i := 15) nd rfl (.inl rfl)) pgs_nil))) (fun _ _ _ _ _ => pts_nil) (fun _ _ _ _ _ => pe_call G5 (hr.mono (by decide)) (by rfl) A5.gl A5.fn.kp A5.bi .nil pass0 (pa_cons (pv 14) (pa_cons (pv 15) pa_nil)))) pa_nil)))
        (pss_cons (ps_if (PW.pt (pw_or (pt_cmpR (op_neD hr.units) (pv 8) (pe_tup (pa_cons (pv 3) (pa_cons (pv 10) pa_nil))) (nomark _)) (pw_or1 (pt_cmpR (op_neD hr.units) (pe_call G13 hr (by rfl) A13.gl A13.fn.kp A13.bi .nil pass0 (pa_cons (pv 5) (pa_cons (pv 4) pa_nil))) (pv 8) (nomark _))))) (pss_one (ps_ret pe_bl)) pss_nil)
        (pss_cons (p_box B hr A3 G3 A5 G5 A7 G7 A8 G8) (pss_cons (p_with hr A14 G14) (pss_cons (p_sums hr A11 G11 A12 G12) (pss_one (p_prods hr A13 G13))))))))))))))))
      (pss_one (ps_ret pe_bl)), ?_⟩
    refine ⟨_, rfl, sA, _, rfl, .inl hS, _, _, rfl, _, _, rfl, _, rfl, ?_, ?_, for_range (fun i σ H1 => Same H H1 ∧ ∃ x1 x2 x3 x4 x5 x6 x7 x8 x9 x10 x11 x12 x13 x14 x15, σ = [some (.ref sA), x1, x2, x3, x4, x5, x6, x7, x8, x9, x10, x11, x12, x13, x14, x15]) ⟨Same.refl H, _, _, _, _, _, _, _, _, _, _, _, _, _, _, _, rfl⟩ (fun i σ H1 hi h => ?_) (fun σ H1 h => ?_)⟩
    · split <;> split <;> omega
    · split <;> split <;> omega
    · have hi6 : i < 6 := by
        revert hi
        split <;> split <;> intro hi <;> omega
      obtain ⟨sm, x1, x2, x3, x4, x5, x6, x7, x8, x9, x10, x11, x12, x13, x14, x15, rfl⟩ := h
      refine ⟨_, rfl, _, rfl, sA, ns, 0 + (i : Int), rfl, sm.seq hS, hlen, by omega, by omega, fun d c H2 s2 nd2 nc2 hD2 => ?_⟩
      have hHd : ∀ x ∈ [d], H x = none := fun x hx => by rw [List.mem_singleton.mp hx]; exact sm.free nd2
      have S2 : Same H H2 := sm.trans s2
      refine ⟨_, rfl, d, c, 3, 0, rfl, hD2, by decide, by decide, by decide, fun r1 H3 r10 r11 k3 hD3 => ⟨_, _, rfl, rfl, ?_⟩⟩
      have S3 : Same H H3 := same_kp S2 k3 hHd
      dsimp only
      obtain ⟨n, hn⟩ : ∃ n : Nat, 1 + r1 = (n : Int) := ⟨(1 + r1).toNat, by omega⟩
      rw [hn]
      have hn1 : 1 ≤ n := by omega
      have hn3 : n ≤ 3 := by omega
      refine ⟨_, rfl, _, rfl, d, c, n, 1, rfl, hD3, by decide, hn1, by omega, fun va H4 A k4 hD4 iA4 gA fA lA => ?_⟩
      have S4 : Same H H4 := same_kp S3 k4 hHd
      refine ⟨_, rfl, _, rfl, d, c, n, _, rfl, hD4, by decide, hn1, by omega, fun vb H5 Bg k5 hD5 iB gB fB lB => ⟨_, _, rfl, ?_⟩⟩
      have S5 : Same H H5 := same_kp S4 k5 hHd
      have iA := k5.isiD hD4 iA4
      have t3 : (3 : Int) ≤ 60 := by decide
      have mA := ml_few t3 fA
      have mB := ml_few t3 fB
      have fS := few_app fA fB
      have fM := few_prod (F := List.zipWith mxI) (fun p q => few_lcm) fA fB
      have fP := few_prod (F := List.zipWith (· + ·)) (fun p q => few_times) fA fB
      have t6 : (3 + 3 : Int) ≤ 60 := by decide
      have lAB : A.length * Bg.length ≤ 25 := Nat.mul_le_mul lA lB
      have lBA : Bg.length * A.length ≤ 25 := Nat.mul_le_mul lB lA
      clear k4 hD4 iA4 k3 hD3 s2 nd2 nc2 hD2 r10 r11
      refine ⟨_, rfl, _, rfl, va, vb, n, n, A, Bg, n, rfl, iA, iB, hn1, by omega, mA, mB, ml_few t3 fS, by show A.length + Bg.length ≤ 60; omega, fun vS H6 S s6 mS iS => ?_⟩
      refine ⟨_, rfl, _, rfl, va, vb, n, n, A, Bg, n, rfl, iA.same s6, iB.same s6, hn1, by omega, mA, mB, ml_few t3 fM, by show A.length * Bg.length ≤ 60; omega, fun vM H7 M s7 mM iM => ?_⟩
      have s67 := s6.trans s7
      refine ⟨_, rfl, _, rfl, va, vb, n, n, A, Bg, n, rfl, iA.same s67, iB.same s67, hn1, by omega, mA, mB, ml_few t6 fP, by show A.length * Bg.length ≤ 60; omega, fun vP H8 Pd s8 mP iP => ⟨_, _, _, rfl, ?_⟩⟩
      have s68 := s67.trans s8
      have jA := iA.same s68
      have jB := iB.same s68
      have jS := iS.same (s7.trans s8)
      have jM := iM.same s8
      have S8 := S5.trans s68
      clear iA iB iS iM s6 s7 s8 s67 s68 S5 k5 hD5
      have mnA := mon_few t3 fA
      have mnB := mon_few t3 fB
      have aA : ∀ p ∈ A, p.length = n := fun p hp => (fA p hp).1
      have aB : ∀ p ∈ Bg, p.length = n := fun p hp => (fB p hp).1
      obtain ⟨ga, qa, tA⟩ := id jA
      obtain ⟨gb, qb, tB⟩ := id jB
      refine ⟨_, rfl, _, rfl, _, rfl, va, _, 1, .ref ga, rfl, rfl, qa, rfl, _, rfl, vb, _, 1, .ref gb, rfl, rfl, qb, rfl, ?_⟩
      refine cat_tpm tA tB (by omega) fun x H9 ks s9 hx rx hk => ?_
      have lk : ks.length = A.length + Bg.length := by
        have := congrArg List.length hk
        rw [List.length_map, List.length_append] at this
        exact this
      have fk : ∀ p ∈ ks, Few n 3 p.2 := fun p hp => fS p.2 (by rw [← hk]; exact mem_mons.mpr ⟨p, hp, rfl⟩)
      refine ⟨x, ks, n, rfl, .inr hx, rx, hn1, by omega, fun p hp => (fk p hp).mon t3, by omega, fun g10 H10 R10 s10 m10 t10 => ⟨by show 2 ≤ sizeLine; decide, fun v10 n10 => ?_⟩⟩
      have s11 := same_new (o := .tup [V.int (n : Int), V.ref g10]) n10
      have s9a := (s9.trans s10).trans s11
      rw [hk] at m10
      refine ne_I (jS.same s9a) (isi_new n10 t10) ⟨_, rfl, iteNS ⟨rfl, mS.uniq m10 fun _ => Iff.rfl⟩ ?_⟩
      generalize upd H10 v10 (.tup [V.int (n : Int), V.ref g10]) = H11 at s9a s11 ⊢
      have S11 := S8.trans s9a
      replace jA := jA.same s9a
      replace jB := jB.same s9a
      replace jS := jS.same s9a
      replace jM := jM.same s9a
      replace iP := iP.same s9a
      clear s9a s11 s10 s9 hx rx n10 t10 tA tB qa qb S8
      refine ⟨_, rfl, _, rfl, vb, va, n, n, Bg, A, n, rfl, jB, jA, hn1, by omega, mB, mA, ml_few t3 (few_app fB fA), by show Bg.length + A.length ≤ 60; omega, fun v12 H12 S12 s12 m12 i12 => ⟨_, rfl, ne_I i12 (jS.same s12) ⟨_, rfl, iteNS ⟨rfl, m12.uniq mS fun p => ?_⟩ ?_⟩⟩⟩
      · show p ∈ Bg ++ A ↔ p ∈ A ++ Bg
        rw [List.mem_append, List.mem_append, Or.comm]
      replace jA := jA.same s12
      replace jB := jB.same s12
      replace jS := jS.same s12
      replace jM := jM.same s12
      replace iP := iP.same s12
      have S12' := S11.trans s12
      clear s12 i12 S11
      obtain ⟨ga, qa, tA⟩ := id jA
      obtain ⟨gb, qb, tB⟩ := id jB
      refine ⟨_, rfl, va, _, 1, .ref ga, rfl, rfl, qa, rfl, _, rfl, vb, _, 1, .ref gb, rfl, rfl, qb, rfl, ga, gb, A, Bg, rfl, tA, tB, by omega, by omega, fun l13 H13 ts s13 e13 r13 t13 => ⟨l13, rfl, ⟨_, .inl (.inl e13)⟩, fun DP nDP => ?_⟩⟩
      have lts : ts.length ≤ 25 := by
        have h1 := congrArg List.length t13
        have h2 := congrArg List.length (pairL_prod (F := fun a b => a) (A := A) (B := Bg))
        rw [List.length_map] at h1 h2
        rw [prodL_len] at h2
        omega
      refine lc_tris (fun H a (t : (Addr × List Int) × (Addr × List Int)) => PrAt K H a t.1 t.2) (fun t => t.2) nDP (.inl (.inl e13)) r13 (fun _ _ => rfl) (by omega) (fun H H' a b e h => h.same e) (fun H H' a b xs e eD h => e.prL eD h) (fun t ht H6 P1 s6 k => ?_) (fun H14 (zs : List Tri) s14 eP rP f14 => ?_)
      · have r1 := (r13 t ht).same s6
        exact ⟨_, rfl, _, rfl, (by show 2 ≤ sizeLine; decide), fun T nT => k T _ (same_new nT) ⟨sqt_new, Same.tup (same_new nT) r1.fst, Same.tup (same_new nT) r1.snd⟩⟩
      have tP : tmons zs = pairL A Bg := by
        rw [← t13]
        have := congrArg (List.map fun b : (Addr × List Int) × (Addr × List Int) => (b.1.2, b.2.2)) f14
        rw [List.map_map, List.map_map] at this
        exact this
      replace eP : H14 DP = some (.lst (trefs zs)) := eP
      replace rP : TRows K H14 zs := rP
      have lzs : zs.length ≤ 25 := by
        have := congrArg List.length f14
        rw [List.length_map, List.length_map] at this
        omega
      have hin : ∀ t ∈ zs, t.2.1.2 ∈ A ∧ t.2.2.2 ∈ Bg := fun t ht => by
        have : (t.2.1.2, t.2.2.2) ∈ tmons zs := List.mem_map.mpr ⟨t, ht, rfl⟩
        rw [tP] at this
        exact pairL_mem.mp this
      have s134 := s13.trans s14
      replace jA := jA.same s134
      replace jB := jB.same s134
      replace jS := jS.same s134
      replace jM := jM.same s134
      replace iP := iP.same s134
      replace S12' := S12'.trans s134
      clear s134 s13 s14 tA tB qa qb r13 e13 t13 f14 nDP
      refine ⟨_, rfl, DP, rfl, ⟨_, .inl (.inl eP)⟩, fun D20 nD20 => ?_⟩
      refine lc_tris (fun H a (m : List Int) => SqT K H a (m.map V.int)) (fun t => List.zipWith mxI t.2.1.2 t.2.2.2) nD20 (.inl (.inl eP)) rP (fun _ _ => rfl) (by omega) (fun H H' a b e h => Same.tup e h) (fun H H' a b xs e eD h => e.tupL eD h) (fun t ht H6 P1 s6 k => ?_) (fun H20 ks20 s20 e20 r20 f20 => ?_)
      · have r1 := (rP t ht).same s6
        have h1 := hin t ht
        exact ⟨_, rfl, _, rfl, t.2.1.1, t.2.2.1, t.2.1.2, t.2.2.2, rfl, r1.fst, r1.snd, (aA _ h1.1).trans (aB _ h1.2).symm, by rw [aA _ h1.1]; omega, fun p H7 s7 hp => k p H7 s7 hp⟩
      have hk20 : mons ks20 = prodL (List.zipWith mxI) A Bg := by
        rw [← pairL_prod, ← tP]
        show ks20.map _ = _
        rw [f20, List.map_map]
        rfl
      have fk20 : ∀ p ∈ ks20, Mon n p.2 := fun p hp => by
        have : p.2 ∈ prodL (List.zipWith mxI) A Bg := by rw [← hk20]; exact mem_mons.mpr ⟨p, hp, rfl⟩
        exact (fM p.2 this).mon t3
      have lk20 : ks20.length ≤ 25 := by
        have := congrArg List.length f20
        rw [List.length_map, List.length_map] at this
        omega
      refine ⟨D20, ks20, n, rfl, .inl (.inl (.inl e20)), r20, hn1, by omega, fk20, by omega, fun g20 K20 R20 u20 m20 t20 => ?_⟩
      have w20 := s20.trans u20
      rw [hk20] at m20
      refine ⟨_, rfl, _, rfl, _, rfl, (by show 2 ≤ sizeLine; decide), fun v20 n20 => ?_⟩
      have y20 := same_new (o := .tup [V.int (n : Int), V.ref g20]) n20
      have z20 := w20.trans y20
      refine ne_I (jM.same z20) (isi_new n20 t20) ⟨_, rfl, iteNS ⟨rfl, mM.uniq m20 fun _ => Iff.rfl⟩ ?_⟩
      generalize upd K20 v20 (.tup [V.int (n : Int), V.ref g20]) = J20 at z20 y20 ⊢
      replace jA := jA.same z20
      replace jB := jB.same z20
      replace jS := jS.same z20
      replace jM := jM.same z20
      replace iP := iP.same z20
      replace eP := z20 _ _ eP
      replace rP := rP.same z20
      replace S12' := S12'.trans z20
      clear y20 w20 n20 t20 e20 r20 s20 u20 nD20 z20
      refine ⟨_, rfl, _, rfl, vb, va, n, n, Bg, A, n, rfl, jB, jA, hn1, by omega, mB, mA, ml_few t3 (few_prod (F := List.zipWith mxI) (fun p q => few_lcm) fB fA), by show Bg.length * A.length ≤ 60; omega, fun v220 H220 T220 s220 m220 i220 => ⟨_, rfl, ne_I i220 (jM.same s220) ⟨_, rfl, iteNS ⟨rfl, m220.uniq mM (prod_comm mx_comm aB aA)⟩ ?_⟩⟩⟩
      replace jA := jA.same s220
      replace jB := jB.same s220
      replace jS := jS.same s220
      replace jM := jM.same s220
      replace iP := iP.same s220
      replace eP := s220 _ _ eP
      replace rP := rP.same s220
      replace S12' := S12'.trans s220
      clear s220 i220
      refine ⟨_, rfl, DP, rfl, ⟨_, .inl (.inl eP)⟩, fun D30 nD30 => ?_⟩
      refine lc_tris (fun H a (m : List Int) => SqT K H a (m.map V.int)) (fun t => List.zipWith (· + ·) t.2.1.2 t.2.2.2) nD30 (.inl (.inl eP)) rP (fun _ _ => rfl) (by omega) (fun H H' a b e h => Same.tup e h) (fun H H' a b xs e eD h => e.tupL eD h) (fun t ht H6 P1 s6 k => ?_) (fun H30 ks30 s30 e30 r30 f30 => ?_)
      · have r1 := (rP t ht).same s6
        have h1 := hin t ht
        exact ⟨_, rfl, _, rfl, t.2.1.1, t.2.2.1, t.2.1.2, t.2.2.2, rfl, r1.fst, r1.snd, (aA _ h1.1).trans (aB _ h1.2).symm, by rw [aA _ h1.1]; omega, fun p H7 s7 hp => k p H7 s7 hp⟩
      have hk30 : mons ks30 = prodL (List.zipWith (· + ·)) A Bg := by
        rw [← pairL_prod, ← tP]
        show ks30.map _ = _
        rw [f30, List.map_map]
        rfl
      have fk30 : ∀ p ∈ ks30, Mon n p.2 := fun p hp => by
        have : p.2 ∈ prodL (List.zipWith (· + ·)) A Bg := by rw [← hk30]; exact mem_mons.mpr ⟨p, hp, rfl⟩
        exact (fP p.2 this).mon t6
      have lk30 : ks30.length ≤ 25 := by
        have := congrArg List.length f30
        rw [List.length_map, List.length_map] at this
        omega
      refine ⟨D30, ks30, n, rfl, .inl (.inl (.inl e30)), r30, hn1, by omega, fk30, by omega, fun g30 K30 R30 u30 m30 t30 => ?_⟩
      have w30 := s30.trans u30
      rw [hk30] at m30
      refine ⟨_, rfl, _, rfl, _, rfl, (by show 2 ≤ sizeLine; decide), fun v30 n30 => ?_⟩
      have y30 := same_new (o := .tup [V.int (n : Int), V.ref g30]) n30
      have z30 := w30.trans y30
      refine ne_I (iP.same z30) (isi_new n30 t30) ⟨_, rfl, iteNS ⟨rfl, mP.uniq m30 fun _ => Iff.rfl⟩ ?_⟩
      generalize upd K30 v30 (.tup [V.int (n : Int), V.ref g30]) = J30 at z30 y30 ⊢
      replace jA := jA.same z30
      replace jB := jB.same z30
      replace jS := jS.same z30
      replace jM := jM.same z30
      replace iP := iP.same z30
      replace eP := z30 _ _ eP
      replace rP := rP.same z30
      replace S12' := S12'.trans z30
      clear y30 w30 n30 t30 e30 r30 s30 u30 nD30 z30
      refine ⟨_, rfl, _, rfl, vb, va, n, n, Bg, A, n, rfl, jB, jA, hn1, by omega, mB, mA, ml_few t6 (few_prod (F := List.zipWith (· + ·)) (fun p q => few_times) fB fA), by show Bg.length * A.length ≤ 60; omega, fun v230 H230 T230 s230 m230 i230 => ⟨_, rfl, ne_I i230 (iP.same s230) ⟨_, rfl, iteNS ⟨rfl, m230.uniq mP (prod_comm add_comm' aB aA)⟩ ?_⟩⟩⟩
      replace jA := jA.same s230
      replace jB := jB.same s230
      replace jS := jS.same s230
      replace jM := jM.same s230
      replace iP := iP.same s230
      replace eP := s230 _ _ eP
      replace rP := rP.same s230
      replace S12' := S12'.trans s230
      clear s230 i230
      have L : LS K H230 n va vb vS vM vP DP A Bg S M Pd zs := ⟨hn1, hn3, jA, jB, jS, jM, iP, mS, mM, mP, gA, gB, fA, fB, lA, lB, eP, rP, tP⟩
      refine ⟨sA, n, va, vb, vS, vM, vP, DP, A, Bg, S, M, Pd, zs, ⟨_, _, _, _, _, _, _, _, rfl⟩, L, fun σ1 K1 e1 h1 => ⟨sA, n, va, vb, vS, vM, vP, DP, A, Bg, S, M, Pd, zs, h1, L.same e1, fun σ2 K2 e2 h2 => ⟨sA, n, va, vb, vS, vM, vP, DP, A, Bg, S, M, Pd, zs, h2, (L.same e1).same e2, fun σ3 K3 e3 h3 => ⟨sA, n, va, vb, vS, vM, vP, DP, A, Bg, S, M, Pd, zs, h3, ((L.same e1).same e2).same e3, fun σ4 K4 e4 h4 => ?_⟩⟩⟩⟩
      obtain ⟨_, _, _, _, _, _, _, _, rfl⟩ := h4
      exact ⟨S12'.trans (e1.trans (e2.trans (e3.trans e4))), _, _, _, _, _, _, _, _, _, _, _, _, _, _, _, rfl⟩
    · obtain ⟨sm, x1, x2, x3, x4, x5, x6, x7, x8, x9, x10, x11, x12, x13, x14, x15, rfl⟩ := h
      exact q _
end
end JN

set_option maxRecDepth 100000
set_option maxHeartbeats 8000000
namespace JN
open PySem PySem.Spec PyProof.Rows L2
theorem at_mk {K : PySem.W.Frag} {h : Heap} {mg : Str → Option Value} (X : K.In h) (G : h.Ns mainGlobals mg) {x : Str} {st : Stmt} {ps : List Str} {f : Addr} {od an : Option Addr} {sl : Array (Option Value)} {oc kV dc pm cd ct : Value}
    (hb : ∀ (kV doc pm : Value) (an : Option Addr) (cdv ct : Value) (us : List Value), us.length = ps.length → bindArgs (PySem.W.fnOf x x (defArgs st) (defBody st) (defScope st) .none kV doc pm an cdv ct) ⟨us, []⟩ = pure (ps.zip us))
    (a : PySem.W.nsIn K mainGlobals x = some (some (.ref f))) (l : K.lookup f = some ⟨oc, od, .func (PySem.W.fnOf x x (defArgs st) (defBody st) (defScope st) .none kV dc pm an cd ct), sl⟩) (c : PySem.W.codeIn K cd x = true) (k : PySem.W.keepIn K (.ref f) = true) :
    ∃ f fd, At K mg x st ps f fd :=
  ⟨f, _, fun_mk l c k, (fun_mk l c k).binds hb, PySem.W.mg_of X G a⟩
theorem con_mk {K : PySem.W.Frag} {h : Heap} {mg : Str → Option Value} (X : K.In h) (G : h.Ns mainGlobals mg) {x : Str} {v : Value} {z : Int} (a : PySem.W.nsIn K mainGlobals x = some (some v)) (e : ∃ t, v = .int z t) : ∃ t, mg x = some (.int z t) := by
  obtain ⟨t, rfl⟩ := e
  exact ⟨t, PySem.W.mg_of X G a⟩
theorem all_mk {l : PySem.W.OpenLaw} {w : World} {K : PySem.W.Frag} {h : Heap} {mg : Str → Option Value} {fa f0 : Addr} (X : K.In h) (G : h.Ns mainGlobals mg) (hfa : mg "law" = some (.ref fa)) (T : Tx K mg)
    {od an : Option Addr} {sl : Array (Option Value)} {oc kV dc pm cd ct : Value}
    (a : PySem.W.nsIn K mainGlobals "law" = some (some (.ref f0))) (lk : K.lookup f0 = some ⟨oc, od, .func (PySem.W.fnOf "law" "law" (defArgs (topS 33)) (defBody (topS 33)) (defScope (topS 33)) .none kV dc pm an cd ct), sl⟩) (c : PySem.W.codeIn K cd "law" = true) (k : PySem.W.keepIn K (.ref f0) = true) :
    ∃ fd : FuncData, (∀ (s : Shared) (v : Value), BindsTo s fd ⟨[v], []⟩ [("script", v)]) ∧ ∀ base : Heap, K.In base → base.Ns mainGlobals mg → FnOk l.prog w K mg base CX0 6 fa fd ["script"] (spLaw K) := by
  have e := hfa.symm.trans (PySem.W.mg_of X G a)
  cases e
  exact ⟨_, fun s v => .of_eq rfl, fun base _ _ => ok_law (fun_mk lk c k) T⟩
end JN
open PySem PySem.W PyProof.Rows
set_option maxHeartbeats 0 in
theorem PySem.Challenge.cw_jointneeds_k03_whole_sums_meets_products_holds : PySem.Challenge.rw_jointneeds_k03_whole_sums_meets_products.Holds := by
  w_on; o_law; k_head; (case hw => w_witness2)
  k_fill
  refine L2.walk_of (l := PySem.Challenge.rw_jointneeds_k03_whole_sums_meets_products) (n := 63) (k := 6) (x := "script") (CX := fun _ => L2.CX0) (sp := fun w => JN.spLaw _) rfl (by decide) rfl ⟨rfl, by decide, by decide⟩ (fun w h Y => PySem.W.kIn_of Y) ?F (fun _ _ a ns hl _ hS => ⟨a, ns, rfl, hS, hl, fun _ => rfl⟩) (fun _ _ _ _ _ h => h)
  case F =>
    intro w mg fa h KX G hmg
    have none : ∀ {x : Str}, PySem.W.nsIn _ mainGlobals x = some none → mg x = none := fun e => PySem.W.mg_none_of KX G e
    refine' JN.all_mk KX G hmg ?T ?aL ?lL ?cL ?kL
    case T =>
      refine' ⟨⟨none ?z0, none ?z1, none ?z2, none ?z3, none ?z4, none ?z5, none ?z6, none ?z7, none ?z8, none ?z9, none ?z10, none ?z11, none ?z12, none ?z13, none ?z14⟩, JN.con_mk KX G ?mostG ?isG, JN.con_mk KX G ?mostE ?isE, ?t0, ?t1, ?t2, ?t3, ?t4, ?t5, ?t6, ?t7, ?t8, ?t9, ?t10, ?t11, ?t12, ?t13, ?t14, ?t15, ?t16, ?t17, ?t18, ?t19, ?t20, ?t21, ?t22⟩
      (case mostG => k_is); (case mostE => k_is); (case isG => exact ⟨_, rfl⟩); (case isE => exact ⟨_, rfl⟩)
      case t0 => refine' JN.at_mk KX G (fun _ _ _ _ _ _ us hl => match us, hl with | [_, _], _ => rfl) ?a0 ?l0 ?c0 ?k0; (case a0 => k_is); (case l0 => k_is); (case c0 => k_is); (case k0 => k_is)
      case t1 => refine' JN.at_mk KX G (fun _ _ _ _ _ _ us hl => match us, hl with | [_, _], _ => rfl) ?a1 ?l1 ?c1 ?k1; (case a1 => k_is); (case l1 => k_is); (case c1 => k_is); (case k1 => k_is)
      case t2 => refine' JN.at_mk KX G (fun _ _ _ _ _ _ us hl => match us, hl with | [_, _], _ => rfl) ?a2 ?l2 ?c2 ?k2; (case a2 => k_is); (case l2 => k_is); (case c2 => k_is); (case k2 => k_is)
      case t3 => refine' JN.at_mk KX G (fun _ _ _ _ _ _ us hl => match us, hl with | [_, _], _ => rfl) ?a3 ?l3 ?c3 ?k3; (case a3 => k_is); (case l3 => k_is); (case c3 => k_is); (case k3 => k_is)
      case t4 => refine' JN.at_mk KX G (fun _ _ _ _ _ _ us hl => match us, hl with | [_, _], _ => rfl) ?a4 ?l4 ?c4 ?k4; (case a4 => k_is); (case l4 => k_is); (case c4 => k_is); (case k4 => k_is)
      case t5 => refine' JN.at_mk KX G (fun _ _ _ _ _ _ us hl => match us, hl with | [_, _], _ => rfl) ?a5 ?l5 ?c5 ?k5; (case a5 => k_is); (case l5 => k_is); (case c5 => k_is); (case k5 => k_is)
      case t6 => refine' JN.at_mk KX G (fun _ _ _ _ _ _ us hl => match us, hl with | [_, _], _ => rfl) ?a6 ?l6 ?c6 ?k6; (case a6 => k_is); (case l6 => k_is); (case c6 => k_is); (case k6 => k_is)
      case t7 => refine' JN.at_mk KX G (fun _ _ _ _ _ _ us hl => match us, hl with | [_, _], _ => rfl) ?a7 ?l7 ?c7 ?k7; (case a7 => k_is); (case l7 => k_is); (case c7 => k_is); (case k7 => k_is)
      case t8 => refine' JN.at_mk KX G (fun _ _ _ _ _ _ us hl => match us, hl with | [_, _], _ => rfl) ?a8 ?l8 ?c8 ?k8; (case a8 => k_is); (case l8 => k_is); (case c8 => k_is); (case k8 => k_is)
      case t9 => refine' JN.at_mk KX G (fun _ _ _ _ _ _ us hl => match us, hl with | [_, _], _ => rfl) ?a9 ?l9 ?c9 ?k9; (case a9 => k_is); (case l9 => k_is); (case c9 => k_is); (case k9 => k_is)
      case t10 => refine' JN.at_mk KX G (fun _ _ _ _ _ _ us hl => match us, hl with | [_, _], _ => rfl) ?a10 ?l10 ?c10 ?k10; (case a10 => k_is); (case l10 => k_is); (case c10 => k_is); (case k10 => k_is)
      case t11 => refine' JN.at_mk KX G (fun _ _ _ _ _ _ us hl => match us, hl with | [_, _], _ => rfl) ?a11 ?l11 ?c11 ?k11; (case a11 => k_is); (case l11 => k_is); (case c11 => k_is); (case k11 => k_is)
      case t12 => refine' JN.at_mk KX G (fun _ _ _ _ _ _ us hl => match us, hl with | [_, _], _ => rfl) ?a12 ?l12 ?c12 ?k12; (case a12 => k_is); (case l12 => k_is); (case c12 => k_is); (case k12 => k_is)
      case t13 => refine' JN.at_mk KX G (fun _ _ _ _ _ _ us hl => match us, hl with | [_, _], _ => rfl) ?a13 ?l13 ?c13 ?k13; (case a13 => k_is); (case l13 => k_is); (case c13 => k_is); (case k13 => k_is)
      case t14 => refine' JN.at_mk KX G (fun _ _ _ _ _ _ us hl => match us, hl with | [_, _], _ => rfl) ?a14 ?l14 ?c14 ?k14; (case a14 => k_is); (case l14 => k_is); (case c14 => k_is); (case k14 => k_is)
      case t15 => refine' JN.at_mk KX G (fun _ _ _ _ _ _ us hl => match us, hl with | [_, _], _ => rfl) ?a15 ?l15 ?c15 ?k15; (case a15 => k_is); (case l15 => k_is); (case c15 => k_is); (case k15 => k_is)
      case t16 => refine' JN.at_mk KX G (fun _ _ _ _ _ _ us hl => match us, hl with | [_], _ => rfl) ?a16 ?l16 ?c16 ?k16; (case a16 => k_is); (case l16 => k_is); (case c16 => k_is); (case k16 => k_is)
      case t17 => refine' JN.at_mk KX G (fun _ _ _ _ _ _ us hl => match us, hl with | [_, _], _ => rfl) ?a17 ?l17 ?c17 ?k17; (case a17 => k_is); (case l17 => k_is); (case c17 => k_is); (case k17 => k_is)
      case t18 => refine' JN.at_mk KX G (fun _ _ _ _ _ _ us hl => match us, hl with | [_, _, _], _ => rfl) ?a18 ?l18 ?c18 ?k18; (case a18 => k_is); (case l18 => k_is); (case c18 => k_is); (case k18 => k_is)
      case t19 => refine' JN.at_mk KX G (fun _ _ _ _ _ _ us hl => match us, hl with | [_, _, _, _], _ => rfl) ?a19 ?l19 ?c19 ?k19; (case a19 => k_is); (case l19 => k_is); (case c19 => k_is); (case k19 => k_is)
      case t20 => refine' JN.at_mk KX G (fun _ _ _ _ _ _ us hl => match us, hl with | [_], _ => rfl) ?a20 ?l20 ?c20 ?k20; (case a20 => k_is); (case l20 => k_is); (case c20 => k_is); (case k20 => k_is)
      case t21 => refine' JN.at_mk KX G (fun _ _ _ _ _ _ us hl => match us, hl with | [_, _], _ => rfl) ?a21 ?l21 ?c21 ?k21; (case a21 => k_is); (case l21 => k_is); (case c21 => k_is); (case k21 => k_is)
      case t22 => refine' JN.at_mk KX G (fun _ _ _ _ _ _ us hl => match us, hl with | [_, _], _ => rfl) ?a22 ?l22 ?c22 ?k22; (case a22 => k_is); (case l22 => k_is); (case c22 => k_is); (case k22 => k_is)
      (case z0 => k_is); (case z1 => k_is); (case z2 => k_is); (case z3 => k_is); (case z4 => k_is); (case z5 => k_is); (case z6 => k_is); (case z7 => k_is); (case z8 => k_is); (case z9 => k_is); (case z10 => k_is); (case z11 => k_is); (case z12 => k_is); (case z13 => k_is); (case z14 => k_is)
    (case aL => k_is); (case lL => k_is); (case cL => k_is); (case kL => k_is)

