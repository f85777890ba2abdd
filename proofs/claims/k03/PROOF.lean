import PyProof.Rows.All
import Wide.All
import OpenK.AllK
import Wide.FinOn
import PyProof.EnumMake
import PyProof.Draws
import PyProof.InstNe
import HandS.ForMost
import HandS.IsInst
import HandS.Zip0
import HandS.Zip
import HandS.Conv
import HandS.Deep
import HandS.SortRule
import HandS.SortInts
import HandS.TupLe
import HandS.OwnEq
import HandS.Walk
import HandS.Evl
import OpenK.KMake
import PySem.Challenge.RW_silencers_k03_whole_ties
set_option Elab.async false
set_option linter.all false
set_option maxRecDepth 100000
set_option maxHeartbeats 4000000
namespace Bs
open PySem PySem.Spec PyProof.Rows L2
/-! ## enumerate over a tuple -/
theorem draws_tup {prog : Program} {w : World} {A : Around} (hh : A.handled = none) (it l : Addr) (hne : l ≠ it) (items : Array Value) :
    Draws prog w A it [it, l] items.size (fun i v => items[i]? = some v) (fun i h => h.IsTupleIter it l i ∧ h.IsTuple l items) where
  live := fun i h st => let ⟨⟨o, e, _⟩, _⟩ := st; ⟨o, e⟩
  frame := fun i h h' st k => ⟨st.1.at fun o e => k it (by simp) o e, st.2.at fun o e => k l (by simp) o e⟩
  item := fun i s Q E hi st hQ => by
    refine RZ.nextOf_tuple_item st.1 st.2 (x := items[i]) (by simp [hi]) fun h' hit' hs' => ?_
    exact hQ _ h' s.toks (by simp [hi]) ⟨hit', st.2.at fun o e => hs'.extBut l o hne e⟩ hs'
  done := fun s Q E st hQ => RZ.nextOf_tuple_end hh st.1 st.2 (by simp) hQ
theorem meets_enumerate_newT (l : Addr) (items : Array Value) (n : Nat) (dct : Option Addr) (sl : Array (Option Value)) :
    Meets (Builtin.«enumerate.__new__» ⟨[.type "enumerate", .ref l], []⟩) (fun _ R s => s.heap.get? l = some { cls := .type "tuple", dict := dct, data := .seq items n, slots := sl } ∧
      R (.ok (.ret (.ref (s.heap.push { cls := .type "tuple_iterator", data := .fields #[.ref l, .int 0 0] }).objs.size)))
        { s with heap := (s.heap.push { cls := .type "tuple_iterator", data := .fields #[.ref l, .int 0 0] }).push { cls := .type "enumerate", data := .fields #[.none, .bool false, .ref s.heap.objs.size, rawInt 0, .none, .none] } }) :=
  .of_wp fun prog w A R s h => by
    obtain ⟨hp, g, d, tk, os⟩ := s; obtain ⟨hl, h⟩ := h
    have hsub := sub_enumerate
    have hL : Heap.IsTuple (Shared.heap ⟨hp, g, d, tk, os⟩) l items := ⟨_, hl, rfl, n, rfl⟩
    wp_walk using AutoSeq1.wpAny_loadPart' hl
    refine wpAny_stack_any fun st => wpAny_pure ?_
    split
    · rename_i c _ _ _ _ _
      cases (c == Value.type "enumerate")
      · wp_walk using AutoSeq1.wpAny_loadPart' hl, wpAny_pyIter_tuple hL
        exact ⟨_, rfl, h⟩
      · wp_walk using AutoSeq1.wpAny_loadPart' hl, wpAny_pyIter_tuple hL
        exact ⟨_, rfl, h⟩
    · wp_walk using AutoSeq1.wpAny_loadPart' hl, wpAny_pyIter_tuple hL
      exact ⟨_, rfl, h⟩
section
variable {prog : Program} {w : World} {A : Around} {E : Value → Shared → Prop} {s : Shared}
theorem call_enumerate_tup {l : Addr} {items : Array Value} {Q : Value → Shared → Prop} (hL : s.heap.IsTuple l items)
    (h : ∀ h', IsEnum h' (s.heap.objs.size + 1) s.heap.objs.size 0 .none → h'.IsTupleIter s.heap.objs.size l 0 → h'.objs.size = s.heap.objs.size + 2 →
      (∀ b o, s.heap.get? b = some o → h'.get? b = some o) → Q (.ref (s.heap.objs.size + 1)) { s with heap := h' }) :
    wpAny (model prog w) A (call (.type "enumerate") [.ref l]) Q E s := by
  obtain ⟨⟨c, dct, dt, sl⟩, hl, hc, n, hd⟩ := hL
  replace hc : c = .type "tuple" := hc
  replace hd : dt = .seq items n := hd
  subst hc hd
  refine callType_new F.called_enumerate (by decide) (F.typeCall_enumerate_1 _) (F.newCall_enumerate_1 _) (fun obj => F.args_object_init_2 obj _) F.entry_enumerate_new
    (meets_enumerate_newT l items n dct sl) ⟨hl, ?_⟩
  have hz : (s.heap.push { cls := .type "tuple_iterator", data := .fields #[.ref l, .int 0 0] }).objs.size = s.heap.objs.size + 1 := Heap.size_push ..
  show _ ∧ _
  rw [hz]
  have he : IsEnum ((s.heap.push { cls := .type "tuple_iterator", data := .fields #[.ref l, .int 0 0] }).push
      { cls := .type "enumerate", data := .fields #[.none, .bool false, .ref s.heap.objs.size, rawInt 0, .none, .none] }) (s.heap.objs.size + 1) s.heap.objs.size 0 .none := by
    have := Heap.get?_push_size (s.heap.push { cls := .type "tuple_iterator", data := .fields #[.ref l, .int 0 0] })
      (o := { cls := .type "enumerate", data := .fields #[.none, .bool false, .ref s.heap.objs.size, rawInt 0, .none, .none] }) rfl
    rw [hz] at this; exact this
  refine ⟨⟨_, he, rfl⟩, h _ he ⟨_, Heap.get?_push_of_some _ (Heap.get?_push_size _ rfl), rfl, rfl⟩ (by rw [Heap.size_push, hz]) fun b o x => Heap.get?_push_of_some _ (Heap.get?_push_of_some _ x)⟩
end
/-- the tuple at a as it stands at each turn, each item in a new pair -/
def IteT (K : PySem.W.Frag) (a : Addr) : It :=
  ⟨fun i H => ∃ (xs : List V) (x : V), SqT K H a xs ∧ xs[i]? = some x, fun i H v H' => ∃ T x, v = .ref T ∧ H T = none ∧ H' = upd H T (.tup [.int (i : Nat), x]) ∧ ∀ xs, SqT K H a xs → xs[i]? = some x, fun i H => ∃ xs : List V, SqT K H a xs ∧ xs.length ≤ i⟩
theorem turn_enumT {P : Program} {w : World} {K : PySem.W.Frag} {elts : List Expr} {kk : Nat} {tpos : Pos} (a e it : Addr) :
    Turn P w K (.Tuple elts kk tpos) (IteT K a) [e, it] e (fun i h => (∃ old, IsEnum h e it ((i : Nat) : Int) old) ∧ h.IsTupleIter it a i ∧ e ≠ it ∧ a ≠ it ∧ a ≠ e) where
  mem := by simp
  obj := fun i h st b hb => by
    obtain ⟨⟨old, he⟩, ⟨o, ho, hc, hd⟩, _⟩ := st
    have e' : b = e ∨ b = it := by simpa using hb
    rcases e' with z | z
    · rw [z]; exact ⟨_, he, fun v q => nomatch q⟩
    · rw [z]; exact ⟨o, ho, fun v q => by rw [hd] at q; cases q⟩
  keep := fun i h h' st k => let ⟨⟨old, he⟩, hi, hne⟩ := st; ⟨⟨old, k e (by simp) _ he⟩, hi.at fun o q => k it (by simp) o q, hne⟩
  item := by
    intro X hP hw hK hc i pins s σ H E I hf st hg
    subst hP hw hK
    obtain ⟨⟨old, he⟩, hit, hne, hne2, hne3⟩ := st
    obtain ⟨xs, x, hq, hx⟩ := hg
    obtain ⟨its, rv, p, hz⟩ := I.tuple hq
    obtain ⟨u, hu, ru⟩ := rv.get hx
    have hel : e < s.heap.objs.size := Heap.lt_size he
    have hil : it < s.heap.objs.size := by obtain ⟨_, q, _⟩ := hit; exact Heap.lt_size q
    have hlt : i < its.toArray.size := by
      have := (List.getElem?_eq_some_iff.mp hu).1
      simpa using this
    refine wpAny_pyNext_enum_itemD (draws_tup (show X.A.in1.handled = none from I.ok.hd hc) it a hne2 its.toArray) he ⟨hit, p⟩ hlt hne (by simp [hne, Ne.symm hne3]) fun y h' tk hy ho hit' hT hsz hk => ?_
    have hyu : y = u := by
      have h2 : its.toArray[i]? = some u := by simpa using hu
      rw [h2] at hy
      exact (Option.some.inj hy).symm
    subst hyu
    refine ⟨_, rfl, wpAny_letOwnedTupleGo_enum (s := { s with heap := h', toks := tk + 1 }) ho fun h'' he' sb => ?_⟩
    have hT2 : h''.get? s.heap.objs.size = some { cls := .type "tuple", data := .seq #[.int i tk, y] } := (sb.2 _ (Nat.ne_of_gt hel)).trans hT
    have new : ObjOk X.prog X.w (upd H s.heap.objs.size (.tup [.int (i : Nat), x])) h'' s.heap.objs.size (.tup [.int (i : Nat), x]) :=
      ⟨by show 2 ≤ sizeLine; decide, [.int i tk, y], .cons ⟨_, rfl⟩ (.cons ru .nil), ⟨_, hT2, rfl, _, rfl⟩⟩
    have I1 : Inv X pins σ (upd H s.heap.objs.size (.tup [.int (i : Nat), x])) { s with heap := h'', toks := tk + 1 } :=
      I.turnedNew (ch := [e, it]) (fun b ob hb q => (sb.2 b (fun z => hb (by simp [z]))).trans (hk b ob (fun z => hb (by simp [z])) (fun z => hb (by simp [z])) q)) hf (Nat.le_refl _) new
    refine ⟨.ref s.heap.objs.size, _, I1, rfl, ⟨_, x, rfl, I.hok.fresh (Nat.le_refl _), rfl, fun ys hy => by rw [I.tuple_inj hy hq]; exact hx⟩, ⟨⟨y, ?_⟩, hit'.1.at fun o q => (sb.2 it (Ne.symm hne)).trans q, hne, hne2, hne3⟩, fun b hb => ?_⟩
    · have e1 : ((i + 1 : Nat) : Int) = (i : Int) + 1 := by omega
      rw [e1]; exact he'
    · have hb' : b < s.heap.objs.size := by
        have e' : b = e ∨ b = it := by simpa using hb
        rcases e' with z | z
        · rw [z]; exact hel
        · rw [z]; exact hil
      rw [upd_ne (Nat.ne_of_lt hb')]
      exact (hf b hb).1
  done := by
    intro X hP hw hK hc i pins s σ H E I hf st hg
    subst hP hw hK
    obtain ⟨⟨old, he⟩, hit, hne, hne2, hne3⟩ := st
    obtain ⟨xs, hq, hx⟩ := hg
    obtain ⟨its, rv, p, hz⟩ := I.tuple hq
    obtain ⟨f0, f1, f2, f3, f4, f5⟩ := hf it (by simp)
    have hl := rv.length
    have hT : s.TypeIs (.ref e) "enumerate" := ⟨_, he, rfl⟩
    unfold pyNext
    refine wpAny_bind (wpAny_attempt (wpAny_callSpecial?_slot (name := Str.ofString "__next__") hT F.slot_enumerate_next
      (wpAny_call_entry F.slot_enumerate_next hT F.entry_enumerate_next ?_ (F.args_enumerate_next_1 _))))
    show wpAny _ _ (field (.ref e) 2 >>= _) _ _ _
    refine wpAny_bind (wpAny_field he rfl (x := .ref it) rfl ?_)
    refine wpAny_bind (RZ.nextOf_tuple_end (show X.A.in1.handled = none from I.ok.hd hc) hit p (by simp; omega) fun h' x he' hx' => ?_)
    obtain ⟨o, ho, hc⟩ := hx'
    refine wpAny_bind (wpAny_isInstance (T := "StopIteration") (b := true) ⟨o, ho, hc⟩ isSubtype_stop ?_)
    exact wpAny_pure ⟨rfl, I.turned (t' := s.toks) (fun b o hb q => he' b o hb q) f0 f1 f3 f4 f5⟩
  self := fun A i s Q E st h => let ⟨⟨_, he⟩, _⟩ := st; wpAny_pyIter_enum he h
def iEnumT (K : PySem.W.Frag) (ta : TA) : TI := fun σ H R => ta σ H fun vs H1 => ∃ a xs, vs = [.ref a] ∧ SqT K H1 a xs ∧ R (IteT K a) H1
theorem pi_enumT {X : Cx} {e : Expr} {ta : TA} {p pos tpos : Pos} {elts : List Expr} {kk : Nat} (hg : Gl X "enumerate") (hm : X.mg "enumerate" = none) (ha : PA X [e] ta) (hs : starEach [e] X.env = [(false, eval e X.env)] := by rfl) :
    PI X (.Tuple elts kk tpos) (.Call (.Name "enumerate" p) [e] [] pos) (iEnumT X.K ta) := by
  refine ⟨fun pins s σ H R I h => ?_⟩
  refine Call_ (ld_blt I hg hm boot_enumerate (PyProof.Rows.callWith_type1 (thn (ha.run pos pins s σ H _ I h) fun us s1 ⟨vs, H1, I1, r1, q1⟩ => ?_) hs rfl))
  obtain ⟨a, xs, ex, hq, q⟩ := q1
  subst ex
  cases r1 with
  | cons r rr =>
    cases rr
    cases r
    obtain ⟨its, rv, p', hz⟩ := I1.tuple hq
    have hal : a < s1.heap.objs.size := by obtain ⟨_, q, _⟩ := p'; exact Heap.lt_size q
    refine call_enumerate_tup p' fun h' he hit hsz hk => wpAny_pyIter_enum he ?_
    have I2 : Inv X pins σ H1 { s1 with heap := h' } := I1.kept (t' := s1.toks) hk
    refine ⟨s1.heap.objs.size + 1, [s1.heap.objs.size + 1, s1.heap.objs.size], _, _, H1, rfl, I2, turn_enumT a (s1.heap.objs.size + 1) s1.heap.objs.size, ⟨⟨.none, he⟩, hit, Nat.succ_ne_self _, Nat.ne_of_lt hal, Nat.ne_of_lt (Nat.lt_succ_of_lt hal)⟩, fun b hb => ?_, q⟩
    have e' : b = s1.heap.objs.size + 1 ∨ b = s1.heap.objs.size := by simpa using hb
    have hle : s1.heap.objs.size ≤ b := by
      rcases e' with z | z
      · rw [z]; exact Nat.le_add_right _ _
      · rw [z]; exact Nat.le_refl _
    exact I1.fpOk hle (I1.hok.fresh hle)
theorem walk_enumT {K : PySem.W.Frag} {a : Addr} {xs : List V} : Walk (IteT K a) xs.length (fun H => SqT K H a xs) (YPair (fun i => some (.int (i : Nat))) (fun i => xs[i]?)) := by
  refine ⟨fun i _ hi q => ⟨xs, xs[i], q, by simp [hi]⟩, fun _ q => ⟨xs, q, Nat.le_refl _⟩, fun i H v H' _ q y => ?_⟩
  obtain ⟨T, x, h1, h2, h3, h4⟩ := y
  exact ⟨T, .int (i : Nat), x, h1, h2, h3, rfl, h4 xs q⟩
theorem walk_zipT {K : PySem.W.Frag} {a b : Addr} {xs ys : List V} {n : Nat} (hn : n = min xs.length ys.length) : Walk (RZ.ItzT K a b) n (fun H => SqT K H a xs ∧ SqT K H b ys) (YPair (fun i => xs[i]?) (fun i => ys[i]?)) := by
  subst hn
  refine ⟨fun i _ hi q => ?_, fun _ q => ⟨xs, ys, q.1, q.2, by omega⟩, fun i H v H' _ q y => ?_⟩
  · have h1 : i < xs.length := by omega
    have h2 : i < ys.length := by omega
    exact ⟨xs, ys, xs[i], ys[i], q.1, q.2, by simp [h1], by simp [h2]⟩
  · obtain ⟨T, x, z, h1, h2, h3, h4, h5⟩ := y
    exact ⟨T, x, z, h1, h2, h3, h4 xs q.1, h5 ys q.2⟩
end Bs

namespace Bs
open PySem PySem.Spec PyProof.Rows L2
/-! ## != of two instances of one own class with its own == and no != of its own -/
section
variable {prog : Program} {w : World} {A : Around} {E : Value → Shared → Prop} {s : Shared} {K : PySem.W.Frag} {x y C : Addr} {ox oy : Obj} {od oe : Option Obj} {f : Addr}
theorem objNe_K (X : K.In s.heap) (I : PySem.W.InstAt s.heap x ox C od) (hs : PySem.W.findIn K (.ref C) "__eq__" = some (some (.ref f))) (hf : PySem.W.isFn K (.ref f) = true) (hu : A.units < cLine) {Q : Fin → Shared → Prop}
    (hcall : wpAny (model prog w) A (call (.ref f) [.ref x, .ref y]) (fun v s' => ∃ b, v = .bool b ∧ Q (.done (.ret (.bool (!b)))) s') E s) :
    wpAny (model prog w) A (Builtin.«object.__ne__» ⟨[.ref x, .ref y], []⟩) Q E s := by
  obtain ⟨hp, g, d, t, os⟩ := s
  unfold Builtin.«object.__ne__»
  repeat (first
    | with_reducible refine wpAny_cRoomFor hu ?_
    | (refine wpAny_bind (m := callSpecialIfBound? (.ref x) (Str.ofString "__eq__") [.ref y])
        (PySem.W.ifBound_K X I hs hf (wpAny_mono hcall (fun v s' hv => by
          obtain ⟨b, rfl, hq⟩ := hv
          repeat (first | exact hq | exact wpAny_pure hq | exact wpAny_truthy_bool hq | (refine wpAny_bind (m := truthy (.bool _)) (wpAny_truthy_bool ?_)) | wp_step)) fun _ _ e => e)))
    | wp_step)
theorem ifBound_ne (X : K.In s.heap) (I : PySem.W.InstAt s.heap x ox C od) (hn : PySem.W.findIn K (.ref C) "__ne__" = some (some (.builtin "object.__ne__"))) {args : List Value} {Q : Option Value → Shared → Prop} {M : Model}
    (h : wpAny M A (call (.builtin "object.__ne__") (.ref x :: args)) (fun v => Q (some v)) E s) : wpAny M A (callSpecialIfBound? (.ref x) "__ne__" args) Q E s := by
  simp only [callSpecialIfBound?, bindSpecialIfBound?]
  refine wpAny_holding (wpAny_bind (wpAny_bind (wpAny_bind (I.type.here ((PySem.W.looks_findIn X hn).here ?_)))))
  refine wpAny_bind (wpAny_askSetting (wpAny_ite ?_))
  have fin : wpAny M A (call (.builtin "object.__ne__") ([.ref x] ++ args) >>= fun v => pure (some v)) Q E s := wpAny_bind (wpAny_mono h (fun v s' h' => wpAny_pure h') fun _ _ h' => h')
  have hb : bindSpecial (.builtin "object.__ne__") (.ref x) = pure (.builtin "object.__ne__", [.ref x]) := (F.slot_object_ne).bind (.ref x)
  split
  · rw [hb]
    exact wpAny_bind (wpAny_pure (wpAny_pure fin))
  · rw [hb]
    exact wpAny_tryCatch (wpAny_bind (wpAny_pure (wpAny_pure fin)))
theorem tryNe_K (X : K.In s.heap) (I : PySem.W.InstAt s.heap x ox C od) (hs : PySem.W.findIn K (.ref C) "__eq__" = some (some (.ref f))) (hf : PySem.W.isFn K (.ref f) = true)
    (hn : PySem.W.findIn K (.ref C) "__ne__" = some (some (.builtin "object.__ne__"))) (hsub : PySem.W.subIn K (.ref C) (.type "object") = some true) (hu : A.units + 1 < cLine) {Q : Option Value → Shared → Prop}
    (hcall : wpAny (model prog w) A.in1 (call (.ref f) [.ref x, .ref y]) (fun v s' => ∃ b, v = .bool b ∧ Q (some (.bool (!b))) s') E s) :
    wpAny (model prog w) A (tryCompare (.ref x) "__ne__" (.ref y)) Q E s := by
  simp only [tryCompare]
  refine wpAny_bind (ifBound_ne X I hn (wpAny_call (codeAny_call_builtin (F.slot_object_ne).plain F.cmpEntry_ne
    (PySem.W.check_slot F.cmpKind_ne F.cmpSplit_ne (I.type.andThen (PySem.W.looks_subIn X hsub)) (F.cmpArgs_ne _ _)
      (objNe_K (A := A.in1) X I hs hf hu (wpAny_mono hcall (fun v s' hv => ?_) fun _ _ e => e))))))
  obtain ⟨b, rfl, hq⟩ := hv
  first | exact ⟨b, rfl, wpAny_pure hq⟩ | exact ⟨b, rfl, wpAny_pure (wpAny_pure hq)⟩ | exact ⟨b, rfl, hq⟩
theorem richNe_K (X : K.In s.heap) (I : PySem.W.InstAt s.heap x ox C od) (J : PySem.W.InstAt s.heap y oy C oe) (hs : PySem.W.findIn K (.ref C) "__eq__" = some (some (.ref f))) (hf : PySem.W.isFn K (.ref f) = true)
    (hn : PySem.W.findIn K (.ref C) "__ne__" = some (some (.builtin "object.__ne__"))) (hsub : PySem.W.subIn K (.ref C) (.type "object") = some true) (hu : A.units + 1 < cLine) {Q : Value → Shared → Prop}
    (hcall : wpAny (model prog w) A.in1 (call (.ref f) [.ref x, .ref y]) (fun v s' => ∃ b, v = .bool b ∧ Q (.bool (!b)) s') E s) :
    wpAny (model prog w) A (richCompare .NotEq (.ref x) (.ref y)) Q E s := by
  have one : wpAny (model prog w) A (tryCompare (.ref x) "__ne__" (.ref y)) (fun r s' => ∃ v, r = some v ∧ Q v s') E s :=
    tryNe_K X I hs hf hn hsub hu (wpAny_mono hcall (fun v s' ⟨b, e, q⟩ => ⟨b, e, _, rfl, q⟩) fun _ _ e => e)
  unfold richCompare
  simp only [oneThing_ref]
  refine wpAny_holding (wpAny_bind (wpAny_cRoomFor (Nat.lt_of_succ_lt hu) ?_))
  rw [cmpInfo_NotEq]
  dsimp only
  refine wpAny_bind (I.type.here (wpAny_bind (J.type.here ?_)))
  rw [show (Value.ref C != Value.ref C) = false from by simp]
  simp only [Bool.false_eq_true, if_false]
  refine wpAny_bind (wpAny_pure ?_)
  simp only [Bool.false_eq_true, if_false]
  refine wpAny_bind (wpAny_mono one (fun r s' z => ?_) fun _ _ e => e)
  obtain ⟨v, rfl, hq⟩ := z
  exact wpAny_pure hq
end
/-- what != asks of two instances of C: the promise of C's own == -/
def rNeOwn (C : Addr) (sp : Sp) : R2 := fun x y H Q => ∃ a b dx dy fs gs, x = .ref a ∧ y = .ref b ∧ H a = some (.ins C dx fs) ∧ H b = some (.ins C dy gs) ∧ sp [.ref a, .ref b] H (fun v H' => ∃ r, v = .bl r ∧ Q (.bl (!r)) H') E0
structure OwnNe (K : PySem.W.Frag) (C f : Addr) : Prop where
  eq : PySem.W.findIn K (.ref C) "__eq__" = some (some (.ref f))
  fn : PySem.W.isFn K (.ref f) = true
  ne : PySem.W.findIn K (.ref C) "__ne__" = some (some (.builtin "object.__ne__"))
  sub : PySem.W.subIn K (.ref C) (.type "object") = some true
theorem op_neOwn {X : Cx} {C f : Addr} {fd : FuncData} {ps : List Str} {sp : Sp} {n : Nat} (N : OwnNe X.K C f) (F : FnOk X.prog X.w X.K X.mg X.base CX0 n f fd ps sp) (hr : Room (n + 1) X.A) (hb : Binds X.K fd ps []) : OpR X (compareOp .NotEq) (rNeOwn C sp) := by
  intro pins s σ H x y v u Q I rx ry h
  obtain ⟨a, b, dx, dy, fs, gs, rfl, rfl, ha, hb', hsp⟩ := h
  cases rx
  cases ry
  obtain ⟨mA, J, _⟩ := ins_get I.hok ha
  obtain ⟨mB, J', _⟩ := ins_get I.hok hb'
  obtain ⟨od, J, _⟩ := J.look
  obtain ⟨od', J', _⟩ := J'.look
  have hu : X.A.units + 1 < cLine := hu_of hr
  have hr1 : Room n X.A.in1 := hr.in1
  have e0 : Env0 X.prog X.w X.K X.mg X.base X.A.in1 X.stack s H := I.env0.in1
  have hl := F.len _ _ _ _ hsp
  have r2 : Vals [V.ref a, V.ref b] [Value.ref a, Value.ref b] := .cons rfl (.cons rfl .nil)
  show wpAny (model X.prog X.w) X.A (richCompare .NotEq (.ref a) (.ref b)) (EP X pins σ Q) X.xe s
  refine richNe_K I.kIn J J' N.eq N.fn N.ne N.sub hu ?_
  refine wpAny_call (codeAny_mono (F.run X.A.in1 X.stack s H ⟨[.ref a, .ref b], []⟩ [.ref a, .ref b] [.ref a, .ref b] _ E0 hr1 e0 (by
    have := hb s [.ref a, .ref b] I.kIn (by simpa using hl)
    simpa using this) r2 hsp) fun r s' hq => ?_)
  cases r with
  | error e => exact hq.elim
  | ok fl =>
    cases fl with
    | ret w =>
      obtain ⟨z, H', I', rz, r, ez, q⟩ := I.after hq
      subst ez
      cases rz
      exact ⟨r, rfl, .bl (!r), H', I', rfl, q⟩
    | next => exact False.elim hq
    | brk => exact False.elim hq
    | cont => exact False.elim hq
/-! ## calls in short -/
structure Cal (P : Program) (w : World) (K : PySem.W.Frag) (mg : Str → Option Value) (base : Heap) (k : Nat) (x : Str) (ps : List Str) (sp : Sp) : Prop where
  ex : ∃ (f : Addr) (fd : FuncData), FnOk P w K mg base CX0 k f fd ps sp ∧ mg x = some (.ref f) ∧ PySem.W.keepIn K (.ref f) = true ∧ Binds K fd ps []
theorem pe_cal {X : Cx} {k : Nat} {x : Str} {ps : List Str} {sp : Sp} {e : Expr} {es : List Expr} {t : TA} {p pos : Pos} (c : Cal X.prog X.w X.K X.mg X.base k x ps sp) (hr : Room k X.A) (ha : PA X (e :: es) t) (hg : Gl X x := by rfl)
    (hdb : (x == ("__debug__" : Str)) = false := by decide) (he : starEach (e :: es) X.env = (false, eval e X.env) :: starEach es X.env := by rfl) (hpl : (backTo pos (starEach es X.env)).any (·.1) = false := by rfl) :
    PE X (.Call (.Name x p) (e :: es) [] pos) (tCall sp [] E0 t) := by
  obtain ⟨f, fd, F, hm, hk, hb⟩ := c.ex
  exact pe_call F hr hg hm hk hb .nil pass0 ha hdb he hpl
theorem pe_cal0 {X : Cx} {k : Nat} {x : Str} {ps : List Str} {sp : Sp} {p pos : Pos} (c : Cal X.prog X.w X.K X.mg X.base k x ps sp) (hr : Room k X.A) (hg : Gl X x := by rfl)
    (hdb : (x == ("__debug__" : Str)) = false := by decide) :
    PE X (.Call (.Name x p) [] [] pos) (tCall sp [] E0 tNil) := by
  obtain ⟨f, fd, F, hm, hk, hb⟩ := c.ex
  exact pe_call0 F hr hg hm hk hb .nil pass0 hdb
/-- C(..) -/
structure Mkc (P : Program) (w : World) (K : PySem.W.Frag) (mg : Str → Option Value) (base : Heap) (k : Nat) (C : Addr) (x : Str) (ps : List Str) (sp : Sp) : Prop where
  ex : ∃ (f : Addr) (fd : FuncData), Mk K C f ∧ FnOk P w K mg base CX0 k f fd ps sp ∧ mg x = some (.ref C) ∧ Binds K fd ps []
theorem pe_mkc {X : Cx} {k : Nat} {C : Addr} {x : Str} {ps : List Str} {sp : Sp} {e : Expr} {es : List Expr} {t : TA} {p pos : Pos} (c : Mkc X.prog X.w X.K X.mg X.base k C x ps sp) (hr : Room (k + 1) X.A) (ha : PA X (e :: es) t) (hg : Gl X x := by rfl)
    (hdb : (x == ("__debug__" : Str)) = false := by decide) (he : starEach (e :: es) X.env = (false, eval e X.env) :: starEach es X.env := by rfl) (hpl : (backTo pos (starEach es X.env)).any (·.1) = false := by rfl) :
    PE X (.Call (.Name x p) (e :: es) [] pos) (tMake C sp [] E0 t) := by
  obtain ⟨f, fd, M, F, hm, hb⟩ := c.ex
  exact pe_make M F hr hg hm hb .nil pass0 ha hdb he hpl
/-- a global that is a class or a def, as a value -/
theorem pe_globR {X : Cx} {x : Str} {C : Addr} {pos : Pos} (hm : X.mg x = some (.ref C)) (hg : Gl X x := by rfl) (hn : (x == ("__debug__" : Str)) = false := by decide) : PE X (.Name x pos) (tC (.ref C)) := by
  exact pe_glob hg hm rfl hn
/-- the built-ins that no name of the program hides -/
structure Bl (mg : Str → Option Value) : Prop where
  isinstance : mg "isinstance" = none
  len : mg "len" = none
  sorted : mg "sorted" = none
  min : mg "min" = none
  max : mg "max" = none
  all : mg "all" = none
  zip : mg "zip" = none
  range : mg "range" = none
  enumerate : mg "enumerate" = none
  int_ : mg "int" = none
  bool_ : mg "bool" = none
  str_ : mg "str" = none
  list_ : mg "list" = none
  tuple_ : mg "tuple" = none
end Bs

namespace Bs
open PySem PySem.Spec PyProof.Rows L2
/-! ## heaps: what never changes, all but one object -/
/-- tuples stay -/
def TK (H H' : Hp) : Prop := ∀ a xs, H a = some (.tup xs) → H' a = some (.tup xs)
theorem TK.rfl' {H : Hp} : TK H H := fun _ _ h => h
theorem TK.trans {H H1 H2 : Hp} (a : TK H H1) (b : TK H1 H2) : TK H H2 := fun x o h => b x o (a x o h)
theorem _root_.L2.Same.tk {H H' : Hp} (e : Same H H') : TK H H' := fun a xs h => e a _ h
theorem _root_.L2.Same.new {H : Hp} {p : Addr} {o : HO} (h : H p = none) : Same H (upd H p o) := fun a u e => by rw [upd_ne (ne_of_none e h)]; exact e
theorem _root_.L2.Same.new' {H H1 : Hp} {p : Addr} {o : HO} (x : Same H H1) (h : H1 p = none) : Same H (upd H1 p o) := x.trans (Same.new h)
/-- an object that H does not know may change -/
theorem _root_.L2.Same.mut {H H' : Hp} {p : Addr} {o : HO} (e : Same H H') (h : H p = none) : Same H (upd H' p o) := fun a u ha => by
  rw [upd_ne (ne_of_none ha h)]
  exact e a u ha
def isTupO : Option HO → Bool
  | some (.tup _) => true
  | _ => false
theorem TK.upd {H : Hp} {p : Addr} {o : HO} (h : isTupO (H p) = false) : TK H (L2.upd H p o) := fun a xs e => by
  have hn : a ≠ p := fun q => by rw [q] at e; rw [e] at h; cases h
  rw [upd_ne hn]; exact e
theorem tk_lst {H : Hp} {p : Addr} {o : HO} {xs : List V} (h : H p = some (.lst xs)) : TK H (L2.upd H p o) := TK.upd (by rw [h]; rfl)
theorem tk_new {H : Hp} {p : Addr} {o : HO} (h : H p = none) : TK H (L2.upd H p o) := TK.upd (by rw [h]; rfl)
/-- all but the object at T stay -/
def ExT (T : Addr) (H H' : Hp) : Prop := ∀ a o, a ≠ T → H a = some o → H' a = some o
theorem ExT.rfl' {T : Addr} {H : Hp} : ExT T H H := fun _ _ _ h => h
theorem ExT.trans {T : Addr} {H H1 H2 : Hp} (a : ExT T H H1) (b : ExT T H1 H2) : ExT T H H2 := fun x o n h => b x o n (a x o n h)
theorem _root_.L2.Same.exT {T : Addr} {H H' : Hp} (e : Same H H') : ExT T H H' := fun a o _ h => e a o h
theorem ExT.tk {T : Addr} {H H' : Hp} {l : List V} (e : ExT T H H') (h : H T = some (.lst l)) : TK H H' := fun a xs q => e a _ (ne_of q h (by intro z; cases z)) q
theorem ExT.upd {T : Addr} {H H1 : Hp} {o : HO} (e : ExT T H H1) : ExT T H (L2.upd H1 T o) := fun a u n h => by rw [upd_ne n]; exact e a u n h
theorem ExT.new {T p : Addr} {H H1 : Hp} {o : HO} (e : ExT T H H1) (h : H1 p = none) : ExT T H (L2.upd H1 p o) := fun a u n q => by
  have q' := e a u n q
  rw [upd_ne (ne_of_none q' h)]; exact q'
/-- one more object, unknown at first, that may change -/
theorem ExT.mut {T p : Addr} {H H1 : Hp} {o : HO} (e : ExT T H H1) (h : H p = none) : ExT T H (L2.upd H1 p o) := fun a u n q => by
  rw [upd_ne (ne_of_none q h)]; exact e a u n q
theorem ExT.free {T : Addr} {H H' : Hp} (e : ExT T H H') {l : Addr} (hl : l ≠ T) (h : H' l = none) : H l = none := by
  cases q : H l with
  | none => rfl
  | some o => rw [e l o hl q] at h; cases h
/-! ## pairs of ints -/
def PairAt (H : Hp) (v : V) (p : Int × Int) : Prop := ∃ a, v = .ref a ∧ H a = some (.tup [.int p.1, .int p.2])
theorem PairAt.tk {H H' : Hp} {v : V} {p : Int × Int} (e : TK H H') (h : PairAt H v p) : PairAt H' v p := let ⟨a, h1, h2⟩ := h; ⟨a, h1, e _ _ h2⟩
theorem PairAt.inj {H : Hp} {v : V} {p q : Int × Int} (h : PairAt H v p) (h' : PairAt H v q) : p = q := by
  obtain ⟨a, rfl, h2⟩ := h
  obtain ⟨b, e, h3⟩ := h'
  cases e
  rw [h2] at h3
  injection h3 with h3
  injection h3 with h3
  injection h3 with h4 h5
  injection h4 with h4
  injection h5 with h5
  injection h5 with h5
  exact Prod.ext h4 h5
abbrev Pairs (H : Hp) (xs : List V) (ps : List (Int × Int)) : Prop := Paired (PairAt H) xs ps
theorem Paired.imp' {α β : Type} {F G : α → β → Prop} : ∀ {l₁ : List α} {l₂ : List β}, Paired F l₁ l₂ → (∀ a b, F a b → G a b) → Paired G l₁ l₂
  | _, _, .nil, _ => .nil
  | _, _, .cons r t, f => .cons (f _ _ r) (Paired.imp' t f)
theorem Pairs.tk {H H' : Hp} {xs : List V} {ps : List (Int × Int)} (e : TK H H') (h : Pairs H xs ps) : Pairs H' xs ps := Paired.imp' h fun _ _ q => q.tk e
theorem Paired.get {α β : Type} {F : α → β → Prop} : ∀ {l₁ : List α} {l₂ : List β} {i : Nat} {a : α}, Paired F l₁ l₂ → l₁[i]? = some a → ∃ b, l₂[i]? = some b ∧ F a b
  | _, _, _, _, .nil, h => by simp at h
  | _, _, 0, _, .cons r _, h => by simp at h; subst h; exact ⟨_, by simp, r⟩
  | _, _, i + 1, a, .cons _ t, h => by
    obtain ⟨b, h1, h2⟩ := Paired.get (i := i) (a := a) t (by simpa using h)
    exact ⟨b, by simpa using h1, h2⟩
theorem Paired.len {α β : Type} {F : α → β → Prop} : ∀ {l₁ : List α} {l₂ : List β}, Paired F l₁ l₂ → l₁.length = l₂.length
  | _, _, .nil => rfl
  | _, _, .cons _ t => by simp [Paired.len t]
theorem Paired.app {α β : Type} {F : α → β → Prop} : ∀ {l₁ m₁ : List α} {l₂ m₂ : List β}, Paired F l₁ l₂ → Paired F m₁ m₂ → Paired F (l₁ ++ m₁) (l₂ ++ m₂)
  | _, _, _, _, .nil, h => h
  | _, _, _, _, .cons r t, h => .cons r (Paired.app t h)
/-- the pair that a value is -/
def pairOf (H : Hp) (v : V) : Int × Int := match v with
  | .ref a => match H a with
    | some (.tup [.int i, .int j]) => (i, j)
    | _ => (0, 0)
  | _ => (0, 0)
theorem pairOf_of {H : Hp} {v : V} {p : Int × Int} (h : PairAt H v p) : pairOf H v = p := by
  obtain ⟨a, rfl, h2⟩ := h
  unfold pairOf
  simp only [h2]
theorem pairs_map {H : Hp} : ∀ {xs : List V} {ps : List (Int × Int)}, Pairs H xs ps → xs.map (pairOf H) = ps
  | _, _, .nil => rfl
  | _, _, .cons r t => by rw [List.map_cons, pairOf_of r, pairs_map t]
theorem pairs_mem {H : Hp} : ∀ {xs : List V} {ps : List (Int × Int)}, Pairs H xs ps → ∀ x ∈ xs, PairAt H x (pairOf H x)
  | _, _, .nil, _, h => by simp at h
  | _, _, .cons r t, x, h => by
    rcases List.mem_cons.mp h with e | h
    · subst e; rw [pairOf_of r]; exact r
    · exact pairs_mem t x h
theorem pairs_self {H : Hp} : ∀ {xs : List V}, (∀ x ∈ xs, PairAt H x (pairOf H x)) → Pairs H xs (xs.map (pairOf H))
  | [], _ => .nil
  | x :: xs, h => .cons (h x (by simp)) (pairs_self fun y hy => h y (by simp [hy]))
/-- before, or the same -/
def le2 (p q : Int × Int) : Prop := p.1 < q.1 ∨ (p.1 = q.1 ∧ p.2 ≤ q.2)
def lt2 (p q : Int × Int) : Prop := p.1 < q.1 ∨ (p.1 = q.1 ∧ p.2 < q.2)
/-- sorted(xs), xs a list of pairs -/
theorem sorted_pairs {K : PySem.W.Frag} {H : Hp} {a : Addr} {xs : List V} {ps : List (Int × Int)} {Q : VK} (hs : SqL K H a xs) (hp : Pairs H xs ps)
    (k : ∀ p ys qs, H p = none → Pairs H ys qs → qs.Perm ps → qs.Pairwise le2 → Q (.ref p) (upd H p (.lst ys))) : rSortedPO K [.ref a] H Q := by
  refine ⟨a, xs, pairOf H, rfl, hs, fun x hx => pairs_mem hp x hx, fun ys p h1 h2 hn => ?_⟩
  have hm : ∀ y ∈ ys, PairAt H y (pairOf H y) := fun y hy => pairs_mem hp y (h2.perm.mem_iff.mp hy)
  refine k p ys (ys.map (pairOf H)) hn (pairs_self hm) ?_ ?_
  · rw [← pairs_map hp]
    exact h2.perm.map _
  · refine List.pairwise_map.mpr (h1.imp fun {x y} h => ?_)
    have h' := SrtO.lexB_no.mp h
    unfold le2
    omega
theorem sorted_post {H : Hp} {xs ys : List V} {ps : List (Int × Int)} (hp : Pairs H xs ps) (h1 : SrtO.Srtd (ltP (pairOf H)) ys) (h2 : SrtO.Stb (ltP (pairOf H)) ys xs) : ∃ qs, Pairs H ys qs ∧ qs.Perm ps ∧ qs.Pairwise le2 := by
  have hm : ∀ y ∈ ys, PairAt H y (pairOf H y) := fun y hy => pairs_mem hp y (h2.perm.mem_iff.mp hy)
  refine ⟨ys.map (pairOf H), pairs_self hm, ?_, ?_⟩
  · rw [← pairs_map hp]
    exact h2.perm.map _
  · refine List.pairwise_map.mpr (h1.imp fun {x y} h => ?_)
    have h' := SrtO.lexB_no.mp h
    unfold le2
    omega
/-! ## comprehensions -/
theorem lc_data {J : It} {n : Nat} {G : Hp → Prop} {Y : Nat → Hp → V → Hp → Prop} (w : Walk J n G Y) {α : Type} (as : List α) (hn : as.length = n) (f : α → Bool) (P : Hp → V → α → Prop) (hP : ∀ H H' v a, TK H H' → P H v a → P H' v a)
    {g : TG} {tt : TT} {te : TE} {vs : List Nat} {σ : L2.St} {H1 : Hp} {D : Addr} {Qd : Hp → Prop} (hD : H1 D = none) (hG : ∀ H', Same H1 H' → G H') (hsz : as.length < sizeLine)
    (hs : ∀ i a x H H' (Ny : V → Hp → Prop) (Nn : Hp → Prop), as[i]? = some a → Same H1 H → Y i H x H' →
      (∀ y H4, f a = true → Same H' H4 → P H4 y a → Ny y H4) → (∀ H3, f a = false → Same H' H3 → Nn H3) →
      g x (wipe σ vs) H' fun σ2 H2 => wipe σ2 vs = wipe σ vs ∧ tt σ2 H2 fun b H3 => if b = true then te σ2 H3 fun y H4 => Ny y H4 else Nn H3)
    (hY : ∀ i H x H', H D = some (.lst []) ∨ True → Y i H x H' → Same H H')
    (hd : ∀ ys H', Same H1 H' → H' D = some (.lst ys) → Paired (P H') ys (as.filter f) → Qd H') :
    ∃ W : Nat → Nat → Hp → Prop, (∃ m, W 0 m (upd H1 D (.lst []))) ∧ ∀ i m H, W i m H →
      (J.stop i H ∧ Qd H) ∨ (J.go i H ∧ ∃ Nx : Hp → Prop, (∀ H', Nx H' → ∃ m', m' < m ∧ W (i + 1) m' H') ∧ ∀ x H', J.yld i H x H' → g x (wipe σ vs) H' fun σ2 H2 => wipe σ2 vs = wipe σ vs ∧ tt σ2 H2 fun b H3 =>
        if b = true then te σ2 H3 fun y H4 => ∃ acc, H4 D = some (.lst acc) ∧ acc.length < sizeLine ∧ Nx (upd H4 D (.lst (acc ++ [y]))) else Nx H3) := by
  refine lc_it w (Pv := fun i H => Same H1 H ∧ ∃ ys, H D = some (.lst ys) ∧ Paired (P H) ys ((as.take i).filter f)) ⟨L2.Same.new hD, [], upd_same, by simp; exact .nil⟩ (fun i H hi p => hG H p.1) ?_ ?_
  · intro i x H H' hi p hy
    obtain ⟨e1, ys, hys, hpr⟩ := p
    have hi' : i < as.length := by omega
    have ha : as[i]? = some as[i] := List.getElem?_eq_getElem hi'
    have eY := hY i H x H' (.inr trivial) hy
    have htk : (as.take (i + 1)).filter f = (as.take i).filter f ++ [as[i]].filter f := by
      rw [List.take_succ, ha, List.filter_append]; rfl
    have hlen : ys.length ≤ i := by
      have := Paired.len hpr
      have h2 := List.length_filter_le f (as.take i)
      have h3 := List.length_take_le i as
      omega
    refine hs i as[i] x H H' _ _ ha e1 hy ?_ ?_
    · intro y H4 hf e4 hPy
      refine ⟨ys, e4 _ _ (eY _ _ hys), by omega, ?_, _, upd_same, ?_⟩
      · exact Same.mut (e1.trans (eY.trans e4)) hD
      · rw [htk, List.filter_cons, if_pos hf]
        refine Paired.app (Paired.imp' hpr fun v a q => hP _ _ _ _ ?_ q) (.cons (hP _ _ _ _ ?_ hPy) .nil)
        · exact (Same.tk (eY.trans e4)).trans (tk_lst (e4 _ _ (eY _ _ hys)))
        · exact tk_lst (e4 _ _ (eY _ _ hys))
    · intro H3 hf e3
      refine ⟨e1.trans (eY.trans e3), ys, e3 _ _ (eY _ _ hys), ?_⟩
      rw [htk, List.filter_cons, if_neg (by simp [hf])]
      simp only [List.filter_nil, List.append_nil]
      exact Paired.imp' hpr fun v a q => hP _ _ _ _ (Same.tk (eY.trans e3)) q
  · intro H p
    obtain ⟨e1, ys, hys, hpr⟩ := p
    rw [← hn, List.take_length] at hpr
    exact hd ys H e1 hys hpr
theorem yes_if {σ : L2.St} {H : Hp} {A B : Hp → Prop} (h : A H) : tYes σ H (fun b H3 => if b = true then A H3 else B H3) := by
  show (if true = true then A H else B H)
  exact iteT h
theorem yat_same {xs : List V} {i : Nat} {H H' : Hp} {x : V} (h : YAt xs i H x H') : Same H H' := by rw [h.1]; exact Same.refl H
theorem ypair_same {xs ys : Nat → Option V} {i : Nat} {H H' : Hp} {x : V} (h : YPair xs ys i H x H') : Same H H' := by
  obtain ⟨T, x, y, _, h2, h3, _⟩ := h
  rw [h3]; exact Same.new h2
/-! ## the tape -/
structure Tape where
  ns : List Int
  i1 : Int
  i2 : Int
  i3 : Int
  i4 : Int
def Tp (H : Hp) (T L : Addr) : Prop := ∃ t : Tape, H T = some (.lst [.ref L, .int t.i1, .int t.i2, .int t.i3, .int t.i4]) ∧ H L = some (.lst (t.ns.map V.int)) ∧ L ≠ T ∧ 0 ≤ t.i1 ∧ 0 ≤ t.i3 ∧ t.i3 < 2147483648
theorem Tp.ext {T L : Addr} {H H' : Hp} (h : Tp H T L) (e : Same H H') : Tp H' T L := by
  obtain ⟨t, h1, h2, h3⟩ := h
  exact ⟨t, e _ _ h1, e _ _ h2, h3⟩
theorem Tp.lst {T L : Addr} {H : Hp} (h : Tp H T L) : ∃ l, H T = some (.lst l) := let ⟨t, h1, _⟩ := h; ⟨_, h1⟩
theorem Tp.lst2 {T L : Addr} {H : Hp} (h : Tp H T L) : ∃ l, H L = some (.lst l) := let ⟨t, _, h1, _⟩ := h; ⟨_, h1⟩
theorem Tp.tk {T L : Addr} {H H' : Hp} (h : Tp H T L) (e : ExT T H H') : TK H H' := let ⟨_, q⟩ := h.lst; e.tk q
/-- another object changes -/
theorem Tp.upd {T L p : Addr} {H : Hp} {o : HO} (h : Tp H T L) (h1 : p ≠ T) (h2 : p ≠ L) : Tp (L2.upd H p o) T L := by
  obtain ⟨t, a1, a2, a3⟩ := h
  exact ⟨t, by rw [upd_ne h1.symm]; exact a1, by rw [upd_ne h2.symm]; exact a2, a3⟩
theorem Tp.neT {T L p : Addr} {H : Hp} (h : Tp H T L) (hp : H p = none) : p ≠ T := fun q => by
  obtain ⟨l, h1⟩ := h.lst
  rw [← q, hp] at h1; cases h1
theorem Tp.neL {T L p : Addr} {H : Hp} (h : Tp H T L) (hp : H p = none) : p ≠ L := fun q => by
  obtain ⟨l, h1⟩ := h.lst2
  rw [← q, hp] at h1; cases h1
/-- what a draw promises -/
def spPick : Sp := fun vs H Q _ => ∃ (T L : Addr) (m : Int), vs = [.ref T, .int m] ∧ 0 < m ∧ m < 1073741824 ∧ Tp H T L ∧ ∀ r H', 0 ≤ r → r < m → ExT T H H' → Tp H' T L → Q (.int r) H'
end Bs

namespace Bs
open PySem PySem.Spec L2
def top (i : Nat) : Stmt := PySem.Challenge.pw_silencers_k03_whole_ties.main.body.getD i (.Pass ⟨0, 0, 0, 0⟩)
structure Txt (K : PySem.W.Frag) (mg : Str → Option Value) (C : Addr) : Prop where
  cl : Cls K C
  nSize : NoAttr K C "size"
  nTies : NoAttr K C "ties"
  mg_Web : mg "Web" = some (.ref C)
  mg_MOST_PARTS : ∃ t, mg "MOST_PARTS" = some (.int 24 t)
  xc : PySem.W.findIn K (.ref C) "__class__" = some (some (.builtin "object.__class__"))
  xg : PySem.W.specialIn K (.builtin "object.__class__") "__get__" = some (some (.builtin "getset_descriptor.__get__"))
  xt : PySem.W.takesIn K (.builtin "object.__class__") = some true
  xm : PySem.W.mroIn K C (.type "object") = some true
section
variable {P : Program} {w : World} {K : PySem.W.Frag} {mg : Str → Option Value} {base : Heap} {C : Addr}
def sp_is_integer : Sp := fun vs H Q _ => ∃ i, vs = [.int i] ∧ Q (.bl true) H
abbrev s_is_integer : Stmt := (top 5)
theorem sc_is_integer : FnScope ["thing"] ["thing"] (defScope s_is_integer) := ⟨rfl, rfl, rfl, by decide +kernel, rfl, by decide +kernel, by decide +kernel⟩

theorem ok_is_integer {f : Addr} {fd : FuncData} (F : Fun K "is_integer" "is_integer" s_is_integer f fd) (hm : mg "is_integer" = some (.ref f)) (B : Bl mg) : Cal P w K mg base 1 "is_integer" ["thing"] sp_is_integer := by
  refine ⟨f, fd, F.ok sc_is_integer (fun vs H Q E h => ?_) (fun cdv A outer s H vs Q E hr h => ?_), hm, F.kp, F.binds (ps := ["thing"]) fun _ _ _ _ _ _ us hl => match us, hl with | [_], _ => rfl⟩
  · obtain ⟨i, rfl, _⟩ := h; rfl
  · obtain ⟨i, rfl, k⟩ := h
    refine ⟨_, (pss_one (ps_ret (pe_and (pe_callB call_isi (by rfl) B.isinstance (by decide +kernel) (pa_cons (pv 0) (pa_cons (pe_bltn (v := .ty "int") (by rfl) B.int_ (by decide +kernel) rfl) pa_nil))) (pe_one (pe_not (pe_callB call_isi (by rfl) B.isinstance (by decide +kernel) (pa_cons (pv 0) (pa_cons (pe_bltn (v := .ty "bool") (by rfl) B.bool_ (by decide +kernel) rfl) pa_nil)))))))), ?_⟩
    refine ⟨_, rfl, _, _, _, _, true, rfl, .ty "int", .base (.int i), kit_ty (by decide +kernel), true, rfl, iteT ?_⟩
    refine ⟨_, rfl, _, _, _, _, false, rfl, .ty "bool", .base (.int i), kit_ty (by decide +kernel), false, rfl, ?_⟩
    exact k
def sp_is_number : Sp := fun vs H Q _ => ∃ i a b, vs = [.int i, .int a, .int b] ∧ Q (.bl (decide (a ≤ i ∧ i ≤ b))) H
abbrev s_is_number : Stmt := (top 6)
theorem sc_is_number : FnScope ["thing", "least", "most"] ["thing", "least", "most"] (defScope s_is_number) := ⟨rfl, rfl, rfl, by decide +kernel, rfl, by decide +kernel, by decide +kernel⟩

theorem ok_is_number {f : Addr} {fd : FuncData} (F : Fun K "is_number" "is_number" s_is_number f fd) (hm : mg "is_number" = some (.ref f)) (B : Bl mg) (c_is_integer : Cal P w K mg base 1 "is_integer" ["thing"] sp_is_integer) : Cal P w K mg base 2 "is_number" ["thing", "least", "most"] sp_is_number := by
  refine ⟨f, fd, F.ok sc_is_number (fun vs H Q E h => ?_) (fun cdv A outer s H vs Q E hr h => ?_), hm, F.kp, F.binds (ps := ["thing", "least", "most"]) fun _ _ _ _ _ _ us hl => match us, hl with | [_, _, _], _ => rfl⟩
  · obtain ⟨i, a, b, rfl, _⟩ := h; rfl
  · obtain ⟨i, a, b, rfl, k⟩ := h
    refine ⟨_, (pss_one (ps_ret (pe_and (pe_cal c_is_integer (hr.mono (by first | decide | omega)) (pa_cons (pv 0) pa_nil)) (pe_one (pe_chain op_le op_le (pv 1) (pv 0) (pv 2)))))), ?_⟩
    refine ⟨_, rfl, i, rfl, true, rfl, iteT ?_⟩
    refine ⟨_, rfl, _, rfl, _, _, rfl, rfl, _, rfl, ?_⟩
    by_cases h1 : a ≤ i
    · rw [if_pos (decide_eq_true h1)]
      refine ⟨_, rfl, _, _, rfl, rfl, ?_⟩
      have e : decide (a ≤ i ∧ i ≤ b) = decide (i ≤ b) := by simp [h1]
      rw [e] at k
      exact k
    · rw [if_neg (by simpa using h1)]
      have e : decide (a ≤ i ∧ i ≤ b) = false := by simp [h1]
      rw [e] at k
      exact k
/-- a web at a: its size and its ties -/
structure WebAt (C : Addr) (H : Hp) (a : Addr) (n : Int) (t : Addr) (ps : List (Int × Int)) : Prop where
  ins : ∃ dx fs, H a = some (.ins C dx fs) ∧ fs.lookup ("size" : Str) = some (.int n) ∧ fs.lookup ("ties" : Str) = some (.ref t)
  ties : ∃ xs, H t = some (.tup xs) ∧ Pairs H xs ps
theorem WebAt.same {C : Addr} {H H' : Hp} {a t : Addr} {n : Int} {ps : List (Int × Int)} (h : WebAt C H a n t ps) (e : Same H H') : WebAt C H' a n t ps := by
  obtain ⟨⟨dx, fs, h1, h2⟩, xs, h3, h4⟩ := h
  exact ⟨⟨dx, fs, e _ _ h1, h2⟩, xs, e _ _ h3, h4.tk e.tk⟩
theorem WebAt.exT {C T : Addr} {H H' : Hp} {a t : Addr} {n : Int} {ps : List (Int × Int)} {l : List V} (h : WebAt C H a n t ps) (e : ExT T H H') (hT : H T = some (.lst l)) : WebAt C H' a n t ps := by
  obtain ⟨⟨dx, fs, h1, h2⟩, xs, h3, h4⟩ := h
  exact ⟨⟨dx, fs, e _ _ (ne_of h1 hT (by intro z; cases z)) h1, h2⟩, xs, e.tk hT _ _ h3, h4.tk (e.tk hT)⟩
def sp_is_part (C : Addr) : Sp := fun vs H Q _ => ∃ a n t ps i, vs = [.ref a, .int i] ∧ WebAt C H a n t ps ∧ Q (.bl (decide (0 ≤ i ∧ i ≤ n - 1))) H
abbrev s_is_part : Stmt := (top 7)
theorem sc_is_part : FnScope ["web", "thing"] ["web", "thing"] (defScope s_is_part) := ⟨rfl, rfl, rfl, by decide +kernel, rfl, by decide +kernel, by decide +kernel⟩

theorem ok_is_part {f : Addr} {fd : FuncData} (F : Fun K "is_part" "is_part" s_is_part f fd) (hm : mg "is_part" = some (.ref f)) (B : Bl mg) (T : Txt K mg C) (c_is_number : Cal P w K mg base 2 "is_number" ["thing", "least", "most"] sp_is_number) : Cal P w K mg base 3 "is_part" ["web", "thing"] (sp_is_part C) := by
  refine ⟨f, fd, F.ok sc_is_part (fun vs H Q E h => ?_) (fun cdv A outer s H vs Q E hr h => ?_), hm, F.kp, F.binds (ps := ["web", "thing"]) fun _ _ _ _ _ _ us hl => match us, hl with | [_, _], _ => rfl⟩
  · obtain ⟨a, n, t, ps, i, rfl, _⟩ := h; rfl
  · obtain ⟨a, n, t, ps, i, rfl, ⟨⟨dx, fs, h1, h2, h3⟩, _⟩, k⟩ := h
    refine ⟨_, (pss_one (ps_ret (pe_cal c_is_number (hr.mono (by first | decide | omega)) (pa_cons (pv 1) (pa_cons pe_int (pa_cons (pe_op op_sub (pe_fld (pv 0) rfl) pe_int) pa_nil)))))), ?_⟩
    refine ⟨_, rfl, _, rfl, a, C, dx, fs, _, rfl, h1, T.cl, T.nSize, h2, _, _, rfl, rfl, i, 0, n - 1, rfl, k⟩
def sp_check_part (C : Addr) : Sp := fun vs H Q _ => ∃ a n t ps i, vs = [.ref a, .int i] ∧ WebAt C H a n t ps ∧ 0 ≤ i ∧ i < n ∧ Q .non H
abbrev s_check_part : Stmt := (top 8)
theorem sc_check_part : FnScope ["web", "thing"] ["web", "thing"] (defScope s_check_part) := ⟨rfl, rfl, rfl, by decide +kernel, rfl, by decide +kernel, by decide +kernel⟩

theorem ok_check_part {f : Addr} {fd : FuncData} (F : Fun K "check_part" "check_part" s_check_part f fd) (hm : mg "check_part" = some (.ref f)) (B : Bl mg) (T : Txt K mg C) (c_is_part : Cal P w K mg base 3 "is_part" ["web", "thing"] (sp_is_part C)) : Cal P w K mg base 4 "check_part" ["web", "thing"] (sp_check_part C) := by
  refine ⟨f, fd, F.ok sc_check_part (fun vs H Q E h => ?_) (fun cdv A outer s H vs Q E hr h => ?_), hm, F.kp, F.binds (ps := ["web", "thing"]) fun _ _ _ _ _ _ us hl => match us, hl with | [_, _], _ => rfl⟩
  · obtain ⟨a, n, t, ps, i, rfl, _⟩ := h; rfl
  · obtain ⟨a, n, t, ps, i, rfl, W, h1, h2, k⟩ := h
    refine ⟨_, (pss_one (ps_if (pt_not (pt_val (pe_cal c_is_part (hr.mono (by first | decide | omega)) (pa_cons (pv 0) (pa_cons (pv 1) pa_nil))))) (pss_one ps_never) pss_nil)), ?_⟩
    refine ⟨_, rfl, _, rfl, a, n, t, ps, i, rfl, W, _, rfl, ?_⟩
    have e : decide (0 ≤ i ∧ i ≤ n - 1) = true := decide_eq_true (by omega)
    rw [e]
    exact iteF k

def sp_is_tie : Sp := fun vs H Q _ => ∃ (n : Int) (a : Addr) (p : Int × Int), vs = [.int n, .ref a] ∧ H a = some (.tup [.int p.1, .int p.2]) ∧ Q (.bl (decide (0 ≤ p.1 ∧ p.1 < p.2 ∧ p.2 < n))) H
abbrev s_is_tie : Stmt := (top 12)
theorem sc_is_tie : FnScope ["size", "thing", "a", "b"] ["size", "thing"] (defScope s_is_tie) := ⟨rfl, rfl, rfl, by decide +kernel, rfl, by decide +kernel, by decide +kernel⟩

theorem ok_is_tie {f : Addr} {fd : FuncData} (F : Fun K "is_tie" "is_tie" s_is_tie f fd) (hm : mg "is_tie" = some (.ref f)) (B : Bl mg) (c_is_number : Cal P w K mg base 2 "is_number" ["thing", "least", "most"] sp_is_number) : Cal P w K mg base 3 "is_tie" ["size", "thing"] sp_is_tie := by
  refine ⟨f, fd, F.ok sc_is_tie (fun vs H Q E h => ?_) (fun cdv A outer s H vs Q E hr h => ?_), hm, F.kp, F.binds (ps := ["size", "thing"]) fun _ _ _ _ _ _ us hl => match us, hl with | [_, _], _ => rfl⟩
  · obtain ⟨n, a, p, rfl, _⟩ := h; rfl
  · obtain ⟨n, a, p, rfl, ha, k⟩ := h
    refine ⟨_, (pss_cons (ps_if (PW.pt (pw_or (pt_not (pt_val (pe_callB call_isi (by rfl) B.isinstance (by decide +kernel) (pa_cons (pv 1) (pa_cons (pe_bltn (v := .ty "tuple") (by rfl) B.tuple_ (by decide +kernel) rfl) pa_nil))))) (pw_or1 (pt_cmpR op_ne (pe_callB call_len_seq (by rfl) B.len (by decide +kernel) (pa_cons (pv 1) pa_nil)) pe_int (nomark _))))) (pss_one (ps_ret pe_bl)) pss_nil)
 (pss_cons (ps_asg (pv 1) (pg_tup (by rfl) (pgs_cons (pg_name (i := 2) sc_is_tie.nd rfl (by first | exact Or.inl rfl | exact Or.inr rfl)) (pgs_cons (pg_name (i := 3) sc_is_tie.nd rfl (by first | exact Or.inl rfl | exact Or.inr rfl)) pgs_nil))))
 (pss_one (ps_ret (pe_and (pe_cal c_is_number (hr.mono (by first | decide | omega)) (pa_cons (pv 2) (pa_cons pe_int (pa_cons (pe_op op_sub (pv 0) pe_int) pa_nil)))) (pe_one (pe_cal c_is_number (hr.mono (by first | decide | omega)) (pa_cons (pv 3) (pa_cons (pe_op op_add (pv 2) pe_int) (pa_cons (pe_op op_sub (pv 0) pe_int) pa_nil)))))))))), ?_⟩
    refine ⟨_, rfl, _, _, _, _, true, rfl, .ty "tuple", .base (.tup ha), kit_ty (by decide +kernel), true, rfl, iteF ?_⟩
    refine ⟨_, rfl, a, _, rfl, .inr (SqT.of ha), rfl, _, rfl, iteNS rfl ?_⟩
    refine ⟨_, rfl, _, _, rfl, SqT.of ha, rfl, _, _, rfl, _, _, rfl, rfl, ?_⟩
    refine ⟨_, rfl, _, rfl, _, _, rfl, rfl, p.1, 0, n - 1, rfl, _, rfl, ?_⟩
    by_cases h1 : 0 ≤ p.1 ∧ p.1 ≤ n - 1
    · rw [if_pos (decide_eq_true h1)]
      refine ⟨_, rfl, _, rfl, _, _, rfl, rfl, _, rfl, _, _, rfl, rfl, p.2, p.1 + 1, n - 1, rfl, ?_⟩
      have e : decide (0 ≤ p.1 ∧ p.1 < p.2 ∧ p.2 < n) = decide (p.1 + 1 ≤ p.2 ∧ p.2 ≤ n - 1) := by
        by_cases h2 : p.1 + 1 ≤ p.2 ∧ p.2 ≤ n - 1
        · rw [decide_eq_true h2]; exact decide_eq_true (by omega)
        · rw [decide_eq_false h2]; exact decide_eq_false (by omega)
      rw [e] at k
      exact k
    · rw [if_neg (by simpa using h1)]
      have e : decide (0 ≤ p.1 ∧ p.1 < p.2 ∧ p.2 < n) = false := decide_eq_false (by omega)
      rw [e] at k
      exact k
/-- ties as they should be -/
structure Good (n : Int) (ps : List (Int × Int)) : Prop where
  ok : ∀ p ∈ ps, 0 ≤ p.1 ∧ p.1 < p.2 ∧ p.2 < n
  up : ps.Pairwise lt2
theorem Good.le {n : Int} {ps : List (Int × Int)} (g : Good n ps) {i : Nat} {p q : Int × Int} (h1 : ps[i]? = some p) (h2 : ps[i + 1]? = some q) : lt2 p q := by
  obtain ⟨a1, e1⟩ := List.getElem?_eq_some_iff.mp h1
  obtain ⟨a2, e2⟩ := List.getElem?_eq_some_iff.mp h2
  rw [← e1, ← e2]
  exact List.pairwise_iff_getElem.mp g.up i (i + 1) a1 a2 (Nat.lt_succ_self i)
def sp_wrong_tie : Sp := fun vs H Q _ => ∃ n t xs ps, vs = [.int n, .ref t] ∧ H t = some (.tup xs) ∧ Pairs H xs ps ∧ Good n ps ∧ ∀ H', Same H H' → Q .non H'
abbrev s_wrong_tie : Stmt := (top 13)
theorem sc_wrong_tie : FnScope ["size", "ties", "last", "at", "pair"] ["size", "ties"] (defScope s_wrong_tie) := ⟨rfl, rfl, rfl, by decide +kernel, rfl, by decide +kernel, by decide +kernel⟩

theorem lexLe_no {p q : Int × Int} (h : lt2 p q) : Ob.lexAt (fun j => decide ([q.1, q.2].getD j 0 = [p.1, p.2].getD j 0)) (fun j => decide ([q.1, q.2].getD j 0 ≤ [p.1, p.2].getD j 0)) (decide ([q.1, q.2].length ≤ [p.1, p.2].length)) 0 (min [q.1, q.2].length [p.1, p.2].length) = false := by
  show (if decide (q.1 = p.1) = true then (if decide (q.2 = p.2) = true then true else decide (q.2 ≤ p.2)) else decide (q.1 ≤ p.1)) = false
  unfold lt2 at h
  rcases h with h | ⟨h1, h2⟩
  · rw [if_neg (by simp; omega)]
    exact decide_eq_false (by omega)
  · rw [if_pos (by simp; omega), if_neg (by simp; omega)]
    exact decide_eq_false (by omega)
theorem ok_wrong_tie {f : Addr} {fd : FuncData} (F : Fun K "wrong_tie" "wrong_tie" s_wrong_tie f fd) (hm : mg "wrong_tie" = some (.ref f)) (B : Bl mg) (c_is_tie : Cal P w K mg base 3 "is_tie" ["size", "thing"] sp_is_tie) : Cal P w K mg base 4 "wrong_tie" ["size", "ties"] sp_wrong_tie := by
  refine ⟨f, fd, F.ok sc_wrong_tie (fun vs H Q E h => ?_) (fun cdv A outer s H vs Q E hr h => ?_), hm, F.kp, F.binds (ps := ["size", "ties"]) fun _ _ _ _ _ _ us hl => match us, hl with | [_, _], _ => rfl⟩
  · obtain ⟨n, t, xs, ps, rfl, _⟩ := h; rfl
  · obtain ⟨n, t, xs, ps, rfl, ht, hp, G, k⟩ := h
    refine ⟨_, (pss_cons (ps_set (i := 2) sc_wrong_tie.nd rfl (by first | exact Or.inl rfl | exact Or.inr rfl) (pe_tup pa_nil))
 (pss_cons (ps_for PassesOwn.never rfl (pi_enumT (by rfl) B.enumerate (pa_cons (pv 1) pa_nil)) (pg_tup (by rfl) (pgs_cons (pg_name (i := 3) sc_wrong_tie.nd rfl (by first | exact Or.inl rfl | exact Or.inr rfl)) (pgs_cons (pg_name (i := 4) sc_wrong_tie.nd rfl (by first | exact Or.inl rfl | exact Or.inr rfl)) pgs_nil)))
  (pss_cons (ps_if (PW.pt (pw_or (pt_not (pt_val (pe_cal c_is_tie (hr.mono (by first | decide | omega)) (pa_cons (pv 0) (pa_cons (pv 4) pa_nil))))) (pw_or1 (pt_cmpR (op_leT hr.units0) (pv 4) (pv 2) (nomark _))))) (pss_one (ps_ret (pv 3))) pss_nil)
 (pss_one (ps_set (i := 2) sc_wrong_tie.nd rfl (by first | exact Or.inl rfl | exact Or.inr rfl) (pv 4)))))
 (pss_one (ps_ret pe_non)))), ?_⟩
    refine ⟨Nat.zero_le _, fun z hz => ?_⟩
    refine ⟨_, rfl, t, xs, rfl, SqT.of ((Same.new hz) _ _ ht), for_it (walk_enumT (K := K) (a := t) (xs := xs)) (fun i σ H' => Same H H' ∧ ∃ (u v : Option V) (l : Addr) (ms : List Int), σ = [some (.int n), some (.ref t), some (.ref l), u, v] ∧ H' l = some (.tup (ms.map V.int)) ∧ (i = 0 → ms = []) ∧ ∀ j q, i = j + 1 → ps[j]? = some q → ms = [q.1, q.2])
      ⟨Same.new hz, none, none, z, [], rfl, upd_same, fun _ => rfl, fun j q e _ => by omega⟩ (fun i σ H' _ p => SqT.of (p.1 _ _ ht)) ?_ ?_⟩
    · rintro i y σ H1 H2 hi ⟨e1, u, v, l, ms, rfl, hl, m0, m1⟩ ⟨A1, y1, y2, rfl, hA, rfl, hy1, hy2⟩
      cases hy1
      obtain ⟨q, hq, a, rfl, hqa⟩ := Paired.get hp hy2
      have e2 : Same H1 (upd H1 A1 (.tup [.int (i : Nat), .ref a])) := Same.new hA
      have hqa2 := e2 _ _ (e1 _ _ hqa)
      refine ⟨A1, _, rfl, SqT.of upd_same, rfl, _, _, rfl, _, _, rfl, rfl, ?_⟩
      refine ⟨_, rfl, _, rfl, n, a, q, rfl, hqa2, _, rfl, ?_⟩
      rw [decide_eq_true (G.ok q (List.mem_of_getElem? hq))]
      refine iteF ?_
      refine ⟨_, rfl, _, rfl, a, l, [q.1, q.2], ms, rfl, rfl, SqT.of hqa2, SqT.of (e2 _ _ hl), ?_⟩
      have no : Ob.lexAt (fun j => decide ([q.1, q.2].getD j 0 = ms.getD j 0)) (fun j => decide ([q.1, q.2].getD j 0 ≤ ms.getD j 0)) (decide ([q.1, q.2].length ≤ ms.length)) 0 (min [q.1, q.2].length ms.length) = false := by
        cases i with
        | zero => rw [m0 rfl]; rfl
        | succ j =>
          have hj : j < ps.length := by
            have := (List.getElem?_eq_some_iff.mp hq).1
            omega
          rw [m1 j ps[j] rfl (List.getElem?_eq_getElem hj)]
          exact lexLe_no (G.le (List.getElem?_eq_getElem hj) hq)
      rw [no]
      refine ⟨_, rfl, iteF ?_⟩
      refine ⟨_, rfl, e1.trans e2, _, _, a, [q.1, q.2], rfl, hqa2, fun e => by omega, fun j q' e h' => ?_⟩
      have : j = i := by omega
      subst this
      rw [hq] at h'
      cases h'
      rfl
    · rintro σ H' ⟨e1, _⟩
      exact k _ e1
end
end Bs

namespace Bs
open PySem PySem.Spec L2
/-! ## ties as data -/
def pD (p : Int × Int) : PyData := .tuple [.int p.1, .int p.2]
theorem pD_lay (z : Int × Int) : (pD z).canLay0 = true := by simp [pD, PyData.canLay0, PyData.canLayAll0]
theorem pD_depth (z : Int × Int) : (pD z).depth = 1 := by simp [pD, PyData.depth, PyData.depthAll]
theorem pDs_lay : ∀ zs : List (Int × Int), PyData.canLayAll0 (zs.map pD) = true
  | [] => by simp [PyData.canLayAll0]
  | z :: zs => by simp [PyData.canLayAll0, pD_lay z, pDs_lay zs]
theorem pDs_depth : ∀ zs : List (Int × Int), PyData.depthAll (zs.map pD) ≤ 1
  | [] => by simp [PyData.depthAll]
  | z :: zs => by
    have h1 := pDs_depth zs
    have h2 := pD_depth z
    simp only [List.map_cons, PyData.depthAll]
    omega
theorem pD_shaped (z : Int × Int) : SeqAt.shaped (pD z) = true := by
  have h := pD_depth z
  show ((pD z).canLay0 && decide ((pD z).depth ≤ 64)) = true
  rw [Bool.and_eq_true]
  exact ⟨pD_lay z, decide_eq_true (by omega)⟩
theorem pDs_shaped (zs : List (Int × Int)) : SeqAt.shaped (.tuple (zs.map pD)) = true := by
  have h1 := pDs_depth zs
  have h2 : PyData.depth (.tuple (zs.map pD)) ≤ 64 := by
    simp only [PyData.depth]
    omega
  show (PyData.canLay0 (.tuple (zs.map pD)) && decide (PyData.depth (.tuple (zs.map pD)) ≤ 64)) = true
  rw [Bool.and_eq_true]
  exact ⟨by simp only [PyData.canLay0]; exact pDs_lay zs, decide_eq_true h2⟩
theorem pDs_shapedL (zs : List (Int × Int)) : SeqAt.shaped (.list (zs.map pD)) = true := by
  have h1 := pDs_depth zs
  have h2 : PyData.depth (.list (zs.map pD)) ≤ 64 := by
    simp only [PyData.depth]
    omega
  show (PyData.canLay0 (.list (zs.map pD)) && decide (PyData.depth (.list (zs.map pD)) ≤ 64)) = true
  rw [Bool.and_eq_true]
  exact ⟨by simp only [PyData.canLay0]; exact pDs_lay zs, decide_eq_true h2⟩
theorem pD_eqv (z w : Int × Int) : PyData.eqv (pD z) (pD w) = decide (z = w) := by
  obtain ⟨a, b⟩ := z
  obtain ⟨a', b'⟩ := w
  have e : PyData.eqv (pD (a, b)) (pD (a', b')) = ((a == a') && ((b == b') && true)) := by simp only [pD, PyData.eqv, PyData.eqvAll]
  rw [e]
  by_cases h : ((a, b) : Int × Int) = (a', b')
  · cases h; simp
  · rw [decide_eq_false h]
    by_cases h1 : a = a'
    · have q : (b == b') = false := beq_eq_false_iff_ne.mpr (fun h2 => h (by rw [h1, h2]))
      rw [q]; simp
    · have q : (a == a') = false := beq_eq_false_iff_ne.mpr h1
      rw [q]; simp
theorem pDs_eqv : ∀ ps qs : List (Int × Int), PyData.eqvAll (ps.map pD) (qs.map pD) = decide (ps = qs)
  | [], [] => by simp [PyData.eqvAll]
  | [], q :: qs => by simp [PyData.eqvAll]
  | p :: ps, [] => by simp [PyData.eqvAll]
  | p :: ps, q :: qs => by
    rw [List.map_cons, List.map_cons]
    simp only [PyData.eqvAll]
    rw [pD_eqv, pDs_eqv ps qs]
    by_cases h1 : p = q
    · by_cases h2 : ps = qs <;> simp [h1, h2]
    · simp [h1]
theorem pDt_eqv (ps qs : List (Int × Int)) : PyData.eqv (.tuple (ps.map pD)) (.tuple (qs.map pD)) = decide (ps = qs) := by
  simp only [PyData.eqv]
  exact pDs_eqv ps qs
section
variable {K : PySem.W.Frag} {H : Hp}
theorem dp_pair {v : V} {p : Int × Int} (h : PairAt H v p) : Dp K H v (pD p) := by
  obtain ⟨a, rfl, h2⟩ := h
  exact .tup (SqT.of h2) (.cons (.int _) (.cons (.int _) .nil))
theorem dp_pairs : ∀ {xs : List V} {ps : List (Int × Int)}, Pairs H xs ps → DpAll K H xs (ps.map pD)
  | _, _, .nil => .nil
  | _, _, .cons r t => .cons (dp_pair r) (dp_pairs t)
theorem dp_ties {t : Addr} {xs : List V} {ps : List (Int × Int)} (h : H t = some (.tup xs)) (hp : Pairs H xs ps) : Dp K H (.ref t) (.tuple (ps.map pD)) := .tup (SqT.of h) (dp_pairs hp)
theorem dp_list {t : Addr} {xs : List V} {ps : List (Int × Int)} (h : H t = some (.lst xs)) (hp : Pairs H xs ps) : Dp K H (.ref t) (.list (ps.map pD)) := .lst (SqL.of h) (dp_pairs hp)
end
/-! ## lists in order -/
theorem lt2_irr {p : Int × Int} : ¬ lt2 p p := by unfold lt2; omega
theorem lt2_trans {p q r : Int × Int} (h1 : lt2 p q) (h2 : lt2 q r) : lt2 p r := by unfold lt2 at *; omega
theorem lt2_of {p q : Int × Int} (h : le2 p q) (n : p ≠ q) : lt2 p q := by
  unfold le2 at h; unfold lt2
  rcases h with h | ⟨h1, h2⟩
  · exact .inl h
  · refine .inr ⟨h1, ?_⟩
    have : p.2 ≠ q.2 := fun e => n (Prod.ext h1 e)
    omega
theorem up_of {ps : List (Int × Int)} (h : ps.Pairwise le2) (n : ps.Nodup) : ps.Pairwise lt2 := by
  induction ps with
  | nil => exact .nil
  | cons p ps ih =>
    obtain ⟨h1, h2⟩ := List.pairwise_cons.mp h
    obtain ⟨n1, n2⟩ := List.nodup_cons.mp n
    refine List.pairwise_cons.mpr ⟨fun q hq => lt2_of (h1 q hq) (fun e => n1 (e ▸ hq)), ih h2 n2⟩
theorem up_ext : ∀ {ps qs : List (Int × Int)}, ps.Pairwise lt2 → qs.Pairwise lt2 → (∀ p, p ∈ ps ↔ p ∈ qs) → ps = qs
  | [], [], _, _, _ => rfl
  | [], q :: qs, _, _, h => by have := (h q).mpr (by simp); simp at this
  | p :: ps, [], _, _, h => by have := (h p).mp (by simp); simp at this
  | p :: ps, q :: qs, hp, hq, h => by
    obtain ⟨p1, p2⟩ := List.pairwise_cons.mp hp
    obtain ⟨q1, q2⟩ := List.pairwise_cons.mp hq
    have e : p = q := by
      rcases List.mem_cons.mp ((h p).mp (by simp)) with e | e
      · exact e
      · rcases List.mem_cons.mp ((h q).mpr (by simp)) with e' | e'
        · exact e'.symm
        · exact absurd (lt2_trans (q1 p e) (p1 q e')) lt2_irr
    subst e
    have : ps = qs := up_ext p2 q2 fun r => by
      constructor
      · intro hr
        rcases List.mem_cons.mp ((h r).mp (by simp [hr])) with e | e
        · subst e; exact absurd (p1 r hr) lt2_irr
        · exact e
      · intro hr
        rcases List.mem_cons.mp ((h r).mpr (by simp [hr])) with e | e
        · subst e; exact absurd (q1 r hr) lt2_irr
        · exact e
    rw [this]
theorem up_nodup {ps : List (Int × Int)} (h : ps.Pairwise lt2) : ps.Nodup := List.Pairwise.imp (fun {a b} (q : lt2 a b) => show a ≠ b from fun e => by subst e; exact lt2_irr q) h
def norm (a b : Int) : Int × Int := (if b < a then b else a, if b > a then b else a)
theorem norm_id {p : Int × Int} (h : p.1 < p.2) : norm p.1 p.2 = p := by
  unfold norm
  rw [if_neg (by omega), if_pos h]
section
variable {P : Program} {w : World} {K : PySem.W.Frag} {mg : Str → Option Value} {base : Heap} {C : Addr}
/-! ## Web -/
def wf (n : Int) (t : Addr) : List (Str × V) := putF "ties" (.ref t) (putF "size" (.int n) [])
theorem ts_ : ¬ (("ties" : Str) = "size") := by decide +kernel
theorem st_ : ¬ (("size" : Str) = "ties") := by decide +kernel
theorem wf_size (n : Int) (t : Addr) : (wf n t).lookup ("size" : Str) = some (.int n) := by
  unfold wf
  rw [lookup_putF, if_neg st_, lookup_putF, if_pos rfl]
theorem wf_ties (n : Int) (t : Addr) : (wf n t).lookup ("ties" : Str) = some (.ref t) := by
  unfold wf
  rw [lookup_putF, if_pos rfl]
theorem wf_len (n : Int) (t : Addr) : (wf n t).length = 2 := by
  show (if ("size" : Str) = "ties" then [(("size" : Str), V.ref t)] else (("size" : Str), V.int n) :: putF "ties" (V.ref t) []).length = 2
  rw [if_neg st_]
  rfl
def sp_Web_init (C : Addr) : Sp := fun vs H Q _ => ∃ x dx n t xs ps, vs = [.ref x, .int n, .ref t] ∧ H x = some (.ins C dx []) ∧ 1 ≤ n ∧ n ≤ 24 ∧ H t = some (.tup xs) ∧ Pairs H xs ps ∧ Good n ps ∧ ∀ H', ExT x H H' → H' x = some (.ins C dx (wf n t)) → Q .non H'
abbrev s_Web_init : Stmt := (inClass (top 11) 0)
theorem sc_Web_init : FnScope ["self", "size", "ties", "wrong"] ["self", "size", "ties"] (defScope s_Web_init) := ⟨rfl, rfl, rfl, by decide +kernel, rfl, by decide +kernel, by decide +kernel⟩

theorem ok_Web_init {f : Addr} {fd : FuncData} (F : Fun K "__init__" "Web.__init__" s_Web_init f fd) (B : Bl mg) (T : Txt K mg C) (c_is_number : Cal P w K mg base 2 "is_number" ["thing", "least", "most"] sp_is_number) (c_wrong_tie : Cal P w K mg base 4 "wrong_tie" ["size", "ties"] sp_wrong_tie) : FnOk P w K mg base CX0 5 f fd ["self", "size", "ties"] (sp_Web_init C) := by
  refine F.ok sc_Web_init (fun vs H Q E h => ?_) (fun cdv A outer s H vs Q E hr h => ?_)
  · obtain ⟨x, dx, n, t, xs, ps, rfl, _⟩ := h; rfl
  · obtain ⟨x, dx, n, t, xs, ps, rfl, hx, n1, n2, ht, hp, G, k⟩ := h
    obtain ⟨t24, h24⟩ := T.mg_MOST_PARTS
    refine ⟨_, (pss_cons (ps_if (pt_not (pt_val (pe_cal c_is_number (hr.mono (by first | decide | omega)) (pa_cons (pv 1) (pa_cons pe_int (pa_cons (pe_glob (v := .int 24) (by rfl) h24 ⟨_, rfl⟩) pa_nil)))))) (pss_one ps_never) pss_nil)
 (pss_cons (ps_if (pt_not (pt_val (pe_callB call_isi (by rfl) B.isinstance (by decide +kernel) (pa_cons (pv 2) (pa_cons (pe_bltn (v := .ty "tuple") (by rfl) B.tuple_ (by decide +kernel) rfl) pa_nil))))) (pss_one ps_never) pss_nil)
 (pss_cons (ps_set (i := 3) sc_Web_init.nd rfl (by first | exact Or.inl rfl | exact Or.inr rfl) (pe_cal c_wrong_tie (hr.mono (by first | decide | omega)) (pa_cons (pv 1) (pa_cons (pv 2) pa_nil))))
 (pss_cons (ps_if (pt_cmpR op_notN (pv 3) pe_non (nomark _)) (pss_one ps_never) pss_nil)
 (pss_cons (ps_fld (pv 0) (pv 1) rfl)
 (pss_one (ps_fld (pv 0) (pv 2) rfl))))))), ?_⟩
    refine ⟨_, rfl, n, 1, 24, rfl, _, rfl, ?_⟩
    rw [decide_eq_true (⟨n1, n2⟩ : 1 ≤ n ∧ n ≤ 24)]
    refine iteF ?_
    refine ⟨_, rfl, _, _, _, _, true, rfl, .ty "tuple", .base (.tup ht), kit_ty (by decide +kernel), true, rfl, iteF ?_⟩
    refine ⟨_, rfl, _, rfl, n, t, xs, ps, rfl, ht, hp, G, fun H1 e1 => ?_⟩
    refine ⟨_, rfl, rfl, _, rfl, iteF ?_⟩
    refine ⟨_, rfl, _, rfl, x, C, dx, [], rfl, e1 _ _ hx, T.cl, T.nSize, (by decide), ?_⟩
    refine ⟨_, rfl, _, rfl, x, C, dx, _, rfl, upd_same, T.cl, T.nTies, (by show 1 < 1000; decide), ?_⟩
    exact k _ (e1.exT.upd.upd) upd_same
/-- Web(size, ties) -/
theorem make_web {H : Hp} {n : Int} {t : Addr} {xs : List V} {ps : List (Int × Int)} {Q : Addr → Hp → Prop} (n1 : 1 ≤ n) (n2 : n ≤ 24) (ht : H t = some (.tup xs)) (hp : Pairs H xs ps) (G : Good n ps)
    (k : ∀ x H', Same H H' → H x = none → WebAt C H' x n t ps → (∃ dx, H' x = some (.ins C dx (wf n t))) → Q x H') :
    ∀ x dx, H x = none → H dx = none → dx ≠ x → sp_Web_init C (.ref x :: ([.int n, .ref t] ++ [])) (upd (upd H dx (.own x)) x (.ins C dx [])) (fun v H2 => v = .non ∧ Q x H2) E0 := by
  intro x dx nx nd ne
  have s0 : Same H (upd (upd H dx (.own x)) x (.ins C dx [])) := fun b o e => by
    rw [upd_ne (ne_of_none e nx), upd_ne (ne_of_none e nd)]
    exact e
  refine ⟨x, dx, n, t, xs, ps, rfl, upd_same, n1, n2, s0 _ _ ht, hp.tk s0.tk, G, fun H' e' h' => ⟨rfl, ?_⟩⟩
  have s1 : Same H H' := fun b o e => e' _ _ (ne_of_none e nx) (s0 _ _ e)
  exact k x H' s1 nx ⟨⟨dx, _, h', wf_size n t, wf_ties n t⟩, xs, s1 _ _ ht, hp.tk s1.tk⟩ ⟨dx, h'⟩
def sp_Web_eq (C : Addr) : Sp := fun vs H Q _ => ∃ a b n m t u ps qs, vs = [.ref a, .ref b] ∧ WebAt C H a n t ps ∧ WebAt C H b m u qs ∧ Q (.bl (decide (n = m ∧ ps = qs))) H
theorem kit_own {C : Addr} : PySem.W.kitOne K (.ref C) (.ref C) = some true := by
  unfold PySem.W.kitOne
  simp
abbrev s_Web_eq : Stmt := (inClass (top 11) 1)
theorem sc_Web_eq : FnScope ["self", "other"] ["self", "other"] (defScope s_Web_eq) := ⟨rfl, rfl, rfl, by decide +kernel, rfl, by decide +kernel, by decide +kernel⟩

theorem ok_Web_eq {f : Addr} {fd : FuncData} (F : Fun K "__eq__" "Web.__eq__" s_Web_eq f fd) (B : Bl mg) (T : Txt K mg C) : FnOk P w K mg base CX0 1 f fd ["self", "other"] (sp_Web_eq C) := by
  refine F.ok sc_Web_eq (fun vs H Q E h => ?_) (fun cdv A outer s H vs Q E hr h => ?_)
  · obtain ⟨a, b, n, m, t, u, ps, qs, rfl, _⟩ := h; rfl
  · obtain ⟨a, b, n, m, t, u, ps, qs, rfl, ⟨⟨dx, fs, h1, h2, h3⟩, xs, h4, h5⟩, ⟨⟨dy, gs, g1, g2, g3⟩, ys, g4, g5⟩, k⟩ := h
    refine ⟨_, (pss_one (ps_ret (pe_and (pe_callB call_isi (by rfl) B.isinstance (by decide +kernel) (pa_cons (pv 1) (pa_cons (pe_globR T.mg_Web) pa_nil))) (pe_and (pe_cmpR op_eq (pe_fld (pv 0) rfl) (pe_fld (pv 1) rfl) (nomark _)) (pe_one (pe_cmpR (op_eqD hr.units) (pe_fld (pv 0) rfl) (pe_fld (pv 1) rfl) (nomark _))))))), ?_⟩
    refine ⟨_, rfl, _, _, _, _, true, rfl, .own C, .base (.ins g1 T.cl T.xc T.xg T.xt T.xm), kit_own, true, rfl, iteT ?_⟩
    refine ⟨_, rfl, a, C, dx, fs, _, rfl, h1, T.cl, T.nSize, h2, _, rfl, b, C, dy, gs, _, rfl, g1, T.cl, T.nSize, g2, rfl, _, rfl, ?_⟩
    by_cases e : n = m
    · rw [if_pos (decide_eq_true (by rw [e]))]
      refine ⟨_, rfl, a, C, dx, fs, _, rfl, h1, T.cl, T.nTies, h3, _, rfl, b, C, dy, gs, _, rfl, g1, T.cl, T.nTies, g3, _, _, dp_ties h4 h5, dp_ties g4 g5, pDs_shaped ps, pDs_shaped qs, ?_⟩
      rw [pDt_eqv]
      have e2 : decide (n = m ∧ ps = qs) = decide (ps = qs) := by simp [e]
      rw [e2] at k
      exact k
    · rw [if_neg (by simpa using e)]
      have e2 : decide (n = m ∧ ps = qs) = false := decide_eq_false fun q => e q.1
      rw [e2] at k
      exact k
end
end Bs

namespace Bs
open PySem PySem.Spec L2
theorem paired_map {α β γ : Type} {F : α → γ → Prop} {g : β → γ} : ∀ {l : List α} {m : List β}, Paired (fun v a => F v (g a)) l m → Paired F l (m.map g)
  | _, _, .nil => .nil
  | _, _, .cons r t => .cons r (paired_map t)
theorem paired_eq {α : Type} {g : α → V} : ∀ {l : List V} {m : List α}, Paired (fun v a => v = g a) l m → l = m.map g
  | _, _, .nil => rfl
  | _, _, .cons r t => by rw [r, paired_eq t]; rfl
theorem filter_yes {α : Type} (l : List α) : l.filter (fun _ => true) = l := List.filter_eq_self.mpr fun _ _ => rfl
theorem paired_at {α : Type} {F : V → α → Prop} {xs : List V} {as : List α} {i : Nat} {x : V} {a : α} (h : Paired F xs as) (hx : xs[i]? = some x) (ha : as[i]? = some a) : F x a := by
  obtain ⟨b, hb, q⟩ := Paired.get h hx
  rw [ha] at hb
  cases hb
  exact q
section
variable {P : Program} {w : World} {K : PySem.W.Frag} {mg : Str → Option Value} {base : Heap} {C : Addr}
def sp_tie_of : Sp := fun vs H Q _ => ∃ a b, vs = [.int a, .int b] ∧ ∀ q, H q = none → Q (.ref q) (upd H q (.tup [.int (norm a b).1, .int (norm a b).2]))
abbrev s_tie_of : Stmt := (top 14)
theorem sc_tie_of : FnScope ["a", "b"] ["a", "b"] (defScope s_tie_of) := ⟨rfl, rfl, rfl, by decide +kernel, rfl, by decide +kernel, by decide +kernel⟩

theorem ok_tie_of {f : Addr} {fd : FuncData} (F : Fun K "tie_of" "tie_of" s_tie_of f fd) (hm : mg "tie_of" = some (.ref f)) (B : Bl mg) : Cal P w K mg base 1 "tie_of" ["a", "b"] sp_tie_of := by
  refine ⟨f, fd, F.ok sc_tie_of (fun vs H Q E h => ?_) (fun cdv A outer s H vs Q E hr h => ?_), hm, F.kp, F.binds (ps := ["a", "b"]) fun _ _ _ _ _ _ us hl => match us, hl with | [_, _], _ => rfl⟩
  · obtain ⟨a, b, rfl, _⟩ := h; rfl
  · obtain ⟨a, b, rfl, k⟩ := h
    refine ⟨_, (pss_one (ps_ret (pe_tup (pa_cons (pe_callB (call_min2 rfl) (by rfl) B.min (by decide +kernel) (pa_cons (pv 0) (pa_cons (pv 1) pa_nil))) (pa_cons (pe_callB (call_max2 rfl) (by rfl) B.max (by decide +kernel) (pa_cons (pv 0) (pa_cons (pv 1) pa_nil))) pa_nil))))), ?_⟩
    refine ⟨_, rfl, _, rfl, _, _, rfl, _, rfl, _, rfl, _, _, rfl, (by show 2 ≤ sizeLine; decide), fun q hq => k q hq⟩
def sp_web_of_any_size (C : Addr) : Sp := fun vs H Q _ => ∃ n l xs ps, vs = [.int n, .ref l] ∧ SqL K H l xs ∧ xs.length ≤ 100000 ∧ Pairs H xs ps ∧ ∀ x t qs H', Same H H' → H x = none → WebAt C H' x n t qs → qs.Perm (ps.map fun p => norm p.1 p.2) → qs.Pairwise le2 → Q (.ref x) H'
abbrev s_web_of_any_size : Stmt := (top 15)
theorem sc_web_of_any_size : FnScope ["size", "ties", "web", "a", "b"] ["size", "ties"] (defScope s_web_of_any_size) := ⟨rfl, rfl, rfl, by decide +kernel, rfl, by decide +kernel, by decide +kernel⟩

theorem ok_web_of_any_size {f : Addr} {fd : FuncData} (F : Fun K "web_of_any_size" "web_of_any_size" s_web_of_any_size f fd) (hm : mg "web_of_any_size" = some (.ref f)) (B : Bl mg) (T : Txt K mg C) (m_Web : Mkc P w K mg base 5 C "Web" ["self", "size", "ties"] (sp_Web_init C)) (c_tie_of : Cal P w K mg base 1 "tie_of" ["a", "b"] sp_tie_of) :
    Cal P w K mg base 7 "web_of_any_size" ["size", "ties"] (sp_web_of_any_size (K := K) C) := by
  refine ⟨f, fd, F.ok sc_web_of_any_size (fun vs H Q E h => ?_) (fun cdv A outer s H vs Q E hr h => ?_), hm, F.kp, F.binds (ps := ["size", "ties"]) fun _ _ _ _ _ _ us hl => match us, hl with | [_, _], _ => rfl⟩
  · obtain ⟨n, l, xs, ps, rfl, _⟩ := h; rfl
  · obtain ⟨n, l, xs, ps, rfl, hl, hlen, hp, k⟩ := h
    refine ⟨_, (pss_cons (ps_set (i := 2) sc_web_of_any_size.nd rfl (by first | exact Or.inl rfl | exact Or.inr rfl) (pe_mkc m_Web (hr.mono (by first | decide | omega)) (pa_cons pe_int (pa_cons (pe_tup pa_nil) pa_nil))))
 (pss_cons (ps_fld (pv 2) (pv 0) rfl)
 (pss_cons (ps_fld (pv 2) (pe_callTy call_tuple_of (by rfl) B.tuple_ (by decide +kernel) (pa_cons (pe_callB cr_sortedPO (by rfl) B.sorted (by decide +kernel) (pa_cons (pe_lc (own := [("a", 3), ("b", 4)]) (g := (gTup K 2 (gCons (gName 3) (gCons (gName 4) gNil)))) (by rfl) sc_web_of_any_size.nd (pi_list (pv 1)) (blkOk_by (own := [("a", 3), ("b", 4)]) (N := ["size", "ties", "web", "a", "b"]) (sc := defScope s_web_of_any_size) (by decide +kernel)) (fun _ _ _ _ _ => (pg_tup (by rfl) (pgs_cons (pg_name (i := 3) sc_web_of_any_size.nd rfl (by first | exact Or.inl rfl | exact Or.inr rfl)) (pgs_cons (pg_name (i := 4) sc_web_of_any_size.nd rfl (by first | exact Or.inl rfl | exact Or.inr rfl)) pgs_nil)))) (fun _ _ _ _ _ => pts_nil) (fun _ _ _ _ _ => (pe_cal c_tie_of (hr.mono (by first | decide | omega)) (pa_cons (pv 3) (pa_cons (pv 4) pa_nil))))) pa_nil)) pa_nil)) rfl)
 (pss_one (ps_ret (pv 2)))))), ?_⟩
    refine ⟨Nat.zero_le _, fun z hz => make_web (xs := []) (ps := []) (by decide) (by decide) upd_same .nil ⟨fun p h => by simp at h, .nil⟩ fun x H1 e1 nx W hx => ?_⟩
    obtain ⟨dx, hx⟩ := hx
    have nx0 : H x = none := L2.Same.free (L2.Same.new hz) nx
    have e0 : Same H H1 := (L2.Same.new hz).trans e1
    refine ⟨_, rfl, _, rfl, x, C, dx, _, rfl, hx, T.cl, T.nSize, (by rw [wf_len]; decide), ?_⟩
    generalize hfs : putF "size" (V.int n) (wf 1 z) = fs
    have hfl : fs.length < 1000 ∧ fs.lookup ("size" : Str) = some (.int n) := by
      subst hfs
      constructor
      · show (putF "size" (V.int n) (putF "ties" (V.ref z) (putF "size" (V.int 1) []))).length < 1000
        have q : putF "ties" (V.ref z) (putF "size" (V.int 1) []) = [(("size" : Str), V.int 1), ("ties", V.ref z)] := by
          show (if ("size" : Str) = "ties" then _ else (("size" : Str), V.int 1) :: putF "ties" (V.ref z) []) = _
          rw [if_neg st_]
          rfl
        rw [q]
        show (if ("size" : Str) = "size" then _ else _ : List (Str × V)).length < 1000
        rw [if_pos rfl]
        show 2 < 1000
        decide
      · rw [lookup_putF, if_pos rfl]
    have e2 : Same H (upd H1 x (.ins C dx fs)) := L2.Same.mut e0 nx0
    generalize hH2 : upd H1 x (.ins C dx fs) = H2 at e2 ⊢
    have hx2 : H2 x = some (.ins C dx fs) := by rw [← hH2]; exact upd_same
    refine ⟨_, rfl, l, rfl, ⟨_, e2.seq hl⟩, fun D hD => lc_data walk_list ps (by rw [Paired.len hp]) (fun _ => true) (fun H v a => PairAt H v (norm a.1 a.2)) (fun _ _ _ _ t q => q.tk t) hD (fun H' e => e.seq (e2.seq hl)) (by rw [← Paired.len hp]; exact Nat.lt_of_le_of_lt hlen (by decide)) ?_ (fun _ _ _ _ _ y => yat_same y) ?_⟩
    · rintro i p v H3 H4 Ny Nn hpi e3 ⟨rfl, hv⟩ kE kN
      obtain ⟨b, rfl, hb⟩ := paired_at hp hv hpi
      have hb3 := e3 _ _ (e2 _ _ hb)
      refine ⟨b, _, rfl, SqT.of hb3, rfl, _, _, rfl, _, _, rfl, rfl, rfl, yes_if ?_⟩
      refine ⟨_, rfl, _, rfl, p.1, p.2, rfl, fun q hq => ?_⟩
      exact kE _ _ rfl (L2.Same.new hq) ⟨q, rfl, upd_same⟩
    · intro ys H3 e3 hys hpr
      rw [filter_yes] at hpr
      have hpr2 := paired_map (F := PairAt H3) (g := fun p : Int × Int => norm p.1 p.2) hpr
      refine ⟨D, ys, pairOf H3, rfl, SqL.of hys, pairs_mem hpr2, fun zs q s1 s2 hq => ?_⟩
      obtain ⟨qs, hz, hperm, hle⟩ := sorted_post hpr2 s1 s2
      refine ⟨q, _, rfl, .inl ⟨SqL.of upd_same, fun t ht => ?_⟩⟩
      have e4 : Same H3 (upd (upd H3 q (.lst zs)) t (.tup zs)) := (L2.Same.new hq).new' ht
      refine ⟨_, rfl, x, C, dx, fs, rfl, e4 _ _ (e3 _ _ hx2), T.cl, T.nTies, hfl.1, ?_⟩
      refine ⟨_, rfl, k x t qs _ (L2.Same.mut (e2.trans (e3.trans e4)) nx0) nx0 ⟨⟨dx, _, upd_same, ?_, ?_⟩, zs, ?_, ?_⟩ hperm hle⟩
      · rw [lookup_putF, if_neg st_]; exact hfl.2
      · rw [lookup_putF, if_pos rfl]
      · have hxt : t ≠ x := fun q' => by
          have := e3 _ _ hx2
          rw [← q'] at this
          have h5 : (upd H3 q (.lst zs)) t = some (.ins C dx fs) := L2.Same.new hq _ _ this
          rw [ht] at h5; cases h5
        rw [upd_ne hxt]; exact upd_same
      · refine hz.tk ((tk_new hq).trans ((tk_new ht).trans (TK.upd ?_)))
        rw [e4 _ _ (e3 _ _ hx2)]
        rfl

def nbrs (ps : List (Int × Int)) (k : Int) : List Int := (ps.filter fun p => p.1 == k || p.2 == k).map fun p => if p.1 = k then p.2 else p.1
theorem inV_pair (k a b : Int) : inV (.int k) [.int a, .int b] = (a == k || b == k) := by
  simp [inV, eqV]
def sp_tied_to (C : Addr) : Sp := fun vs H Q _ => ∃ a n t ps k, vs = [.ref a, .int k] ∧ WebAt C H a n t ps ∧ ps.length ≤ 100000 ∧ 0 ≤ k ∧ k < n ∧ ∀ p H', Same H H' → H p = none → H' p = some (.tup ((nbrs ps k).map V.int)) → Q (.ref p) H'
abbrev s_tied_to : Stmt := (top 16)
theorem sc_tied_to : FnScope ["web", "part", "a", "b"] ["web", "part"] (defScope s_tied_to) := ⟨rfl, rfl, rfl, by decide +kernel, rfl, by decide +kernel, by decide +kernel⟩

theorem ok_tied_to {f : Addr} {fd : FuncData} (F : Fun K "tied_to" "tied_to" s_tied_to f fd) (hm : mg "tied_to" = some (.ref f)) (B : Bl mg) (T : Txt K mg C) (c_check_part : Cal P w K mg base 4 "check_part" ["web", "thing"] (sp_check_part C)) :
    Cal P w K mg base 5 "tied_to" ["web", "part"] (sp_tied_to C) := by
  refine ⟨f, fd, F.ok sc_tied_to (fun vs H Q E h => ?_) (fun cdv A outer s H vs Q E hr h => ?_), hm, F.kp, F.binds (ps := ["web", "part"]) fun _ _ _ _ _ _ us hl => match us, hl with | [_, _], _ => rfl⟩
  · obtain ⟨a, n, t, ps, k, rfl, _⟩ := h; rfl
  · obtain ⟨a, n, t, ps, kk, rfl, W, hlen, k1, k2, k⟩ := h
    obtain ⟨⟨dx, fs, h1, h2, h3⟩, xs, h4, h5⟩ := id W
    refine ⟨_, (pss_cons (ps_expr (pe_cal c_check_part (hr.mono (by first | decide | omega)) (pa_cons (pv 0) (pa_cons (pv 1) pa_nil))))
 (pss_one (ps_ret (pe_callTy call_tuple_of (by rfl) B.tuple_ (by decide +kernel) (pa_cons (pe_lc (own := [("a", 2), ("b", 3)]) (g := (gTup K 2 (gCons (gName 2) (gCons (gName 3) gNil)))) (tt := (tTest (tOp (rIn K false) _ _))) (by rfl) sc_tied_to.nd (pi_tup (pe_fld (pv 0) rfl)) (blkOk_by (own := [("a", 2), ("b", 3)]) (N := ["web", "part", "a", "b"]) (sc := defScope s_tied_to) (by decide +kernel)) (fun _ _ _ _ _ => (pg_tup (by rfl) (pgs_cons (pg_name (i := 2) sc_tied_to.nd rfl (by first | exact Or.inl rfl | exact Or.inr rfl)) (pgs_cons (pg_name (i := 3) sc_tied_to.nd rfl (by first | exact Or.inl rfl | exact Or.inr rfl)) pgs_nil)))) (fun _ _ _ _ _ => (pts_one (pt_cmpR op_in_seq (pv 1) (pe_tup (pa_cons (pv 2) (pa_cons (pv 3) pa_nil))) (by rfl)))) (fun _ _ _ _ _ => (pe_ifExp (pt_cmpR op_eq (pv 2) (pv 1) (nomark _)) (pv 3) (pv 2)))) pa_nil))))), ?_⟩
    refine ⟨_, rfl, _, rfl, a, n, t, ps, kk, rfl, W, k1, k2, ?_⟩
    refine ⟨_, rfl, a, C, dx, fs, _, rfl, h1, T.cl, T.nTies, h3, t, rfl, ⟨xs, SqT.of h4⟩, fun D hD => lc_data walk_tup ps (Paired.len h5).symm (fun p => p.1 == kk || p.2 == kk) (fun _ v p => v = .int (if p.1 = kk then p.2 else p.1)) (fun _ _ _ _ _ q => q) hD (fun H' e => SqT.of (e _ _ h4)) (Nat.lt_of_le_of_lt hlen (by decide)) ?_ (fun _ _ _ _ _ y => yat_same y) ?_⟩
    · rintro i p v H3 H4 Ny Nn hpi e3 ⟨rfl, hv⟩ kE kN
      obtain ⟨b, rfl, hb⟩ := paired_at h5 hv hpi
      have hb3 := e3 _ _ hb
      refine ⟨b, _, rfl, SqT.of hb3, rfl, _, _, rfl, _, _, rfl, rfl, rfl, ?_⟩
      refine ⟨_, rfl, _, rfl, _, rfl, (by show 2 ≤ sizeLine; decide), fun q hq => ?_⟩
      refine ⟨q, _, rfl, .inr (SqT.of upd_same), rfl, rfl, _, rfl, ?_⟩
      have eq := L2.Same.new (o := .tup [.int p.1, .int p.2]) hq
      rw [inV_pair]
      by_cases c : (p.1 == kk || p.2 == kk) = true
      · rw [c]
        refine iteT ?_
        refine ⟨_, rfl, _, rfl, rfl, _, rfl, ?_⟩
        dsimp only
        by_cases c2 : p.1 = kk
        · rw [if_pos (decide_eq_true (by rw [c2]))]
          exact ⟨_, rfl, kE _ _ c eq (by rw [if_pos c2])⟩
        · rw [if_neg (by simpa using c2)]
          exact ⟨_, rfl, kE _ _ c eq (by rw [if_neg c2])⟩
      · rw [eq_false_of_ne_true c]
        exact iteF (kN _ (eq_false_of_ne_true c) eq)
    · intro ys H3 e3 hys hpr
      have ey := paired_eq hpr
      subst ey
      refine ⟨D, _, rfl, .inl ⟨SqL.of hys, fun q hq => ?_⟩⟩
      refine k q _ (e3.new' hq) (L2.Same.free e3 hq) ?_
      rw [upd_same]
      unfold nbrs
      rw [List.map_map]
      rfl
def sp_ties_without (C : Addr) : Sp := fun vs H Q _ => ∃ x n t ps a b, vs = [.ref x, .int a, .int b] ∧ WebAt C H x n t ps ∧ ps.length ≤ 100000 ∧ 0 ≤ a ∧ a < n ∧ 0 ≤ b ∧ b < n ∧ a ≠ b ∧ ∀ p ys H', Same H H' → H p = none → H' p = some (.lst ys) → Pairs H' ys (ps.filter fun p => !decide (p = norm a b)) → Q (.ref p) H'
abbrev s_ties_without : Stmt := (top 17)
theorem sc_ties_without : FnScope ["web", "a", "b", "pair", "held"] ["web", "a", "b"] (defScope s_ties_without) := ⟨rfl, rfl, rfl, by decide +kernel, rfl, by decide +kernel, by decide +kernel⟩

theorem ok_ties_without {f : Addr} {fd : FuncData} (F : Fun K "ties_without" "ties_without" s_ties_without f fd) (hm : mg "ties_without" = some (.ref f)) (B : Bl mg) (T : Txt K mg C) (c_check_part : Cal P w K mg base 4 "check_part" ["web", "thing"] (sp_check_part C)) (c_tie_of : Cal P w K mg base 1 "tie_of" ["a", "b"] sp_tie_of) :
    Cal P w K mg base 5 "ties_without" ["web", "a", "b"] (sp_ties_without C) := by
  refine ⟨f, fd, F.ok sc_ties_without (fun vs H Q E h => ?_) (fun cdv A outer s H vs Q E hr h => ?_), hm, F.kp, F.binds (ps := ["web", "a", "b"]) fun _ _ _ _ _ _ us hl => match us, hl with | [_, _, _], _ => rfl⟩
  · obtain ⟨a, n, t, ps, k, l, rfl, _⟩ := h; rfl
  · obtain ⟨x, n, t, ps, a, b, rfl, W, hlen, a1, a2, b1, b2, ab, k⟩ := h
    obtain ⟨⟨dx, fs, h1, h2, h3⟩, xs, h4, h5⟩ := id W
    refine ⟨_, (pss_cons (ps_expr (pe_cal c_check_part (hr.mono (by first | decide | omega)) (pa_cons (pv 0) (pa_cons (pv 1) pa_nil))))
 (pss_cons (ps_expr (pe_cal c_check_part (hr.mono (by first | decide | omega)) (pa_cons (pv 0) (pa_cons (pv 2) pa_nil))))
 (pss_cons (ps_if (pt_cmpR op_eq (pv 1) (pv 2) (nomark _)) (pss_one ps_never) pss_nil)
 (pss_cons (ps_set (i := 3) sc_ties_without.nd rfl (by first | exact Or.inl rfl | exact Or.inr rfl) (pe_cal c_tie_of (hr.mono (by first | decide | omega)) (pa_cons (pv 1) (pa_cons (pv 2) pa_nil))))
 (pss_one (ps_ret (pe_lc (own := [("held", 4)]) (tt := (tTest (tOp (rNeD K) _ _))) (by rfl) sc_ties_without.nd (pi_tup (pe_fld (pv 0) rfl)) (blkOk_by (own := [("held", 4)]) (N := ["web", "a", "b", "pair", "held"]) (sc := defScope s_ties_without) (by decide +kernel)) (fun _ _ _ _ _ => (pg_name (i := 4) sc_ties_without.nd rfl (by first | exact Or.inl rfl | exact Or.inr rfl))) (fun _ _ _ _ _ => (pts_one (pt_cmpR (op_neD hr.units) (pv 4) (pv 3) (nomark _)))) (fun _ _ _ _ _ => (pv 4))))))))), ?_⟩
    refine ⟨_, rfl, _, rfl, x, n, t, ps, a, rfl, W, a1, a2, ?_⟩
    refine ⟨_, rfl, _, rfl, x, n, t, ps, b, rfl, W, b1, b2, ?_⟩
    refine ⟨_, rfl, _, rfl, rfl, _, rfl, ?_⟩
    dsimp only
    rw [if_neg (by simpa using ab)]
    refine ⟨_, rfl, _, rfl, a, b, rfl, fun c hc => ?_⟩
    have ec := L2.Same.new (o := .tup [.int (norm a b).1, .int (norm a b).2]) hc
    have hcp : PairAt (upd H c (.tup [.int (norm a b).1, .int (norm a b).2])) (.ref c) (norm a b) := ⟨c, rfl, upd_same⟩
    refine ⟨_, rfl, x, C, dx, fs, _, rfl, ec _ _ h1, T.cl, T.nTies, h3, t, rfl, ⟨xs, SqT.of (ec _ _ h4)⟩, fun D hD => lc_data walk_tup ps (Paired.len h5).symm (fun p => !decide (p = norm a b)) (fun H v p => PairAt H v p) (fun _ _ _ _ t q => q.tk t) hD (fun H' e => SqT.of (e _ _ (ec _ _ h4))) (Nat.lt_of_le_of_lt hlen (by decide)) ?_ (fun _ _ _ _ _ y => yat_same y) ?_⟩
    · rintro i p v H3 H4 Ny Nn hpi e3 ⟨rfl, hv⟩ kE kN
      have hb := ((paired_at h5 hv hpi).tk ec.tk).tk e3.tk
      refine ⟨rfl, ?_⟩
      refine ⟨_, rfl, _, rfl, _, _, dp_pair hb, dp_pair (hcp.tk e3.tk), pD_shaped _, pD_shaped _, _, rfl, ?_⟩
      rw [pD_eqv]
      dsimp only
      by_cases c : (!decide (p = norm a b)) = true
      · rw [if_pos c]
        exact ⟨_, rfl, kE _ _ c (L2.Same.refl _) hb⟩
      · rw [if_neg c]
        exact kN _ (eq_false_of_ne_true c) (L2.Same.refl _)
    · intro ys H3 e3 hys hpr
      exact k D ys H3 (ec.trans e3) (L2.Same.free ec hD) hys hpr
theorem norm_lt {a b : Int} (h : a ≠ b) : (norm a b).1 < (norm a b).2 := by
  unfold norm
  by_cases h1 : b < a
  · rw [if_pos h1, if_neg (by omega)]; exact h1
  · rw [if_neg h1, if_pos (by omega)]; show a < b; omega
theorem norm_in {a b n : Int} (h : a ≠ b) (a1 : 0 ≤ a) (a2 : a < n) (b1 : 0 ≤ b) (b2 : b < n) : 0 ≤ (norm a b).1 ∧ (norm a b).1 < (norm a b).2 ∧ (norm a b).2 < n := by
  unfold norm
  by_cases h1 : b < a
  · rw [if_pos h1, if_neg (by omega)]; exact ⟨b1, h1, a2⟩
  · rw [if_neg h1, if_pos (by omega)]; exact ⟨a1, by show a < b; omega, b2⟩
theorem map_norm {n : Int} {ps : List (Int × Int)} (h : ∀ p ∈ ps, p.1 < p.2) : (ps.map fun p => norm p.1 p.2) = ps := by
  induction ps with
  | nil => rfl
  | cons p ps ih => rw [List.map_cons, norm_id (h p (by simp)), ih fun q hq => h q (by simp [hq])]
/-- tie and untie: the web told, by what it holds -/
def sp_tie (C : Addr) : Sp := fun vs H Q _ => ∃ x n t ps a b, vs = [.ref x, .int a, .int b] ∧ WebAt C H x n t ps ∧ Good n ps ∧ ps.length ≤ 50000 ∧ 0 ≤ a ∧ a < n ∧ 0 ≤ b ∧ b < n ∧ a ≠ b ∧ ∀ y u qs H', Same H H' → H y = none → WebAt C H' y n u qs → Good n qs → (∀ p, p ∈ qs ↔ p ∈ ps ∨ p = norm a b) → Q (.ref y) H'
def sp_untie (C : Addr) : Sp := fun vs H Q _ => ∃ x n t ps a b, vs = [.ref x, .int a, .int b] ∧ WebAt C H x n t ps ∧ Good n ps ∧ ps.length ≤ 50000 ∧ 0 ≤ a ∧ a < n ∧ 0 ≤ b ∧ b < n ∧ a ≠ b ∧ ∀ y u qs H', Same H H' → H y = none → WebAt C H' y n u qs → Good n qs → (∀ p, p ∈ qs ↔ p ∈ ps ∧ p ≠ norm a b) → Q (.ref y) H'
theorem good_of {n : Int} {qs rs : List (Int × Int)} (hp : qs.Perm rs) (hl : qs.Pairwise le2) (hn : rs.Nodup) (ok : ∀ p ∈ rs, 0 ≤ p.1 ∧ p.1 < p.2 ∧ p.2 < n) : Good n qs :=
  ⟨fun p h => ok p (hp.mem_iff.mp h), up_of hl (hp.nodup_iff.mpr hn)⟩
abbrev s_tie : Stmt := (top 18)
theorem sc_tie : FnScope ["web", "a", "b"] ["web", "a", "b"] (defScope s_tie) := ⟨rfl, rfl, rfl, by decide +kernel, rfl, by decide +kernel, by decide +kernel⟩

theorem ok_tie {f : Addr} {fd : FuncData} (F : Fun K "tie" "tie" s_tie f fd) (hm : mg "tie" = some (.ref f)) (B : Bl mg) (T : Txt K mg C) (c_ties_without : Cal P w K mg base 5 "ties_without" ["web", "a", "b"] (sp_ties_without C))
    (c_web_of_any_size : Cal P w K mg base 7 "web_of_any_size" ["size", "ties"] (sp_web_of_any_size (K := K) C)) : Cal P w K mg base 8 "tie" ["web", "a", "b"] (sp_tie C) := by
  refine ⟨f, fd, F.ok sc_tie (fun vs H Q E h => ?_) (fun cdv A outer s H vs Q E hr h => ?_), hm, F.kp, F.binds (ps := ["web", "a", "b"]) fun _ _ _ _ _ _ us hl => match us, hl with | [_, _, _], _ => rfl⟩
  · obtain ⟨a, n, t, ps, k, l, rfl, _⟩ := h; rfl
  · obtain ⟨x, n, t, ps, a, b, rfl, W, G, hlen, a1, a2, b1, b2, ab, k⟩ := h
    obtain ⟨⟨dx, fs, h1, h2, h3⟩, xs, h4, h5⟩ := id W
    refine ⟨_, (pss_one (ps_ret (pe_cal c_web_of_any_size (hr.mono (by first | decide | omega)) (pa_cons (pe_fld (pv 0) rfl) (pa_cons (pe_op op_cat (pe_cal c_ties_without (hr.mono (by first | decide | omega)) (pa_cons (pv 0) (pa_cons (pv 1) (pa_cons (pv 2) pa_nil)))) (pe_lst (pa_cons (pe_tup (pa_cons (pv 1) (pa_cons (pv 2) pa_nil))) pa_nil))) pa_nil))))), ?_⟩
    refine ⟨_, rfl, x, C, dx, fs, _, rfl, h1, T.cl, T.nSize, h2, ?_⟩
    refine ⟨_, rfl, _, rfl, _, rfl, x, n, t, ps, a, b, rfl, W, Nat.le_trans hlen (by decide), a1, a2, b1, b2, ab, fun p ys H1 e1 np hp hpr => ?_⟩
    refine ⟨_, rfl, _, rfl, (by show 2 ≤ sizeLine; decide), fun c hc => ?_⟩
    have ec := L2.Same.new (o := .tup [.int a, .int b]) hc
    refine ⟨(by show 1 ≤ sizeLine; decide), fun d hd => ?_⟩
    have ed := ec.new' (o := .lst [.ref c]) hd
    have hlen2 : ys.length ≤ 50000 := by
      rw [Paired.len hpr]
      exact Nat.le_trans (List.length_filter_le _ _) hlen
    refine ⟨p, d, ys, [.ref c], rfl, rfl, ed _ _ hp, upd_same, (by show ys.length + 1 ≤ sizeLine; exact Nat.le_trans (Nat.succ_le_succ hlen2) (by decide)), fun g hg => ?_⟩
    have eg := ed.new' (o := .lst (ys ++ [.ref c])) hg
    have hc2 : PairAt (upd (upd (upd H1 c (.tup [.int a, .int b])) d (.lst [.ref c])) g (.lst (ys ++ [.ref c]))) (.ref c) (a, b) :=
      ⟨c, rfl, (L2.Same.new hg) _ _ ((L2.Same.new hd) _ _ upd_same)⟩
    refine ⟨n, g, _, _, rfl, SqL.of upd_same, (by rw [List.length_append]; exact Nat.le_trans (Nat.add_le_add_right hlen2 1) (by decide)), Paired.app (hpr.tk eg.tk) (.cons hc2 .nil), fun y u qs H2 e2 ny W2 hperm hle => ?_⟩
    have e3 : Same H H2 := e1.trans (eg.trans e2)
    have hok : ∀ q ∈ ps.filter (fun p => !decide (p = norm a b)), 0 ≤ q.1 ∧ q.1 < q.2 ∧ q.2 < n := fun q hq => G.ok q ((List.mem_filter.mp hq).1)
    have hmap : (((ps.filter fun p => !decide (p = norm a b)) ++ [(a, b)]).map fun p => norm p.1 p.2) = (ps.filter fun p => !decide (p = norm a b)) ++ [norm a b] := by
      rw [List.map_append, map_norm (n := n) fun q hq => (hok q hq).2.1]
      rfl
    rw [hmap] at hperm
    have hnd : ((ps.filter fun p => !decide (p = norm a b)) ++ [norm a b]).Nodup := by
      refine List.nodup_append.mpr ⟨(up_nodup G.up).sublist List.filter_sublist, by simp, fun q hq r hr => ?_⟩
      have := (List.mem_filter.mp hq).2
      simp at this hr
      rw [hr]; exact this
    refine k y u qs H2 e3 (L2.Same.free (e1.trans eg) ny) W2 (good_of hperm hle hnd fun q hq => ?_) fun q => ?_
    · rcases List.mem_append.mp hq with h | h
      · exact hok q h
      · simp at h; rw [h]; exact norm_in ab a1 a2 b1 b2
    · rw [hperm.mem_iff, List.mem_append, List.mem_filter]
      by_cases e : q = norm a b <;> simp [e]
abbrev s_untie : Stmt := (top 19)
theorem sc_untie : FnScope ["web", "a", "b"] ["web", "a", "b"] (defScope s_untie) := ⟨rfl, rfl, rfl, by decide +kernel, rfl, by decide +kernel, by decide +kernel⟩

theorem ok_untie {f : Addr} {fd : FuncData} (F : Fun K "untie" "untie" s_untie f fd) (hm : mg "untie" = some (.ref f)) (B : Bl mg) (T : Txt K mg C) (c_ties_without : Cal P w K mg base 5 "ties_without" ["web", "a", "b"] (sp_ties_without C))
    (c_web_of_any_size : Cal P w K mg base 7 "web_of_any_size" ["size", "ties"] (sp_web_of_any_size (K := K) C)) : Cal P w K mg base 8 "untie" ["web", "a", "b"] (sp_untie C) := by
  refine ⟨f, fd, F.ok sc_untie (fun vs H Q E h => ?_) (fun cdv A outer s H vs Q E hr h => ?_), hm, F.kp, F.binds (ps := ["web", "a", "b"]) fun _ _ _ _ _ _ us hl => match us, hl with | [_, _, _], _ => rfl⟩
  · obtain ⟨a, n, t, ps, k, l, rfl, _⟩ := h; rfl
  · obtain ⟨x, n, t, ps, a, b, rfl, W, G, hlen, a1, a2, b1, b2, ab, k⟩ := h
    obtain ⟨⟨dx, fs, h1, h2, h3⟩, xs, h4, h5⟩ := id W
    refine ⟨_, (pss_one (ps_ret (pe_cal c_web_of_any_size (hr.mono (by first | decide | omega)) (pa_cons (pe_fld (pv 0) rfl) (pa_cons (pe_cal c_ties_without (hr.mono (by first | decide | omega)) (pa_cons (pv 0) (pa_cons (pv 1) (pa_cons (pv 2) pa_nil)))) pa_nil))))), ?_⟩
    refine ⟨_, rfl, x, C, dx, fs, _, rfl, h1, T.cl, T.nSize, h2, ?_⟩
    refine ⟨_, rfl, _, rfl, _, rfl, x, n, t, ps, a, b, rfl, W, Nat.le_trans hlen (by decide), a1, a2, b1, b2, ab, fun p ys H1 e1 np hp hpr => ?_⟩
    have hlen2 : ys.length ≤ 50000 := by
      rw [Paired.len hpr]
      exact Nat.le_trans (List.length_filter_le _ _) hlen
    refine ⟨n, p, _, _, rfl, SqL.of hp, Nat.le_trans hlen2 (by decide), hpr, fun y u qs H2 e2 ny W2 hperm hle => ?_⟩
    have hok : ∀ q ∈ ps.filter (fun p => !decide (p = norm a b)), 0 ≤ q.1 ∧ q.1 < q.2 ∧ q.2 < n := fun q hq => G.ok q ((List.mem_filter.mp hq).1)
    rw [map_norm (n := n) fun q hq => (hok q hq).2.1] at hperm
    have hnd : (ps.filter fun p => !decide (p = norm a b)).Nodup := (up_nodup G.up).sublist List.filter_sublist
    refine k y u qs H2 (e1.trans e2) (L2.Same.free e1 ny) W2 (good_of hperm hle hnd hok) fun q => ?_
    rw [hperm.mem_iff, List.mem_filter]
    simp
end
end Bs

namespace Bs
open PySem PySem.Spec L2
theorem fm0 {a m : Int} (h : 0 < m) : 0 ≤ a.fmod m ∧ a.fmod m < m := by
  rw [Int.fmod_eq_emod_of_nonneg _ (Int.le_of_lt h)]
  exact ⟨Int.emod_nonneg _ (by omega), Int.emod_lt_of_pos _ h⟩
theorem on_if {c : Prop} [Decidable c] {A B : Hp → Prop} {H : Hp} (h1 : c → A H) (h2 : ¬ c → B H) : (fun (b : Bool) (H1 : Hp) => if b = true then A H1 else B H1) (decide c) H := by
  by_cases h : c
  · show (if decide c = true then A H else B H)
    rw [if_pos (decide_eq_true h)]; exact h1 h
  · show (if decide c = true then A H else B H)
    rw [if_neg (by simpa using h)]; exact h2 h
theorem on_ifN {c : Prop} [Decidable c] {A B : Hp → Prop} {H : Hp} (h1 : ¬ c → A H) (h2 : c → B H) : (fun (b : Bool) (H1 : Hp) => if b = true then A H1 else B H1) (!decide c) H := by
  by_cases h : c
  · show (if (!decide c) = true then A H else B H)
    rw [if_neg (by simpa using h)]; exact h2 h
  · show (if (!decide c) = true then A H else B H)
    rw [if_pos (by simpa using h)]; exact h1 h
section
variable {P : Program} {w : World} {K : PySem.W.Frag} {mg : Str → Option Value} {base : Heap} {C : Addr}
def sp_tape (K : PySem.W.Frag) : Sp := fun vs H Q _ => ∃ (a : Addr) (ns : List Int), vs = [.ref a] ∧ SqL K H a (ns.map V.int) ∧ ∀ T L H', Same H H' → H T = none → H L = none → Tp H' T L → Q (.ref T) H'
abbrev s__law_tape : Stmt := (top 21)
theorem sc__law_tape : FnScope ["script"] ["script"] (defScope s__law_tape) := ⟨rfl, rfl, rfl, by decide +kernel, rfl, by decide +kernel, by decide +kernel⟩

theorem ok_law_tape {f : Addr} {fd : FuncData} (F : Fun K "_law_tape" "_law_tape" s__law_tape f fd) (hm : mg "_law_tape" = some (.ref f)) (B : Bl mg) : Cal P w K mg base 1 "_law_tape" ["script"] (sp_tape K) := by
  refine ⟨f, fd, F.ok sc__law_tape (fun vs H Q E h => ?_) (fun cdv A outer s H vs Q E hr h => ?_), hm, F.kp, F.binds (ps := ["script"]) fun _ _ _ _ _ _ us hl => match us, hl with | [_], _ => rfl⟩
  · obtain ⟨a, ns, rfl, _⟩ := h; rfl
  · obtain ⟨a, ns, rfl, hS, k⟩ := h
    refine ⟨_, (pss_one (ps_ret (pe_lst (pa_cons (pe_callTy call_list_of (by rfl) B.list_ (by decide +kernel) (pa_cons (pv 0) pa_nil)) (pa_cons pe_int (pa_cons pe_int (pa_cons pe_int (pa_cons pe_int pa_nil)))))))), ?_⟩
    refine ⟨_, rfl, a, _, rfl, .inl hS, fun l hl => ?_⟩
    refine ⟨by show 5 ≤ sizeLine; decide, fun T hT => ?_⟩
    have e := (L2.Same.new (o := .lst (ns.map V.int)) hl).new' (o := .lst [.ref l, .int 0, .int 0, .int 1, .int 0]) hT
    have ne : l ≠ T := fun q => by rw [← q, upd_same] at hT; cases hT
    exact k T l _ e (L2.Same.free (L2.Same.new hl) hT) hl ⟨⟨ns, 0, 0, 1, 0⟩, upd_same, by rw [upd_ne ne, upd_same], ne, (by show (0 : Int) ≤ 0; decide), (by show (0 : Int) ≤ 1; decide), (by show (1 : Int) < 2147483648; decide)⟩
abbrev s__law_pick : Stmt := (top 22)
theorem sc__law_pick : FnScope ["tape", "many", "digit", "cell", "mixed"] ["tape", "many"] (defScope s__law_pick) := ⟨rfl, rfl, rfl, by decide +kernel, rfl, by decide +kernel, by decide +kernel⟩

theorem ok_law_pick {f : Addr} {fd : FuncData} (F : Fun K "_law_pick" "_law_pick" s__law_pick f fd) (hm : mg "_law_pick" = some (.ref f)) (B : Bl mg) : Cal P w K mg base 1 "_law_pick" ["tape", "many"] spPick := by
  refine ⟨f, fd, F.ok sc__law_pick (fun vs H Q E h => ?_) (fun cdv A outer s H vs Q E hr h => ?_), hm, F.kp, F.binds (ps := ["tape", "many"]) fun _ _ _ _ _ _ us hl => match us, hl with | [_, _], _ => rfl⟩
  · obtain ⟨T, l, m, rfl, _⟩ := h; rfl
  · obtain ⟨T, l, m, rfl, m1, m2, ⟨⟨ns, i1, i2, i3, i4⟩, hT, hl, ne, p1, p3, p4⟩, k⟩ := h
    dsimp only at hT hl ne p1 p3 p4
    have m0 : m ≠ 0 := by omega
    have mN : m.natAbs < 1073741824 := by omega
    refine ⟨_, (pss_cons (ps_if (pt_cmpR op_gt (pe_ix ix_list (pv 0) pe_int (fun _ _ => rfl)) pe_int (nomark _)) (pss_cons (ps_set (i := 2) sc__law_pick.nd rfl (by first | exact Or.inl rfl | exact Or.inr rfl) (pe_op op_modN (pe_callTy call_int1 (by rfl) B.int_ (by decide +kernel) (pa_cons (pe_ix ix_list (pv 0) pe_int (fun _ _ => rfl)) pa_nil)) (pv 1)))
 (pss_cons (ps_asg (pe_op op_fdivN (pe_ix ix_list (pv 0) pe_int (fun _ _ => rfl)) (pv 1)) (pg_sub (pv 0) pe_int set_list))
 (pss_one (ps_ret (pv 2))))) pss_nil)
 (pss_cons (ps_asg (pe_op op_add (pe_ix ix_list (pv 0) pe_int (fun _ _ => rfl)) pe_int) (pg_sub (pv 0) pe_int set_list))
 (pss_cons (ps_set (i := 3) sc__law_pick.nd rfl (by first | exact Or.inl rfl | exact Or.inr rfl) pe_int)
 (Evl.pss_cut (ps_if (pt_cmpR op_lt (pe_ix ix_list (pv 0) pe_int (fun _ _ => rfl)) (pe_callB call_len_seq (by rfl) B.len (by decide +kernel) (pa_cons (pe_ix ix_list (pv 0) pe_int (fun _ _ => rfl)) pa_nil)) (nomark _)) (pss_cons (ps_set (i := 3) sc__law_pick.nd rfl (by first | exact Or.inl rfl | exact Or.inr rfl) (pe_ix ix_list (pe_ix ix_list (pv 0) pe_int (fun _ _ => rfl)) (pe_ix ix_list (pv 0) pe_int (fun _ _ => rfl)) (fun _ _ => rfl)))
 (pss_one (ps_asg (pe_op op_add (pe_ix ix_list (pv 0) pe_int (fun _ _ => rfl)) pe_int) (pg_sub (pv 0) pe_int set_list)))) pss_nil)
 (pss_cons (ps_if (pt_cmpR op_ge (pv 3) (pe_op op_pow pe_int pe_int) (nomark _)) (pss_cons (ps_asg (pe_op op_fdivN (pv 3) (pv 1)) (pg_sub (pv 0) pe_int set_list))
 (pss_one (ps_ret (pe_op op_modN (pe_callTy call_int1 (by rfl) B.int_ (by decide +kernel) (pa_cons (pv 3) pa_nil)) (pv 1))))) pss_nil)
 (pss_cons (ps_set (i := 4) sc__law_pick.nd rfl (by first | exact Or.inl rfl | exact Or.inr rfl) (pe_op op_modN (pe_callTy call_int1 (by rfl) B.int_ (by decide +kernel) (pa_cons (pe_op op_add (pe_op op_add (pe_op op_mul (pe_ix ix_list (pv 0) pe_int (fun _ _ => rfl)) pe_int) (pe_op op_modN (pe_callTy call_int1 (by rfl) B.int_ (by decide +kernel) (pa_cons (pv 3) pa_nil)) pe_int)) (pe_op op_mul (pe_ix ix_list (pv 0) pe_int (fun _ _ => rfl)) pe_int)) pa_nil)) pe_int))
 (pss_cons (ps_set (i := 4) sc__law_pick.nd rfl (by first | exact Or.inl rfl | exact Or.inr rfl) (pe_op op_modN (pe_callTy call_int1 (by rfl) B.int_ (by decide +kernel) (pa_cons (pe_op op_mul (pv 4) (pe_op op_add (pe_op op_fdivN (pv 4) pe_int) pe_int)) pa_nil)) pe_int))
 (pss_cons (ps_asg (pv 4) (pg_sub (pv 0) pe_int set_list))
 (pss_one (ps_ret (pe_op op_modN (pe_callTy call_int1 (by rfl) B.int_ (by decide +kernel) (pa_cons (pe_op op_fdivN (pv 4) pe_int) pa_nil)) (pv 1)))))))))))), ?_⟩
    refine ⟨_, rfl, T, _, 2, _, rfl, rfl, SqL.of hT, rfl, _, _, rfl, rfl, _, rfl, ?_⟩
    refine on_if (fun c => ?_) (fun c => ?_)
    · refine ⟨_, rfl, T, _, 2, _, rfl, rfl, SqL.of hT, rfl, .inl ⟨_, rfl, ?_⟩⟩
      refine ⟨_, rfl, _, _, rfl, rfl, m0, ?_⟩
      refine ⟨_, rfl, T, _, 2, _, rfl, rfl, SqL.of hT, rfl, _, rfl, _, _, rfl, rfl, ⟨m0, mN⟩, ?_⟩
      refine ⟨_, rfl, T, _, 2, 2, rfl, rfl, hT, rfl, ?_⟩
      refine ⟨_, rfl, k _ _ (fm0 m1).1 (fm0 m1).2 ExT.rfl'.upd ⟨⟨ns, i1, i2.fdiv m, i3, i4⟩, upd_same, by rw [upd_ne ne]; exact hl, ne, p1, p3, p4⟩⟩
    · refine ⟨_, rfl, T, _, 4, _, rfl, rfl, SqL.of hT, rfl, _, _, rfl, rfl, ?_⟩
      refine ⟨_, rfl, T, _, 4, 4, rfl, rfl, hT, rfl, ?_⟩
      have e1 : ExT T H (upd H T (.lst ([.ref l, .int i1, .int i2, .int i3, .int i4].set 4 (.int (i4 + 1))))) := ExT.rfl'.upd
      generalize hH1 : upd H T (.lst ([.ref l, .int i1, .int i2, .int i3, .int i4].set 4 (.int (i4 + 1)))) = H1 at e1 ⊢
      have hT1 : H1 T = some (.lst [.ref l, .int i1, .int i2, .int i3, .int (i4 + 1)]) := by rw [← hH1]; exact upd_same
      have hl1 := e1 _ _ ne hl
      refine ⟨fun σ H' => ∃ (cc i1' : Int), σ = [some (.ref T), some (.int m), none, some (.int cc), none] ∧ ExT T H H' ∧ H' T = some (.lst [.ref l, .int i1', .int i2, .int i3, .int (i4 + 1)]) ∧ 0 ≤ i1', ?_, ?_⟩
      · refine ⟨_, rfl, T, _, 1, _, rfl, rfl, SqL.of hT1, rfl, _, rfl, T, _, 0, _, rfl, rfl, SqL.of hT1, rfl, l, _, rfl, .inl (SqL.of hl1), _, _, rfl, rfl, _, rfl, ?_⟩
        refine on_if (fun c2 => ?_) (fun c2 => ?_)
        · rw [List.length_map] at c2
          have hc : ns[i1.toNat]? = some ns[i1.toNat] := List.getElem?_eq_getElem (by omega)
          refine ⟨_, rfl, T, _, 0, _, rfl, rfl, SqL.of hT1, rfl, _, rfl, T, _, 1, _, rfl, rfl, SqL.of hT1, rfl, l, _, i1, .int ns[i1.toNat], rfl, rfl, SqL.of hl1, at_of (j := i1.toNat) (by omega) (by rw [List.getElem?_map, hc]; rfl), ?_⟩
          refine ⟨_, rfl, T, _, 1, _, rfl, rfl, SqL.of hT1, rfl, _, _, rfl, rfl, ?_⟩
          refine ⟨_, rfl, T, _, 1, 1, rfl, rfl, hT1, rfl, ?_⟩
          exact ⟨_, _, rfl, e1.upd, upd_same, by omega⟩
        · exact ⟨_, _, rfl, e1, hT1, p1⟩
      · rintro σ H2 ⟨cc, i1', rfl, e2, hT2, q1⟩
        have hl2 := e2 _ _ ne hl
        refine ⟨_, rfl, _, _, rfl, rfl, ⟨by decide, by decide, by decide⟩, _, _, rfl, rfl, _, rfl, ?_⟩
        refine on_if (fun c3 => ?_) (fun c3 => ?_)
        · refine ⟨_, rfl, _, rfl, _, _, rfl, rfl, ⟨m0, mN⟩, ?_⟩
          refine ⟨_, rfl, T, _, 2, 2, rfl, rfl, hT2, rfl, ?_⟩
          refine ⟨_, rfl, .inl ⟨_, rfl, _, rfl, _, _, rfl, rfl, m0, k _ _ (fm0 m1).1 (fm0 m1).2 e2.upd ⟨⟨ns, i1', cc.fdiv m, i3, i4 + 1⟩, upd_same, by rw [upd_ne ne]; exact hl2, ne, q1, p3, p4⟩⟩⟩
        · refine ⟨_, rfl, T, _, 3, _, rfl, rfl, SqL.of hT2, rfl, _, _, rfl, rfl, .inr ⟨by decide, by decide⟩, ?_⟩
          refine ⟨_, rfl, .inl ⟨_, rfl, _, _, rfl, rfl, (by show (2147483629 : Int) ≠ 0; decide), _, _, rfl, rfl, ?_⟩⟩
          refine ⟨_, rfl, T, _, 4, _, rfl, rfl, SqL.of hT2, rfl, _, _, rfl, rfl, .inr ⟨by decide, by decide⟩, _, _, rfl, rfl, .inl ⟨_, rfl, _, _, rfl, rfl, (by show (2147483647 : Int) ≠ 0; decide), ?_⟩⟩
          dsimp only
          generalize hm1 : (i3 * 48271 + cc.fmod 2147483629 + (i4 + 1) * 69621).fmod 2147483647 = mx
          have b1 : 0 ≤ mx ∧ mx < 2147483647 := by rw [← hm1]; exact fm0 (by decide)
          refine ⟨_, rfl, _, rfl, _, _, rfl, rfl, ⟨by decide, by decide⟩, _, _, rfl, rfl, _, _, rfl, rfl, .inl ⟨by omega, by omega⟩, .inl ⟨_, rfl, _, _, rfl, rfl, (by show (2147483399 : Int) ≠ 0; decide), ?_⟩⟩
          dsimp only
          generalize hm2 : (mx * (mx.fdiv 1009 + 40692)).fmod 2147483399 = my
          have b2 : 0 ≤ my ∧ my < 2147483399 := by rw [← hm2]; exact fm0 (by decide)
          refine ⟨_, rfl, _, rfl, T, _, 3, 3, rfl, rfl, hT2, rfl, ?_⟩
          refine ⟨_, rfl, _, _, rfl, rfl, ⟨by decide, by decide⟩, .inl ⟨_, rfl, _, rfl, _, _, rfl, rfl, m0, ?_⟩⟩
          exact k _ _ (fm0 m1).1 (fm0 m1).2 e2.upd ⟨⟨ns, i1', i2, my, i4 + 1⟩, upd_same, by rw [upd_ne ne]; exact hl2, ne, q1, b2.1, (by show my < 2147483648; omega)⟩
end
end Bs

namespace Bs
open PySem PySem.Spec L2
/-! ## the law's own likeness: the same data on both sides -/
def flat1 : V → Bool
  | .non => true
  | .bl _ => true
  | .int _ => true
  | .str _ => true
  | _ => false
def SameV : Nat → Hp → V → V → Prop
  | 0, _, v, u => v = u ∧ flat1 v = true
  | k + 1, H, v, u => SameV k H v u ∨ (∃ a b xs ys, v = .ref a ∧ u = .ref b ∧ ((H a = some (.tup xs) ∧ H b = some (.tup ys)) ∨ (H a = some (.lst xs) ∧ H b = some (.lst ys))) ∧ xs.length ≤ 100000 ∧ Paired (SameV k H) xs ys)
theorem SameV.same : ∀ {k : Nat} {H H' : Hp} {v u : V}, SameV k H v u → Same H H' → SameV k H' v u
  | 0, _, _, _, _, h, _ => h
  | k + 1, H, H', v, u, h, e => by
    rcases h with h | ⟨a, b, xs, ys, rfl, rfl, h, hl, hp⟩
    · exact .inl (SameV.same h e)
    · refine .inr ⟨a, b, xs, ys, rfl, rfl, ?_, hl, Paired.imp' hp fun _ _ q => SameV.same q e⟩
      rcases h with ⟨h1, h2⟩ | ⟨h1, h2⟩
      · exact .inl ⟨e _ _ h1, e _ _ h2⟩
      · exact .inr ⟨e _ _ h1, e _ _ h2⟩
theorem SameV.up {k : Nat} {H : Hp} {v u : V} (h : SameV k H v u) : SameV (k + 1) H v u := .inl h
theorem paired_ints {k : Nat} {H : Hp} : ∀ (l : List Int), Paired (SameV k H) (l.map V.int) (l.map V.int) := by
  intro l
  have z : ∀ (k : Nat) (i : Int), SameV k H (.int i) (.int i) := by
    intro k i
    induction k with
    | zero => exact ⟨rfl, rfl⟩
    | succ k ih => exact .inl ih
  induction l with
  | nil => exact .nil
  | cons i l ih => exact .cons (z k i) ih
theorem same_int (k : Nat) (H : Hp) (i : Int) : SameV k H (.int i) (.int i) := by
  induction k with
  | zero => exact ⟨rfl, rfl⟩
  | succ k ih => exact .inl ih
theorem same_pairs {k : Nat} {H : Hp} : ∀ {xs ys : List V} {ps : List (Int × Int)}, Pairs H xs ps → Pairs H ys ps → Paired (SameV (k + 1) H) xs ys
  | _, _, _, .nil, .nil => .nil
  | _, _, _, .cons r t, .cons r' t' => by
    refine .cons ?_ (same_pairs t t')
    obtain ⟨a, rfl, ha⟩ := r
    obtain ⟨b, rfl, hb⟩ := r'
    exact .inr ⟨a, b, _, _, rfl, rfl, .inl ⟨ha, hb⟩, (by show 2 ≤ 100000; decide), .cons (same_int _ _ _) (.cons (same_int _ _ _) .nil)⟩
def spSame (k : Nat) : Sp := fun vs H Q _ => ∃ v u, vs = [v, u] ∧ SameV k H v u ∧ ∀ H', Same H H' → Q (.bl true) H'
theorem bl_all : ∀ {l : List V} {m : List (V × V)}, Paired (fun v _ => v = .bl true) l m → l = (m.map fun _ => true).map V.bl
  | _, _, .nil => rfl
  | _, _, .cons r t => by rw [r, bl_all t]; rfl
theorem zip_get {α β : Type} {xs : List α} {ys : List β} {i : Nat} {p : α × β} (h : (xs.zip ys)[i]? = some p) : xs[i]? = some p.1 ∧ ys[i]? = some p.2 := by
  rw [List.getElem?_zip_eq_some] at h
  exact h
section
variable {P : Program} {w : World} {K : PySem.W.Frag} {mg : Str → Option Value} {base : Heap} {C : Addr}
abbrev s__law_is_integer : Stmt := (top 23)
theorem sc__law_is_integer : FnScope ["thing"] ["thing"] (defScope s__law_is_integer) := ⟨rfl, rfl, rfl, by decide +kernel, rfl, by decide +kernel, by decide +kernel⟩

theorem ok_law_is_integer {f : Addr} {fd : FuncData} (F : Fun K "_law_is_integer" "_law_is_integer" s__law_is_integer f fd) (hm : mg "_law_is_integer" = some (.ref f)) (B : Bl mg) : Cal P w K mg base 1 "_law_is_integer" ["thing"] sp_is_integer := by
  refine ⟨f, fd, F.ok sc__law_is_integer (fun vs H Q E h => ?_) (fun cdv A outer s H vs Q E hr h => ?_), hm, F.kp, F.binds (ps := ["thing"]) fun _ _ _ _ _ _ us hl => match us, hl with | [_], _ => rfl⟩
  · obtain ⟨i, rfl, _⟩ := h; rfl
  · obtain ⟨i, rfl, k⟩ := h
    refine ⟨_, (pss_one (ps_ret (pe_and (pe_callB call_isi (by rfl) B.isinstance (by decide +kernel) (pa_cons (pv 0) (pa_cons (pe_bltn (v := .ty "int") (by rfl) B.int_ (by decide +kernel) rfl) pa_nil))) (pe_one (pe_not (pe_callB call_isi (by rfl) B.isinstance (by decide +kernel) (pa_cons (pv 0) (pa_cons (pe_bltn (v := .ty "bool") (by rfl) B.bool_ (by decide +kernel) rfl) pa_nil)))))))), ?_⟩
    refine ⟨_, rfl, _, _, _, _, true, rfl, .ty "int", .base (.int i), kit_ty (by decide +kernel), true, rfl, iteT ?_⟩
    refine ⟨_, rfl, _, _, _, _, false, rfl, .ty "bool", .base (.int i), kit_ty (by decide +kernel), false, rfl, ?_⟩
    exact k
theorem ka2 {t a b : String} {x y : Bool} (h1 : kitB t a = some x) (h2 : kitB t b = some y) : PySem.W.kitAny K (.type t) [.type a, .type b] = some (x || y) :=
  kitAny_cons (kit_ty h1) (fun e => by subst e; exact kitAny_cons (kit_ty h2) (fun e => by subst e; exact kitAny_nil) (fun e => by subst e; rfl)) (fun e => by subst e; rfl)
theorem tyx_flat {H : Hp} {v : V} (h : flat1 v = true) : ∃ t : String, TyX K H v (.type t) ∧ PySem.W.kitAny K (.type t) [.type "list", .type "tuple"] = some false := by
  cases v with
  | non => exact ⟨_, .base .non, ka2 (x := false) (y := false) (by decide +kernel) (by decide +kernel)⟩
  | bl b => exact ⟨_, .base (.bl b), ka2 (x := false) (y := false) (by decide +kernel) (by decide +kernel)⟩
  | int i => exact ⟨_, .base (.int i), ka2 (x := false) (y := false) (by decide +kernel) (by decide +kernel)⟩
  | str z => exact ⟨_, .base (.str z), ka2 (x := false) (y := false) (by decide +kernel) (by decide +kernel)⟩
  | _ => cases h
abbrev s__law_same : Stmt := (top 24)
theorem sc__law_same : FnScope ["told", "due", "one", "other"] ["told", "due"] (defScope s__law_same) := ⟨rfl, rfl, rfl, by decide +kernel, rfl, by decide +kernel, by decide +kernel⟩

theorem fn_law_same0 {f : Addr} {fd : FuncData} (F : Fun K "_law_same" "_law_same" s__law_same f fd) (B : Bl mg) (c__law_is_integer : Cal P w K mg base 1 "_law_is_integer" ["thing"] sp_is_integer) : FnOk P w K mg base CX0 2 f fd ["told", "due"] (spSame 0) := by
  refine F.ok sc__law_same (fun vs H Q E h => ?_) (fun cdv A outer s H vs Q E hr h => ?_)
  · obtain ⟨v, u, rfl, _⟩ := h; rfl
  · obtain ⟨v, u, rfl, ⟨rfl, fl⟩, k⟩ := h
    obtain ⟨ty, h1, h2⟩ := tyx_flat (K := K) (H := H) fl
    refine ⟨_, (pss_cons (ps_if (pt_val (pe_callB call_isiT (by rfl) B.isinstance (by decide +kernel) (pa_cons (pv 1) (pa_cons (pe_tup (pa_cons (pe_bltn (v := .ty "list") (by rfl) B.list_ (by decide +kernel) rfl) (pa_cons (pe_bltn (v := .ty "tuple") (by rfl) B.tuple_ (by decide +kernel) rfl) pa_nil))) pa_nil)))) pss_never pss_nil)
 (pss_cons (ps_if (pt_cmpR op_isN (pv 1) pe_non (nomark _)) (pss_one (ps_ret (pe_cmpR op_isN (pv 0) pe_non (nomark _)))) pss_nil)
 (pss_cons (ps_if (pt_val (pe_callB call_isi (by rfl) B.isinstance (by decide +kernel) (pa_cons (pv 1) (pa_cons (pe_bltn (v := .ty "bool") (by rfl) B.bool_ (by decide +kernel) rfl) pa_nil)))) (pss_one (ps_ret (pe_and (pe_callB call_isi (by rfl) B.isinstance (by decide +kernel) (pa_cons (pv 0) (pa_cons (pe_bltn (v := .ty "bool") (by rfl) B.bool_ (by decide +kernel) rfl) pa_nil))) (pe_one (pe_cmpR op_eq (pv 0) (pv 1) (nomark _)))))) pss_nil)
 (pss_cons (ps_if (pt_val (pe_callB call_isi (by rfl) B.isinstance (by decide +kernel) (pa_cons (pv 1) (pa_cons (pe_bltn (v := .ty "str") (by rfl) B.str_ (by decide +kernel) rfl) pa_nil)))) (pss_one (ps_ret (pe_and (pe_callB call_isi (by rfl) B.isinstance (by decide +kernel) (pa_cons (pv 0) (pa_cons (pe_bltn (v := .ty "str") (by rfl) B.str_ (by decide +kernel) rfl) pa_nil))) (pe_one (pe_cmpR op_eq (pv 0) (pv 1) (nomark _)))))) pss_nil)
 (pss_one (ps_ret (pe_and (pe_cal c__law_is_integer (hr.mono (by first | decide | omega)) (pa_cons (pv 0) pa_nil)) (pe_one (pe_cmpR op_eq (pv 0) (pv 1) (nomark _)))))))))), ?_⟩
    refine ⟨_, rfl, (by show 2 ≤ sizeLine; decide), fun p hp => ?_⟩
    have ep := L2.Same.new (o := .tup [.ty "list", .ty "tuple"]) hp
    obtain ⟨ty, h1, h2⟩ := tyx_flat (K := K) (H := upd H p (.tup [.ty "list", .ty "tuple"])) fl
    refine ⟨_, p, _, _, _, false, rfl, upd_same, .cons (.ty "list") (.cons (.ty "tuple") .nil), h1, h2, false, rfl, iteF ?_⟩
    cases v with
    | non => exact ⟨_, rfl, rfl, _, rfl, iteT ⟨_, rfl, rfl, k _ ep⟩⟩
    | bl b =>
      refine ⟨_, rfl, rfl, _, rfl, iteF ?_⟩
      refine ⟨_, rfl, _, _, _, _, true, rfl, .ty "bool", .base (.bl b), kit_ty (by decide +kernel), true, rfl, iteT ?_⟩
      refine ⟨_, rfl, _, _, _, _, true, rfl, .ty "bool", .base (.bl b), kit_ty (by decide +kernel), true, rfl, iteT ?_⟩
      refine ⟨_, rfl, _, rfl, rfl, ?_⟩
      rw [decide_eq_true rfl]
      exact k _ ep
    | int i =>
      refine ⟨_, rfl, rfl, _, rfl, iteF ?_⟩
      refine ⟨_, rfl, _, _, _, _, false, rfl, .ty "bool", .base (.int i), kit_ty (by decide +kernel), false, rfl, iteF ?_⟩
      refine ⟨_, rfl, _, _, _, _, false, rfl, .ty "str", .base (.int i), kit_ty (by decide +kernel), false, rfl, iteF ?_⟩
      refine ⟨_, rfl, i, rfl, true, rfl, iteT ?_⟩
      refine ⟨_, rfl, _, rfl, rfl, ?_⟩
      rw [decide_eq_true rfl]
      exact k _ ep
    | str z =>
      refine ⟨_, rfl, rfl, _, rfl, iteF ?_⟩
      refine ⟨_, rfl, _, _, _, _, false, rfl, .ty "bool", .base (.str z), kit_ty (by decide +kernel), false, rfl, iteF ?_⟩
      refine ⟨_, rfl, _, _, _, _, true, rfl, .ty "str", .base (.str z), kit_ty (by decide +kernel), true, rfl, iteT ?_⟩
      refine ⟨_, rfl, _, _, _, _, true, rfl, .ty "str", .base (.str z), kit_ty (by decide +kernel), true, rfl, iteT ?_⟩
      refine ⟨_, rfl, _, rfl, rfl, ?_⟩
      rw [decide_eq_true rfl]
      exact k _ ep
    | _ => cases fl
end
end Bs

namespace Bs
open PySem PySem.Spec L2
theorem _root_.L2.FnOk.or {P : Program} {w : World} {K : PySem.W.Frag} {mg : Str → Option Value} {base : Heap} {CX : CXT} {k : Nat} {f : Addr} {fd : FuncData} {ps : List Str} {sp sp' : Sp} (F : FnOk P w K mg base CX k f fd ps sp) (F' : FnOk P w K mg base CX k f fd ps sp') :
    FnOk P w K mg base CX k f fd ps (fun vs H Q E => sp vs H Q E ∨ sp' vs H Q E) :=
  ⟨fun vs H Q E q => q.elim (F.len vs H Q E) (F'.len vs H Q E), fun A outer s H args us vs Q E hr he hb hv hs => hs.elim (F.run A outer s H args us vs Q E hr he hb hv) (F'.run A outer s H args us vs Q E hr he hb hv)⟩
section
variable {P : Program} {w : World} {K : PySem.W.Frag} {mg : Str → Option Value} {base : Heap} {C : Addr}
def spSameR (k : Nat) : Sp := fun vs H Q _ => ∃ a b xs ys, vs = [.ref a, .ref b] ∧ ((H a = some (.tup xs) ∧ H b = some (.tup ys)) ∨ (H a = some (.lst xs) ∧ H b = some (.lst ys))) ∧ xs.length ≤ 100000 ∧ Paired (SameV k H) xs ys ∧ ∀ H', Same H H' → Q (.bl true) H'
theorem fn_law_sameR (k : Nat) {f : Addr} {fd : FuncData} (F : Fun K "_law_same" "_law_same" s__law_same f fd) (B : Bl mg) (c__law_is_integer : Cal P w K mg base 1 "_law_is_integer" ["thing"] sp_is_integer)
    (c__law_same : Cal P w K mg base (k + 2) "_law_same" ["told", "due"] (spSame k)) : FnOk P w K mg base CX0 (k + 3) f fd ["told", "due"] (spSameR k) := by
  refine F.ok sc__law_same (fun vs H Q E h => ?_) (fun cdv A outer s H vs Q E hr h => ?_)
  · obtain ⟨a, b, xs, ys, rfl, _⟩ := h; rfl
  · obtain ⟨a, b, xs, ys, rfl, hab, hlen, hp, k0⟩ := h
    have hzl : (xs.zip ys).length = xs.length := by rw [List.length_zip, Paired.len hp, Nat.min_self]
    refine ⟨_, (pss_cons (ps_if (pt_val (pe_callB call_isiT (by rfl) B.isinstance (by decide +kernel) (pa_cons (pv 1) (pa_cons (pe_tup (pa_cons (pe_bltn (v := .ty "list") (by rfl) B.list_ (by decide +kernel) rfl) (pa_cons (pe_bltn (v := .ty "tuple") (by rfl) B.tuple_ (by decide +kernel) rfl) pa_nil))) pa_nil)))) (pss_cons (ps_if (PW.pt (pw_or (pt_cmpR op_ne (pe_callB call_isi (by rfl) B.isinstance (by decide +kernel) (pa_cons (pv 0) (pa_cons (pe_bltn (v := .ty "list") (by rfl) B.list_ (by decide +kernel) rfl) pa_nil))) (pe_callB call_isi (by rfl) B.isinstance (by decide +kernel) (pa_cons (pv 1) (pa_cons (pe_bltn (v := .ty "list") (by rfl) B.list_ (by decide +kernel) rfl) pa_nil))) (nomark _)) (pw_or1 (pt_not (pt_val (pe_callB call_isiT (by rfl) B.isinstance (by decide +kernel) (pa_cons (pv 0) (pa_cons (pe_tup (pa_cons (pe_bltn (v := .ty "list") (by rfl) B.list_ (by decide +kernel) rfl) (pa_cons (pe_bltn (v := .ty "tuple") (by rfl) B.tuple_ (by decide +kernel) rfl) pa_nil))) pa_nil)))))))) (pss_one (ps_ret pe_bl)) pss_nil)
 (pss_cons (ps_if (pt_cmpR op_ne (pe_callB call_len_seq (by rfl) B.len (by decide +kernel) (pa_cons (pv 0) pa_nil)) (pe_callB call_len_seq (by rfl) B.len (by decide +kernel) (pa_cons (pv 1) pa_nil)) (nomark _)) (pss_one (ps_ret pe_bl)) pss_nil)
 (pss_one (ps_ret (pe_callB (cr_all rfl) (by rfl) B.all (by decide +kernel) (pa_cons (pe_lc (own := [("one", 2), ("other", 3)]) (g := (gTup K 2 (gCons (gName 2) (gCons (gName 3) gNil)))) (by rfl) sc__law_same.nd (RZ.pi_zipA (by rfl) B.zip (pa_cons (pv 0) (pa_cons (pv 1) pa_nil))) (blkOk_by (own := [("one", 2), ("other", 3)]) (N := ["told", "due", "one", "other"]) (sc := defScope s__law_same) (by decide +kernel)) (fun _ _ _ _ _ => (pg_tup (by rfl) (pgs_cons (pg_name (i := 2) sc__law_same.nd rfl (by first | exact Or.inl rfl | exact Or.inr rfl)) (pgs_cons (pg_name (i := 3) sc__law_same.nd rfl (by first | exact Or.inl rfl | exact Or.inr rfl)) pgs_nil)))) (fun _ _ _ _ _ => pts_nil) (fun _ _ _ _ _ => (pe_cal c__law_same (hr.mono (by first | decide | omega)) (pa_cons (pv 2) (pa_cons (pv 3) pa_nil))))) pa_nil)))))) pss_nil)
 (pss_cons (ps_if (pt_cmpR op_isN (pv 1) pe_non (nomark _)) (pss_one (ps_ret (pe_cmpR op_isN (pv 0) pe_non (nomark _)))) pss_nil)
 (pss_cons (ps_if (pt_val (pe_callB call_isi (by rfl) B.isinstance (by decide +kernel) (pa_cons (pv 1) (pa_cons (pe_bltn (v := .ty "bool") (by rfl) B.bool_ (by decide +kernel) rfl) pa_nil)))) (pss_one (ps_ret (pe_and (pe_callB call_isi (by rfl) B.isinstance (by decide +kernel) (pa_cons (pv 0) (pa_cons (pe_bltn (v := .ty "bool") (by rfl) B.bool_ (by decide +kernel) rfl) pa_nil))) (pe_one (pe_cmpR op_eq (pv 0) (pv 1) (nomark _)))))) pss_nil)
 (pss_cons (ps_if (pt_val (pe_callB call_isi (by rfl) B.isinstance (by decide +kernel) (pa_cons (pv 1) (pa_cons (pe_bltn (v := .ty "str") (by rfl) B.str_ (by decide +kernel) rfl) pa_nil)))) (pss_one (ps_ret (pe_and (pe_callB call_isi (by rfl) B.isinstance (by decide +kernel) (pa_cons (pv 0) (pa_cons (pe_bltn (v := .ty "str") (by rfl) B.str_ (by decide +kernel) rfl) pa_nil))) (pe_one (pe_cmpR op_eq (pv 0) (pv 1) (nomark _)))))) pss_nil)
 (pss_one (ps_ret (pe_and (pe_cal c__law_is_integer (hr.mono (by first | decide | omega)) (pa_cons (pv 0) pa_nil)) (pe_one (pe_cmpR op_eq (pv 0) (pv 1) (nomark _)))))))))), ?_⟩
    refine ⟨_, rfl, (by show 2 ≤ sizeLine; decide), fun p hp1 => ?_⟩
    have e1 := L2.Same.new (o := .tup [.ty "list", .ty "tuple"]) hp1
    generalize hH1 : upd H p (.tup [.ty "list", .ty "tuple"]) = H1 at e1 ⊢
    have hp1 : H1 p = some (.tup [.ty "list", .ty "tuple"]) := by rw [← hH1]; exact upd_same
    rcases hab with ⟨ha, hb⟩ | ⟨ha, hb⟩
    · have ha1 := e1 _ _ ha
      have hb1 := e1 _ _ hb
      refine ⟨_, p, _, _, _, true, rfl, hp1, .cons (.ty "list") (.cons (.ty "tuple") .nil), .base (.tup hb1), ka2 (x := false) (y := true) (by decide +kernel) (by decide +kernel), true, rfl, iteT ?_⟩
      refine ⟨_, rfl, _, _, _, _, false, rfl, .ty "list", .base (.tup ha1), kit_ty (by decide +kernel), _, rfl, _, _, _, _, false, rfl, .ty "list", .base (.tup hb1), kit_ty (by decide +kernel), rfl, _, rfl, iteNS rfl ?_⟩
      refine ⟨_, rfl, (by show 2 ≤ sizeLine; decide), fun q hq => ?_⟩
      have e2 := e1.new' (o := .tup [.ty "list", .ty "tuple"]) hq
      have e12 := L2.Same.new (o := .tup [.ty "list", .ty "tuple"]) hq
      generalize hH2 : upd H1 q (.tup [.ty "list", .ty "tuple"]) = H2 at e2 e12 ⊢
      have hq2 : H2 q = some (.tup [.ty "list", .ty "tuple"]) := by rw [← hH2]; exact upd_same
      have ha2 := e2 _ _ ha
      have hb2 := e2 _ _ hb
      refine ⟨_, q, _, _, _, true, rfl, hq2, .cons (.ty "list") (.cons (.ty "tuple") .nil), .base (.tup ha2), ka2 (x := false) (y := true) (by decide +kernel) (by decide +kernel), true, rfl, iteF ?_⟩
      refine ⟨_, rfl, a, _, rfl, .inr (SqT.of ha2), _, rfl, b, _, rfl, .inr (SqT.of hb2), rfl, _, rfl, ?_⟩
      refine on_ifN (fun c => absurd (by rw [Paired.len hp]) c) (fun _ => ?_)
      refine ⟨_, rfl, _, rfl, a, b, xs, ys, rfl, .inr ⟨SqT.of ha2, SqT.of hb2, fun D hD => lc_data (walk_zipT (K := K) (n := xs.length) (by rw [Paired.len hp, Nat.min_self])) (xs.zip ys) hzl (fun _ => true) (fun _ v _ => v = .bl true) (fun _ _ _ _ _ q => q) hD (fun H' e => ⟨SqT.of (e _ _ ha2), SqT.of (e _ _ hb2)⟩) (by rw [hzl]; exact Nat.lt_of_le_of_lt hlen (by decide)) ?_ (fun _ _ _ _ _ y => ypair_same y) ?_⟩⟩
      · rintro i ⟨x, y⟩ v H3 H4 Ny Nn hpi e3 ⟨T, x', y', rfl, hT, rfl, hx, hy⟩ kE kN
        obtain ⟨hx0, hy0⟩ := zip_get hpi
        have sv := ((paired_at hp hx hy).same e2).same e3
        have eT := L2.Same.new (o := .tup [x', y']) hT
        refine ⟨T, _, rfl, SqT.of upd_same, rfl, _, _, rfl, _, _, rfl, rfl, rfl, yes_if ?_⟩
        exact ⟨_, rfl, _, rfl, x', y', rfl, sv.same eT, fun H5 e5 => kE _ _ rfl e5 rfl⟩
      · intro zs H3 e3 hzs hpr
        have ez := bl_all hpr
        refine ⟨D, _, rfl, by rw [← ez]; exact SqL.of hzs, ?_⟩
        have : (((xs.zip ys).filter fun _ => true).map fun _ => true).all id = true := by simp
        rw [this]
        exact k0 _ (e2.trans e3)
    · have ha1 := e1 _ _ ha
      have hb1 := e1 _ _ hb
      refine ⟨_, p, _, _, _, true, rfl, hp1, .cons (.ty "list") (.cons (.ty "tuple") .nil), .base (.lst hb1), ka2 (x := true) (y := false) (by decide +kernel) (by decide +kernel), true, rfl, iteT ?_⟩
      refine ⟨_, rfl, _, _, _, _, true, rfl, .ty "list", .base (.lst ha1), kit_ty (by decide +kernel), _, rfl, _, _, _, _, true, rfl, .ty "list", .base (.lst hb1), kit_ty (by decide +kernel), rfl, _, rfl, iteNS rfl ?_⟩
      refine ⟨_, rfl, (by show 2 ≤ sizeLine; decide), fun q hq => ?_⟩
      have e2 := e1.new' (o := .tup [.ty "list", .ty "tuple"]) hq
      generalize hH2 : upd H1 q (.tup [.ty "list", .ty "tuple"]) = H2 at e2 ⊢
      have hq2 : H2 q = some (.tup [.ty "list", .ty "tuple"]) := by rw [← hH2]; exact upd_same
      have ha2 := e2 _ _ ha
      have hb2 := e2 _ _ hb
      refine ⟨_, q, _, _, _, true, rfl, hq2, .cons (.ty "list") (.cons (.ty "tuple") .nil), .base (.lst ha2), ka2 (x := true) (y := false) (by decide +kernel) (by decide +kernel), true, rfl, iteF ?_⟩
      refine ⟨_, rfl, a, _, rfl, .inl (SqL.of ha2), _, rfl, b, _, rfl, .inl (SqL.of hb2), rfl, _, rfl, ?_⟩
      refine on_ifN (fun c => absurd (by rw [Paired.len hp]) c) (fun _ => ?_)
      refine ⟨_, rfl, _, rfl, a, b, xs, ys, rfl, .inl ⟨SqL.of ha2, SqL.of hb2, fun D hD => lc_data (walk_zip (K := K) (n := xs.length) (by rw [Paired.len hp, Nat.min_self])) (xs.zip ys) hzl (fun _ => true) (fun _ v _ => v = .bl true) (fun _ _ _ _ _ q => q) hD (fun H' e => ⟨SqL.of (e _ _ ha2), SqL.of (e _ _ hb2)⟩) (by rw [hzl]; exact Nat.lt_of_le_of_lt hlen (by decide)) ?_ (fun _ _ _ _ _ y => ypair_same y) ?_⟩⟩
      · rintro i ⟨x, y⟩ v H3 H4 Ny Nn hpi e3 ⟨T, x', y', rfl, hT, rfl, hx, hy⟩ kE kN
        have sv := ((paired_at hp hx hy).same e2).same e3
        have eT := L2.Same.new (o := .tup [x', y']) hT
        refine ⟨T, _, rfl, SqT.of upd_same, rfl, _, _, rfl, _, _, rfl, rfl, rfl, yes_if ?_⟩
        exact ⟨_, rfl, _, rfl, x', y', rfl, sv.same eT, fun H5 e5 => kE _ _ rfl e5 rfl⟩
      · intro zs H3 e3 hzs hpr
        have ez := bl_all hpr
        refine ⟨D, _, rfl, by rw [← ez]; exact SqL.of hzs, ?_⟩
        have : (((xs.zip ys).filter fun _ => true).map fun _ => true).all id = true := by simp
        rw [this]
        exact k0 _ (e2.trans e3)
theorem ok_law_same {f : Addr} {fd : FuncData} (F : Fun K "_law_same" "_law_same" s__law_same f fd) (hm : mg "_law_same" = some (.ref f)) (B : Bl mg) (c__law_is_integer : Cal P w K mg base 1 "_law_is_integer" ["thing"] sp_is_integer) :
    ∀ k, FnOk P w K mg base CX0 (k + 2) f fd ["told", "due"] (spSame k)
  | 0 => fn_law_same0 F B c__law_is_integer
  | k + 1 => by
    have F0 := ok_law_same F hm B c__law_is_integer k
    have c0 : Cal P w K mg base (k + 2) "_law_same" ["told", "due"] (spSame k) := ⟨f, fd, F0, hm, F.kp, F.binds (ps := ["told", "due"]) fun _ _ _ _ _ _ us hl => match us, hl with | [_, _], _ => rfl⟩
    have FR := fn_law_sameR k F B c__law_is_integer c0
    refine ((F0.mono (Nat.le_succ _)).or FR).imp fun vs H Q E h => ?_
    obtain ⟨v, u, rfl, h, q⟩ := h
    rcases h with h | ⟨a, b, xs, ys, rfl, rfl, h⟩
    · exact .inl ⟨v, u, rfl, h, q⟩
    · exact .inr ⟨a, b, xs, ys, rfl, h.1, h.2.1, h.2.2, q⟩
end
end Bs

namespace Bs
open PySem PySem.Spec L2
theorem seq_ix {r : Int} {n : Nat} (h0 : 0 ≤ r) (h1 : r < n) : seqIndex? r n = some r.toNat := by
  unfold seqIndex?
  simp [show ¬ r < 0 by omega, h0, h1]
theorem cons_erase {α : Type} : ∀ {l : List α} {i : Nat} (h : i < l.length), (l[i] :: l.eraseIdx i).Perm l
  | [], _, h => by simp at h
  | a :: l, 0, _ => .refl _
  | a :: l, i + 1, h => by
    have h' : i < l.length := by simpa using h
    exact (List.Perm.swap a l[i] _).trans ((cons_erase h').cons a)
theorem nbrs_sorted {n : Int} {ps : List (Int × Int)} (G : Good n ps) (k : Int) : (nbrs ps k).Pairwise (· < ·) := by
  unfold nbrs
  refine List.pairwise_map.mpr ?_
  have h : (ps.filter fun p => p.1 == k || p.2 == k).Pairwise lt2 := G.up.sublist List.filter_sublist
  have hok : ∀ p ∈ ps.filter (fun p => p.1 == k || p.2 == k), p.1 < p.2 ∧ (p.1 = k ∨ p.2 = k) := fun p hp => by
    obtain ⟨h1, h2⟩ := List.mem_filter.mp hp
    refine ⟨(G.ok p h1).2.1, ?_⟩
    simpa using h2
  generalize ps.filter (fun p => p.1 == k || p.2 == k) = l at h hok
  induction l with
  | nil => exact .nil
  | cons p l ih =>
    obtain ⟨h1, h2⟩ := List.pairwise_cons.mp h
    refine List.pairwise_cons.mpr ⟨fun q hq => ?_, ih h2 fun q hq => hok q (by simp [hq])⟩
    have a := hok p (by simp)
    have b := hok q (by simp [hq])
    have c := h1 q hq
    unfold lt2 at c
    by_cases e1 : p.1 = k
    · by_cases e2 : q.1 = k
      · rw [if_pos e1, if_pos e2]; omega
      · rw [if_pos e1, if_neg e2]; omega
    · by_cases e2 : q.1 = k
      · rw [if_neg e1, if_pos e2]; omega
      · rw [if_neg e1, if_neg e2]; omega
theorem perm_sorted : ∀ {l m : List Int}, l.Perm m → l.Pairwise (· ≤ ·) → m.Pairwise (· < ·) → l = m := by
  intro l m hp hl hm
  have hm' : m.Pairwise (· ≤ ·) := hm.imp fun {a b} h => Int.le_of_lt h
  have key : ∀ {l m : List Int}, l.Perm m → l.Pairwise (· ≤ ·) → m.Pairwise (· ≤ ·) → l = m := by
    intro l
    induction l with
    | nil => intro m hp _ _; exact (List.nil_perm.mp hp).symm
    | cons a l ih =>
      intro m hp hl hm
      cases m with
      | nil => exact absurd hp.length_eq (by simp)
      | cons b m =>
        obtain ⟨l1, l2⟩ := List.pairwise_cons.mp hl
        obtain ⟨m1, m2⟩ := List.pairwise_cons.mp hm
        have e : a = b := by
          have h1 : a ∈ b :: m := hp.mem_iff.mp (by simp)
          have h2 : b ∈ a :: l := hp.mem_iff.mpr (by simp)
          rcases List.mem_cons.mp h1 with h1 | h1
          · exact h1
          · rcases List.mem_cons.mp h2 with h2 | h2
            · exact h2.symm
            · have := l1 b h2; have := m1 a h1; omega
        subst e
        rw [ih (List.Perm.cons_inv hp) l2 m2]
  exact key hp hl hm'
section
variable {P : Program} {w : World} {K : PySem.W.Frag} {mg : Str → Option Value} {base : Heap} {C : Addr}
def sp_tied : Sp := fun vs H Q _ => ∃ t xs n ps k, vs = [.ref t, .int k] ∧ H t = some (.tup xs) ∧ Pairs H xs ps ∧ Good n ps ∧ ps.length ≤ 100000 ∧ ∀ p H', Same H H' → H p = none → H' p = some (.tup ((nbrs ps k).map V.int)) → Q (.ref p) H'
abbrev s__law_tied : Stmt := (top 27)
theorem sc__law_tied : FnScope ["ties", "part", "pair"] ["ties", "part"] (defScope s__law_tied) := ⟨rfl, rfl, rfl, by decide +kernel, rfl, by decide +kernel, by decide +kernel⟩

theorem ok_law_tied {f : Addr} {fd : FuncData} (F : Fun K "_law_tied" "_law_tied" s__law_tied f fd) (hm : mg "_law_tied" = some (.ref f)) (B : Bl mg) : Cal P w K mg base 1 "_law_tied" ["ties", "part"] sp_tied := by
  refine ⟨f, fd, F.ok sc__law_tied (fun vs H Q E h => ?_) (fun cdv A outer s H vs Q E hr h => ?_), hm, F.kp, F.binds (ps := ["ties", "part"]) fun _ _ _ _ _ _ us hl => match us, hl with | [_, _], _ => rfl⟩
  · obtain ⟨t, xs, n, ps, k, rfl, _⟩ := h; rfl
  · obtain ⟨t, xs, n, ps, kk, rfl, ht, hp, G, hlen, k⟩ := h
    refine ⟨_, (pss_one (ps_ret (pe_callTy call_tuple_of (by rfl) B.tuple_ (by decide +kernel) (pa_cons (pe_callB cr_sortedI (by rfl) B.sorted (by decide +kernel) (pa_cons (pe_lc (own := [("pair", 2)]) (tt := (tTest (tOp (rIn K false) _ _))) (te := (tIf (tTest (tOp _ (tOp (rIxT K) _ _) _)) (tOp (rIxT K) _ _) (tOp (rIxT K) _ _))) (by rfl) sc__law_tied.nd (pi_tup (pv 0)) (blkOk_by (own := [("pair", 2)]) (N := ["ties", "part", "pair"]) (sc := defScope s__law_tied) (by decide +kernel)) (fun _ _ _ _ _ => (pg_name (i := 2) sc__law_tied.nd rfl (by first | exact Or.inl rfl | exact Or.inr rfl))) (fun _ _ _ _ _ => (pts_one (pt_cmpR op_in_seq (pv 1) (pv 2) (by rfl)))) (fun _ _ _ _ _ => (pe_ifExp (pt_cmpR op_eq (pe_ix ix_tup (pv 2) pe_int (fun _ _ => rfl)) (pv 1) (nomark _)) (pe_ix ix_tup (pv 2) pe_int (fun _ _ => rfl)) (pe_ix ix_tup (pv 2) pe_int (fun _ _ => rfl))))) pa_nil)) pa_nil)))), ?_⟩
    refine ⟨_, rfl, t, rfl, ⟨xs, SqT.of ht⟩, fun D hD => lc_data walk_tup ps (Paired.len hp).symm (fun p => p.1 == kk || p.2 == kk) (fun _ v p => v = .int (if p.2 = kk then p.1 else p.2)) (fun _ _ _ _ _ q => q) hD (fun H' e => SqT.of (e _ _ ht)) (Nat.lt_of_le_of_lt hlen (by decide)) ?_ (fun _ _ _ _ _ y => yat_same y) ?_⟩
    · rintro i p v H3 H4 Ny Nn hpi e3 ⟨rfl, hv⟩ kE kN
      obtain ⟨b, rfl, hb⟩ := paired_at hp hv hpi
      have hb3 := e3 _ _ hb
      refine ⟨rfl, ?_⟩
      refine ⟨_, rfl, _, rfl, b, _, rfl, .inr (SqT.of hb3), rfl, rfl, _, rfl, ?_⟩
      rw [inV_pair]
      by_cases c : (p.1 == kk || p.2 == kk) = true
      · rw [c]
        refine iteT ?_
        refine ⟨_, rfl, b, _, 1, _, rfl, rfl, SqT.of hb3, rfl, _, rfl, rfl, _, rfl, ?_⟩
        dsimp only
        by_cases c2 : p.2 = kk
        · rw [if_pos (decide_eq_true (by rw [c2]))]
          exact ⟨_, rfl, b, _, 0, _, rfl, rfl, SqT.of hb3, rfl, kE _ _ c (L2.Same.refl _) (by rw [if_pos c2])⟩
        · rw [if_neg (by simpa using c2)]
          exact ⟨_, rfl, b, _, 1, _, rfl, rfl, SqT.of hb3, rfl, kE _ _ c (L2.Same.refl _) (by rw [if_neg c2])⟩
      · rw [eq_false_of_ne_true c]
        exact iteF (kN _ (eq_false_of_ne_true c) (L2.Same.refl _))
    · intro ys H3 e3 hys hpr
      have ey := paired_eq (g := fun p : Int × Int => V.int (if p.2 = kk then p.1 else p.2)) hpr
      have ey2 : ys = (nbrs ps kk).map V.int := by
        rw [ey]
        unfold nbrs
        rw [List.map_map]
        refine List.map_congr_left fun p hp' => ?_
        obtain ⟨h1, h2⟩ := List.mem_filter.mp hp'
        have h3 := (G.ok p h1).2.1
        have h4 : p.1 = kk ∨ p.2 = kk := by simpa using h2
        show V.int (if p.2 = kk then p.1 else p.2) = V.int (if p.1 = kk then p.2 else p.1)
        by_cases e1 : p.1 = kk
        · rw [if_neg (by omega), if_pos e1]
        · rw [if_pos (by omega), if_neg e1]
      subst ey2
      refine ⟨D, _, rfl, SqL.of hys, fun ns' q hperm hle hq => ?_⟩
      have en := perm_sorted hperm hle (nbrs_sorted G kk)
      subst en
      refine ⟨q, _, rfl, .inl ⟨SqL.of upd_same, fun z hz => ?_⟩⟩
      have e5 := (e3.new' (o := .lst ((nbrs ps kk).map V.int)) hq)
      exact k z _ (e5.new' hz) (L2.Same.free e5 hz) upd_same
def sp_mixed : Sp := fun vs H Q _ => ∃ T L l xs, vs = [.ref T, .ref l] ∧ Tp H T L ∧ H l = some (.lst xs) ∧ l ≠ T ∧ xs.length ≤ 1000 ∧ ∀ p ys H', ExT T H H' → Tp H' T L → H p = none → H' p = some (.lst ys) → ys.Perm xs → Q (.ref p) H'
abbrev s__law_mixed : Stmt := (top 25)
theorem sc__law_mixed : FnScope ["tape", "things", "left", "found", "turn"] ["tape", "things"] (defScope s__law_mixed) := ⟨rfl, rfl, rfl, by decide +kernel, rfl, by decide +kernel, by decide +kernel⟩

theorem ok_law_mixed {f : Addr} {fd : FuncData} (F : Fun K "_law_mixed" "_law_mixed" s__law_mixed f fd) (hm : mg "_law_mixed" = some (.ref f)) (B : Bl mg) (c__law_pick : Cal P w K mg base 1 "_law_pick" ["tape", "many"] spPick) : Cal P w K mg base 2 "_law_mixed" ["tape", "things"] sp_mixed := by
  refine ⟨f, fd, F.ok sc__law_mixed (fun vs H Q E h => ?_) (fun cdv A outer s H vs Q E hr h => ?_), hm, F.kp, F.binds (ps := ["tape", "things"]) fun _ _ _ _ _ _ us hl => match us, hl with | [_, _], _ => rfl⟩
  · obtain ⟨T, L, l, xs, rfl, _⟩ := h; rfl
  · obtain ⟨T, L, l, xs, rfl, hT, hl, lT, hlen, k⟩ := h
    refine ⟨_, (pss_cons (ps_set (i := 2) sc__law_mixed.nd rfl (by first | exact Or.inl rfl | exact Or.inr rfl) (pe_callTy call_list_of (by rfl) B.list_ (by decide +kernel) (pa_cons (pv 1) pa_nil)))
 (pss_cons (ps_set (i := 3) sc__law_mixed.nd rfl (by first | exact Or.inl rfl | exact Or.inr rfl) (pe_lst pa_nil))
 (pss_cons (ps_for PassesOwn.never rfl (pi_range1 (by rfl) B.range (pa_cons (pe_callB call_len_seq (by rfl) B.len (by decide +kernel) (pa_cons (pv 1) pa_nil)) pa_nil)) (pg_name (i := 4) sc__law_mixed.nd rfl (by first | exact Or.inl rfl | exact Or.inr rfl))
  (pss_one (ps_expr (pe_bm PySem.F.plainAttrs_list PySem.F.slot_list_append PySem.F.type_list_append mt_append (pv 3) (pa_cons (pe_bm PySem.F.plainAttrs_list PySem.F.slot_list_pop PySem.F.type_list_pop mt_popAt (pv 2) (pa_cons (pe_cal c__law_pick (hr.mono (by first | decide | omega)) (pa_cons (pv 0) (pa_cons (pe_callB call_len_seq (by rfl) B.len (by decide +kernel) (pa_cons (pv 2) pa_nil)) pa_nil))) pa_nil)) pa_nil)))))
 (pss_one (ps_ret (pv 3)))))), ?_⟩
    refine ⟨_, rfl, l, xs, rfl, .inl (SqL.of hl), fun lf hlf => ?_⟩
    refine ⟨Nat.zero_le _, fun fo hfo => ?_⟩
    have nlf := hT.neT hlf
    have nlf2 := hT.neL hlf
    have e1 := L2.Same.new (o := .lst xs) hlf
    have hfo0 := L2.Same.free e1 hfo
    have nfo := hT.neT hfo0
    have nfo2 := hT.neL hfo0
    have nff : lf ≠ fo := fun q => by rw [← q, upd_same] at hfo; cases hfo
    have e2 := e1.new' (o := .lst []) hfo
    have hl2 := e2 _ _ hl
    have hT2 := hT.ext e2
    generalize hH2 : upd (upd H lf (.lst xs)) fo (.lst []) = H2 at e2 hl2 hT2 ⊢
    have hlf2 : H2 lf = some (.lst xs) := by rw [← hH2, upd_ne nff]; exact upd_same
    have hfo2 : H2 fo = some (.lst []) := by rw [← hH2]; exact upd_same
    refine ⟨_, rfl, l, _, rfl, .inl (SqL.of hl2), _, rfl, by omega, by omega, for_range (lo := 0) (n := (xs.length : Int).toNat) (fun i σ H' => ∃ (v : Option V) (zs ws : List V), σ = [some (.ref T), some (.ref l), some (.ref lf), some (.ref fo), v] ∧ ExT T H H' ∧ Tp H' T L ∧ H' lf = some (.lst zs) ∧ H' fo = some (.lst ws) ∧ zs.length + i = xs.length ∧ (ws ++ zs).Perm xs)
      ⟨none, xs, [], rfl, e2.exT, hT2, hlf2, hfo2, rfl, .refl _⟩ ?_ ?_⟩
    · rintro i σ H3 hi ⟨v, zs, ws, rfl, e3, hT3, h1, h2, hn, hp⟩
      have zl : 0 < zs.length := by omega
      refine ⟨_, rfl, .inl ⟨rfl, _, SqL.of h2⟩, _, rfl, .inl ⟨rfl, _, SqL.of h1⟩, _, rfl, _, rfl, lf, _, rfl, .inl (SqL.of h1), T, L, _, rfl, by omega, by omega, hT3, fun r H4 r0 r1 e4 hT4 => ?_⟩
      have h14 := e4 _ _ nlf h1
      have h24 := e4 _ _ nfo h2
      have hr' : r.toNat < zs.length := by omega
      have hz : zs[r.toNat]? = some zs[r.toNat] := List.getElem?_eq_getElem hr'
      refine ⟨lf, zs, r, r.toNat, _, rfl, rfl, h14, by omega, by omega, seq_ix r0 r1, hz, ?_⟩
      have h25 : (upd H4 lf (.lst (zs.eraseIdx r.toNat))) fo = some (.lst ws) := by rw [upd_ne nff.symm]; exact h24
      have hws : ws.length ≤ 1000 := by
        have := hp.length_eq
        rw [List.length_append] at this
        omega
      refine ⟨fo, ws, _, rfl, rfl, h25, Nat.lt_of_le_of_lt hws (by decide), ?_⟩
      refine ⟨_, zs.eraseIdx r.toNat, ws ++ [zs[r.toNat]], rfl, ?_, ?_, ?_, upd_same, ?_, ?_⟩
      · exact ((e3.trans e4).mut hlf).mut hfo0
      · exact (hT4.upd nlf nlf2).upd nfo nfo2
      · rw [upd_ne nff]; exact upd_same
      · rw [List.length_eraseIdx_of_lt hr']; omega
      · refine List.Perm.trans ?_ hp
        rw [List.append_assoc]
        refine List.Perm.append_left ws ?_
        exact cons_erase hr'
    · rintro σ H3 ⟨v, zs, ws, rfl, e3, hT3, h1, h2, hn, hp⟩
      have z0 : zs = [] := List.eq_nil_of_length_eq_zero (by omega)
      subst z0
      rw [List.append_nil] at hp
      exact ⟨_, rfl, k fo ws H3 e3 hT3 hfo0 h2 hp⟩
end
end Bs

namespace Bs
open PySem PySem.Spec L2
theorem onb {c : Prop} [Decidable c] {A B : Prop} (h1 : c → A) (h2 : ¬ c → B) : if decide c = true then A else B := on_if (A := fun _ => A) (B := fun _ => B) (H := fun _ => none) h1 h2
theorem onbN {c : Prop} [Decidable c] {A B : Prop} (h1 : ¬ c → A) (h2 : c → B) : if (!decide c) = true then A else B := on_ifN (A := fun _ => A) (B := fun _ => B) (H := fun _ => none) h1 h2
def unI : V → Int
  | .int i => i
  | _ => 0
theorem ints_of : ∀ {ys : List V} {ns : List Int}, ys.Perm (ns.map V.int) → ys = (ys.map unI).map V.int ∧ (ys.map unI).Perm ns := by
  intro ys ns hp
  have h1 : ∀ y ∈ ys, V.int (unI y) = y := fun y hy => by
    obtain ⟨i, _, rfl⟩ := List.mem_map.mp (hp.mem_iff.mp hy)
    rfl
  refine ⟨?_, ?_⟩
  · rw [List.map_map]
    have : ys.map (V.int ∘ unI) = ys.map id := List.map_congr_left fun y hy => h1 y hy
    rw [this, List.map_id]
  · have h2 := hp.map unI
    rw [List.map_map] at h2
    have : ns.map (unI ∘ V.int) = ns.map id := List.map_congr_left fun y hy => rfl
    rw [this, List.map_id] at h2
    exact h2
/-- names: the numbers below n in some order -/
structure Names (n : Int) (ns : List Int) : Prop where
  len : (ns.length : Int) = n
  nd : ns.Nodup
  ok : ∀ x ∈ ns, 0 ≤ x ∧ x < n
theorem names_of {n : Int} {ns : List Int} (h0 : 0 ≤ n) (h : ns.Perm ((List.range (n - 0).toNat).map fun i => (0 : Int) + (i : Nat))) : Names n ns := by
  refine ⟨?_, ?_, fun x hx => ?_⟩
  · have := h.length_eq
    rw [List.length_map, List.length_range] at this
    omega
  · refine h.nodup_iff.mpr ?_
    refine List.pairwise_map.mpr (List.nodup_range.imp fun {a b} h e => h (by omega))
  · obtain ⟨i, hi, rfl⟩ := List.mem_map.mp (h.mem_iff.mp hx)
    have := List.mem_range.mp hi
    omega
theorem Names.at_ {n : Int} {ns : List Int} (N : Names n ns) {i : Nat} (h : (i : Int) < n) : ns[i]? = some (ns.getD i 0) ∧ 0 ≤ ns.getD i 0 ∧ ns.getD i 0 < n := by
  have hi : i < ns.length := by have := N.len; omega
  have e : ns[i]? = some ns[i] := List.getElem?_eq_getElem hi
  have e2 : ns.getD i 0 = ns[i] := by rw [List.getD_eq_getElem?_getD, e]; rfl
  rw [e2]
  exact ⟨e, N.ok _ (List.getElem_mem hi)⟩
theorem Names.inj {n : Int} {ns : List Int} (N : Names n ns) {i j : Nat} (hi : (i : Int) < n) (hj : (j : Int) < n) (e : ns.getD i 0 = ns.getD j 0) : i = j := by
  have h1 := (N.at_ hi).1
  have h2 := (N.at_ hj).1
  rw [e] at h1
  obtain ⟨a1, b1⟩ := List.getElem?_eq_some_iff.mp h1
  obtain ⟨a2, b2⟩ := List.getElem?_eq_some_iff.mp h2
  exact (List.getElem_inj N.nd).mp (b1.trans b2.symm)
theorem norm_eq {a b c d : Int} (hab : a ≠ b) (hcd : c ≠ d) (h : norm a b = norm c d) : (a = c ∧ b = d) ∨ (a = d ∧ b = c) := by
  unfold norm at h
  have h1 := congrArg Prod.fst h
  have h2 := congrArg Prod.snd h
  dsimp only at h1 h2
  by_cases x : b < a
  · rw [if_pos x, if_neg (show ¬ b > a by omega)] at *
    by_cases y : d < c
    · rw [if_pos y, if_neg (show ¬ d > c by omega)] at *; omega
    · rw [if_neg y, if_pos (show d > c by omega)] at *; omega
  · rw [if_neg x, if_pos (show b > a by omega)] at *
    by_cases y : d < c
    · rw [if_pos y, if_neg (show ¬ d > c by omega)] at *; omega
    · rw [if_neg y, if_pos (show d > c by omega)] at *; omega
/-- the ties so far: of the pairs of numbers ahead of (i, j) -/
structure Ps (ns : List Int) (i j : Nat) (ps : List (Int × Int)) : Prop where
  nd : ps.Nodup
  of : ∀ p ∈ ps, ∃ a b : Nat, b < a ∧ (a < i ∨ (a = i ∧ b < j)) ∧ p = norm (ns.getD a 0) (ns.getD b 0)
theorem Ps.zero {ns : List Int} : Ps ns 0 0 [] := ⟨.nil, fun p h => by simp at h⟩
theorem Ps.next {ns : List Int} {i : Nat} {ps : List (Int × Int)} (h : Ps ns i i ps) : Ps ns (i + 1) 0 ps :=
  ⟨h.nd, fun p hp => let ⟨a, b, h1, h2, h3⟩ := h.of p hp; ⟨a, b, h1, by omega, h3⟩⟩
theorem Ps.skip {ns : List Int} {i j : Nat} {ps : List (Int × Int)} (h : Ps ns i j ps) : Ps ns i (j + 1) ps :=
  ⟨h.nd, fun p hp => let ⟨a, b, h1, h2, h3⟩ := h.of p hp; ⟨a, b, h1, by omega, h3⟩⟩
theorem Ps.put {n : Int} {ns : List Int} (N : Names n ns) {i j : Nat} {ps : List (Int × Int)} (hi : (i : Int) < n) (hj : j < i) (h : Ps ns i j ps) : Ps ns i (j + 1) (ps ++ [norm (ns.getD i 0) (ns.getD j 0)]) := by
  refine ⟨List.nodup_append.mpr ⟨h.nd, by simp, fun q hq r hr e => ?_⟩, fun p hp => ?_⟩
  · simp at hr
    subst hr; subst e
    obtain ⟨a, b, h1, h2, h3⟩ := h.of _ hq
    have ne1 : ns.getD i 0 ≠ ns.getD j 0 := fun e => by have := N.inj hi (by omega) e; omega
    have ne2 : ns.getD a 0 ≠ ns.getD b 0 := fun e => by have := N.inj (i := a) (j := b) (by omega) (by omega) e; omega
    rcases norm_eq ne1 ne2 h3 with ⟨e1, e2⟩ | ⟨e1, e2⟩
    · have := N.inj hi (by omega) e1
      have := N.inj (i := j) (j := b) (by omega) (by omega) e2
      omega
    · have := N.inj hi (by omega) e1
      have := N.inj (i := j) (j := a) (by omega) (by omega) e2
      omega
  · rcases List.mem_append.mp hp with hp | hp
    · obtain ⟨a, b, h1, h2, h3⟩ := h.of p hp
      exact ⟨a, b, h1, by omega, h3⟩
    · simp at hp
      exact ⟨i, j, hj, by omega, hp⟩
theorem Ps.good {n : Int} {ns : List Int} (N : Names n ns) {ps qs : List (Int × Int)} {k : Nat} (hk : (k : Int) = n) (h : Ps ns k 0 ps) (hp : qs.Perm ps) (hl : qs.Pairwise le2) : Good n qs := by
  refine good_of hp hl h.nd fun p hp' => ?_
  obtain ⟨a, b, h1, h2, rfl⟩ := h.of p hp'
  have ha := N.at_ (i := a) (by omega)
  have hb := N.at_ (i := b) (by omega)
  exact norm_in (fun e => by have := N.inj (i := a) (j := b) (by omega) (by omega) e; omega) ha.2.1 ha.2.2 hb.2.1 hb.2.2
section
variable {P : Program} {w : World} {K : PySem.W.Frag} {mg : Str → Option Value} {base : Heap} {C : Addr}
def sp_web : Sp := fun vs H Q _ => ∃ T L m, vs = [.ref T, .int m] ∧ Tp H T L ∧ 1 ≤ m ∧ m ≤ 24 ∧ ∀ p t n xs ps H', ExT T H H' → Tp H' T L → H p = none → H' p = some (.tup [.int n, .ref t]) → H t = none → H' t = some (.tup xs) → Pairs H' xs ps → 1 ≤ n → n ≤ m → Good n ps → Q (.ref p) H'
abbrev s__law_web : Stmt := (top 26)
theorem sc__law_web : FnScope ["tape", "most", "size", "style", "names", "found", "one", "other", "take"] ["tape", "most"] (defScope s__law_web) := ⟨rfl, rfl, rfl, by decide +kernel, rfl, by decide +kernel, by decide +kernel⟩

theorem ok_law_web {f : Addr} {fd : FuncData} (F : Fun K "_law_web" "_law_web" s__law_web f fd) (hm : mg "_law_web" = some (.ref f)) (B : Bl mg) (c__law_pick : Cal P w K mg base 1 "_law_pick" ["tape", "many"] spPick) (c__law_mixed : Cal P w K mg base 2 "_law_mixed" ["tape", "things"] sp_mixed) : Cal P w K mg base 3 "_law_web" ["tape", "most"] sp_web := by
  refine ⟨f, fd, F.ok sc__law_web (fun vs H Q E h => ?_) (fun cdv A outer s H vs Q E hr h => ?_), hm, F.kp, F.binds (ps := ["tape", "most"]) fun _ _ _ _ _ _ us hl => match us, hl with | [_, _], _ => rfl⟩
  · obtain ⟨T, L, m, rfl, _⟩ := h; rfl
  · obtain ⟨T, L, m, rfl, hT, m1, m2, k⟩ := h
    refine ⟨_, (pss_cons (ps_set (i := 2) sc__law_web.nd rfl (by first | exact Or.inl rfl | exact Or.inr rfl) (pe_op op_add pe_int (pe_cal c__law_pick (hr.mono (by first | decide | omega)) (pa_cons (pv 0) (pa_cons (pv 1) pa_nil)))))
 (pss_cons (ps_set (i := 3) sc__law_web.nd rfl (by first | exact Or.inl rfl | exact Or.inr rfl) (pe_cal c__law_pick (hr.mono (by first | decide | omega)) (pa_cons (pv 0) (pa_cons pe_int pa_nil))))
 (pss_cons (ps_set (i := 4) sc__law_web.nd rfl (by first | exact Or.inl rfl | exact Or.inr rfl) (pe_cal c__law_mixed (hr.mono (by first | decide | omega)) (pa_cons (pv 0) (pa_cons (pe_listRg (by rfl) (by rfl) B.list_ (prg_1 (by rfl) B.range (pv 2))) pa_nil))))
 (pss_cons (ps_set (i := 5) sc__law_web.nd rfl (by first | exact Or.inl rfl | exact Or.inr rfl) (pe_lst pa_nil))
 (pss_cons (ps_for PassesOwn.never rfl (pi_range1 (by rfl) B.range (pa_cons (pv 2) pa_nil)) (pg_name (i := 6) sc__law_web.nd rfl (by first | exact Or.inl rfl | exact Or.inr rfl))
  (pss_one (ps_for PassesOwn.never rfl (pi_range1 (by rfl) B.range (pa_cons (pv 6) pa_nil)) (pg_name (i := 7) sc__law_web.nd rfl (by first | exact Or.inl rfl | exact Or.inr rfl))
  (pss_cons (ps_set (i := 8) sc__law_web.nd rfl (by first | exact Or.inl rfl | exact Or.inr rfl) (pe_cmpR op_lt (pe_cal c__law_pick (hr.mono (by first | decide | omega)) (pa_cons (pv 0) (pa_cons pe_int pa_nil))) (pe_op op_sub (pv 3) pe_int) (nomark _)))
 (Evl.pss_cut (ps_if (pt_cmpR op_eq (pv 3) pe_int (nomark _)) (pss_one (ps_set (i := 8) sc__law_web.nd rfl (by first | exact Or.inl rfl | exact Or.inr rfl) (pe_or (pe_cmpR op_eq (pe_op op_add (pv 7) pe_int) (pv 6) (nomark _)) (pe_one (pe_and (pe_cmpR op_eq (pv 7) pe_int (nomark _)) (pe_one (pe_cmpR op_eq (pv 6) (pe_op op_sub (pv 2) pe_int) (nomark _)))))))) pss_nil)
 (Evl.pss_cut (ps_if (pt_cmpR op_eq (pv 3) pe_int (nomark _)) (pss_one (ps_set (i := 8) sc__law_web.nd rfl (by first | exact Or.inl rfl | exact Or.inr rfl) (pe_cmpR op_eq (pe_callTy call_int1 (by rfl) B.int_ (by decide +kernel) (pa_cons (pe_op op_fdivN (pv 6) pe_int) pa_nil)) (pe_callTy call_int1 (by rfl) B.int_ (by decide +kernel) (pa_cons (pe_op op_fdivN (pv 7) pe_int) pa_nil)) (nomark _)))) pss_nil)
 (Evl.pss_cut (ps_if (pt_cmpR op_eq (pv 3) pe_int (nomark _)) (pss_one (ps_set (i := 8) sc__law_web.nd rfl (by first | exact Or.inl rfl | exact Or.inr rfl) (pe_and (pe_cmpR op_ne (pe_op op_modN (pe_callTy call_int1 (by rfl) B.int_ (by decide +kernel) (pa_cons (pv 6) pa_nil)) pe_int) (pe_op op_modN (pe_callTy call_int1 (by rfl) B.int_ (by decide +kernel) (pa_cons (pv 7) pa_nil)) pe_int) (nomark _)) (pe_one (pe_cmpR op_gt (pe_cal c__law_pick (hr.mono (by first | decide | omega)) (pa_cons (pv 0) (pa_cons pe_int pa_nil))) pe_int (nomark _)))))) pss_nil)
 (pss_one (ps_if (pt_val (pv 8)) (pss_one (ps_expr (pe_bm PySem.F.plainAttrs_list PySem.F.slot_list_append PySem.F.type_list_append mt_append (pv 5) (pa_cons (pe_tup (pa_cons (pe_callB (call_min2 rfl) (by rfl) B.min (by decide +kernel) (pa_cons (pe_ix ix_list (pv 4) (pv 6) (fun _ _ => rfl)) (pa_cons (pe_ix ix_list (pv 4) (pv 7) (fun _ _ => rfl)) pa_nil))) (pa_cons (pe_callB (call_max2 rfl) (by rfl) B.max (by decide +kernel) (pa_cons (pe_ix ix_list (pv 4) (pv 6) (fun _ _ => rfl)) (pa_cons (pe_ix ix_list (pv 4) (pv 7) (fun _ _ => rfl)) pa_nil))) pa_nil))) pa_nil)))) pss_nil)))))))))
 (pss_one (ps_ret (pe_tup (pa_cons (pv 2) (pa_cons (pe_callTy call_tuple_of (by rfl) B.tuple_ (by decide +kernel) (pa_cons (pe_callB cr_sortedPO (by rfl) B.sorted (by decide +kernel) (pa_cons (pv 5) pa_nil)) pa_nil)) pa_nil)))))))))), ?_⟩
    refine ⟨_, rfl, _, rfl, T, L, m, rfl, by omega, by omega, hT, fun r H1 r0 r1 e1 hT1 => ?_⟩
    refine ⟨_, _, rfl, rfl, ?_⟩
    have s1 : 1 ≤ 1 + r := by omega
    have s2 : 1 + r ≤ m := by omega
    dsimp only
    generalize 1 + r = n at s1 s2 ⊢
    refine ⟨_, rfl, T, L, 7, rfl, by decide, by decide, hT1, fun st H2 _ _ e2 hT2 => ?_⟩
    have e12 := e1.trans e2
    refine ⟨_, rfl, _, rfl, n, rfl, RgOk.of_le (by decide) (by omega) (by decide) (by omega), fun q hq => ?_⟩
    have e13 := e12.new (o := .lst (rgV 0 n)) hq
    have hT3 := hT2.ext (L2.Same.new (o := .lst (rgV 0 n)) hq)
    refine ⟨T, L, q, _, rfl, hT3, upd_same, hT2.neT hq, (by rw [rgV_length]; omega), fun nm ys H4 e4 hT4 nnm hnm hperm => ?_⟩
    have hperm2 : ys.Perm (((List.range (n - 0).toNat).map fun i => (0 : Int) + (i : Nat)).map V.int) := by
      rw [List.map_map]; exact hperm
    obtain ⟨ey, hns⟩ := ints_of hperm2
    generalize ys.map unI = ns at ey hns
    subst ey
    have N : Names n ns := names_of (by omega) hns
    have e14 := e13.trans e4
    have hqT := hT2.neT hq
    have nmT : nm ≠ T := hT3.neT nnm
    have nnm0 : H nm = none := ExT.free e13 nmT nnm
    refine ⟨Nat.zero_le _, fun fo hfo => ?_⟩
    have foT := hT4.neT hfo
    have foL := hT4.neL hfo
    have hfo0 : H fo = none := ExT.free e14 foT hfo
    have fnm : fo ≠ nm := fun q => by rw [q, hnm] at hfo; cases hfo
    refine ⟨_, rfl, _, rfl, by omega, by omega, for_range (lo := 0) (n := n.toNat) (fun i σ H' => ∃ (v6 v7 v8 : Option V) (ys : List V) (ps : List (Int × Int)), σ = [some (.ref T), some (.int m), some (.int n), some (.int st), some (.ref nm), some (.ref fo), v6, v7, v8] ∧ ExT T H H' ∧ Tp H' T L ∧ H' nm = some (.lst (ns.map V.int)) ∧ H' fo = some (.lst ys) ∧ Pairs H' ys ps ∧ Ps ns i 0 ps ∧ ys.length ≤ 100 * i)
      ⟨none, none, none, [], [], rfl, e14.new hfo, hT4.ext (L2.Same.new hfo), by rw [upd_ne fnm.symm]; exact hnm, upd_same, .nil, .zero, by simp⟩ ?_ ?_⟩
    · rintro i σ H5 hi ⟨v6, v7, v8, ys, ps, rfl, e5, hT5, hnm5, hfo5, hp5, P5, l5⟩
      have hin : (i : Int) < n := by omega
      refine ⟨_, rfl, _, rfl, by omega, by omega, for_range (lo := 0) (n := ((0 : Int) + (i : Nat)).toNat) (fun j σ H' => ∃ (v7 v8 : Option V) (ys : List V) (ps : List (Int × Int)), σ = [some (.ref T), some (.int m), some (.int n), some (.int st), some (.ref nm), some (.ref fo), some (.int (0 + (i : Nat))), v7, v8] ∧ ExT T H H' ∧ Tp H' T L ∧ H' nm = some (.lst (ns.map V.int)) ∧ H' fo = some (.lst ys) ∧ Pairs H' ys ps ∧ Ps ns i j ps ∧ ys.length ≤ 100 * i + j)
        ⟨v7, v8, ys, ps, rfl, e5, hT5, hnm5, hfo5, hp5, P5, l5⟩ ?_ ?_⟩
      · rintro j σ H6 hj ⟨v7, v8, ys, ps, rfl, e6, hT6, hnm6, hfo6, hp6, P6, l6⟩
        have hji : j < i := by omega
        refine ⟨_, rfl, T, L, 6, rfl, by decide, by decide, hT6, fun r H7 _ _ e7 hT7 => ?_⟩
        refine ⟨_, rfl, _, _, rfl, rfl, _, _, rfl, rfl, ?_⟩
        have t7 := hT6.tk e7
        have X7 : ExT T H H7 ∧ Tp H7 T L ∧ H7 nm = some (.lst (ns.map V.int)) ∧ H7 fo = some (.lst ys) ∧ Pairs H7 ys ps := ⟨e6.trans e7, hT7, e7 _ _ nmT hnm6, e7 _ _ foT hfo6, hp6.tk t7⟩
        dsimp only
        generalize decide (r < st - 2) = b0
        -- if style == 0
        refine ⟨fun σ' H' => ∃ b, σ' = [some (.ref T), some (.int m), some (.int n), some (.int st), some (.ref nm), some (.ref fo), some (.int (0 + (i : Nat))), some (.int (0 + (j : Nat))), some (.bl b)] ∧ ExT T H H' ∧ Tp H' T L ∧ H' nm = some (.lst (ns.map V.int)) ∧ H' fo = some (.lst ys) ∧ Pairs H' ys ps, ?_, ?_⟩
        · refine ⟨_, rfl, rfl, _, rfl, on_if (fun _ => ?_) (fun _ => ⟨b0, rfl, X7⟩)⟩
          refine ⟨_, rfl, _, _, rfl, rfl, _, rfl, rfl, _, rfl, onb (fun _ => ⟨_, rfl, X7⟩) (fun _ => ?_)⟩
          refine ⟨_, rfl, rfl, _, rfl, onb (fun _ => ?_) (fun _ => ⟨_, rfl, X7⟩)⟩
          exact ⟨_, rfl, _, rfl, _, _, rfl, rfl, rfl, _, rfl, X7⟩
        rintro σ' H8 ⟨b1, rfl, X8⟩
        -- if style == 1
        refine ⟨fun σ' H' => ∃ b, σ' = [some (.ref T), some (.int m), some (.int n), some (.int st), some (.ref nm), some (.ref fo), some (.int (0 + (i : Nat))), some (.int (0 + (j : Nat))), some (.bl b)] ∧ ExT T H H' ∧ Tp H' T L ∧ H' nm = some (.lst (ns.map V.int)) ∧ H' fo = some (.lst ys) ∧ Pairs H' ys ps, ?_, ?_⟩
        · refine ⟨_, rfl, rfl, _, rfl, on_if (fun _ => ?_) (fun _ => ⟨b1, rfl, X8⟩)⟩
          refine ⟨_, rfl, _, _, rfl, rfl, ⟨by decide, by decide⟩, .inl ⟨_, rfl, ?_⟩⟩
          refine ⟨_, rfl, _, _, rfl, rfl, ⟨by decide, by decide⟩, .inl ⟨_, rfl, rfl, _, rfl, X8⟩⟩
        rintro σ' H9 ⟨b2, rfl, X9⟩
        -- if style == 2
        refine ⟨fun σ' H' => ∃ b, σ' = [some (.ref T), some (.int m), some (.int n), some (.int st), some (.ref nm), some (.ref fo), some (.int (0 + (i : Nat))), some (.int (0 + (j : Nat))), some (.bl b)] ∧ ExT T H H' ∧ Tp H' T L ∧ H' nm = some (.lst (ns.map V.int)) ∧ H' fo = some (.lst ys) ∧ Pairs H' ys ps, ?_, ?_⟩
        · refine ⟨_, rfl, rfl, _, rfl, on_if (fun _ => ?_) (fun _ => ⟨b2, rfl, X9⟩)⟩
          refine ⟨_, rfl, .inl ⟨_, rfl, _, _, rfl, rfl, (by show (2 : Int) ≠ 0; decide), ?_⟩⟩
          refine ⟨_, rfl, .inl ⟨_, rfl, _, _, rfl, rfl, (by show (2 : Int) ≠ 0; decide), rfl, _, rfl, onbN (fun _ => ?_) (fun _ => ⟨_, rfl, X9⟩)⟩⟩
          obtain ⟨a1, a2, a3, a4, a5⟩ := X9
          refine ⟨_, rfl, T, L, 3, rfl, by decide, by decide, a2, fun r3 H10 _ _ e10 hT10 => ?_⟩
          exact ⟨_, _, rfl, rfl, _, rfl, a1.trans e10, hT10, e10 _ _ nmT a3, e10 _ _ foT a4, a5.tk (a2.tk e10)⟩
        rintro σ' H11 ⟨b3, rfl, a1, a2, a3, a4, a5⟩
        have hi' := N.at_ (i := i) hin
        have hj' := N.at_ (i := j) (by omega)
        have ix : ∀ c : Nat, (c : Int) < n → atI (ns.map V.int) (0 + (c : Int)) = some (.int (ns.getD c 0)) := fun c hc => at_of (j := c) (by omega) (by rw [List.getElem?_map, (N.at_ hc).1]; rfl)
        have ixi := ix i hin
        have ixj := ix j (by omega)
        have hyl : ys.length < 100000 := by omega
        refine ⟨_, rfl, b3, rfl, ?_⟩
        cases b3 with
        | true =>
          refine iteT ?_
          refine ⟨_, rfl, .inl ⟨rfl, _, SqL.of a4⟩, ?_⟩
          refine ⟨_, rfl, _, rfl, nm, _, _, _, rfl, rfl, SqL.of a3, ixi, _, rfl, _, rfl, nm, _, _, _, rfl, rfl, SqL.of a3, ixj, _, _, rfl, ?_⟩
          refine ⟨_, rfl, _, rfl, nm, _, _, _, rfl, rfl, SqL.of a3, ixi, _, rfl, _, rfl, nm, _, _, _, rfl, rfl, SqL.of a3, ixj, _, _, rfl, ?_⟩
          refine ⟨(by show 2 ≤ sizeLine; decide), fun c hc => ?_⟩
          have ec := L2.Same.new (o := .tup [.int (if ns.getD j 0 < ns.getD i 0 then ns.getD j 0 else ns.getD i 0), .int (if ns.getD j 0 > ns.getD i 0 then ns.getD j 0 else ns.getD i 0)]) hc
          refine ⟨fo, ys, _, rfl, rfl, ec _ _ a4, Nat.lt_of_lt_of_le hyl (by decide), ?_⟩
          have cf : c ≠ fo := fun q => by rw [q, a4] at hc; cases hc
          refine ⟨_, _, ys ++ [.ref c], ps ++ [norm (ns.getD i 0) (ns.getD j 0)], rfl, ?_, ?_, ?_, upd_same, ?_, P6.put N hin hji, ?_⟩
          · exact (a1.trans ec.exT).mut hfo0
          · exact (a2.ext ec).upd foT foL
          · rw [upd_ne fnm.symm]; exact ec _ _ a3
          · refine Paired.app ((a5.tk ec.tk).tk (tk_lst (ec _ _ a4))) (.cons ⟨c, rfl, ?_⟩ .nil)
            rw [upd_ne cf]; exact upd_same
          · rw [List.length_append, List.length_singleton]; omega
        | false => exact iteF ⟨_, _, ys, ps, rfl, a1, a2, a3, a4, a5, P6.skip, by omega⟩
      · rintro σ H6 ⟨v7, v8, ys, ps, rfl, e6, hT6, hnm6, hfo6, hp6, P6, l6⟩
        have ei : ((0 : Int) + (i : Nat)).toNat = i := by omega
        rw [ei] at P6 l6
        exact ⟨_, _, _, ys, ps, rfl, e6, hT6, hnm6, hfo6, hp6, P6.next, by omega⟩
    · rintro σ H5 ⟨v6, v7, v8, ys, ps, rfl, e5, hT5, hnm5, hfo5, hp5, P5, l5⟩
      refine ⟨_, rfl, _, rfl, fo, ys, pairOf H5, rfl, SqL.of hfo5, pairs_mem hp5, fun zs q s1' s2' hq => ?_⟩
      obtain ⟨qs, hz, hperm', hle⟩ := sorted_post hp5 s1' s2'
      have eq := L2.Same.new (o := .lst zs) hq
      refine ⟨q, _, rfl, .inl ⟨SqL.of upd_same, fun t ht => ?_⟩⟩
      have et := eq.new' (o := .tup zs) ht
      refine ⟨(by show 2 ≤ sizeLine; decide), fun z hz' => ?_⟩
      have ez := et.new' (o := .tup [.int n, .ref t]) hz'
      have ht5 : H5 t = none := L2.Same.free eq ht
      have hz5 : H5 z = none := L2.Same.free et hz'
      exact k z t n zs qs _ (e5.trans ez.exT) (hT5.ext ez) (ExT.free e5 (hT5.neT hz5) hz5) upd_same (ExT.free e5 (hT5.neT ht5) ht5) ((L2.Same.new hz') _ _ upd_same) (hz.tk ez.tk) s1 s2 (P5.good N (by omega) hperm' hle)
end
end Bs

namespace Bs
open PySem PySem.Spec L2
theorem units65 {k : Nat} {A : Around} (r : Room k A) : A.units + 65 < cLine := by have := r.un; omega
def tIfC (t : TT) (x y : V) : TE := fun σ H Q => t σ H fun c H1 => Q (if c = true then x else y) H1
theorem pe_ifC {X : Cx} {c a b : Expr} {pos : Pos} {t : TT} {x y : V} (hc : PT X c t) (ha : PE X a (tC x)) (hb : PE X b (tC y)) : PE X (.IfExp c a b pos) (tIfC t x y) := by
  have h := pe_ifExp (pos := pos) hc ha hb
  have e : tIf t (tC x) (tC y) = tIfC t x y := by
    funext σ H Q
    show t σ H (fun c H1 => if c = true then Q x H1 else Q y H1) = t σ H (fun c H1 => Q (if c = true then x else y) H1)
    have : (fun (c : Bool) (H1 : Hp) => if c = true then Q x H1 else Q y H1) = (fun c H1 => Q (if c = true then x else y) H1) := by
      funext c H1
      cases c <;> simp
    rw [this]
  rw [← e]
  exact h
/-- how many ties there can be -/
theorem up_len : ∀ {l : List Int} {lo hi : Int}, l.Pairwise (· < ·) → (∀ x ∈ l, lo ≤ x ∧ x < hi) → (l.length : Int) ≤ hi - lo ∨ l = []
  | [], _, _, _, _ => .inr rfl
  | x :: l, lo, hi, h, hb => by
    obtain ⟨h1, h2⟩ := List.pairwise_cons.mp h
    have hx := hb x (by simp)
    rcases up_len (lo := x + 1) (hi := hi) h2 (fun y hy => ⟨by have := h1 y hy; omega, (hb y (by simp [hy])).2⟩) with ih | ih
    · left; rw [List.length_cons]; omega
    · subst ih; left; simp; omega
theorem Good.len {n : Int} {ps : List (Int × Int)} (G : Good n ps) (hn : n ≤ 24) : ps.length ≤ 1000 := by
  have h1 : (ps.map fun p => 24 * p.1 + p.2).Pairwise (· < ·) := by
    refine List.pairwise_map.mpr ?_
    have : ps.Pairwise fun p q => lt2 p q ∧ (p ∈ ps ∧ q ∈ ps) := List.Pairwise.imp_of_mem (fun {p q} hp hq h => ⟨h, hp, hq⟩) G.up
    refine this.imp fun {p q} ⟨h, hp, hq⟩ => ?_
    have a := G.ok p hp
    have b := G.ok q hq
    unfold lt2 at h
    omega
  rcases up_len (lo := 0) (hi := 1000) h1 (fun x hx => by
    obtain ⟨p, hp, rfl⟩ := List.mem_map.mp hx
    have a := G.ok p hp
    omega) with h | h
  · rw [List.length_map] at h; omega
  · have := congrArg List.length h
    rw [List.length_map] at this
    simp at this
    simp [this]
theorem mem_nbrs {n : Int} {ps : List (Int × Int)} (G : Good n ps) {a b : Int} (ne : a ≠ b) : b ∈ nbrs ps a ↔ norm a b ∈ ps := by
  unfold nbrs
  rw [List.mem_map]
  constructor
  · rintro ⟨p, hp, e⟩
    obtain ⟨h1, h2⟩ := List.mem_filter.mp hp
    have h3 := (G.ok p h1).2.1
    have h4 : p.1 = a ∨ p.2 = a := by simpa using h2
    have : norm a b = p := by
      unfold norm
      by_cases e1 : p.1 = a
      · rw [if_pos e1] at e
        rw [if_neg (by omega), if_pos (by omega)]
        exact Prod.ext (by simp [e1]) (by simp [e])
      · rw [if_neg e1] at e
        rw [if_pos (by omega), if_neg (by omega)]
        exact Prod.ext (by simp [e]) (by simp; omega)
    rw [this]; exact h1
  · intro h
    refine ⟨norm a b, List.mem_filter.mpr ⟨h, ?_⟩, ?_⟩
    · unfold norm
      by_cases h1 : b < a
      · rw [if_pos h1, if_neg (by omega)]; simp
      · rw [if_neg h1, if_pos (by omega)]; simp
    · unfold norm
      by_cases h1 : b < a
      · rw [if_pos h1, if_neg (show ¬ b > a by omega)]
        show (if b = a then a else b) = b
        rw [if_neg (by omega)]
      · rw [if_neg h1, if_pos (show b > a by omega)]
        show (if a = a then b else a) = b
        rw [if_pos rfl]
theorem norm_comm {a b : Int} (h : a ≠ b) : norm a b = norm b a := by
  unfold norm
  by_cases h1 : b < a
  · rw [if_pos h1, if_neg (by omega), if_neg (by omega), if_pos (by omega)]
  · rw [if_neg h1, if_pos (by omega), if_pos (by omega), if_neg (by omega)]
theorem inV_ints (k : Int) : ∀ l : List Int, inV (.int k) (l.map V.int) = decide (k ∈ l)
  | [] => by simp [inV]
  | a :: l => by
    have ih := inV_ints k l
    unfold inV at ih ⊢
    rw [List.map_cons, List.any_cons, ih]
    by_cases h1 : a = k
    · subst h1; simp [eqV]
    · have : ¬ k = a := fun e => h1 e.symm
      by_cases h2 : k ∈ l <;> simp [eqV, h1, this, h2]
theorem any_pairs (p : Int × Int) : ∀ l : List (Int × Int), ((l.map pD).any fun z => PyData.eqv z (pD p)) = decide (p ∈ l)
  | [] => by simp
  | a :: l => by
    rw [List.map_cons, List.any_cons, any_pairs p l, pD_eqv]
    by_cases h1 : a = p
    · subst h1; simp
    · have : ¬ p = a := fun e => h1 e.symm
      by_cases h2 : p ∈ l <;> simp [h1, this, h2]
theorem flat_ints : ∀ l : List Int, (l.map V.int).all flatV = true
  | [] => rfl
  | a :: l => by rw [List.map_cons, List.all_cons, flat_ints l]; rfl
/-- another part, some parts on -/
theorem other_ne {o r n : Int} (h1 : 0 ≤ o) (h2 : o < n) (h3 : 0 ≤ r) (h4 : r < n - 1) : 0 ≤ (o + 1 + r).fmod n ∧ (o + 1 + r).fmod n < n ∧ o ≠ (o + 1 + r).fmod n := by
  rw [Int.fmod_eq_emod_of_nonneg _ (by omega)]
  by_cases h : o + 1 + r < n
  · rw [Int.emod_eq_of_lt (by omega) h]; omega
  · have e : (o + 1 + r) % n = (o + 1 + r - n) % n := by
      have := Int.sub_emod_right (o + 1 + r) n
      exact this.symm
    rw [e, Int.emod_eq_of_lt (by omega) (by omega)]; omega
section
variable {P : Program} {w : World} {K : PySem.W.Frag} {mg : Str → Option Value} {base : Heap} {C : Addr}
theorem same_ties {H : Hp} {t u : Addr} {xs ys : List V} {ps : List (Int × Int)} (ht : H t = some (.tup xs)) (hp : Pairs H xs ps) (hu : H u = some (.tup ys)) (hq : Pairs H ys ps) (hl : ps.length ≤ 100000) : SameV 2 H (.ref t) (.ref u) :=
  .inr ⟨t, u, xs, ys, rfl, rfl, .inl ⟨ht, hu⟩, by rw [Paired.len hp]; exact hl, same_pairs (k := 0) hp hq⟩
/-- (size, ties) twice -/
theorem same_web {H : Hp} {p q t u : Addr} {n : Int} {xs ys : List V} {ps : List (Int × Int)} (hp' : H p = some (.tup [.int n, .ref t])) (hq' : H q = some (.tup [.int n, .ref u])) (ht : H t = some (.tup xs)) (hp : Pairs H xs ps) (hu : H u = some (.tup ys)) (hq : Pairs H ys ps) (hl : ps.length ≤ 100000) : SameV 3 H (.ref p) (.ref q) :=
  .inr ⟨p, q, _, _, rfl, rfl, .inl ⟨hp', hq'⟩, (by show 2 ≤ 100000; decide), .cons (same_int _ _ _) (.cons (same_ties ht hp hu hq hl) .nil)⟩
theorem same_lots {H : Hp} {p q : Addr} {l : List Int} (hp : H p = some (.tup (l.map V.int))) (hq : H q = some (.tup (l.map V.int))) (hl : l.length ≤ 100000) : SameV 3 H (.ref p) (.ref q) :=
  .inl (.inl (.inr ⟨p, q, _, _, rfl, rfl, .inl ⟨hp, hq⟩, by rw [List.length_map]; exact hl, paired_ints l⟩))
def sp_law (K : PySem.W.Frag) : Sp := fun vs H Q _ => ∃ (a : Addr) (ns : List Int), vs = [.ref a] ∧ SqL K H a (ns.map V.int) ∧ ∀ H', Q (.bl true) H'
abbrev s_law : Stmt := (top 28)
theorem sc_law : FnScope ["script", "tape", "turn", "size", "ties", "web", "part", "known", "made", "step", "one", "other", "pair", "item"] ["script"] (defScope s_law) := ⟨rfl, rfl, rfl, by decide +kernel, rfl, by decide +kernel, by decide +kernel⟩

theorem ok_law {f fe : Addr} {fd fde : FuncData} (F : Fun K "law" "law" s_law f fd) (B : Bl mg) (T : Txt K mg C) (N : OwnNe K C fe) (Feq : FnOk P w K mg base CX0 1 fe fde ["self", "other"] (sp_Web_eq C)) (bEq : Binds K fde ["self", "other"] [])
    (m_Web : Mkc P w K mg base 5 C "Web" ["self", "size", "ties"] (sp_Web_init C)) (c_tied_to : Cal P w K mg base 5 "tied_to" ["web", "part"] (sp_tied_to C)) (c_tie : Cal P w K mg base 8 "tie" ["web", "a", "b"] (sp_tie C)) (c_untie : Cal P w K mg base 8 "untie" ["web", "a", "b"] (sp_untie C))
    (c__law_tape : Cal P w K mg base 1 "_law_tape" ["script"] (sp_tape K)) (c__law_pick : Cal P w K mg base 1 "_law_pick" ["tape", "many"] spPick) (c__law_same : Cal P w K mg base 5 "_law_same" ["told", "due"] (spSame 3)) (c__law_web : Cal P w K mg base 3 "_law_web" ["tape", "most"] sp_web) (c__law_tied : Cal P w K mg base 1 "_law_tied" ["ties", "part"] sp_tied) :
    FnOk P w K mg base CX0 9 f fd ["script"] (sp_law K) := by
  refine F.ok sc_law (fun vs H Q E h => ?_) (fun cdv A outer s H vs Q E hr h => ?_)
  · obtain ⟨a, ns, rfl, _⟩ := h; rfl
  · obtain ⟨a, ns, rfl, hS, k⟩ := h
    refine ⟨_, (pss_cons (ps_set (i := 1) sc_law.nd rfl (by first | exact Or.inl rfl | exact Or.inr rfl) (pe_cal c__law_tape (hr.mono (by first | decide | omega)) (pa_cons (pv 0) pa_nil)))
 (pss_cons (ps_for PassesOwn.never rfl (pi_range1 (by rfl) B.range (pa_cons pe_int pa_nil)) (pg_name (i := 2) sc_law.nd rfl (by first | exact Or.inl rfl | exact Or.inr rfl))
  (pss_cons (ps_asg (pe_cal c__law_web (hr.mono (by first | decide | omega)) (pa_cons (pv 1) (pa_cons (pe_ifC (pt_cmpR op_eq (pe_cal c__law_pick (hr.mono (by first | decide | omega)) (pa_cons (pv 1) (pa_cons pe_int pa_nil))) pe_int (nomark _)) pe_int pe_int) pa_nil))) (pg_tup (by rfl) (pgs_cons (pg_name (i := 3) sc_law.nd rfl (by first | exact Or.inl rfl | exact Or.inr rfl)) (pgs_cons (pg_name (i := 4) sc_law.nd rfl (by first | exact Or.inl rfl | exact Or.inr rfl)) pgs_nil))))
 (pss_cons (ps_set (i := 5) sc_law.nd rfl (by first | exact Or.inl rfl | exact Or.inr rfl) (pe_mkc m_Web (hr.mono (by first | decide | omega)) (pa_cons (pv 3) (pa_cons (pv 4) pa_nil))))
 (pss_cons (ps_for PassesOwn.never rfl (pi_range1 (by rfl) B.range (pa_cons (pv 3) pa_nil)) (pg_name (i := 6) sc_law.nd rfl (by first | exact Or.inl rfl | exact Or.inr rfl))
  (pss_one (ps_if (pt_not (pt_val (pe_cal c__law_same (hr.mono (by first | decide | omega)) (pa_cons (pe_cal c_tied_to (hr.mono (by first | decide | omega)) (pa_cons (pv 5) (pa_cons (pv 6) pa_nil))) (pa_cons (pe_cal c__law_tied (hr.mono (by first | decide | omega)) (pa_cons (pv 4) (pa_cons (pv 6) pa_nil))) pa_nil))))) (pss_one (ps_ret pe_bl)) pss_nil)))
 (pss_cons (ps_set (i := 7) sc_law.nd rfl (by first | exact Or.inl rfl | exact Or.inr rfl) (pe_callTy call_list_of (by rfl) B.list_ (by decide +kernel) (pa_cons (pv 4) pa_nil)))
 (pss_cons (ps_set (i := 8) sc_law.nd rfl (by first | exact Or.inl rfl | exact Or.inr rfl) (pv 5))
 (Evl.pss_cut (ps_for PassesOwn.never rfl (pi_range1 (by rfl) B.range (pa_cons (pe_ifExp (pt_cmpR op_gt (pv 3) pe_int (nomark _)) (pe_cal c__law_pick (hr.mono (by first | decide | omega)) (pa_cons (pv 1) (pa_cons pe_int pa_nil))) pe_int) pa_nil)) (pg_name (i := 9) sc_law.nd rfl (by first | exact Or.inl rfl | exact Or.inr rfl))
  (pss_cons (ps_set (i := 10) sc_law.nd rfl (by first | exact Or.inl rfl | exact Or.inr rfl) (pe_cal c__law_pick (hr.mono (by first | decide | omega)) (pa_cons (pv 1) (pa_cons (pv 3) pa_nil))))
 (pss_cons (ps_set (i := 11) sc_law.nd rfl (by first | exact Or.inl rfl | exact Or.inr rfl) (pe_op op_modN (pe_callTy call_int1 (by rfl) B.int_ (by decide +kernel) (pa_cons (pe_op op_add (pe_op op_add (pv 10) pe_int) (pe_cal c__law_pick (hr.mono (by first | decide | omega)) (pa_cons (pv 1) (pa_cons (pe_op op_sub (pv 3) pe_int) pa_nil)))) pa_nil)) (pv 3)))
 (pss_cons (ps_set (i := 12) sc_law.nd rfl (by first | exact Or.inl rfl | exact Or.inr rfl) (pe_tup (pa_cons (pe_callB (call_min2 rfl) (by rfl) B.min (by decide +kernel) (pa_cons (pv 10) (pa_cons (pv 11) pa_nil))) (pa_cons (pe_callB (call_max2 rfl) (by rfl) B.max (by decide +kernel) (pa_cons (pv 10) (pa_cons (pv 11) pa_nil))) pa_nil))))
 (pss_cons (ps_setLc (i := 7) (own := [("item", 13)]) (tt := (tTest (tOp (rNeD K) _ _))) (by rfl) sc_law.nd rfl rfl (sw_true rfl rfl rfl (by decide +kernel)) (pi_list (pv 7)) (blkOk_by (own := [("item", 13)]) (N := ["script", "tape", "turn", "size", "ties", "web", "part", "known", "made", "step", "one", "other", "pair", "item"]) (sc := defScope s_law) (by decide +kernel)) (fun _ _ _ _ _ => (pg_name (i := 13) sc_law.nd rfl (by first | exact Or.inl rfl | exact Or.inr rfl))) (fun _ _ _ _ _ => (pts_one (pt_cmpR (op_neD hr.units) (pv 13) (pv 12) (nomark _)))) (fun _ _ _ _ _ => (pv 13)))
 (Evl.pss_cut (ps_if (pt_cmpR op_eq (pe_cal c__law_pick (hr.mono (by first | decide | omega)) (pa_cons (pv 1) (pa_cons pe_int pa_nil))) pe_int (nomark _)) (pss_cons (ps_set (i := 7) sc_law.nd rfl (by first | exact Or.inl rfl | exact Or.inr rfl) (pe_callB cr_sortedPO (by rfl) B.sorted (by decide +kernel) (pa_cons (pe_op op_cat (pv 7) (pe_lst (pa_cons (pv 12) pa_nil))) pa_nil)))
 (pss_one (ps_set (i := 8) sc_law.nd rfl (by first | exact Or.inl rfl | exact Or.inr rfl) (pe_cal c_tie (hr.mono (by first | decide | omega)) (pa_cons (pv 8) (pa_cons (pv 10) (pa_cons (pv 11) pa_nil))))))) (pss_one (ps_set (i := 8) sc_law.nd rfl (by first | exact Or.inl rfl | exact Or.inr rfl) (pe_cal c_untie (hr.mono (by first | decide | omega)) (pa_cons (pv 8) (pa_cons (pv 10) (pa_cons (pv 11) pa_nil)))))))
 (pss_cons (ps_if (PW.pt (pw_or (pt_not (pt_val (pe_cal c__law_same (hr.mono (by first | decide | omega)) (pa_cons (pe_tup (pa_cons (pe_fld (pv 8) rfl) (pa_cons (pe_fld (pv 8) rfl) pa_nil))) (pa_cons (pe_tup (pa_cons (pv 3) (pa_cons (pe_callTy call_tuple_of (by rfl) B.tuple_ (by decide +kernel) (pa_cons (pv 7) pa_nil)) pa_nil))) pa_nil))))) (pw_or1 (pt_cmpR (op_neOwn N Feq (hr.mono (by decide)) bEq) (pv 8) (pe_mkc m_Web (hr.mono (by first | decide | omega)) (pa_cons (pv 3) (pa_cons (pe_callTy call_tuple_of (by rfl) B.tuple_ (by decide +kernel) (pa_cons (pv 7) pa_nil)) pa_nil))) (nomark _))))) (pss_one (ps_ret pe_bl)) pss_nil)
 (pss_one (ps_if (PW.pt (pw_or (pt_cmpR op_ne (pe_cmpR op_in_seq (pv 11) (pe_cal c_tied_to (hr.mono (by first | decide | omega)) (pa_cons (pv 8) (pa_cons (pv 10) pa_nil))) (by rfl)) (pe_cmpR (op_inD (units65 hr)) (pv 12) (pv 7) (by rfl)) (nomark _)) (pw_or1 (pt_cmpR op_ne (pe_cmpR op_in_seq (pv 10) (pe_cal c_tied_to (hr.mono (by first | decide | omega)) (pa_cons (pv 8) (pa_cons (pv 11) pa_nil))) (by rfl)) (pe_cmpR (op_inD (units65 hr)) (pv 12) (pv 7) (by rfl)) (nomark _))))) (pss_one (ps_ret pe_bl)) pss_nil)))))))))
 (pss_one (ps_if (pt_not (pt_val (pe_cal c__law_same (hr.mono (by first | decide | omega)) (pa_cons (pe_tup (pa_cons (pe_fld (pv 5) rfl) (pa_cons (pe_fld (pv 5) rfl) pa_nil))) (pa_cons (pe_tup (pa_cons (pv 3) (pa_cons (pv 4) pa_nil))) pa_nil))))) (pss_one (ps_ret pe_bl)) pss_nil)))))))))
 (pss_one (ps_ret pe_bl)))), ?_⟩
    refine ⟨_, rfl, a, ns, rfl, hS, fun TT L H1 e1 nT nL hT1 => ?_⟩
    refine ⟨3, rfl, by decide, by decide, for_range (lo := 0) (n := 3) (fun i σ H' => ∃ v2 v3 v4 v5 v6 v7 v8 v9 v10 v11 v12 v13 : Option V, σ = [some (.ref a), some (.ref TT), v2, v3, v4, v5, v6, v7, v8, v9, v10, v11, v12, v13] ∧ Tp H' TT L)
      ⟨none, none, none, none, none, none, none, none, none, none, none, none, rfl, hT1⟩ ?_ (fun σ H' _ => k H')⟩
    rintro i σ H2 hi ⟨v2, v3, v4, v5, v6, v7, v8, v9, v10, v11, v12, v13, rfl, hT2⟩
    refine ⟨_, rfl, _, rfl, TT, L, 8, rfl, by decide, by decide, hT2, fun r H3 _ _ _ hT3 => ⟨rfl, _, rfl, ?_⟩⟩
    have hm : ∃ m : Int, 1 ≤ m ∧ m ≤ 24 ∧ (if decide (V.int r = V.int 0) = true then V.int 24 else V.int 8) = .int m := by
      by_cases c : V.int r = V.int 0
      · exact ⟨24, by decide, by decide, by rw [if_pos (decide_eq_true c)]⟩
      · exact ⟨8, by decide, by decide, by rw [if_neg (by simpa using c)]⟩
    obtain ⟨m, m1, m2, hm⟩ := hm
    dsimp only
    rw [hm]
    refine ⟨TT, L, m, rfl, hT3, m1, m2, fun p t n xs ps H4 e4 hT4 np hp nt ht hP n1 nm G => ?_⟩
    have n2 : n ≤ 24 := by omega
    have hlen := G.len n2
    refine ⟨p, _, rfl, SqT.of hp, rfl, _, _, rfl, _, _, rfl, rfl, ?_⟩
    -- web = Web(size, ties)
    refine ⟨_, rfl, _, rfl, make_web (C := C) n1 n2 ht hP G fun x H5 e5 nx W hx => ?_⟩
    have hT5 := hT4.ext e5
    have ht5 := e5 _ _ ht
    have hP5 := hP.tk e5.tk
    obtain ⟨dx, hx⟩ := hx
    -- each part
    refine ⟨_, rfl, _, rfl, by omega, by omega, for_range (lo := 0) (n := n.toNat) (fun j σ H' => ∃ u6 : Option V, σ = [some (.ref a), some (.ref TT), some (.int (0 + (i : Nat))), some (.int n), some (.ref t), some (.ref x), u6, v7, v8, v9, v10, v11, v12, v13] ∧ Same H5 H')
      ⟨v6, rfl, L2.Same.refl _⟩ ?_ ?_⟩
    · rintro j σ H6 hj ⟨u6, rfl, e6⟩
      have hj1 : (0 : Int) ≤ 0 + (j : Nat) := by omega
      have hj2 : (0 : Int) + (j : Nat) < n := by omega
      refine ⟨_, rfl, _, rfl, x, n, t, ps, _, rfl, W.same e6, Nat.le_trans hlen (by decide), hj1, hj2, fun p1 H7 e7 np1 hp1 => ?_⟩
      have e67 := e6.trans e7
      refine ⟨_, rfl, _, rfl, t, xs, n, ps, _, rfl, e67 _ _ ht5, hP5.tk e67.tk, G, Nat.le_trans hlen (by decide), fun p2 H8 e8 np2 hp2 => ?_⟩
      refine ⟨.ref p1, .ref p2, rfl, same_lots (e8 _ _ hp1) hp2 ?_, fun H9 e9 => ⟨true, rfl, iteF ⟨_, rfl, e67.trans (e8.trans e9)⟩⟩⟩
      unfold nbrs
      rw [List.length_map]
      exact Nat.le_trans (List.length_filter_le _ _) (Nat.le_trans hlen (by decide))
    rintro σ H6 ⟨u6, rfl, e6⟩
    have hT6 := hT5.ext e6
    -- known = list(ties); made = web
    refine ⟨_, rfl, t, xs, rfl, .inr (SqT.of (e6 _ _ ht5)), fun kn hkn => ?_⟩
    have e7 := e6.new' (o := .lst xs) hkn
    have hT7 := hT5.ext e7
    have W7 := W.same e7
    have hP7 := hP5.tk e7.tk
    have knT := hT6.neT hkn
    generalize hH7 : upd H6 kn (.lst xs) = H7 at e7 hT7 W7 hP7 ⊢
    have hkn7 : H7 kn = some (.lst xs) := by rw [← hH7]; exact upd_same
    refine ⟨_, rfl, ?_⟩
    -- the steps
    refine ⟨fun σ H' => ∃ u6 u7 u8 u9 u10 u11 u12 u13 : Option V, σ = [some (.ref a), some (.ref TT), some (.int (0 + (i : Nat))), some (.int n), some (.ref t), some (.ref x), u6, u7, u8, u9, u10, u11, u12, u13] ∧ Tp H' TT L ∧ ExT TT H5 H', ?_, ?_⟩
    · refine ⟨_, rfl, _, _, rfl, rfl, _, rfl, ?_⟩
      show (if decide ((1 : Int) < n) = true then _ else _)
      refine onb (fun c => ?_) (fun c => ?_)
      · refine ⟨_, rfl, TT, L, 11, rfl, by decide, by decide, hT7, fun r2 H8 r20 r21 e8 hT8 => ?_⟩
        refine ⟨_, rfl, by omega, by omega, for_range (lo := 0) (n := r2.toNat) (fun j σ H' => ∃ (u6 u9 u10 u11 u12 u13 : Option V) (kn md u : Addr) (ys : List V) (qs : List (Int × Int)), σ = [some (.ref a), some (.ref TT), some (.int (0 + (i : Nat))), some (.int n), some (.ref t), some (.ref x), u6, some (.ref kn), some (.ref md), u9, u10, u11, u12, u13] ∧ ExT TT H5 H' ∧ Tp H' TT L ∧ kn ≠ TT ∧ H' kn = some (.lst ys) ∧ Pairs H' ys qs ∧ Good n qs ∧ WebAt C H' md n u qs)
          ⟨u6, v9, v10, v11, v12, v13, kn, x, t, xs, ps, rfl, e7.exT.trans e8, hT8, knT, e8 _ _ knT hkn7, hP7.tk (hT7.tk e8), G, (let ⟨_, hl⟩ := hT7.lst; W7.exT e8 hl)⟩ ?_ ?_⟩
        · rintro j σ H9 hj ⟨u6, u9, u10, u11, u12, u13, kn, md, u, ys, qs, rfl, e9, hT9, knT, hkn9, hP9, Gq, W9⟩
          have hql := Gq.len n2
          -- one, other, pair
          refine ⟨_, rfl, _, rfl, TT, L, n, rfl, by omega, by omega, hT9, fun o H10 o0 o1 e10 hT10 => ?_⟩
          refine ⟨_, rfl, _, _, rfl, rfl, _, rfl, _, rfl, _, _, rfl, rfl, TT, L, n - 1, rfl, by omega, by omega, hT10, fun r3 H11 r30 r31 e11 hT11 => ?_⟩
          refine ⟨_, _, rfl, rfl, .inl ⟨_, rfl, _, rfl, _, _, rfl, rfl, (by show n ≠ 0; omega), ?_⟩⟩
          obtain ⟨b0, b1, ob⟩ := other_ne o0 o1 r30 r31
          dsimp only
          generalize (o + 1 + r3).fmod n = b at b0 b1 ob ⊢
          have t11 := (hT9.tk e10).trans (hT10.tk e11)
          have e911 := e10.trans e11
          obtain ⟨l9, hl9⟩ := hT9.lst
          have W11 := W9.exT e911 hl9
          have hkn11 := e911 _ _ knT hkn9
          have hP11 := hP9.tk t11
          refine ⟨_, rfl, _, rfl, _, _, rfl, _, rfl, _, rfl, _, _, rfl, (by show 2 ≤ sizeLine; decide), fun c2 hc2 => ?_⟩
          have e12 := L2.Same.new (o := .tup [.int (norm o b).1, .int (norm o b).2]) hc2
          have hc12 : PairAt (upd H11 c2 (.tup [.int (norm o b).1, .int (norm o b).2])) (.ref c2) (norm o b) := ⟨c2, rfl, upd_same⟩
          have hT12 := hT11.ext e12
          have W12 := W11.same e12
          have hP12 := hP11.tk e12.tk
          have hkn12 := e12 _ _ hkn11
          have E12 : ExT TT H5 (upd H11 c2 (.tup [.int (norm o b).1, .int (norm o b).2])) := (e9.trans e911).trans e12.exT
          -- known = [..]
          refine ⟨_, rfl, kn, rfl, ⟨ys, SqL.of hkn12⟩, fun D hD => lc_data walk_list qs (Paired.len hP12).symm (fun p => !decide (p = norm o b)) (fun H v p => PairAt H v p) (fun _ _ _ _ t q => q.tk t) hD (fun H' e => SqL.of (e _ _ hkn12)) (Nat.lt_of_le_of_lt hql (by decide)) ?_ (fun _ _ _ _ _ y => yat_same y) ?_⟩
          · rintro i p v H3 H4 Ny Nn hpi e3 ⟨rfl, hv⟩ kE kN
            have hb := (paired_at hP12 hv hpi).tk e3.tk
            refine ⟨rfl, ?_⟩
            refine ⟨_, rfl, _, rfl, _, _, dp_pair hb, dp_pair (hc12.tk e3.tk), pD_shaped _, pD_shaped _, _, rfl, ?_⟩
            rw [pD_eqv]
            show (if (!decide (p = norm o b)) = true then _ else _)
            refine onbN (fun c => ?_) (fun c => ?_)
            · exact ⟨_, rfl, kE _ _ (by simpa using c) (L2.Same.refl _) hb⟩
            · exact kN _ (by simpa using c) (L2.Same.refl _)
          intro ys2 H13 e13 hD13 hP13
          replace hP13 : Pairs H13 ys2 (qs.filter fun p => !decide (p = norm o b)) := hP13
          have hT13 := hT12.ext e13
          have W13 := W12.same e13
          have E13 := E12.trans e13.exT
          have hc13 := hc12.tk e13.tk
          have DT := hT12.neT hD
          have hflen : (qs.filter fun p => !decide (p = norm o b)).length ≤ 1000 := Nat.le_trans (List.length_filter_le _ _) hql
          have hyl : ys2.length ≤ 1000 := by rw [Paired.len hP13]; exact hflen
          -- tie or untie
          refine ⟨fun σ H' => ∃ (kn md u : Addr) (ys : List V) (qs : List (Int × Int)), σ = [some (.ref a), some (.ref TT), some (.int (0 + (i : Nat))), some (.int n), some (.ref t), some (.ref x), u6, some (.ref kn), some (.ref md), some (.int (0 + (j : Nat))), some (.int o), some (.int b), some (.ref c2), u13] ∧ ExT TT H5 H' ∧ Tp H' TT L ∧ kn ≠ TT ∧ H' kn = some (.lst ys) ∧ Pairs H' ys qs ∧ Good n qs ∧ WebAt C H' md n u qs ∧ PairAt H' (.ref c2) (norm o b), ?_, ?_⟩
          · refine ⟨_, rfl, TT, L, 2, rfl, by decide, by decide, hT13, fun r4 H14 _ _ e14 hT14 => ⟨rfl, _, rfl, ?_⟩⟩
            obtain ⟨l13, hl13⟩ := hT13.lst
            have W14 := W13.exT e14 hl13
            have E14 := E13.trans e14
            have hD14 := e14 _ _ DT hD13
            have hP14 := hP13.tk (hT13.tk e14)
            have hc14 := hc13.tk (hT13.tk e14)
            have hok : ∀ q ∈ qs.filter (fun p => !decide (p = norm o b)), 0 ≤ q.1 ∧ q.1 < q.2 ∧ q.2 < n := fun q hq => Gq.ok q (List.mem_filter.mp hq).1
            refine on_if (fun _ => ?_) (fun _ => ?_)
            · refine ⟨_, rfl, _, rfl, (by show 1 ≤ sizeLine; decide), fun d hd => ?_⟩
              have e15 := L2.Same.new (o := .lst [.ref c2]) hd
              refine ⟨D, d, ys2, [.ref c2], rfl, rfl, e15 _ _ hD14, upd_same, (by show ys2.length + 1 ≤ sizeLine; exact Nat.le_trans (Nat.succ_le_succ hyl) (by decide)), fun g hg => ?_⟩
              have e16 := e15.new' (o := .lst (ys2 ++ [.ref c2])) hg
              have hP16 : Pairs _ (ys2 ++ [.ref c2]) (qs.filter (fun p => !decide (p = norm o b)) ++ [norm o b]) := Paired.app (hP14.tk e16.tk) (.cons (hc14.tk e16.tk) .nil)
              refine ⟨g, _, _, rfl, SqL.of upd_same, pairs_mem hP16, fun zs q s1 s2 hq => ?_⟩
              obtain ⟨rs, hz, hperm, hle⟩ := sorted_post hP16 s1 s2
              have e17 := e16.new' (o := .lst zs) hq
              have hz17 := hz.tk (tk_new (o := .lst zs) hq)
              have hT17 := hT14.ext e17
              have hnd : (qs.filter (fun p => !decide (p = norm o b)) ++ [norm o b]).Nodup := by
                refine List.nodup_append.mpr ⟨(up_nodup Gq.up).sublist List.filter_sublist, by simp, fun q hq r hr => ?_⟩
                have := (List.mem_filter.mp hq).2
                simp at this hr
                rw [hr]; exact this
              have Gr : Good n rs := good_of hperm hle hnd fun q hq => by
                rcases List.mem_append.mp hq with h | h
                · exact hok q h
                · simp at h; rw [h]; exact norm_in ob o0 o1 b0 b1
              refine ⟨_, rfl, _, rfl, _, rfl, md, n, u, qs, o, b, rfl, W14.same e17, Gq, Nat.le_trans hql (by decide), o0, o1, b0, b1, ob, fun y u' rs' H18 e18 ny W18 G18 hmem => ?_⟩
              have er : rs = rs' := up_ext Gr.up G18.up fun r => by
                rw [hperm.mem_iff, List.mem_append, List.mem_filter, hmem]
                by_cases e : r = norm o b <;> simp [e]
              subst er
              have qT : q ≠ TT := by
                have h0 := (hT14.ext e16).neT hq
                exact h0
              exact ⟨q, y, u', zs, rs, rfl, E14.trans (e17.trans e18).exT, hT17.ext e18, qT, e18 _ _ upd_same, hz17.tk e18.tk, Gr, W18, hc14.tk (e17.trans e18).tk⟩
            · have hnd : (qs.filter fun p => !decide (p = norm o b)).Nodup := (up_nodup Gq.up).sublist List.filter_sublist
              refine ⟨_, rfl, _, rfl, _, rfl, md, n, u, qs, o, b, rfl, W14, Gq, Nat.le_trans hql (by decide), o0, o1, b0, b1, ob, fun y u' rs' H18 e18 ny W18 G18 hmem => ?_⟩
              have Gr : Good n (qs.filter fun p => !decide (p = norm o b)) := ⟨hok, Gq.up.sublist List.filter_sublist⟩
              have er : (qs.filter fun p => !decide (p = norm o b)) = rs' := up_ext Gr.up G18.up fun r => by
                rw [List.mem_filter, hmem]
                simp
              subst er
              exact ⟨D, y, u', ys2, _, rfl, E14.trans e18.exT, hT14.ext e18, DT, e18 _ _ hD14, hP14.tk e18.tk, Gr, W18, hc14.tk e18.tk⟩
          rintro σ H19 ⟨kn, md, u, ys, qs, rfl, E19, hT19, knT, hkn19, hP19, Gq, W19, hc19⟩
          have hql := Gq.len n2
          obtain ⟨⟨dy, fs, g1, g2, g3⟩, us, g4, g5⟩ := id W19
          -- the same
          refine ⟨_, rfl, md, C, dy, fs, _, rfl, g1, T.cl, T.nSize, g2, _, rfl, md, C, dy, fs, _, rfl, g1, T.cl, T.nTies, g3, (by show 2 ≤ sizeLine; decide), fun p1 hp1 => ?_⟩
          have f1 := L2.Same.new (o := .tup [.int n, .ref u]) hp1
          refine ⟨_, rfl, _, rfl, kn, ys, rfl, .inl ⟨SqL.of (f1 _ _ hkn19), fun z hz => ?_⟩⟩
          have f2 := L2.Same.new (o := .tup ys) hz
          have f12 := f1.trans f2
          refine ⟨(by show 2 ≤ sizeLine; decide), fun p2 hp2 => ?_⟩
          have f3 := L2.Same.new (o := .tup [.int n, .ref z]) hp2
          have f13 := f12.trans f3
          refine ⟨.ref p1, .ref p2, rfl, same_web ((f2.trans f3) _ _ upd_same) upd_same (f13 _ _ g4) (g5.tk f13.tk) (f3 _ _ upd_same) (hP19.tk f13.tk) (Nat.le_trans hql (by decide)), fun H20 f4 => ⟨true, rfl, iteF ?_⟩⟩
          have f14 := f13.trans f4
          refine ⟨_, rfl, _, rfl, _, rfl, kn, ys, rfl, .inl ⟨SqL.of (f14 _ _ hkn19), fun z2 hz2 => ?_⟩⟩
          have f5 := L2.Same.new (o := .tup ys) hz2
          have f15 := f14.trans f5
          refine make_web (C := C) n1 n2 upd_same (hP19.tk f15.tk) Gq fun x2 H21 f6 nx2 Wx hx2 => ?_
          obtain ⟨dx2, hx2⟩ := hx2
          have f16 := f15.trans f6
          refine ⟨md, x2, dy, dx2, fs, _, rfl, rfl, f16 _ _ g1, hx2, md, x2, n, n, u, _, qs, qs, rfl, W19.same f16, Wx, _, rfl, ?_⟩
          have hdt : decide (n = n ∧ qs = qs) = true := by simp
          rw [hdt]
          refine ⟨_, rfl, iteF ?_⟩
          -- who is tied to whom
          have W21 := W19.same f16
          refine ⟨_, rfl, _, rfl, _, rfl, md, n, u, qs, o, rfl, W21, Nat.le_trans hql (by decide), o0, o1, fun q1 H22 f7 nq1 hq1 => ?_⟩
          have f17 := f16.trans f7
          refine ⟨q1, _, rfl, .inr (SqT.of hq1), rfl, flat_ints _, ?_⟩
          refine ⟨_, rfl, _, rfl, _, qs.map pD, dp_pair (hc19.tk f17.tk), dp_list (f17 _ _ hkn19) (hP19.tk f17.tk), pD_shaped _, pDs_shapedL _, ?_⟩
          have l1 : (if false = true then !inV (V.int b) ((nbrs qs o).map V.int) else inV (V.int b) ((nbrs qs o).map V.int)) = decide (norm o b ∈ qs) := by
            rw [if_neg Bool.false_ne_true, inV_ints]
            by_cases e : norm o b ∈ qs
            · rw [decide_eq_true e]; exact decide_eq_true ((mem_nbrs Gq ob).mpr e)
            · rw [decide_eq_false e]; exact decide_eq_false fun h => e ((mem_nbrs Gq ob).mp h)
          have l2 : (if false = true then !inV (V.int o) ((nbrs qs b).map V.int) else inV (V.int o) ((nbrs qs b).map V.int)) = decide (norm o b ∈ qs) := by
            rw [if_neg Bool.false_ne_true, inV_ints, norm_comm ob]
            by_cases e : norm b o ∈ qs
            · rw [decide_eq_true e]; exact decide_eq_true ((mem_nbrs Gq ob.symm).mpr e)
            · rw [decide_eq_false e]; exact decide_eq_false fun h => e ((mem_nbrs Gq ob.symm).mp h)
          rw [l1, any_pairs]
          refine ⟨rfl, _, rfl, iteNS rfl ?_⟩
          refine ⟨_, rfl, _, rfl, _, rfl, md, n, u, qs, b, rfl, W21.same f7, Nat.le_trans hql (by decide), b0, b1, fun q2 H23 f8 nq2 hq2 => ?_⟩
          have f18 := f17.trans f8
          refine ⟨q2, _, rfl, .inr (SqT.of hq2), rfl, flat_ints _, ?_⟩
          refine ⟨_, rfl, _, rfl, _, qs.map pD, dp_pair (hc19.tk f18.tk), dp_list (f18 _ _ hkn19) (hP19.tk f18.tk), pD_shaped _, pDs_shapedL _, ?_⟩
          rw [l2, any_pairs]
          refine ⟨rfl, _, rfl, iteNS rfl ?_⟩
          exact ⟨u6, _, _, _, _, _, kn, md, u, ys, qs, rfl, E19.trans f18.exT, hT19.ext f18, knT, f18 _ _ hkn19, hP19.tk f18.tk, Gq, W19.same f18⟩
        · rintro σ H9 ⟨u6, u9, u10, u11, u12, u13, kn, md, u, ys, qs, rfl, e9, hT9, _⟩
          exact ⟨_, _, _, _, _, _, _, _, rfl, hT9, e9⟩
      · refine ⟨0, rfl, by decide, by decide, for_range (lo := 0) (n := 0) (fun j σ H' => ∃ u6 u7 u8 u9 u10 u11 u12 u13 : Option V, σ = [some (.ref a), some (.ref TT), some (.int (0 + (i : Nat))), some (.int n), some (.ref t), some (.ref x), u6, u7, u8, u9, u10, u11, u12, u13] ∧ Tp H' TT L ∧ ExT TT H5 H')
          ⟨_, _, _, _, _, _, _, _, rfl, hT7, e7.exT⟩ (fun j σ H' hj _ => absurd hj (Nat.not_lt_zero _)) (fun σ H' h => h)⟩
    rintro σ H9 ⟨u6, u7, u8, u9, u10, u11, u12, u13, rfl, hT9, e9⟩
    obtain ⟨l5, hl5⟩ := hT5.lst
    have W9 := W.exT e9 hl5
    obtain ⟨⟨dy, fs, g1, g2, g3⟩, us, g4, g5⟩ := id W9
    refine ⟨_, rfl, x, C, dy, fs, _, rfl, g1, T.cl, T.nSize, g2, _, rfl, x, C, dy, fs, _, rfl, g1, T.cl, T.nTies, g3, (by show 2 ≤ sizeLine; decide), fun p1 hp1 => ?_⟩
    have f1 := L2.Same.new (o := .tup [.int n, .ref t]) hp1
    refine ⟨_, rfl, _, rfl, (by show 2 ≤ sizeLine; decide), fun p2 hp2 => ?_⟩
    have f2 := L2.Same.new (o := .tup [.int n, .ref t]) hp2
    have f12 := f1.trans f2
    refine ⟨.ref p1, .ref p2, rfl, same_web (f2 _ _ upd_same) upd_same (f12 _ _ g4) (g5.tk f12.tk) (f12 _ _ g4) (g5.tk f12.tk) (Nat.le_trans hlen (by decide)), fun H20 f4 => ⟨true, rfl, iteF ?_⟩⟩
    exact ⟨_, _, _, _, _, _, _, _, _, _, _, _, rfl, (hT9.ext f12).ext f4⟩
end
end Bs

namespace Bs
open PySem PySem.Spec L2
theorem all_mk {l : PySem.W.OpenLaw} {w : World} {K : PySem.W.Frag} {h : Heap} {mg : Str → Option Value} {fa C_Web : Addr} {tk : Tok} (X : K.In h) (G : h.Ns mainGlobals mg) (hfa : mg "law" = some (.ref fa))
    {f_is_integer : Addr} {oc_is_integer kV_is_integer dc_is_integer pm_is_integer cd_is_integer ct_is_integer : Value} {od_is_integer an_is_integer : Option Addr} {sl_is_integer : Array (Option Value)}
    {f_is_number : Addr} {oc_is_number kV_is_number dc_is_number pm_is_number cd_is_number ct_is_number : Value} {od_is_number an_is_number : Option Addr} {sl_is_number : Array (Option Value)}
    {f_is_part : Addr} {oc_is_part kV_is_part dc_is_part pm_is_part cd_is_part ct_is_part : Value} {od_is_part an_is_part : Option Addr} {sl_is_part : Array (Option Value)}
    {f_check_part : Addr} {oc_check_part kV_check_part dc_check_part pm_check_part cd_check_part ct_check_part : Value} {od_check_part an_check_part : Option Addr} {sl_check_part : Array (Option Value)}
    {f_is_tie : Addr} {oc_is_tie kV_is_tie dc_is_tie pm_is_tie cd_is_tie ct_is_tie : Value} {od_is_tie an_is_tie : Option Addr} {sl_is_tie : Array (Option Value)}
    {f_wrong_tie : Addr} {oc_wrong_tie kV_wrong_tie dc_wrong_tie pm_wrong_tie cd_wrong_tie ct_wrong_tie : Value} {od_wrong_tie an_wrong_tie : Option Addr} {sl_wrong_tie : Array (Option Value)}
    {f_tie_of : Addr} {oc_tie_of kV_tie_of dc_tie_of pm_tie_of cd_tie_of ct_tie_of : Value} {od_tie_of an_tie_of : Option Addr} {sl_tie_of : Array (Option Value)}
    {f_web_of_any_size : Addr} {oc_web_of_any_size kV_web_of_any_size dc_web_of_any_size pm_web_of_any_size cd_web_of_any_size ct_web_of_any_size : Value} {od_web_of_any_size an_web_of_any_size : Option Addr} {sl_web_of_any_size : Array (Option Value)}
    {f_tied_to : Addr} {oc_tied_to kV_tied_to dc_tied_to pm_tied_to cd_tied_to ct_tied_to : Value} {od_tied_to an_tied_to : Option Addr} {sl_tied_to : Array (Option Value)}
    {f_ties_without : Addr} {oc_ties_without kV_ties_without dc_ties_without pm_ties_without cd_ties_without ct_ties_without : Value} {od_ties_without an_ties_without : Option Addr} {sl_ties_without : Array (Option Value)}
    {f_tie : Addr} {oc_tie kV_tie dc_tie pm_tie cd_tie ct_tie : Value} {od_tie an_tie : Option Addr} {sl_tie : Array (Option Value)}
    {f_untie : Addr} {oc_untie kV_untie dc_untie pm_untie cd_untie ct_untie : Value} {od_untie an_untie : Option Addr} {sl_untie : Array (Option Value)}
    {f__law_tape : Addr} {oc__law_tape kV__law_tape dc__law_tape pm__law_tape cd__law_tape ct__law_tape : Value} {od__law_tape an__law_tape : Option Addr} {sl__law_tape : Array (Option Value)}
    {f__law_pick : Addr} {oc__law_pick kV__law_pick dc__law_pick pm__law_pick cd__law_pick ct__law_pick : Value} {od__law_pick an__law_pick : Option Addr} {sl__law_pick : Array (Option Value)}
    {f__law_is_integer : Addr} {oc__law_is_integer kV__law_is_integer dc__law_is_integer pm__law_is_integer cd__law_is_integer ct__law_is_integer : Value} {od__law_is_integer an__law_is_integer : Option Addr} {sl__law_is_integer : Array (Option Value)}
    {f__law_same : Addr} {oc__law_same kV__law_same dc__law_same pm__law_same cd__law_same ct__law_same : Value} {od__law_same an__law_same : Option Addr} {sl__law_same : Array (Option Value)}
    {f__law_mixed : Addr} {oc__law_mixed kV__law_mixed dc__law_mixed pm__law_mixed cd__law_mixed ct__law_mixed : Value} {od__law_mixed an__law_mixed : Option Addr} {sl__law_mixed : Array (Option Value)}
    {f__law_web : Addr} {oc__law_web kV__law_web dc__law_web pm__law_web cd__law_web ct__law_web : Value} {od__law_web an__law_web : Option Addr} {sl__law_web : Array (Option Value)}
    {f__law_tied : Addr} {oc__law_tied kV__law_tied dc__law_tied pm__law_tied cd__law_tied ct__law_tied : Value} {od__law_tied an__law_tied : Option Addr} {sl__law_tied : Array (Option Value)}
    {f_law : Addr} {oc_law kV_law dc_law pm_law cd_law ct_law : Value} {od_law an_law : Option Addr} {sl_law : Array (Option Value)}
    {f_Web_init : Addr} {oc_Web_init kV_Web_init dc_Web_init pm_Web_init cd_Web_init ct_Web_init : Value} {od_Web_init an_Web_init : Option Addr} {sl_Web_init : Array (Option Value)}
    {f_Web_eq : Addr} {oc_Web_eq kV_Web_eq dc_Web_eq pm_Web_eq cd_Web_eq ct_Web_eq : Value} {od_Web_eq an_Web_eq : Option Addr} {sl_Web_eq : Array (Option Value)}
    (a_Web : PySem.W.nsIn K mainGlobals "Web" = some (some (.ref C_Web)))
    (a_MP : PySem.W.nsIn K mainGlobals "MOST_PARTS" = some (some (.int 24 tk)))
    (pg : PySem.W.plainGet K C_Web Str.empty = true)
    (hd : PySem.W.hasDictIn K C_Web = true)
    (po : PySem.W.plainOver K C_Web = true)
    (sa : PySem.W.findIn K (.ref C_Web) "__setattr__" = some (some (.builtin "object.__setattr__")))
    (mk : PySem.W.makesIn K C_Web = true)
    (kc : PySem.W.keepIn K (.ref C_Web) = true)
    (nS : PySem.W.findIn K (.ref C_Web) "size" = some none)
    (nT : PySem.W.findIn K (.ref C_Web) "ties" = some none)
    (xc : PySem.W.findIn K (.ref C_Web) "__class__" = some (some (.builtin "object.__class__")))
    (xg : PySem.W.specialIn K (.builtin "object.__class__") "__get__" = some (some (.builtin "getset_descriptor.__get__")))
    (xt : PySem.W.takesIn K (.builtin "object.__class__") = some true)
    (xm : PySem.W.mroIn K C_Web (.type "object") = some true)
    (xn : PySem.W.findIn K (.ref C_Web) "__ne__" = some (some (.builtin "object.__ne__")))
    (xs : PySem.W.subIn K (.ref C_Web) (.type "object") = some true)
    (a_is_integer : PySem.W.nsIn K mainGlobals "is_integer" = some (some (.ref f_is_integer)))
    (l_is_integer : K.lookup f_is_integer = some ⟨oc_is_integer, od_is_integer, .func (PySem.W.fnOf "is_integer" "is_integer" (defArgs s_is_integer) (defBody s_is_integer) (defScope s_is_integer) .none kV_is_integer dc_is_integer pm_is_integer an_is_integer cd_is_integer ct_is_integer), sl_is_integer⟩)
    (c_is_integer : PySem.W.codeIn K cd_is_integer "is_integer" = true)
    (k_is_integer : PySem.W.keepIn K (.ref f_is_integer) = true)
    (a_is_number : PySem.W.nsIn K mainGlobals "is_number" = some (some (.ref f_is_number)))
    (l_is_number : K.lookup f_is_number = some ⟨oc_is_number, od_is_number, .func (PySem.W.fnOf "is_number" "is_number" (defArgs s_is_number) (defBody s_is_number) (defScope s_is_number) .none kV_is_number dc_is_number pm_is_number an_is_number cd_is_number ct_is_number), sl_is_number⟩)
    (c_is_number : PySem.W.codeIn K cd_is_number "is_number" = true)
    (k_is_number : PySem.W.keepIn K (.ref f_is_number) = true)
    (a_is_part : PySem.W.nsIn K mainGlobals "is_part" = some (some (.ref f_is_part)))
    (l_is_part : K.lookup f_is_part = some ⟨oc_is_part, od_is_part, .func (PySem.W.fnOf "is_part" "is_part" (defArgs s_is_part) (defBody s_is_part) (defScope s_is_part) .none kV_is_part dc_is_part pm_is_part an_is_part cd_is_part ct_is_part), sl_is_part⟩)
    (c_is_part : PySem.W.codeIn K cd_is_part "is_part" = true)
    (k_is_part : PySem.W.keepIn K (.ref f_is_part) = true)
    (a_check_part : PySem.W.nsIn K mainGlobals "check_part" = some (some (.ref f_check_part)))
    (l_check_part : K.lookup f_check_part = some ⟨oc_check_part, od_check_part, .func (PySem.W.fnOf "check_part" "check_part" (defArgs s_check_part) (defBody s_check_part) (defScope s_check_part) .none kV_check_part dc_check_part pm_check_part an_check_part cd_check_part ct_check_part), sl_check_part⟩)
    (c_check_part : PySem.W.codeIn K cd_check_part "check_part" = true)
    (k_check_part : PySem.W.keepIn K (.ref f_check_part) = true)
    (a_is_tie : PySem.W.nsIn K mainGlobals "is_tie" = some (some (.ref f_is_tie)))
    (l_is_tie : K.lookup f_is_tie = some ⟨oc_is_tie, od_is_tie, .func (PySem.W.fnOf "is_tie" "is_tie" (defArgs s_is_tie) (defBody s_is_tie) (defScope s_is_tie) .none kV_is_tie dc_is_tie pm_is_tie an_is_tie cd_is_tie ct_is_tie), sl_is_tie⟩)
    (c_is_tie : PySem.W.codeIn K cd_is_tie "is_tie" = true)
    (k_is_tie : PySem.W.keepIn K (.ref f_is_tie) = true)
    (a_wrong_tie : PySem.W.nsIn K mainGlobals "wrong_tie" = some (some (.ref f_wrong_tie)))
    (l_wrong_tie : K.lookup f_wrong_tie = some ⟨oc_wrong_tie, od_wrong_tie, .func (PySem.W.fnOf "wrong_tie" "wrong_tie" (defArgs s_wrong_tie) (defBody s_wrong_tie) (defScope s_wrong_tie) .none kV_wrong_tie dc_wrong_tie pm_wrong_tie an_wrong_tie cd_wrong_tie ct_wrong_tie), sl_wrong_tie⟩)
    (c_wrong_tie : PySem.W.codeIn K cd_wrong_tie "wrong_tie" = true)
    (k_wrong_tie : PySem.W.keepIn K (.ref f_wrong_tie) = true)
    (a_tie_of : PySem.W.nsIn K mainGlobals "tie_of" = some (some (.ref f_tie_of)))
    (l_tie_of : K.lookup f_tie_of = some ⟨oc_tie_of, od_tie_of, .func (PySem.W.fnOf "tie_of" "tie_of" (defArgs s_tie_of) (defBody s_tie_of) (defScope s_tie_of) .none kV_tie_of dc_tie_of pm_tie_of an_tie_of cd_tie_of ct_tie_of), sl_tie_of⟩)
    (c_tie_of : PySem.W.codeIn K cd_tie_of "tie_of" = true)
    (k_tie_of : PySem.W.keepIn K (.ref f_tie_of) = true)
    (a_web_of_any_size : PySem.W.nsIn K mainGlobals "web_of_any_size" = some (some (.ref f_web_of_any_size)))
    (l_web_of_any_size : K.lookup f_web_of_any_size = some ⟨oc_web_of_any_size, od_web_of_any_size, .func (PySem.W.fnOf "web_of_any_size" "web_of_any_size" (defArgs s_web_of_any_size) (defBody s_web_of_any_size) (defScope s_web_of_any_size) .none kV_web_of_any_size dc_web_of_any_size pm_web_of_any_size an_web_of_any_size cd_web_of_any_size ct_web_of_any_size), sl_web_of_any_size⟩)
    (c_web_of_any_size : PySem.W.codeIn K cd_web_of_any_size "web_of_any_size" = true)
    (k_web_of_any_size : PySem.W.keepIn K (.ref f_web_of_any_size) = true)
    (a_tied_to : PySem.W.nsIn K mainGlobals "tied_to" = some (some (.ref f_tied_to)))
    (l_tied_to : K.lookup f_tied_to = some ⟨oc_tied_to, od_tied_to, .func (PySem.W.fnOf "tied_to" "tied_to" (defArgs s_tied_to) (defBody s_tied_to) (defScope s_tied_to) .none kV_tied_to dc_tied_to pm_tied_to an_tied_to cd_tied_to ct_tied_to), sl_tied_to⟩)
    (c_tied_to : PySem.W.codeIn K cd_tied_to "tied_to" = true)
    (k_tied_to : PySem.W.keepIn K (.ref f_tied_to) = true)
    (a_ties_without : PySem.W.nsIn K mainGlobals "ties_without" = some (some (.ref f_ties_without)))
    (l_ties_without : K.lookup f_ties_without = some ⟨oc_ties_without, od_ties_without, .func (PySem.W.fnOf "ties_without" "ties_without" (defArgs s_ties_without) (defBody s_ties_without) (defScope s_ties_without) .none kV_ties_without dc_ties_without pm_ties_without an_ties_without cd_ties_without ct_ties_without), sl_ties_without⟩)
    (c_ties_without : PySem.W.codeIn K cd_ties_without "ties_without" = true)
    (k_ties_without : PySem.W.keepIn K (.ref f_ties_without) = true)
    (a_tie : PySem.W.nsIn K mainGlobals "tie" = some (some (.ref f_tie)))
    (l_tie : K.lookup f_tie = some ⟨oc_tie, od_tie, .func (PySem.W.fnOf "tie" "tie" (defArgs s_tie) (defBody s_tie) (defScope s_tie) .none kV_tie dc_tie pm_tie an_tie cd_tie ct_tie), sl_tie⟩)
    (c_tie : PySem.W.codeIn K cd_tie "tie" = true)
    (k_tie : PySem.W.keepIn K (.ref f_tie) = true)
    (a_untie : PySem.W.nsIn K mainGlobals "untie" = some (some (.ref f_untie)))
    (l_untie : K.lookup f_untie = some ⟨oc_untie, od_untie, .func (PySem.W.fnOf "untie" "untie" (defArgs s_untie) (defBody s_untie) (defScope s_untie) .none kV_untie dc_untie pm_untie an_untie cd_untie ct_untie), sl_untie⟩)
    (c_untie : PySem.W.codeIn K cd_untie "untie" = true)
    (k_untie : PySem.W.keepIn K (.ref f_untie) = true)
    (a__law_tape : PySem.W.nsIn K mainGlobals "_law_tape" = some (some (.ref f__law_tape)))
    (l__law_tape : K.lookup f__law_tape = some ⟨oc__law_tape, od__law_tape, .func (PySem.W.fnOf "_law_tape" "_law_tape" (defArgs s__law_tape) (defBody s__law_tape) (defScope s__law_tape) .none kV__law_tape dc__law_tape pm__law_tape an__law_tape cd__law_tape ct__law_tape), sl__law_tape⟩)
    (c__law_tape : PySem.W.codeIn K cd__law_tape "_law_tape" = true)
    (k__law_tape : PySem.W.keepIn K (.ref f__law_tape) = true)
    (a__law_pick : PySem.W.nsIn K mainGlobals "_law_pick" = some (some (.ref f__law_pick)))
    (l__law_pick : K.lookup f__law_pick = some ⟨oc__law_pick, od__law_pick, .func (PySem.W.fnOf "_law_pick" "_law_pick" (defArgs s__law_pick) (defBody s__law_pick) (defScope s__law_pick) .none kV__law_pick dc__law_pick pm__law_pick an__law_pick cd__law_pick ct__law_pick), sl__law_pick⟩)
    (c__law_pick : PySem.W.codeIn K cd__law_pick "_law_pick" = true)
    (k__law_pick : PySem.W.keepIn K (.ref f__law_pick) = true)
    (a__law_is_integer : PySem.W.nsIn K mainGlobals "_law_is_integer" = some (some (.ref f__law_is_integer)))
    (l__law_is_integer : K.lookup f__law_is_integer = some ⟨oc__law_is_integer, od__law_is_integer, .func (PySem.W.fnOf "_law_is_integer" "_law_is_integer" (defArgs s__law_is_integer) (defBody s__law_is_integer) (defScope s__law_is_integer) .none kV__law_is_integer dc__law_is_integer pm__law_is_integer an__law_is_integer cd__law_is_integer ct__law_is_integer), sl__law_is_integer⟩)
    (c__law_is_integer : PySem.W.codeIn K cd__law_is_integer "_law_is_integer" = true)
    (k__law_is_integer : PySem.W.keepIn K (.ref f__law_is_integer) = true)
    (a__law_same : PySem.W.nsIn K mainGlobals "_law_same" = some (some (.ref f__law_same)))
    (l__law_same : K.lookup f__law_same = some ⟨oc__law_same, od__law_same, .func (PySem.W.fnOf "_law_same" "_law_same" (defArgs s__law_same) (defBody s__law_same) (defScope s__law_same) .none kV__law_same dc__law_same pm__law_same an__law_same cd__law_same ct__law_same), sl__law_same⟩)
    (c__law_same : PySem.W.codeIn K cd__law_same "_law_same" = true)
    (k__law_same : PySem.W.keepIn K (.ref f__law_same) = true)
    (a__law_mixed : PySem.W.nsIn K mainGlobals "_law_mixed" = some (some (.ref f__law_mixed)))
    (l__law_mixed : K.lookup f__law_mixed = some ⟨oc__law_mixed, od__law_mixed, .func (PySem.W.fnOf "_law_mixed" "_law_mixed" (defArgs s__law_mixed) (defBody s__law_mixed) (defScope s__law_mixed) .none kV__law_mixed dc__law_mixed pm__law_mixed an__law_mixed cd__law_mixed ct__law_mixed), sl__law_mixed⟩)
    (c__law_mixed : PySem.W.codeIn K cd__law_mixed "_law_mixed" = true)
    (k__law_mixed : PySem.W.keepIn K (.ref f__law_mixed) = true)
    (a__law_web : PySem.W.nsIn K mainGlobals "_law_web" = some (some (.ref f__law_web)))
    (l__law_web : K.lookup f__law_web = some ⟨oc__law_web, od__law_web, .func (PySem.W.fnOf "_law_web" "_law_web" (defArgs s__law_web) (defBody s__law_web) (defScope s__law_web) .none kV__law_web dc__law_web pm__law_web an__law_web cd__law_web ct__law_web), sl__law_web⟩)
    (c__law_web : PySem.W.codeIn K cd__law_web "_law_web" = true)
    (k__law_web : PySem.W.keepIn K (.ref f__law_web) = true)
    (a__law_tied : PySem.W.nsIn K mainGlobals "_law_tied" = some (some (.ref f__law_tied)))
    (l__law_tied : K.lookup f__law_tied = some ⟨oc__law_tied, od__law_tied, .func (PySem.W.fnOf "_law_tied" "_law_tied" (defArgs s__law_tied) (defBody s__law_tied) (defScope s__law_tied) .none kV__law_tied dc__law_tied pm__law_tied an__law_tied cd__law_tied ct__law_tied), sl__law_tied⟩)
    (c__law_tied : PySem.W.codeIn K cd__law_tied "_law_tied" = true)
    (k__law_tied : PySem.W.keepIn K (.ref f__law_tied) = true)
    (a_law : PySem.W.nsIn K mainGlobals "law" = some (some (.ref f_law)))
    (l_law : K.lookup f_law = some ⟨oc_law, od_law, .func (PySem.W.fnOf "law" "law" (defArgs s_law) (defBody s_law) (defScope s_law) .none kV_law dc_law pm_law an_law cd_law ct_law), sl_law⟩)
    (c_law : PySem.W.codeIn K cd_law "law" = true)
    (k_law : PySem.W.keepIn K (.ref f_law) = true)
    (a_Web_init : PySem.W.findIn K (.ref C_Web) "__init__" = some (some (.ref f_Web_init)))
    (i_Web_init : PySem.W.isFn K (.ref f_Web_init) = true)
    (l_Web_init : K.lookup f_Web_init = some ⟨oc_Web_init, od_Web_init, .func (PySem.W.fnOf "__init__" "Web.__init__" (defArgs s_Web_init) (defBody s_Web_init) (defScope s_Web_init) .none kV_Web_init dc_Web_init pm_Web_init an_Web_init cd_Web_init ct_Web_init), sl_Web_init⟩)
    (c_Web_init : PySem.W.codeIn K cd_Web_init "Web.__init__" = true)
    (k_Web_init : PySem.W.keepIn K (.ref f_Web_init) = true)
    (a_Web_eq : PySem.W.findIn K (.ref C_Web) "__eq__" = some (some (.ref f_Web_eq)))
    (i_Web_eq : PySem.W.isFn K (.ref f_Web_eq) = true)
    (l_Web_eq : K.lookup f_Web_eq = some ⟨oc_Web_eq, od_Web_eq, .func (PySem.W.fnOf "__eq__" "Web.__eq__" (defArgs s_Web_eq) (defBody s_Web_eq) (defScope s_Web_eq) .none kV_Web_eq dc_Web_eq pm_Web_eq an_Web_eq cd_Web_eq ct_Web_eq), sl_Web_eq⟩)
    (c_Web_eq : PySem.W.codeIn K cd_Web_eq "Web.__eq__" = true)
    (k_Web_eq : PySem.W.keepIn K (.ref f_Web_eq) = true)
    (z_isinstance : PySem.W.nsIn K mainGlobals "isinstance" = some none)
    (z_len : PySem.W.nsIn K mainGlobals "len" = some none)
    (z_sorted : PySem.W.nsIn K mainGlobals "sorted" = some none)
    (z_min : PySem.W.nsIn K mainGlobals "min" = some none)
    (z_max : PySem.W.nsIn K mainGlobals "max" = some none)
    (z_all : PySem.W.nsIn K mainGlobals "all" = some none)
    (z_zip : PySem.W.nsIn K mainGlobals "zip" = some none)
    (z_range : PySem.W.nsIn K mainGlobals "range" = some none)
    (z_enumerate : PySem.W.nsIn K mainGlobals "enumerate" = some none)
    (z_int : PySem.W.nsIn K mainGlobals "int" = some none)
    (z_bool : PySem.W.nsIn K mainGlobals "bool" = some none)
    (z_str : PySem.W.nsIn K mainGlobals "str" = some none)
    (z_list : PySem.W.nsIn K mainGlobals "list" = some none)
    (z_tuple : PySem.W.nsIn K mainGlobals "tuple" = some none) :
    ∃ fd : FuncData, (∀ (s : Shared) (v : Value), BindsTo s fd ⟨[v], []⟩ [("script", v)]) ∧ ∀ base : Heap, K.In base → base.Ns mainGlobals mg → FnOk l.prog w K mg base CX0 9 fa fd ["script"] (sp_law (K := K)) := by
  have e := hfa.symm.trans (PySem.W.mg_of X G a_law)
  cases e
  have B : Bl mg := ⟨PySem.W.mg_none_of X G z_isinstance, PySem.W.mg_none_of X G z_len, PySem.W.mg_none_of X G z_sorted, PySem.W.mg_none_of X G z_min, PySem.W.mg_none_of X G z_max, PySem.W.mg_none_of X G z_all, PySem.W.mg_none_of X G z_zip, PySem.W.mg_none_of X G z_range, PySem.W.mg_none_of X G z_enumerate, PySem.W.mg_none_of X G z_int, PySem.W.mg_none_of X G z_bool, PySem.W.mg_none_of X G z_str, PySem.W.mg_none_of X G z_list, PySem.W.mg_none_of X G z_tuple⟩
  have T : Txt K mg C_Web := ⟨⟨pg, hd, po, sa⟩, nS, nT, PySem.W.mg_of X G a_Web, ⟨_, PySem.W.mg_of X G a_MP⟩, xc, xg, xt, xm⟩
  have F_is_integer := fun_mk (st := s_is_integer) l_is_integer c_is_integer k_is_integer
  have m_is_integer := PySem.W.mg_of X G a_is_integer
  have F_is_number := fun_mk (st := s_is_number) l_is_number c_is_number k_is_number
  have m_is_number := PySem.W.mg_of X G a_is_number
  have F_is_part := fun_mk (st := s_is_part) l_is_part c_is_part k_is_part
  have m_is_part := PySem.W.mg_of X G a_is_part
  have F_check_part := fun_mk (st := s_check_part) l_check_part c_check_part k_check_part
  have m_check_part := PySem.W.mg_of X G a_check_part
  have F_is_tie := fun_mk (st := s_is_tie) l_is_tie c_is_tie k_is_tie
  have m_is_tie := PySem.W.mg_of X G a_is_tie
  have F_wrong_tie := fun_mk (st := s_wrong_tie) l_wrong_tie c_wrong_tie k_wrong_tie
  have m_wrong_tie := PySem.W.mg_of X G a_wrong_tie
  have F_tie_of := fun_mk (st := s_tie_of) l_tie_of c_tie_of k_tie_of
  have m_tie_of := PySem.W.mg_of X G a_tie_of
  have F_web_of_any_size := fun_mk (st := s_web_of_any_size) l_web_of_any_size c_web_of_any_size k_web_of_any_size
  have m_web_of_any_size := PySem.W.mg_of X G a_web_of_any_size
  have F_tied_to := fun_mk (st := s_tied_to) l_tied_to c_tied_to k_tied_to
  have m_tied_to := PySem.W.mg_of X G a_tied_to
  have F_ties_without := fun_mk (st := s_ties_without) l_ties_without c_ties_without k_ties_without
  have m_ties_without := PySem.W.mg_of X G a_ties_without
  have F_tie := fun_mk (st := s_tie) l_tie c_tie k_tie
  have m_tie := PySem.W.mg_of X G a_tie
  have F_untie := fun_mk (st := s_untie) l_untie c_untie k_untie
  have m_untie := PySem.W.mg_of X G a_untie
  have F__law_tape := fun_mk (st := s__law_tape) l__law_tape c__law_tape k__law_tape
  have m__law_tape := PySem.W.mg_of X G a__law_tape
  have F__law_pick := fun_mk (st := s__law_pick) l__law_pick c__law_pick k__law_pick
  have m__law_pick := PySem.W.mg_of X G a__law_pick
  have F__law_is_integer := fun_mk (st := s__law_is_integer) l__law_is_integer c__law_is_integer k__law_is_integer
  have m__law_is_integer := PySem.W.mg_of X G a__law_is_integer
  have F__law_same := fun_mk (st := s__law_same) l__law_same c__law_same k__law_same
  have m__law_same := PySem.W.mg_of X G a__law_same
  have F__law_mixed := fun_mk (st := s__law_mixed) l__law_mixed c__law_mixed k__law_mixed
  have m__law_mixed := PySem.W.mg_of X G a__law_mixed
  have F__law_web := fun_mk (st := s__law_web) l__law_web c__law_web k__law_web
  have m__law_web := PySem.W.mg_of X G a__law_web
  have F__law_tied := fun_mk (st := s__law_tied) l__law_tied c__law_tied k__law_tied
  have m__law_tied := PySem.W.mg_of X G a__law_tied
  have F_law := fun_mk (st := s_law) l_law c_law k_law
  have m_law := PySem.W.mg_of X G a_law
  have F_Web_init := fun_mk (st := s_Web_init) l_Web_init c_Web_init k_Web_init
  have F_Web_eq := fun_mk (st := s_Web_eq) l_Web_eq c_Web_eq k_Web_eq
  refine ⟨PySem.W.fnOf "law" "law" (defArgs s_law) (defBody s_law) (defScope s_law) .none kV_law dc_law pm_law an_law cd_law ct_law, fun s v => .of_eq rfl, fun base _ _ => ?_⟩
  have c1 := ok_is_integer (P := l.prog) (w := w) (base := base) F_is_integer m_is_integer B
  have c2 := ok_is_number F_is_number m_is_number B c1
  have c3 := ok_is_part F_is_part m_is_part B T c2
  have c4 := ok_check_part F_check_part m_check_part B T c3
  have c5 := ok_is_tie F_is_tie m_is_tie B c2
  have c6 := ok_wrong_tie F_wrong_tie m_wrong_tie B c5
  have wI := ok_Web_init F_Web_init B T c2 c6
  have bI := F_Web_init.binds (ps := ["self", "size", "ties"]) fun _ _ _ _ _ _ us hl => match us, hl with | [_, _, _], _ => rfl
  have mW : Mkc l.prog w K mg base 5 C_Web "Web" ["self", "size", "ties"] (sp_Web_init C_Web) := ⟨f_Web_init, _, ⟨mk, a_Web_init, i_Web_init, kc⟩, wI, T.mg_Web, bI⟩
  have wE := ok_Web_eq (P := l.prog) (w := w) (base := base) F_Web_eq B T
  have bE := F_Web_eq.binds (ps := ["self", "other"]) fun _ _ _ _ _ _ us hl => match us, hl with | [_, _], _ => rfl
  have N : OwnNe K C_Web f_Web_eq := ⟨a_Web_eq, i_Web_eq, xn, xs⟩
  have c6b := ok_tie_of (P := l.prog) (w := w) (base := base) F_tie_of m_tie_of B
  have c7 := ok_web_of_any_size F_web_of_any_size m_web_of_any_size B T mW c6b
  have c8 := ok_tied_to F_tied_to m_tied_to B T c4
  have c9 := ok_ties_without F_ties_without m_ties_without B T c4 c6b
  have c10 := ok_tie F_tie m_tie B T c9 c7
  have c11 := ok_untie F_untie m_untie B T c9 c7
  have t1 := ok_law_tape (P := l.prog) (w := w) (base := base) F__law_tape m__law_tape B
  have t2 := ok_law_pick (P := l.prog) (w := w) (base := base) F__law_pick m__law_pick B
  have t3 := ok_law_is_integer (P := l.prog) (w := w) (base := base) F__law_is_integer m__law_is_integer B
  have t4 : Cal l.prog w K mg base 5 "_law_same" ["told", "due"] (spSame 3) := ⟨_, _, ok_law_same F__law_same m__law_same B t3 3, m__law_same, F__law_same.kp, F__law_same.binds (ps := ["told", "due"]) fun _ _ _ _ _ _ us hl => match us, hl with | [_, _], _ => rfl⟩
  have t5 := ok_law_mixed F__law_mixed m__law_mixed B t2
  have t6 := ok_law_web F__law_web m__law_web B t2 t5
  have t7 := ok_law_tied (P := l.prog) (w := w) (base := base) F__law_tied m__law_tied B
  exact ok_law F_law B T N wE bE mW c8 c10 c11 t1 t2 t4 t6 t7
theorem walk {l : PySem.W.OpenLaw} {q : Program} {loose : List Str} {XP : (Str → Option Value) → Heap → Prop} {YP : World → Heap → Prop} {d : DefRec} {K : Params → PySem.W.Frag} (hn : l.most = some 63) (hdf : d.params.defaults = [])
    (hY : ∀ (w : World) (h : Heap), YP w h → (K w.params).In h)
    (F : ∀ (w : World) (mg : Str → Option Value) (fa : Addr) (h : Heap), (K w.params).In h → h.Ns mainGlobals mg → mg d.name = some (.ref fa) →
      ∃ fd : FuncData, (∀ (s : Shared) (u : Value), BindsTo s fd ⟨[u], []⟩ [("script", u)]) ∧ ∀ base : Heap, (K w.params).In base → base.Ns mainGlobals mg → FnOk l.prog w (K w.params) mg base CX0 9 fa fd ["script"] (sp_law (K w.params))) :
    PySem.W.WalkO q loose XP YP l.row.toRowW d [] (fun f vs => PySem.call f vs) :=
  L2.walk_of (n := 63) (k := 9) (x := "script") (CX := fun _ => CX0) (sp := fun w => sp_law (K w.params)) hn (by decide) hdf ⟨rfl, by decide, by decide⟩ hY F (fun _ _ a ns hl _ hS => ⟨a, ns, rfl, hS, fun _ => rfl⟩) fun _ _ _ _ _ z => z
end Bs

open PySem PySem.W PyProof.Rows in
set_option maxRecDepth 100000 in
set_option maxHeartbeats 0 in
theorem PySem.Challenge.cw_silencers_k03_whole_ties_holds : PySem.Challenge.rw_silencers_k03_whole_ties.Holds := by
  w_on; o_law; k_head; (case hw => w_witness2)
  k_fill
  refine Bs.walk (l := PySem.Challenge.rw_silencers_k03_whole_ties) rfl rfl (fun w h Y => PySem.W.kIn_of Y) ?F
  case F =>
    intro w mg fa h KX G hmg
    refine' Bs.all_mk KX G hmg ?a_Web ?a_MP ?pg ?hd ?po ?sa ?mk ?kc ?nS ?nT ?xc ?xg ?xt ?xm ?xn ?xs ?a_is_integer ?l_is_integer ?c_is_integer ?k_is_integer ?a_is_number ?l_is_number ?c_is_number ?k_is_number ?a_is_part ?l_is_part ?c_is_part ?k_is_part ?a_check_part ?l_check_part ?c_check_part ?k_check_part ?a_is_tie ?l_is_tie ?c_is_tie ?k_is_tie ?a_wrong_tie ?l_wrong_tie ?c_wrong_tie ?k_wrong_tie ?a_tie_of ?l_tie_of ?c_tie_of ?k_tie_of ?a_web_of_any_size ?l_web_of_any_size ?c_web_of_any_size ?k_web_of_any_size ?a_tied_to ?l_tied_to ?c_tied_to ?k_tied_to ?a_ties_without ?l_ties_without ?c_ties_without ?k_ties_without ?a_tie ?l_tie ?c_tie ?k_tie ?a_untie ?l_untie ?c_untie ?k_untie ?a__law_tape ?l__law_tape ?c__law_tape ?k__law_tape ?a__law_pick ?l__law_pick ?c__law_pick ?k__law_pick ?a__law_is_integer ?l__law_is_integer ?c__law_is_integer ?k__law_is_integer ?a__law_same ?l__law_same ?c__law_same ?k__law_same ?a__law_mixed ?l__law_mixed ?c__law_mixed ?k__law_mixed ?a__law_web ?l__law_web ?c__law_web ?k__law_web ?a__law_tied ?l__law_tied ?c__law_tied ?k__law_tied ?a_law ?l_law ?c_law ?k_law ?a_Web_init ?i_Web_init ?l_Web_init ?c_Web_init ?k_Web_init ?a_Web_eq ?i_Web_eq ?l_Web_eq ?c_Web_eq ?k_Web_eq ?z_isinstance ?z_len ?z_sorted ?z_min ?z_max ?z_all ?z_zip ?z_range ?z_enumerate ?z_int ?z_bool ?z_str ?z_list ?z_tuple
    (case a_Web => k_is)
    (case a_MP => k_is)
    (case pg => k_is)
    (case hd => k_is)
    (case po => k_is)
    (case sa => k_is)
    (case mk => k_is)
    (case kc => k_is)
    (case nS => k_is)
    (case nT => k_is)
    (case xc => k_is)
    (case xg => k_is)
    (case xt => k_is)
    (case xm => k_is)
    (case xn => k_is)
    (case xs => k_is)
    (case a_is_integer => k_is)
    (case l_is_integer => k_is)
    (case c_is_integer => k_is)
    (case k_is_integer => k_is)
    (case a_is_number => k_is)
    (case l_is_number => k_is)
    (case c_is_number => k_is)
    (case k_is_number => k_is)
    (case a_is_part => k_is)
    (case l_is_part => k_is)
    (case c_is_part => k_is)
    (case k_is_part => k_is)
    (case a_check_part => k_is)
    (case l_check_part => k_is)
    (case c_check_part => k_is)
    (case k_check_part => k_is)
    (case a_is_tie => k_is)
    (case l_is_tie => k_is)
    (case c_is_tie => k_is)
    (case k_is_tie => k_is)
    (case a_wrong_tie => k_is)
    (case l_wrong_tie => k_is)
    (case c_wrong_tie => k_is)
    (case k_wrong_tie => k_is)
    (case a_tie_of => k_is)
    (case l_tie_of => k_is)
    (case c_tie_of => k_is)
    (case k_tie_of => k_is)
    (case a_web_of_any_size => k_is)
    (case l_web_of_any_size => k_is)
    (case c_web_of_any_size => k_is)
    (case k_web_of_any_size => k_is)
    (case a_tied_to => k_is)
    (case l_tied_to => k_is)
    (case c_tied_to => k_is)
    (case k_tied_to => k_is)
    (case a_ties_without => k_is)
    (case l_ties_without => k_is)
    (case c_ties_without => k_is)
    (case k_ties_without => k_is)
    (case a_tie => k_is)
    (case l_tie => k_is)
    (case c_tie => k_is)
    (case k_tie => k_is)
    (case a_untie => k_is)
    (case l_untie => k_is)
    (case c_untie => k_is)
    (case k_untie => k_is)
    (case a__law_tape => k_is)
    (case l__law_tape => k_is)
    (case c__law_tape => k_is)
    (case k__law_tape => k_is)
    (case a__law_pick => k_is)
    (case l__law_pick => k_is)
    (case c__law_pick => k_is)
    (case k__law_pick => k_is)
    (case a__law_is_integer => k_is)
    (case l__law_is_integer => k_is)
    (case c__law_is_integer => k_is)
    (case k__law_is_integer => k_is)
    (case a__law_same => k_is)
    (case l__law_same => k_is)
    (case c__law_same => k_is)
    (case k__law_same => k_is)
    (case a__law_mixed => k_is)
    (case l__law_mixed => k_is)
    (case c__law_mixed => k_is)
    (case k__law_mixed => k_is)
    (case a__law_web => k_is)
    (case l__law_web => k_is)
    (case c__law_web => k_is)
    (case k__law_web => k_is)
    (case a__law_tied => k_is)
    (case l__law_tied => k_is)
    (case c__law_tied => k_is)
    (case k__law_tied => k_is)
    (case a_law => k_is)
    (case l_law => k_is)
    (case c_law => k_is)
    (case k_law => k_is)
    (case a_Web_init => k_is)
    (case i_Web_init => k_is)
    (case l_Web_init => k_is)
    (case c_Web_init => k_is)
    (case k_Web_init => k_is)
    (case a_Web_eq => k_is)
    (case i_Web_eq => k_is)
    (case l_Web_eq => k_is)
    (case c_Web_eq => k_is)
    (case k_Web_eq => k_is)
    (case z_isinstance => k_is)
    (case z_len => k_is)
    (case z_sorted => k_is)
    (case z_min => k_is)
    (case z_max => k_is)
    (case z_all => k_is)
    (case z_zip => k_is)
    (case z_range => k_is)
    (case z_enumerate => k_is)
    (case z_int => k_is)
    (case z_bool => k_is)
    (case z_str => k_is)
    (case z_list => k_is)
    (case z_tuple => k_is)

