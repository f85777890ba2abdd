import PyProof.Rows.All
import Wide.All
import OpenK.AllK
import Wide.FinOn
import PyProof.EnumMake
import PyProof.Draws
import PyProof.InstNe
import HandS.ForMost
import HandS.IsInst
import HandS.Zip0
import HandS.Zip
import HandS.Conv
import HandS.Deep
import HandS.SortRule
import HandS.SortInts
import HandS.TupLe
import HandS.OwnEq
import HandS.Walk
import HandS.Evl
import HandS.WideBits
import PySem.Challenge.RW_silencers_k12_whole_calls_by_own_ties
set_option Elab.async false
set_option linter.all false
set_option maxRecDepth 100000
set_option maxHeartbeats 4000000
namespace Bs
open PySem PySem.Spec PyProof.Rows L2
/-! ## enumerate over a tuple -/
theorem draws_tup {prog : Program} {w : World} {A : Around} (hh : A.handled = none) (it l : Addr) (hne : l ≠ it) (items : Array Value) :
    Draws prog w A it [it, l] items.size (fun i v => items[i]? = some v) (fun i h => h.IsTupleIter it l i ∧ h.IsTuple l items) where
  live := fun i h st => let ⟨⟨o, e, _⟩, _⟩ := st; ⟨o, e⟩
  frame := fun i h h' st k => ⟨st.1.at fun o e => k it (by simp) o e, st.2.at fun o e => k l (by simp) o e⟩
  item := fun i s Q E hi st hQ => by
    refine RZ.nextOf_tuple_item st.1 st.2 (x := items[i]) (by simp [hi]) fun h' hit' hs' => ?_
    exact hQ _ h' s.toks (by simp [hi]) ⟨hit', st.2.at fun o e => hs'.extBut l o hne e⟩ hs'
  done := fun s Q E st hQ => RZ.nextOf_tuple_end hh st.1 st.2 (by simp) hQ
theorem meets_enumerate_newT (l : Addr) (items : Array Value) (n : Nat) (dct : Option Addr) (sl : Array (Option Value)) :
    Meets (Builtin.«enumerate.__new__» ⟨[.type "enumerate", .ref l], []⟩) (fun _ R s => s.heap.get? l = some { cls := .type "tuple", dict := dct, data := .seq items n, slots := sl } ∧
      R (.ok (.ret (.ref (s.heap.push { cls := .type "tuple_iterator", data := .fields #[.ref l, .int 0 0] }).objs.size)))
        { s with heap := (s.heap.push { cls := .type "tuple_iterator", data := .fields #[.ref l, .int 0 0] }).push { cls := .type "enumerate", data := .fields #[.none, .bool false, .ref s.heap.objs.size, rawInt 0, .none, .none] } }) :=
  .of_wp fun prog w A R s h => by
    obtain ⟨hp, g, d, tk, os⟩ := s; obtain ⟨hl, h⟩ := h
    have hsub := sub_enumerate
    have hL : Heap.IsTuple (Shared.heap ⟨hp, g, d, tk, os⟩) l items := ⟨_, hl, rfl, n, rfl⟩
    wp_walk using AutoSeq1.wpAny_loadPart' hl
    refine wpAny_stack_any fun st => wpAny_pure ?_
    split
    · rename_i c _ _ _ _ _
      cases (c == Value.type "enumerate")
      · wp_walk using AutoSeq1.wpAny_loadPart' hl, wpAny_pyIter_tuple hL
        exact ⟨_, rfl, h⟩
      · wp_walk using AutoSeq1.wpAny_loadPart' hl, wpAny_pyIter_tuple hL
        exact ⟨_, rfl, h⟩
    · wp_walk using AutoSeq1.wpAny_loadPart' hl, wpAny_pyIter_tuple hL
      exact ⟨_, rfl, h⟩
section
variable {prog : Program} {w : World} {A : Around} {E : Value → Shared → Prop} {s : Shared}
theorem call_enumerate_tup {l : Addr} {items : Array Value} {Q : Value → Shared → Prop} (hL : s.heap.IsTuple l items)
    (h : ∀ h', IsEnum h' (s.heap.objs.size + 1) s.heap.objs.size 0 .none → h'.IsTupleIter s.heap.objs.size l 0 → h'.objs.size = s.heap.objs.size + 2 →
      (∀ b o, s.heap.get? b = some o → h'.get? b = some o) → Q (.ref (s.heap.objs.size + 1)) { s with heap := h' }) :
    wpAny (model prog w) A (call (.type "enumerate") [.ref l]) Q E s := by
  obtain ⟨⟨c, dct, dt, sl⟩, hl, hc, n, hd⟩ := hL
  replace hc : c = .type "tuple" := hc
  replace hd : dt = .seq items n := hd
  subst hc hd
  refine callType_new F.called_enumerate (by decide) (F.typeCall_enumerate_1 _) (F.newCall_enumerate_1 _) (fun obj => F.args_object_init_2 obj _) F.entry_enumerate_new
    (meets_enumerate_newT l items n dct sl) ⟨hl, ?_⟩
  have hz : (s.heap.push { cls := .type "tuple_iterator", data := .fields #[.ref l, .int 0 0] }).objs.size = s.heap.objs.size + 1 := Heap.size_push ..
  show _ ∧ _
  rw [hz]
  have he : IsEnum ((s.heap.push { cls := .type "tuple_iterator", data := .fields #[.ref l, .int 0 0] }).push
      { cls := .type "enumerate", data := .fields #[.none, .bool false, .ref s.heap.objs.size, rawInt 0, .none, .none] }) (s.heap.objs.size + 1) s.heap.objs.size 0 .none := by
    have := Heap.get?_push_size (s.heap.push { cls := .type "tuple_iterator", data := .fields #[.ref l, .int 0 0] })
      (o := { cls := .type "enumerate", data := .fields #[.none, .bool false, .ref s.heap.objs.size, rawInt 0, .none, .none] }) rfl
    rw [hz] at this; exact this
  refine ⟨⟨_, he, rfl⟩, h _ he ⟨_, Heap.get?_push_of_some _ (Heap.get?_push_size _ rfl), rfl, rfl⟩ (by rw [Heap.size_push, hz]) fun b o x => Heap.get?_push_of_some _ (Heap.get?_push_of_some _ x)⟩
end
/-- the tuple at a as it stands at each turn, each item in a new pair -/
def IteT (K : PySem.W.Frag) (a : Addr) : It :=
  ⟨fun i H => ∃ (xs : List V) (x : V), SqT K H a xs ∧ xs[i]? = some x, fun i H v H' => ∃ T x, v = .ref T ∧ H T = none ∧ H' = upd H T (.tup [.int (i : Nat), x]) ∧ ∀ xs, SqT K H a xs → xs[i]? = some x, fun i H => ∃ xs : List V, SqT K H a xs ∧ xs.length ≤ i⟩
theorem turn_enumT {P : Program} {w : World} {K : PySem.W.Frag} {elts : List Expr} {kk : Nat} {tpos : Pos} (a e it : Addr) :
    Turn P w K (.Tuple elts kk tpos) (IteT K a) [e, it] e (fun i h => (∃ old, IsEnum h e it ((i : Nat) : Int) old) ∧ h.IsTupleIter it a i ∧ e ≠ it ∧ a ≠ it ∧ a ≠ e) where
  mem := by simp
  obj := fun i h st b hb => by
    obtain ⟨⟨old, he⟩, ⟨o, ho, hc, hd⟩, _⟩ := st
    have e' : b = e ∨ b = it := by simpa using hb
    rcases e' with z | z
    · rw [z]; exact ⟨_, he, fun v q => nomatch q⟩
    · rw [z]; exact ⟨o, ho, fun v q => by rw [hd] at q; cases q⟩
  keep := fun i h h' st k => let ⟨⟨old, he⟩, hi, hne⟩ := st; ⟨⟨old, k e (by simp) _ he⟩, hi.at fun o q => k it (by simp) o q, hne⟩
  item := by
    intro X hP hw hK hc i pins s σ H E I hf st hg
    subst hP hw hK
    obtain ⟨⟨old, he⟩, hit, hne, hne2, hne3⟩ := st
    obtain ⟨xs, x, hq, hx⟩ := hg
    obtain ⟨its, rv, p, hz⟩ := I.tuple hq
    obtain ⟨u, hu, ru⟩ := rv.get hx
    have hel : e < s.heap.objs.size := Heap.lt_size he
    have hil : it < s.heap.objs.size := by obtain ⟨_, q, _⟩ := hit; exact Heap.lt_size q
    have hlt : i < its.toArray.size := by
      have := (List.getElem?_eq_some_iff.mp hu).1
      simpa using this
    refine wpAny_pyNext_enum_itemD (draws_tup (show X.A.in1.handled = none from I.ok.hd hc) it a hne2 its.toArray) he ⟨hit, p⟩ hlt hne (by simp [hne, Ne.symm hne3]) fun y h' tk hy ho hit' hT hsz hk => ?_
    have hyu : y = u := by
      have h2 : its.toArray[i]? = some u := by simpa using hu
      rw [h2] at hy
      exact (Option.some.inj hy).symm
    subst hyu
    refine ⟨_, rfl, wpAny_letOwnedTupleGo_enum (s := { s with heap := h', toks := tk + 1 }) ho fun h'' he' sb => ?_⟩
    have hT2 : h''.get? s.heap.objs.size = some { cls := .type "tuple", data := .seq #[.int i tk, y] } := (sb.2 _ (Nat.ne_of_gt hel)).trans hT
    have new : ObjOk X.prog X.w (upd H s.heap.objs.size (.tup [.int (i : Nat), x])) h'' s.heap.objs.size (.tup [.int (i : Nat), x]) :=
      ⟨by show 2 ≤ sizeLine; decide, [.int i tk, y], .cons ⟨_, rfl⟩ (.cons ru .nil), ⟨_, hT2, rfl, _, rfl⟩⟩
    have I1 : Inv X pins σ (upd H s.heap.objs.size (.tup [.int (i : Nat), x])) { s with heap := h'', toks := tk + 1 } :=
      I.turnedNew (ch := [e, it]) (fun b ob hb q => (sb.2 b (fun z => hb (by simp [z]))).trans (hk b ob (fun z => hb (by simp [z])) (fun z => hb (by simp [z])) q)) hf (Nat.le_refl _) new
    refine ⟨.ref s.heap.objs.size, _, I1, rfl, ⟨_, x, rfl, I.hok.fresh (Nat.le_refl _), rfl, fun ys hy => by rw [I.tuple_inj hy hq]; exact hx⟩, ⟨⟨y, ?_⟩, hit'.1.at fun o q => (sb.2 it (Ne.symm hne)).trans q, hne, hne2, hne3⟩, fun b hb => ?_⟩
    · have e1 : ((i + 1 : Nat) : Int) = (i : Int) + 1 := by omega
      rw [e1]; exact he'
    · have hb' : b < s.heap.objs.size := by
        have e' : b = e ∨ b = it := by simpa using hb
        rcases e' with z | z
        · rw [z]; exact hel
        · rw [z]; exact hil
      rw [upd_ne (Nat.ne_of_lt hb')]
      exact (hf b hb).1
  done := by
    intro X hP hw hK hc i pins s σ H E I hf st hg
    subst hP hw hK
    obtain ⟨⟨old, he⟩, hit, hne, hne2, hne3⟩ := st
    obtain ⟨xs, hq, hx⟩ := hg
    obtain ⟨its, rv, p, hz⟩ := I.tuple hq
    obtain ⟨f0, f1, f2, f3, f4, f5⟩ := hf it (by simp)
    have hl := rv.length
    have hT : s.TypeIs (.ref e) "enumerate" := ⟨_, he, rfl⟩
    unfold pyNext
    refine wpAny_bind (wpAny_attempt (wpAny_callSpecial?_slot (name := Str.ofString "__next__") hT F.slot_enumerate_next
      (wpAny_call_entry F.slot_enumerate_next hT F.entry_enumerate_next ?_ (F.args_enumerate_next_1 _))))
    show wpAny _ _ (field (.ref e) 2 >>= _) _ _ _
    refine wpAny_bind (wpAny_field he rfl (x := .ref it) rfl ?_)
    refine wpAny_bind (RZ.nextOf_tuple_end (show X.A.in1.handled = none from I.ok.hd hc) hit p (by simp; omega) fun h' x he' hx' => ?_)
    obtain ⟨o, ho, hc⟩ := hx'
    refine wpAny_bind (wpAny_isInstance (T := "StopIteration") (b := true) ⟨o, ho, hc⟩ isSubtype_stop ?_)
    exact wpAny_pure ⟨rfl, I.turned (t' := s.toks) (fun b o hb q => he' b o hb q) f0 f1 f3 f4 f5⟩
  self := fun A i s Q E st h => let ⟨⟨_, he⟩, _⟩ := st; wpAny_pyIter_enum he h
def iEnumT (K : PySem.W.Frag) (ta : TA) : TI := fun σ H R => ta σ H fun vs H1 => ∃ a xs, vs = [.ref a] ∧ SqT K H1 a xs ∧ R (IteT K a) H1
theorem pi_enumT {X : Cx} {e : Expr} {ta : TA} {p pos tpos : Pos} {elts : List Expr} {kk : Nat} (hg : Gl X "enumerate") (hm : X.mg "enumerate" = none) (ha : PA X [e] ta) (hs : starEach [e] X.env = [(false, eval e X.env)] := by rfl) :
    PI X (.Tuple elts kk tpos) (.Call (.Name "enumerate" p) [e] [] pos) (iEnumT X.K ta) := by
  refine ⟨fun pins s σ H R I h => ?_⟩
  refine Call_ (ld_blt I hg hm boot_enumerate (PyProof.Rows.callWith_type1 (thn (ha.run pos pins s σ H _ I h) fun us s1 ⟨vs, H1, I1, r1, q1⟩ => ?_) hs rfl))
  obtain ⟨a, xs, ex, hq, q⟩ := q1
  subst ex
  cases r1 with
  | cons r rr =>
    cases rr
    cases r
    obtain ⟨its, rv, p', hz⟩ := I1.tuple hq
    have hal : a < s1.heap.objs.size := by obtain ⟨_, q, _⟩ := p'; exact Heap.lt_size q
    refine call_enumerate_tup p' fun h' he hit hsz hk => wpAny_pyIter_enum he ?_
    have I2 : Inv X pins σ H1 { s1 with heap := h' } := I1.kept (t' := s1.toks) hk
    refine ⟨s1.heap.objs.size + 1, [s1.heap.objs.size + 1, s1.heap.objs.size], _, _, H1, rfl, I2, turn_enumT a (s1.heap.objs.size + 1) s1.heap.objs.size, ⟨⟨.none, he⟩, hit, Nat.succ_ne_self _, Nat.ne_of_lt hal, Nat.ne_of_lt (Nat.lt_succ_of_lt hal)⟩, fun b hb => ?_, q⟩
    have e' : b = s1.heap.objs.size + 1 ∨ b = s1.heap.objs.size := by simpa using hb
    have hle : s1.heap.objs.size ≤ b := by
      rcases e' with z | z
      · rw [z]; exact Nat.le_add_right _ _
      · rw [z]; exact Nat.le_refl _
    exact I1.fpOk hle (I1.hok.fresh hle)
theorem walk_enumT {K : PySem.W.Frag} {a : Addr} {xs : List V} : Walk (IteT K a) xs.length (fun H => SqT K H a xs) (YPair (fun i => some (.int (i : Nat))) (fun i => xs[i]?)) := by
  refine ⟨fun i _ hi q => ⟨xs, xs[i], q, by simp [hi]⟩, fun _ q => ⟨xs, q, Nat.le_refl _⟩, fun i H v H' _ q y => ?_⟩
  obtain ⟨T, x, h1, h2, h3, h4⟩ := y
  exact ⟨T, .int (i : Nat), x, h1, h2, h3, rfl, h4 xs q⟩
theorem walk_zipT {K : PySem.W.Frag} {a b : Addr} {xs ys : List V} {n : Nat} (hn : n = min xs.length ys.length) : Walk (RZ.ItzT K a b) n (fun H => SqT K H a xs ∧ SqT K H b ys) (YPair (fun i => xs[i]?) (fun i => ys[i]?)) := by
  subst hn
  refine ⟨fun i _ hi q => ?_, fun _ q => ⟨xs, ys, q.1, q.2, by omega⟩, fun i H v H' _ q y => ?_⟩
  · have h1 : i < xs.length := by omega
    have h2 : i < ys.length := by omega
    exact ⟨xs, ys, xs[i], ys[i], q.1, q.2, by simp [h1], by simp [h2]⟩
  · obtain ⟨T, x, z, h1, h2, h3, h4, h5⟩ := y
    exact ⟨T, x, z, h1, h2, h3, h4 xs q.1, h5 ys q.2⟩
end Bs

namespace Bs
open PySem PySem.Spec PyProof.Rows L2
/-! ## != of two instances of one own class with its own == and no != of its own -/
section
variable {prog : Program} {w : World} {A : Around} {E : Value → Shared → Prop} {s : Shared} {K : PySem.W.Frag} {x y C : Addr} {ox oy : Obj} {od oe : Option Obj} {f : Addr}
theorem objNe_K (X : K.In s.heap) (I : PySem.W.InstAt s.heap x ox C od) (hs : PySem.W.findIn K (.ref C) "__eq__" = some (some (.ref f))) (hf : PySem.W.isFn K (.ref f) = true) (hu : A.units < cLine) {Q : Fin → Shared → Prop}
    (hcall : wpAny (model prog w) A (call (.ref f) [.ref x, .ref y]) (fun v s' => ∃ b, v = .bool b ∧ Q (.done (.ret (.bool (!b)))) s') E s) :
    wpAny (model prog w) A (Builtin.«object.__ne__» ⟨[.ref x, .ref y], []⟩) Q E s := by
  obtain ⟨hp, g, d, t, os⟩ := s
  unfold Builtin.«object.__ne__»
  repeat (first
    | with_reducible refine wpAny_cRoomFor hu ?_
    | (refine wpAny_bind (m := callSpecialIfBound? (.ref x) (Str.ofString "__eq__") [.ref y])
        (PySem.W.ifBound_K X I hs hf (wpAny_mono hcall (fun v s' hv => by
          obtain ⟨b, rfl, hq⟩ := hv
          repeat (first | exact hq | exact wpAny_pure hq | exact wpAny_truthy_bool hq | (refine wpAny_bind (m := truthy (.bool _)) (wpAny_truthy_bool ?_)) | wp_step)) fun _ _ e => e)))
    | wp_step)
theorem ifBound_ne (X : K.In s.heap) (I : PySem.W.InstAt s.heap x ox C od) (hn : PySem.W.findIn K (.ref C) "__ne__" = some (some (.builtin "object.__ne__"))) {args : List Value} {Q : Option Value → Shared → Prop} {M : Model}
    (h : wpAny M A (call (.builtin "object.__ne__") (.ref x :: args)) (fun v => Q (some v)) E s) : wpAny M A (callSpecialIfBound? (.ref x) "__ne__" args) Q E s := by
  simp only [callSpecialIfBound?, bindSpecialIfBound?]
  refine wpAny_holding (wpAny_bind (wpAny_bind (wpAny_bind (I.type.here ((PySem.W.looks_findIn X hn).here ?_)))))
  refine wpAny_bind (wpAny_askSetting (wpAny_ite ?_))
  have fin : wpAny M A (call (.builtin "object.__ne__") ([.ref x] ++ args) >>= fun v => pure (some v)) Q E s := wpAny_bind (wpAny_mono h (fun v s' h' => wpAny_pure h') fun _ _ h' => h')
  have hb : bindSpecial (.builtin "object.__ne__") (.ref x) = pure (.builtin "object.__ne__", [.ref x]) := (F.slot_object_ne).bind (.ref x)
  split
  · rw [hb]
    exact wpAny_bind (wpAny_pure (wpAny_pure fin))
  · rw [hb]
    exact wpAny_tryCatch (wpAny_bind (wpAny_pure (wpAny_pure fin)))
theorem tryNe_K (X : K.In s.heap) (I : PySem.W.InstAt s.heap x ox C od) (hs : PySem.W.findIn K (.ref C) "__eq__" = some (some (.ref f))) (hf : PySem.W.isFn K (.ref f) = true)
    (hn : PySem.W.findIn K (.ref C) "__ne__" = some (some (.builtin "object.__ne__"))) (hsub : PySem.W.subIn K (.ref C) (.type "object") = some true) (hu : A.units + 1 < cLine) {Q : Option Value → Shared → Prop}
    (hcall : wpAny (model prog w) A.in1 (call (.ref f) [.ref x, .ref y]) (fun v s' => ∃ b, v = .bool b ∧ Q (some (.bool (!b))) s') E s) :
    wpAny (model prog w) A (tryCompare (.ref x) "__ne__" (.ref y)) Q E s := by
  simp only [tryCompare]
  refine wpAny_bind (ifBound_ne X I hn (wpAny_call (codeAny_call_builtin (F.slot_object_ne).plain F.cmpEntry_ne
    (PySem.W.check_slot F.cmpKind_ne F.cmpSplit_ne (I.type.andThen (PySem.W.looks_subIn X hsub)) (F.cmpArgs_ne _ _)
      (objNe_K (A := A.in1) X I hs hf hu (wpAny_mono hcall (fun v s' hv => ?_) fun _ _ e => e))))))
  obtain ⟨b, rfl, hq⟩ := hv
  first | exact ⟨b, rfl, wpAny_pure hq⟩ | exact ⟨b, rfl, wpAny_pure (wpAny_pure hq)⟩ | exact ⟨b, rfl, hq⟩
theorem richNe_K (X : K.In s.heap) (I : PySem.W.InstAt s.heap x ox C od) (J : PySem.W.InstAt s.heap y oy C oe) (hs : PySem.W.findIn K (.ref C) "__eq__" = some (some (.ref f))) (hf : PySem.W.isFn K (.ref f) = true)
    (hn : PySem.W.findIn K (.ref C) "__ne__" = some (some (.builtin "object.__ne__"))) (hsub : PySem.W.subIn K (.ref C) (.type "object") = some true) (hu : A.units + 1 < cLine) {Q : Value → Shared → Prop}
    (hcall : wpAny (model prog w) A.in1 (call (.ref f) [.ref x, .ref y]) (fun v s' => ∃ b, v = .bool b ∧ Q (.bool (!b)) s') E s) :
    wpAny (model prog w) A (richCompare .NotEq (.ref x) (.ref y)) Q E s := by
  have one : wpAny (model prog w) A (tryCompare (.ref x) "__ne__" (.ref y)) (fun r s' => ∃ v, r = some v ∧ Q v s') E s :=
    tryNe_K X I hs hf hn hsub hu (wpAny_mono hcall (fun v s' ⟨b, e, q⟩ => ⟨b, e, _, rfl, q⟩) fun _ _ e => e)
  unfold richCompare
  simp only [oneThing_ref]
  refine wpAny_holding (wpAny_bind (wpAny_cRoomFor (Nat.lt_of_succ_lt hu) ?_))
  rw [cmpInfo_NotEq]
  dsimp only
  refine wpAny_bind (I.type.here (wpAny_bind (J.type.here ?_)))
  rw [show (Value.ref C != Value.ref C) = false from by simp]
  simp only [Bool.false_eq_true, if_false]
  refine wpAny_bind (wpAny_pure ?_)
  simp only [Bool.false_eq_true, if_false]
  refine wpAny_bind (wpAny_mono one (fun r s' z => ?_) fun _ _ e => e)
  obtain ⟨v, rfl, hq⟩ := z
  exact wpAny_pure hq
end
/-- what != asks of two instances of C: the promise of C's own == -/
def rNeOwn (C : Addr) (sp : Sp) : R2 := fun x y H Q => ∃ a b dx dy fs gs, x = .ref a ∧ y = .ref b ∧ H a = some (.ins C dx fs) ∧ H b = some (.ins C dy gs) ∧ sp [.ref a, .ref b] H (fun v H' => ∃ r, v = .bl r ∧ Q (.bl (!r)) H') E0
structure OwnNe (K : PySem.W.Frag) (C f : Addr) : Prop where
  eq : PySem.W.findIn K (.ref C) "__eq__" = some (some (.ref f))
  fn : PySem.W.isFn K (.ref f) = true
  ne : PySem.W.findIn K (.ref C) "__ne__" = some (some (.builtin "object.__ne__"))
  sub : PySem.W.subIn K (.ref C) (.type "object") = some true
theorem op_neOwn {X : Cx} {C f : Addr} {fd : FuncData} {ps : List Str} {sp : Sp} {n : Nat} (N : OwnNe X.K C f) (F : FnOk X.prog X.w X.K X.mg X.base CX0 n f fd ps sp) (hr : Room (n + 1) X.A) (hb : Binds X.K fd ps []) : OpR X (compareOp .NotEq) (rNeOwn C sp) := by
  intro pins s σ H x y v u Q I rx ry h
  obtain ⟨a, b, dx, dy, fs, gs, rfl, rfl, ha, hb', hsp⟩ := h
  cases rx
  cases ry
  obtain ⟨mA, J, _⟩ := ins_get I.hok ha
  obtain ⟨mB, J', _⟩ := ins_get I.hok hb'
  obtain ⟨od, J, _⟩ := J.look
  obtain ⟨od', J', _⟩ := J'.look
  have hu : X.A.units + 1 < cLine := hu_of hr
  have hr1 : Room n X.A.in1 := hr.in1
  have e0 : Env0 X.prog X.w X.K X.mg X.base X.A.in1 X.stack s H := I.env0.in1
  have hl := F.len _ _ _ _ hsp
  have r2 : Vals [V.ref a, V.ref b] [Value.ref a, Value.ref b] := .cons rfl (.cons rfl .nil)
  show wpAny (model X.prog X.w) X.A (richCompare .NotEq (.ref a) (.ref b)) (EP X pins σ Q) X.xe s
  refine richNe_K I.kIn J J' N.eq N.fn N.ne N.sub hu ?_
  refine wpAny_call (codeAny_mono (F.run X.A.in1 X.stack s H ⟨[.ref a, .ref b], []⟩ [.ref a, .ref b] [.ref a, .ref b] _ E0 hr1 e0 (by
    have := hb s [.ref a, .ref b] I.kIn (by simpa using hl)
    simpa using this) r2 hsp) fun r s' hq => ?_)
  cases r with
  | error e => exact hq.elim
  | ok fl =>
    cases fl with
    | ret w =>
      obtain ⟨z, H', I', rz, r, ez, q⟩ := I.after hq
      subst ez
      cases rz
      exact ⟨r, rfl, .bl (!r), H', I', rfl, q⟩
    | next => exact False.elim hq
    | brk => exact False.elim hq
    | cont => exact False.elim hq
/-! ## calls in short -/
structure Cal (P : Program) (w : World) (K : PySem.W.Frag) (mg : Str → Option Value) (base : Heap) (k : Nat) (x : Str) (ps : List Str) (sp : Sp) : Prop where
  ex : ∃ (f : Addr) (fd : FuncData), FnOk P w K mg base CX0 k f fd ps sp ∧ mg x = some (.ref f) ∧ PySem.W.keepIn K (.ref f) = true ∧ Binds K fd ps []
theorem pe_cal {X : Cx} {k : Nat} {x : Str} {ps : List Str} {sp : Sp} {e : Expr} {es : List Expr} {t : TA} {p pos : Pos} (c : Cal X.prog X.w X.K X.mg X.base k x ps sp) (hr : Room k X.A) (ha : PA X (e :: es) t) (hg : Gl X x := by rfl)
    (hdb : (x == ("__debug__" : Str)) = false := by decide) (he : starEach (e :: es) X.env = (false, eval e X.env) :: starEach es X.env := by rfl) (hpl : (backTo pos (starEach es X.env)).any (·.1) = false := by rfl) :
    PE X (.Call (.Name x p) (e :: es) [] pos) (tCall sp [] E0 t) := by
  obtain ⟨f, fd, F, hm, hk, hb⟩ := c.ex
  exact pe_call F hr hg hm hk hb .nil pass0 ha hdb he hpl
theorem pe_cal0 {X : Cx} {k : Nat} {x : Str} {ps : List Str} {sp : Sp} {p pos : Pos} (c : Cal X.prog X.w X.K X.mg X.base k x ps sp) (hr : Room k X.A) (hg : Gl X x := by rfl)
    (hdb : (x == ("__debug__" : Str)) = false := by decide) :
    PE X (.Call (.Name x p) [] [] pos) (tCall sp [] E0 tNil) := by
  obtain ⟨f, fd, F, hm, hk, hb⟩ := c.ex
  exact pe_call0 F hr hg hm hk hb .nil pass0 hdb
/-- C(..) -/
structure Mkc (P : Program) (w : World) (K : PySem.W.Frag) (mg : Str → Option Value) (base : Heap) (k : Nat) (C : Addr) (x : Str) (ps : List Str) (sp : Sp) : Prop where
  ex : ∃ (f : Addr) (fd : FuncData), Mk K C f ∧ FnOk P w K mg base CX0 k f fd ps sp ∧ mg x = some (.ref C) ∧ Binds K fd ps []
theorem pe_mkc {X : Cx} {k : Nat} {C : Addr} {x : Str} {ps : List Str} {sp : Sp} {e : Expr} {es : List Expr} {t : TA} {p pos : Pos} (c : Mkc X.prog X.w X.K X.mg X.base k C x ps sp) (hr : Room (k + 1) X.A) (ha : PA X (e :: es) t) (hg : Gl X x := by rfl)
    (hdb : (x == ("__debug__" : Str)) = false := by decide) (he : starEach (e :: es) X.env = (false, eval e X.env) :: starEach es X.env := by rfl) (hpl : (backTo pos (starEach es X.env)).any (·.1) = false := by rfl) :
    PE X (.Call (.Name x p) (e :: es) [] pos) (tMake C sp [] E0 t) := by
  obtain ⟨f, fd, M, F, hm, hb⟩ := c.ex
  exact pe_make M F hr hg hm hb .nil pass0 ha hdb he hpl
/-- a global that is a class or a def, as a value -/
theorem pe_globR {X : Cx} {x : Str} {C : Addr} {pos : Pos} (hm : X.mg x = some (.ref C)) (hg : Gl X x := by rfl) (hn : (x == ("__debug__" : Str)) = false := by decide) : PE X (.Name x pos) (tC (.ref C)) := by
  exact pe_glob hg hm rfl hn
/-- the built-ins that no name of the program hides -/
structure Bl (mg : Str → Option Value) : Prop where
  isinstance : mg "isinstance" = none
  len : mg "len" = none
  sorted : mg "sorted" = none
  min : mg "min" = none
  max : mg "max" = none
  all : mg "all" = none
  zip : mg "zip" = none
  range : mg "range" = none
  enumerate : mg "enumerate" = none
  int_ : mg "int" = none
  bool_ : mg "bool" = none
  str_ : mg "str" = none
  list_ : mg "list" = none
  tuple_ : mg "tuple" = none
end Bs

namespace Bs
open PySem PySem.Spec PyProof.Rows L2
/-! ## heaps: what never changes, all but one object -/
/-- tuples stay -/
def TK (H H' : Hp) : Prop := ∀ a xs, H a = some (.tup xs) → H' a = some (.tup xs)
theorem TK.rfl' {H : Hp} : TK H H := fun _ _ h => h
theorem TK.trans {H H1 H2 : Hp} (a : TK H H1) (b : TK H1 H2) : TK H H2 := fun x o h => b x o (a x o h)
theorem _root_.L2.Same.tk {H H' : Hp} (e : Same H H') : TK H H' := fun a xs h => e a _ h
theorem _root_.L2.Same.new {H : Hp} {p : Addr} {o : HO} (h : H p = none) : Same H (upd H p o) := fun a u e => by rw [upd_ne (ne_of_none e h)]; exact e
theorem _root_.L2.Same.new' {H H1 : Hp} {p : Addr} {o : HO} (x : Same H H1) (h : H1 p = none) : Same H (upd H1 p o) := x.trans (Same.new h)
/-- an object that H does not know may change -/
theorem _root_.L2.Same.mut {H H' : Hp} {p : Addr} {o : HO} (e : Same H H') (h : H p = none) : Same H (upd H' p o) := fun a u ha => by
  rw [upd_ne (ne_of_none ha h)]
  exact e a u ha
def isTupO : Option HO → Bool
  | some (.tup _) => true
  | _ => false
theorem TK.upd {H : Hp} {p : Addr} {o : HO} (h : isTupO (H p) = false) : TK H (L2.upd H p o) := fun a xs e => by
  have hn : a ≠ p := fun q => by rw [q] at e; rw [e] at h; cases h
  rw [upd_ne hn]; exact e
theorem tk_lst {H : Hp} {p : Addr} {o : HO} {xs : List V} (h : H p = some (.lst xs)) : TK H (L2.upd H p o) := TK.upd (by rw [h]; rfl)
theorem tk_new {H : Hp} {p : Addr} {o : HO} (h : H p = none) : TK H (L2.upd H p o) := TK.upd (by rw [h]; rfl)
/-- all but the object at T stay -/
def ExT (T : Addr) (H H' : Hp) : Prop := ∀ a o, a ≠ T → H a = some o → H' a = some o
theorem ExT.rfl' {T : Addr} {H : Hp} : ExT T H H := fun _ _ _ h => h
theorem ExT.trans {T : Addr} {H H1 H2 : Hp} (a : ExT T H H1) (b : ExT T H1 H2) : ExT T H H2 := fun x o n h => b x o n (a x o n h)
theorem _root_.L2.Same.exT {T : Addr} {H H' : Hp} (e : Same H H') : ExT T H H' := fun a o _ h => e a o h
theorem ExT.tk {T : Addr} {H H' : Hp} {l : List V} (e : ExT T H H') (h : H T = some (.lst l)) : TK H H' := fun a xs q => e a _ (ne_of q h (by intro z; cases z)) q
theorem ExT.upd {T : Addr} {H H1 : Hp} {o : HO} (e : ExT T H H1) : ExT T H (L2.upd H1 T o) := fun a u n h => by rw [upd_ne n]; exact e a u n h
theorem ExT.new {T p : Addr} {H H1 : Hp} {o : HO} (e : ExT T H H1) (h : H1 p = none) : ExT T H (L2.upd H1 p o) := fun a u n q => by
  have q' := e a u n q
  rw [upd_ne (ne_of_none q' h)]; exact q'
/-- one more object, unknown at first, that may change -/
theorem ExT.mut {T p : Addr} {H H1 : Hp} {o : HO} (e : ExT T H H1) (h : H p = none) : ExT T H (L2.upd H1 p o) := fun a u n q => by
  rw [upd_ne (ne_of_none q h)]; exact e a u n q
theorem ExT.free {T : Addr} {H H' : Hp} (e : ExT T H H') {l : Addr} (hl : l ≠ T) (h : H' l = none) : H l = none := by
  cases q : H l with
  | none => rfl
  | some o => rw [e l o hl q] at h; cases h
/-! ## pairs of ints -/
def PairAt (H : Hp) (v : V) (p : Int × Int) : Prop := ∃ a, v = .ref a ∧ H a = some (.tup [.int p.1, .int p.2])
theorem PairAt.tk {H H' : Hp} {v : V} {p : Int × Int} (e : TK H H') (h : PairAt H v p) : PairAt H' v p := let ⟨a, h1, h2⟩ := h; ⟨a, h1, e _ _ h2⟩
theorem PairAt.inj {H : Hp} {v : V} {p q : Int × Int} (h : PairAt H v p) (h' : PairAt H v q) : p = q := by
  obtain ⟨a, rfl, h2⟩ := h
  obtain ⟨b, e, h3⟩ := h'
  cases e
  rw [h2] at h3
  injection h3 with h3
  injection h3 with h3
  injection h3 with h4 h5
  injection h4 with h4
  injection h5 with h5
  injection h5 with h5
  exact Prod.ext h4 h5
abbrev Pairs (H : Hp) (xs : List V) (ps : List (Int × Int)) : Prop := Paired (PairAt H) xs ps
theorem Paired.imp' {α β : Type} {F G : α → β → Prop} : ∀ {l₁ : List α} {l₂ : List β}, Paired F l₁ l₂ → (∀ a b, F a b → G a b) → Paired G l₁ l₂
  | _, _, .nil, _ => .nil
  | _, _, .cons r t, f => .cons (f _ _ r) (Paired.imp' t f)
theorem Pairs.tk {H H' : Hp} {xs : List V} {ps : List (Int × Int)} (e : TK H H') (h : Pairs H xs ps) : Pairs H' xs ps := Paired.imp' h fun _ _ q => q.tk e
theorem Paired.get {α β : Type} {F : α → β → Prop} : ∀ {l₁ : List α} {l₂ : List β} {i : Nat} {a : α}, Paired F l₁ l₂ → l₁[i]? = some a → ∃ b, l₂[i]? = some b ∧ F a b
  | _, _, _, _, .nil, h => by simp at h
  | _, _, 0, _, .cons r _, h => by simp at h; subst h; exact ⟨_, by simp, r⟩
  | _, _, i + 1, a, .cons _ t, h => by
    obtain ⟨b, h1, h2⟩ := Paired.get (i := i) (a := a) t (by simpa using h)
    exact ⟨b, by simpa using h1, h2⟩
theorem Paired.len {α β : Type} {F : α → β → Prop} : ∀ {l₁ : List α} {l₂ : List β}, Paired F l₁ l₂ → l₁.length = l₂.length
  | _, _, .nil => rfl
  | _, _, .cons _ t => by simp [Paired.len t]
theorem Paired.app {α β : Type} {F : α → β → Prop} : ∀ {l₁ m₁ : List α} {l₂ m₂ : List β}, Paired F l₁ l₂ → Paired F m₁ m₂ → Paired F (l₁ ++ m₁) (l₂ ++ m₂)
  | _, _, _, _, .nil, h => h
  | _, _, _, _, .cons r t, h => .cons r (Paired.app t h)
/-- the pair that a value is -/
def pairOf (H : Hp) (v : V) : Int × Int := match v with
  | .ref a => match H a with
    | some (.tup [.int i, .int j]) => (i, j)
    | _ => (0, 0)
  | _ => (0, 0)
theorem pairOf_of {H : Hp} {v : V} {p : Int × Int} (h : PairAt H v p) : pairOf H v = p := by
  obtain ⟨a, rfl, h2⟩ := h
  unfold pairOf
  simp only [h2]
theorem pairs_map {H : Hp} : ∀ {xs : List V} {ps : List (Int × Int)}, Pairs H xs ps → xs.map (pairOf H) = ps
  | _, _, .nil => rfl
  | _, _, .cons r t => by rw [List.map_cons, pairOf_of r, pairs_map t]
theorem pairs_mem {H : Hp} : ∀ {xs : List V} {ps : List (Int × Int)}, Pairs H xs ps → ∀ x ∈ xs, PairAt H x (pairOf H x)
  | _, _, .nil, _, h => by simp at h
  | _, _, .cons r t, x, h => by
    rcases List.mem_cons.mp h with e | h
    · subst e; rw [pairOf_of r]; exact r
    · exact pairs_mem t x h
theorem pairs_self {H : Hp} : ∀ {xs : List V}, (∀ x ∈ xs, PairAt H x (pairOf H x)) → Pairs H xs (xs.map (pairOf H))
  | [], _ => .nil
  | x :: xs, h => .cons (h x (by simp)) (pairs_self fun y hy => h y (by simp [hy]))
/-- before, or the same -/
def le2 (p q : Int × Int) : Prop := p.1 < q.1 ∨ (p.1 = q.1 ∧ p.2 ≤ q.2)
def lt2 (p q : Int × Int) : Prop := p.1 < q.1 ∨ (p.1 = q.1 ∧ p.2 < q.2)
/-- sorted(xs), xs a list of pairs -/
theorem sorted_pairs {K : PySem.W.Frag} {H : Hp} {a : Addr} {xs : List V} {ps : List (Int × Int)} {Q : VK} (hs : SqL K H a xs) (hp : Pairs H xs ps)
    (k : ∀ p ys qs, H p = none → Pairs H ys qs → qs.Perm ps → qs.Pairwise le2 → Q (.ref p) (upd H p (.lst ys))) : rSortedPO K [.ref a] H Q := by
  refine ⟨a, xs, pairOf H, rfl, hs, fun x hx => pairs_mem hp x hx, fun ys p h1 h2 hn => ?_⟩
  have hm : ∀ y ∈ ys, PairAt H y (pairOf H y) := fun y hy => pairs_mem hp y (h2.perm.mem_iff.mp hy)
  refine k p ys (ys.map (pairOf H)) hn (pairs_self hm) ?_ ?_
  · rw [← pairs_map hp]
    exact h2.perm.map _
  · refine List.pairwise_map.mpr (h1.imp fun {x y} h => ?_)
    have h' := SrtO.lexB_no.mp h
    unfold le2
    omega
theorem sorted_post {H : Hp} {xs ys : List V} {ps : List (Int × Int)} (hp : Pairs H xs ps) (h1 : SrtO.Srtd (ltP (pairOf H)) ys) (h2 : SrtO.Stb (ltP (pairOf H)) ys xs) : ∃ qs, Pairs H ys qs ∧ qs.Perm ps ∧ qs.Pairwise le2 := by
  have hm : ∀ y ∈ ys, PairAt H y (pairOf H y) := fun y hy => pairs_mem hp y (h2.perm.mem_iff.mp hy)
  refine ⟨ys.map (pairOf H), pairs_self hm, ?_, ?_⟩
  · rw [← pairs_map hp]
    exact h2.perm.map _
  · refine List.pairwise_map.mpr (h1.imp fun {x y} h => ?_)
    have h' := SrtO.lexB_no.mp h
    unfold le2
    omega
/-! ## comprehensions -/
theorem lc_data {J : It} {n : Nat} {G : Hp → Prop} {Y : Nat → Hp → V → Hp → Prop} (w : Walk J n G Y) {α : Type} (as : List α) (hn : as.length = n) (f : α → Bool) (P : Hp → V → α → Prop) (hP : ∀ H H' v a, TK H H' → P H v a → P H' v a)
    {g : TG} {tt : TT} {te : TE} {vs : List Nat} {σ : L2.St} {H1 : Hp} {D : Addr} {Qd : Hp → Prop} (hD : H1 D = none) (hG : ∀ H', Same H1 H' → G H') (hsz : as.length < sizeLine)
    (hs : ∀ i a x H H' (Ny : V → Hp → Prop) (Nn : Hp → Prop), as[i]? = some a → Same H1 H → Y i H x H' →
      (∀ y H4, f a = true → Same H' H4 → P H4 y a → Ny y H4) → (∀ H3, f a = false → Same H' H3 → Nn H3) →
      g x (wipe σ vs) H' fun σ2 H2 => wipe σ2 vs = wipe σ vs ∧ tt σ2 H2 fun b H3 => if b = true then te σ2 H3 fun y H4 => Ny y H4 else Nn H3)
    (hY : ∀ i H x H', H D = some (.lst []) ∨ True → Y i H x H' → Same H H')
    (hd : ∀ ys H', Same H1 H' → H' D = some (.lst ys) → Paired (P H') ys (as.filter f) → Qd H') :
    ∃ W : Nat → Nat → Hp → Prop, (∃ m, W 0 m (upd H1 D (.lst []))) ∧ ∀ i m H, W i m H →
      (J.stop i H ∧ Qd H) ∨ (J.go i H ∧ ∃ Nx : Hp → Prop, (∀ H', Nx H' → ∃ m', m' < m ∧ W (i + 1) m' H') ∧ ∀ x H', J.yld i H x H' → g x (wipe σ vs) H' fun σ2 H2 => wipe σ2 vs = wipe σ vs ∧ tt σ2 H2 fun b H3 =>
        if b = true then te σ2 H3 fun y H4 => ∃ acc, H4 D = some (.lst acc) ∧ acc.length < sizeLine ∧ Nx (upd H4 D (.lst (acc ++ [y]))) else Nx H3) := by
  refine lc_it w (Pv := fun i H => Same H1 H ∧ ∃ ys, H D = some (.lst ys) ∧ Paired (P H) ys ((as.take i).filter f)) ⟨L2.Same.new hD, [], upd_same, by simp; exact .nil⟩ (fun i H hi p => hG H p.1) ?_ ?_
  · intro i x H H' hi p hy
    obtain ⟨e1, ys, hys, hpr⟩ := p
    have hi' : i < as.length := by omega
    have ha : as[i]? = some as[i] := List.getElem?_eq_getElem hi'
    have eY := hY i H x H' (.inr trivial) hy
    have htk : (as.take (i + 1)).filter f = (as.take i).filter f ++ [as[i]].filter f := by
      rw [List.take_succ, ha, List.filter_append]; rfl
    have hlen : ys.length ≤ i := by
      have := Paired.len hpr
      have h2 := List.length_filter_le f (as.take i)
      have h3 := List.length_take_le i as
      omega
    refine hs i as[i] x H H' _ _ ha e1 hy ?_ ?_
    · intro y H4 hf e4 hPy
      refine ⟨ys, e4 _ _ (eY _ _ hys), by omega, ?_, _, upd_same, ?_⟩
      · exact Same.mut (e1.trans (eY.trans e4)) hD
      · rw [htk, List.filter_cons, if_pos hf]
        refine Paired.app (Paired.imp' hpr fun v a q => hP _ _ _ _ ?_ q) (.cons (hP _ _ _ _ ?_ hPy) .nil)
        · exact (Same.tk (eY.trans e4)).trans (tk_lst (e4 _ _ (eY _ _ hys)))
        · exact tk_lst (e4 _ _ (eY _ _ hys))
    · intro H3 hf e3
      refine ⟨e1.trans (eY.trans e3), ys, e3 _ _ (eY _ _ hys), ?_⟩
      rw [htk, List.filter_cons, if_neg (by simp [hf])]
      simp only [List.filter_nil, List.append_nil]
      exact Paired.imp' hpr fun v a q => hP _ _ _ _ (Same.tk (eY.trans e3)) q
  · intro H p
    obtain ⟨e1, ys, hys, hpr⟩ := p
    rw [← hn, List.take_length] at hpr
    exact hd ys H e1 hys hpr
theorem yes_if {σ : L2.St} {H : Hp} {A B : Hp → Prop} (h : A H) : tYes σ H (fun b H3 => if b = true then A H3 else B H3) := by
  show (if true = true then A H else B H)
  exact iteT h
theorem yat_same {xs : List V} {i : Nat} {H H' : Hp} {x : V} (h : YAt xs i H x H') : Same H H' := by rw [h.1]; exact Same.refl H
theorem ypair_same {xs ys : Nat → Option V} {i : Nat} {H H' : Hp} {x : V} (h : YPair xs ys i H x H') : Same H H' := by
  obtain ⟨T, x, y, _, h2, h3, _⟩ := h
  rw [h3]; exact Same.new h2
/-! ## the tape -/
structure Tape where
  ns : List Int
  i1 : Int
  i2 : Int
  i3 : Int
  i4 : Int
def Tp (H : Hp) (T L : Addr) : Prop := ∃ t : Tape, H T = some (.lst [.ref L, .int t.i1, .int t.i2, .int t.i3, .int t.i4]) ∧ H L = some (.lst (t.ns.map V.int)) ∧ L ≠ T ∧ 0 ≤ t.i1 ∧ 0 ≤ t.i3 ∧ t.i3 < 2147483648
theorem Tp.ext {T L : Addr} {H H' : Hp} (h : Tp H T L) (e : Same H H') : Tp H' T L := by
  obtain ⟨t, h1, h2, h3⟩ := h
  exact ⟨t, e _ _ h1, e _ _ h2, h3⟩
theorem Tp.lst {T L : Addr} {H : Hp} (h : Tp H T L) : ∃ l, H T = some (.lst l) := let ⟨t, h1, _⟩ := h; ⟨_, h1⟩
theorem Tp.lst2 {T L : Addr} {H : Hp} (h : Tp H T L) : ∃ l, H L = some (.lst l) := let ⟨t, _, h1, _⟩ := h; ⟨_, h1⟩
theorem Tp.tk {T L : Addr} {H H' : Hp} (h : Tp H T L) (e : ExT T H H') : TK H H' := let ⟨_, q⟩ := h.lst; e.tk q
/-- another object changes -/
theorem Tp.upd {T L p : Addr} {H : Hp} {o : HO} (h : Tp H T L) (h1 : p ≠ T) (h2 : p ≠ L) : Tp (L2.upd H p o) T L := by
  obtain ⟨t, a1, a2, a3⟩ := h
  exact ⟨t, by rw [upd_ne h1.symm]; exact a1, by rw [upd_ne h2.symm]; exact a2, a3⟩
theorem Tp.neT {T L p : Addr} {H : Hp} (h : Tp H T L) (hp : H p = none) : p ≠ T := fun q => by
  obtain ⟨l, h1⟩ := h.lst
  rw [← q, hp] at h1; cases h1
theorem Tp.neL {T L p : Addr} {H : Hp} (h : Tp H T L) (hp : H p = none) : p ≠ L := fun q => by
  obtain ⟨l, h1⟩ := h.lst2
  rw [← q, hp] at h1; cases h1
/-- what a draw promises -/
def spPick : Sp := fun vs H Q _ => ∃ (T L : Addr) (m : Int), vs = [.ref T, .int m] ∧ 0 < m ∧ m < 1073741824 ∧ Tp H T L ∧ ∀ r H', 0 ≤ r → r < m → ExT T H H' → Tp H' T L → Q (.int r) H'
end Bs

namespace Bs
open PySem PySem.Spec PyProof.Rows L2
/-! ## bits -/
theorem and_pp (x y : Nat) : Builtin.bitAnd (x : Int) (y : Int) = ((x &&& y : Nat) : Int) := by
  unfold Builtin.bitAnd
  rw [decide_eq_true (Int.natCast_nonneg x), decide_eq_true (Int.natCast_nonneg y)]
  simp
theorem or_pp (x y : Nat) : Builtin.bitOr (x : Int) (y : Int) = ((x ||| y : Nat) : Int) := by
  rw [Bits.bitOr_pp (Int.natCast_nonneg x) (Int.natCast_nonneg y)]; simp
theorem xor_pp (x y : Nat) : Builtin.bitXor (x : Int) (y : Int) = ((x ^^^ y : Nat) : Int) := by
  rw [Bits.bitXor_pp (Int.natCast_nonneg x) (Int.natCast_nonneg y)]; simp
/-- one bit less -/
def clr (x k : Nat) : Nat := x - (x &&& 2 ^ k)
theorem and_pow (x k : Nat) : x &&& 2 ^ k = if x.testBit k = true then 2 ^ k else 0 := by
  apply Nat.eq_of_testBit_eq
  intro j
  rw [Nat.testBit_and, Nat.testBit_two_pow]
  by_cases h : k = j
  · subst h
    cases hb : x.testBit k <;> simp
  · cases hb : x.testBit k <;> simp [h, Nat.testBit_two_pow]
theorem clr_bit (x k j : Nat) : (clr x k).testBit j = (x.testBit j && !decide (j = k)) := by
  unfold clr
  rw [and_pow]
  cases hb : x.testBit k with
  | false =>
    simp only [Bool.false_eq_true, if_false, Nat.sub_zero]
    by_cases h : j = k
    · subst h; simp [hb]
    · simp [h]
  | true =>
    rw [if_pos rfl]
    have h1 : x = 2 ^ (k + 1) * (x / 2 ^ (k + 1)) + x % 2 ^ (k + 1) := (Nat.div_add_mod x _).symm
    have hr : x % 2 ^ (k + 1) < 2 ^ (k + 1) := Nat.mod_lt _ (Nat.pow_pos (by decide))
    generalize x / 2 ^ (k + 1) = a at h1
    generalize x % 2 ^ (k + 1) = r at h1 hr
    have hrk : r.testBit k = true := by
      rw [h1, Nat.testBit_two_pow_mul_add _ hr, if_pos (Nat.lt_succ_self k)] at hb
      exact hb
    have hge : 2 ^ k ≤ r := by
      rcases Nat.lt_or_ge r (2 ^ k) with h | h
      · rw [Nat.testBit_lt_two_pow h] at hrk; cases hrk
      · exact h
    have hp : 2 ^ (k + 1) = 2 ^ k + 2 ^ k := by rw [Nat.pow_succ]; omega
    have hb' : r - 2 ^ k < 2 ^ k := by omega
    have hb2 : r - 2 ^ k < 2 ^ (k + 1) := by omega
    have e1 : x - 2 ^ k = 2 ^ (k + 1) * a + (r - 2 ^ k) := by omega
    have e2 : r = 2 ^ k * 1 + (r - 2 ^ k) := by omega
    rw [e1, Nat.testBit_two_pow_mul_add _ hb2]
    conv => rhs; rw [h1]
    rw [Nat.testBit_two_pow_mul_add _ hr]
    by_cases c : j < k + 1
    · rw [if_pos c, if_pos c]
      conv => rhs; rw [e2]
      rw [Nat.testBit_two_pow_mul_add _ hb']
      by_cases d : j < k
      · rw [if_pos d]; simp [show j ≠ k by omega]
      · have : j = k := by omega
        subst this
        rw [if_neg d, Nat.testBit_lt_two_pow hb']
        simp
    · rw [if_neg c, if_neg c]; simp [show j ≠ k by omega]
theorem bitNot_pow (k : Nat) : Builtin.bitNot ((2 : Int) ^ k) = -(2 ^ k) - 1 := rfl
theorem two_pow_pos (k : Nat) : (0 : Int) < 2 ^ k := Int.pow_pos (by decide)
theorem and_not (x k : Nat) : Builtin.bitAnd (x : Int) (Builtin.bitNot ((2 : Int) ^ k)) = ((clr x k : Nat) : Int) := by
  have h2 := two_pow_pos k
  unfold Builtin.bitAnd
  rw [decide_eq_true (Int.natCast_nonneg x), decide_eq_false (show ¬ 0 ≤ Builtin.bitNot ((2 : Int) ^ k) by rw [bitNot_pow]; omega)]
  show (x : Int) - (((x : Int).toNat &&& (Builtin.bitNot (Builtin.bitNot ((2 : Int) ^ k))).toNat : Nat) : Int) = _
  have e : (Builtin.bitNot (Builtin.bitNot ((2 : Int) ^ k))).toNat = 2 ^ k := by
    have : Builtin.bitNot (Builtin.bitNot ((2 : Int) ^ k)) = ((2 ^ k : Nat) : Int) := by
      unfold Builtin.bitNot
      rw [Int.natCast_pow]
      show -(-(2 : Int) ^ k - 1) - 1 = 2 ^ k
      omega
    rw [this]; exact Int.toNat_natCast _
  rw [e]
  unfold clr
  have hle : x &&& 2 ^ k ≤ x := Nat.and_le_left
  have e3 : ((x : Int).toNat &&& 2 ^ k) = x &&& 2 ^ k := by simp
  rw [e3]
  omega
/-- the lowest bit -/
theorem low_ex {n : Nat} (h : n ≠ 0) : ∃ k, n.testBit k = true ∧ ∀ j, j < k → n.testBit j = false := by
  obtain ⟨i, hi⟩ := Nat.exists_testBit_of_ne_zero h
  induction i using Nat.strongRecOn with
  | ind i ih =>
    by_cases c : ∃ j, j < i ∧ n.testBit j = true
    · obtain ⟨j, hj, hb⟩ := c
      exact ih j hj hb
    · refine ⟨i, hi, fun j hj => ?_⟩
      cases hb : n.testBit j with
      | false => rfl
      | true => exact absurd ⟨j, hj, hb⟩ c
theorem low_is {n k : Nat} (h1 : n.testBit k = true) (h2 : ∀ j, j < k → n.testBit j = false) : Builtin.bitAnd (n : Int) (-(n : Int)) = 2 ^ k := by
  have hn : n ≠ 0 := fun e => by rw [e] at h1; simp at h1
  have hm : n % 2 ^ k = 0 := by
    apply Nat.eq_of_testBit_eq
    intro j
    rw [Nat.testBit_mod_two_pow]
    by_cases c : j < k
    · rw [h2 j c]; simp
    · simp [c]
  have e1 : n = 2 ^ k * (n / 2 ^ k) := by
    have := Nat.div_add_mod n (2 ^ k)
    omega
  generalize hc : n / 2 ^ k = c at e1
  have hodd : c.testBit 0 = true := by
    rw [e1, Nat.testBit_two_pow_mul] at h1
    simpa using h1
  have hodd2 : c % 2 = 1 := by simpa using hodd
  obtain ⟨m, hm2⟩ : ∃ m, c = 2 * m + 1 := ⟨c / 2, by omega⟩
  have hp : 0 < 2 ^ k := Nat.pow_pos (by decide)
  have e2 : n - 1 = 2 ^ k * (2 * m) + (2 ^ k - 1) := by
    have : 2 ^ k * c = 2 ^ k * (2 * m) + 2 ^ k := by rw [hm2, Nat.mul_add, Nat.mul_one]
    omega
  have e3 : n &&& (n - 1) = clr n k := by
    apply Nat.eq_of_testBit_eq
    intro j
    rw [Nat.testBit_and, clr_bit]
    conv => lhs; rhs; rw [e2]
    rw [Nat.testBit_two_pow_mul_add _ (show 2 ^ k - 1 < 2 ^ k by omega)]
    by_cases c1 : j < k
    · rw [if_pos c1, h2 j c1]; simp
    · rw [if_neg c1]
      by_cases c2 : j = k
      · subst c2; simp
      · have e4 : n.testBit j = (2 * m + 1).testBit (j - k) := by
          rw [e1, hm2, Nat.testBit_two_pow_mul]
          simp [show k ≤ j by omega]
        rw [e4]
        obtain ⟨i, hi⟩ : ∃ i, j - k = i + 1 := ⟨j - k - 1, by omega⟩
        rw [hi, Nat.testBit_succ, Nat.testBit_succ]
        have a1 : (2 * m + 1) / 2 = m := by omega
        have a2 : 2 * m / 2 = m := by omega
        rw [a1, a2]
        simp [c2]
  unfold Builtin.bitAnd
  rw [decide_eq_true (Int.natCast_nonneg n), decide_eq_false (show ¬ 0 ≤ -(n : Int) by omega)]
  show (n : Int) - (((n : Int).toNat &&& (Builtin.bitNot (-(n : Int))).toNat : Nat) : Int) = _
  have e5 : (Builtin.bitNot (-(n : Int))).toNat = n - 1 := by unfold Builtin.bitNot; omega
  have e6 : ((n : Int).toNat &&& (n - 1)) = clr n k := by rw [Int.toNat_natCast]; exact e3
  rw [e5, e6]
  unfold clr
  rw [and_pow, if_pos h1]
  have hle : 2 ^ k ≤ n := by
    have := Nat.and_le_left (n := n) (m := 2 ^ k)
    rw [and_pow, if_pos h1] at this
    exact this
  have e7 : ((2 : Int) ^ k) = ((2 ^ k : Nat) : Int) := by rw [Int.natCast_pow]; rfl
  rw [e7]
  omega
theorem xor_low {n k : Nat} (h1 : n.testBit k = true) : n ^^^ 2 ^ k = clr n k := by
  apply Nat.eq_of_testBit_eq
  intro j
  rw [Nat.testBit_xor, clr_bit, Nat.testBit_two_pow]
  by_cases c : k = j
  · subst c; simp [h1]
  · simp [c, show j ≠ k from fun e => c e.symm]
theorem clr_lt {n k : Nat} (h1 : n.testBit k = true) : clr n k < n := by
  unfold clr
  rw [and_pow, if_pos h1]
  have hp : 0 < 2 ^ k := Nat.pow_pos (by decide)
  have hle : 2 ^ k ≤ n := by
    have := Nat.and_le_left (n := n) (m := 2 ^ k)
    rw [and_pow, if_pos h1] at this
    exact this
  omega
theorem bits_pow (k : Nat) : Builtin.Int.intBits ((2 : Int) ^ k) = k + 1 := by
  have h1 := natAbs_lt_pow_bits ((2 : Int) ^ k)
  have e : ((2 : Int) ^ k).natAbs = 2 ^ k := by rw [Int.natAbs_pow]; rfl
  rw [e] at h1
  have h2 : Builtin.Int.intBits ((2 : Int) ^ k) ≤ k + 1 := intBits_le (by rw [e, Nat.pow_succ]; have := Nat.pow_pos (n := k) (show 0 < 2 by decide); omega)
  have h3 : k < Builtin.Int.intBits ((2 : Int) ^ k) := (Nat.pow_lt_pow_iff_right (by decide)).mp h1
  omega
/-! ## rules -/
section
variable {X : Cx}
theorem ip_or : PIp X .BitOr (rI0 fun i j => .int (Builtin.bitOr i j)) := fun pins s σ H x y v u Q I rx ry h => iop_or pins s σ H x y v u Q I rx ry h
theorem ip_xor : PIp X .BitXor (rI0 fun i j => .int (Builtin.bitXor i j)) := fun pins s σ H x y v u Q I rx ry h => iop_xor pins s σ H x y v u Q I rx ry h
/-- xs[i] read, ahead of xs[i] op= e -/
def gGetL (K : PySem.W.Frag) : V → V → Hp → VK → Prop := fun o i H Q => ∃ p xs k v, o = .ref p ∧ i = .int k ∧ SqL K H p xs ∧ 0 ≤ k ∧ xs[k.toNat]? = some v ∧ Q v H
theorem get_listP : PGet X (gGetL X.K) := by
  intro pins s σ H o i ov iv Q I ro ri h
  obtain ⟨p, xs, k, v, rfl, rfl, hs, h0, hv, q⟩ := h
  cases ro
  obtain ⟨t, rfl⟩ := ri
  obtain ⟨its, r, pl, hz⟩ := I.list hs
  obtain ⟨u, hu, ru⟩ := r.get hv
  have hl := r.length
  have hk : k.toNat < xs.length := (List.getElem?_eq_some_iff.mp hv).1
  have hn := line63
  exact wpAny_getItem_list pl.isList h0 (by omega) (by simpa using hu) ⟨v, H, I, ru, q⟩
/-- a thing that is in no place of a tuple of data -/
def rNotInT (K : PySem.W.Frag) : R2 := fun x y H Q => ∃ d ds, Dp K H x d ∧ Dp K H y (.tuple ds) ∧ SeqAt.shaped d = true ∧ SeqAt.shaped (.list ds) = true ∧ SeqAt.shaped (.tuple ds) = true ∧ Q (.bl (!ds.any fun z => PyData.eqv z d)) H
def rInT (K : PySem.W.Frag) : R2 := fun x y H Q => ∃ d ds, Dp K H x d ∧ Dp K H y (.tuple ds) ∧ SeqAt.shaped d = true ∧ SeqAt.shaped (.list ds) = true ∧ SeqAt.shaped (.tuple ds) = true ∧ Q (.bl (ds.any fun z => PyData.eqv z d)) H
theorem op_inT (hu : X.A.units + 65 < cLine) : OpR X (compareOp .In) (rInT X.K) := by
  intro pins s σ H x y v u Q I rx ry ⟨d, ds, hd, he, sd, sl, se, q⟩
  obtain ⟨as, r1⟩ := Dp.reads I d x v hd rx
  obtain ⟨bs, r2⟩ := Dp.reads I (.tuple ds) y u he ry
  exact SeqAt.in_tuple_reads r2 r1 (by have := SeqAt.canLay_of_shaped sl; exact this) (SeqAt.canLay_of_shaped sd) (room_in_shaped sd hu) ⟨.bl _, H, I, rfl, q⟩
theorem op_notInT (hu : X.A.units + 65 < cLine) : OpR X (compareOp .NotIn) (rNotInT X.K) := by
  intro pins s σ H x y v u Q I rx ry ⟨d, ds, hd, he, sd, sl, se, q⟩
  obtain ⟨as, r1⟩ := Dp.reads I d x v hd rx
  obtain ⟨bs, r2⟩ := Dp.reads I (.tuple ds) y u he ry
  exact SeqAt.notIn_tuple_reads r2 r1 (by have := SeqAt.canLay_of_shaped sl; exact this) (SeqAt.canLay_of_shaped sd) (room_in_shaped sd hu) ⟨.bl _, H, I, rfl, q⟩
end
end Bs

namespace Bs
open PySem PySem.Spec L2
def top (i : Nat) : Stmt := PySem.Challenge.pw_silencers_k12_whole_calls_by_own_ties.main.body.getD i (.Pass ⟨0, 0, 0, 0⟩)
structure Txt (K : PySem.W.Frag) (mg : Str → Option Value) (C : Addr) : Prop where
  cl : Cls K C
  nSize : NoAttr K C "size"
  nTies : NoAttr K C "ties"
  mg_Web : mg "Web" = some (.ref C)
  mg_MOST_PARTS : ∃ t, mg "MOST_PARTS" = some (.int 24 t)
  xc : PySem.W.findIn K (.ref C) "__class__" = some (some (.builtin "object.__class__"))
  xg : PySem.W.specialIn K (.builtin "object.__class__") "__get__" = some (some (.builtin "getset_descriptor.__get__"))
  xt : PySem.W.takesIn K (.builtin "object.__class__") = some true
  xm : PySem.W.mroIn K C (.type "object") = some true
section
variable {P : Program} {w : World} {K : PySem.W.Frag} {mg : Str → Option Value} {base : Heap} {C : Addr}
def sp_is_integer : Sp := fun vs H Q _ => ∃ i, vs = [.int i] ∧ Q (.bl true) H
abbrev s_is_integer : Stmt := (top 6)
theorem sc_is_integer : FnScope ["thing"] ["thing"] (defScope s_is_integer) := ⟨rfl, rfl, rfl, by decide +kernel, rfl, by decide +kernel, by decide +kernel⟩

theorem ok_is_integer {f : Addr} {fd : FuncData} (F : Fun K "is_integer" "is_integer" s_is_integer f fd) (hm : mg "is_integer" = some (.ref f)) (B : Bl mg) : Cal P w K mg base 1 "is_integer" ["thing"] sp_is_integer := by
  refine ⟨f, fd, F.ok sc_is_integer (fun vs H Q E h => ?_) (fun cdv A outer s H vs Q E hr h => ?_), hm, F.kp, F.binds (ps := ["thing"]) fun _ _ _ _ _ _ us hl => match us, hl with | [_], _ => rfl⟩
  · obtain ⟨i, rfl, _⟩ := h; rfl
  · obtain ⟨i, rfl, k⟩ := h
    refine ⟨_, (pss_one (ps_ret (pe_and (pe_callB call_isi (by rfl) B.isinstance (by decide +kernel) (pa_cons (pv 0) (pa_cons (pe_bltn (v := .ty "int") (by rfl) B.int_ (by decide +kernel) rfl) pa_nil))) (pe_one (pe_not (pe_callB call_isi (by rfl) B.isinstance (by decide +kernel) (pa_cons (pv 0) (pa_cons (pe_bltn (v := .ty "bool") (by rfl) B.bool_ (by decide +kernel) rfl) pa_nil)))))))), ?_⟩
    refine ⟨_, rfl, _, _, _, _, true, rfl, .ty "int", .base (.int i), kit_ty (by decide +kernel), true, rfl, iteT ?_⟩
    refine ⟨_, rfl, _, _, _, _, false, rfl, .ty "bool", .base (.int i), kit_ty (by decide +kernel), false, rfl, ?_⟩
    exact k
def sp_is_number : Sp := fun vs H Q _ => ∃ i a b, vs = [.int i, .int a, .int b] ∧ Q (.bl (decide (a ≤ i ∧ i ≤ b))) H
abbrev s_is_number : Stmt := (top 7)
theorem sc_is_number : FnScope ["thing", "least", "most"] ["thing", "least", "most"] (defScope s_is_number) := ⟨rfl, rfl, rfl, by decide +kernel, rfl, by decide +kernel, by decide +kernel⟩

theorem ok_is_number {f : Addr} {fd : FuncData} (F : Fun K "is_number" "is_number" s_is_number f fd) (hm : mg "is_number" = some (.ref f)) (B : Bl mg) (c_is_integer : Cal P w K mg base 1 "is_integer" ["thing"] sp_is_integer) : Cal P w K mg base 2 "is_number" ["thing", "least", "most"] sp_is_number := by
  refine ⟨f, fd, F.ok sc_is_number (fun vs H Q E h => ?_) (fun cdv A outer s H vs Q E hr h => ?_), hm, F.kp, F.binds (ps := ["thing", "least", "most"]) fun _ _ _ _ _ _ us hl => match us, hl with | [_, _, _], _ => rfl⟩
  · obtain ⟨i, a, b, rfl, _⟩ := h; rfl
  · obtain ⟨i, a, b, rfl, k⟩ := h
    refine ⟨_, (pss_one (ps_ret (pe_and (pe_cal c_is_integer (hr.mono (by first | decide | omega)) (pa_cons (pv 0) pa_nil)) (pe_one (pe_chain op_le op_le (pv 1) (pv 0) (pv 2)))))), ?_⟩
    refine ⟨_, rfl, i, rfl, true, rfl, iteT ?_⟩
    refine ⟨_, rfl, _, rfl, _, _, rfl, rfl, _, rfl, ?_⟩
    by_cases h1 : a ≤ i
    · rw [if_pos (decide_eq_true h1)]
      refine ⟨_, rfl, _, _, rfl, rfl, ?_⟩
      have e : decide (a ≤ i ∧ i ≤ b) = decide (i ≤ b) := by simp [h1]
      rw [e] at k
      exact k
    · rw [if_neg (by simpa using h1)]
      have e : decide (a ≤ i ∧ i ≤ b) = false := by simp [h1]
      rw [e] at k
      exact k
/-- a web at a: its size and its ties -/
structure WebAt (C : Addr) (H : Hp) (a : Addr) (n : Int) (t : Addr) (ps : List (Int × Int)) : Prop where
  ins : ∃ dx fs, H a = some (.ins C dx fs) ∧ fs.lookup ("size" : Str) = some (.int n) ∧ fs.lookup ("ties" : Str) = some (.ref t)
  ties : ∃ xs, H t = some (.tup xs) ∧ Pairs H xs ps
theorem WebAt.same {C : Addr} {H H' : Hp} {a t : Addr} {n : Int} {ps : List (Int × Int)} (h : WebAt C H a n t ps) (e : Same H H') : WebAt C H' a n t ps := by
  obtain ⟨⟨dx, fs, h1, h2⟩, xs, h3, h4⟩ := h
  exact ⟨⟨dx, fs, e _ _ h1, h2⟩, xs, e _ _ h3, h4.tk e.tk⟩
theorem WebAt.exT {C T : Addr} {H H' : Hp} {a t : Addr} {n : Int} {ps : List (Int × Int)} {l : List V} (h : WebAt C H a n t ps) (e : ExT T H H') (hT : H T = some (.lst l)) : WebAt C H' a n t ps := by
  obtain ⟨⟨dx, fs, h1, h2⟩, xs, h3, h4⟩ := h
  exact ⟨⟨dx, fs, e _ _ (ne_of h1 hT (by intro z; cases z)) h1, h2⟩, xs, e.tk hT _ _ h3, h4.tk (e.tk hT)⟩
def sp_is_part (C : Addr) : Sp := fun vs H Q _ => ∃ a n t ps i, vs = [.ref a, .int i] ∧ WebAt C H a n t ps ∧ Q (.bl (decide (0 ≤ i ∧ i ≤ n - 1))) H
abbrev s_is_part : Stmt := (top 8)
theorem sc_is_part : FnScope ["web", "thing"] ["web", "thing"] (defScope s_is_part) := ⟨rfl, rfl, rfl, by decide +kernel, rfl, by decide +kernel, by decide +kernel⟩

theorem ok_is_part {f : Addr} {fd : FuncData} (F : Fun K "is_part" "is_part" s_is_part f fd) (hm : mg "is_part" = some (.ref f)) (B : Bl mg) (T : Txt K mg C) (c_is_number : Cal P w K mg base 2 "is_number" ["thing", "least", "most"] sp_is_number) : Cal P w K mg base 3 "is_part" ["web", "thing"] (sp_is_part C) := by
  refine ⟨f, fd, F.ok sc_is_part (fun vs H Q E h => ?_) (fun cdv A outer s H vs Q E hr h => ?_), hm, F.kp, F.binds (ps := ["web", "thing"]) fun _ _ _ _ _ _ us hl => match us, hl with | [_, _], _ => rfl⟩
  · obtain ⟨a, n, t, ps, i, rfl, _⟩ := h; rfl
  · obtain ⟨a, n, t, ps, i, rfl, ⟨⟨dx, fs, h1, h2, h3⟩, _⟩, k⟩ := h
    refine ⟨_, (pss_one (ps_ret (pe_cal c_is_number (hr.mono (by first | decide | omega)) (pa_cons (pv 1) (pa_cons pe_int (pa_cons (pe_op op_sub (pe_fld (pv 0) rfl) pe_int) pa_nil)))))), ?_⟩
    refine ⟨_, rfl, _, rfl, a, C, dx, fs, _, rfl, h1, T.cl, T.nSize, h2, _, _, rfl, rfl, i, 0, n - 1, rfl, k⟩
def sp_check_part (C : Addr) : Sp := fun vs H Q _ => ∃ a n t ps i, vs = [.ref a, .int i] ∧ WebAt C H a n t ps ∧ 0 ≤ i ∧ i < n ∧ Q .non H
abbrev s_check_part : Stmt := (top 11)
theorem sc_check_part : FnScope ["web", "thing"] ["web", "thing"] (defScope s_check_part) := ⟨rfl, rfl, rfl, by decide +kernel, rfl, by decide +kernel, by decide +kernel⟩

theorem ok_check_part {f : Addr} {fd : FuncData} (F : Fun K "check_part" "check_part" s_check_part f fd) (hm : mg "check_part" = some (.ref f)) (B : Bl mg) (T : Txt K mg C) (c_is_part : Cal P w K mg base 3 "is_part" ["web", "thing"] (sp_is_part C)) : Cal P w K mg base 4 "check_part" ["web", "thing"] (sp_check_part C) := by
  refine ⟨f, fd, F.ok sc_check_part (fun vs H Q E h => ?_) (fun cdv A outer s H vs Q E hr h => ?_), hm, F.kp, F.binds (ps := ["web", "thing"]) fun _ _ _ _ _ _ us hl => match us, hl with | [_, _], _ => rfl⟩
  · obtain ⟨a, n, t, ps, i, rfl, _⟩ := h; rfl
  · obtain ⟨a, n, t, ps, i, rfl, W, h1, h2, k⟩ := h
    refine ⟨_, (pss_one (ps_if (pt_not (pt_val (pe_cal c_is_part (hr.mono (by first | decide | omega)) (pa_cons (pv 0) (pa_cons (pv 1) pa_nil))))) (pss_one ps_never) pss_nil)), ?_⟩
    refine ⟨_, rfl, _, rfl, a, n, t, ps, i, rfl, W, _, rfl, ?_⟩
    have e : decide (0 ≤ i ∧ i ≤ n - 1) = true := decide_eq_true (by omega)
    rw [e]
    exact iteF k

def sp_is_tie : Sp := fun vs H Q _ => ∃ (n : Int) (a : Addr) (p : Int × Int), vs = [.int n, .ref a] ∧ H a = some (.tup [.int p.1, .int p.2]) ∧ Q (.bl (decide (0 ≤ p.1 ∧ p.1 < p.2 ∧ p.2 < n))) H
abbrev s_is_tie : Stmt := (top 26)
theorem sc_is_tie : FnScope ["size", "thing", "a", "b"] ["size", "thing"] (defScope s_is_tie) := ⟨rfl, rfl, rfl, by decide +kernel, rfl, by decide +kernel, by decide +kernel⟩

theorem ok_is_tie {f : Addr} {fd : FuncData} (F : Fun K "is_tie" "is_tie" s_is_tie f fd) (hm : mg "is_tie" = some (.ref f)) (B : Bl mg) (c_is_number : Cal P w K mg base 2 "is_number" ["thing", "least", "most"] sp_is_number) : Cal P w K mg base 3 "is_tie" ["size", "thing"] sp_is_tie := by
  refine ⟨f, fd, F.ok sc_is_tie (fun vs H Q E h => ?_) (fun cdv A outer s H vs Q E hr h => ?_), hm, F.kp, F.binds (ps := ["size", "thing"]) fun _ _ _ _ _ _ us hl => match us, hl with | [_, _], _ => rfl⟩
  · obtain ⟨n, a, p, rfl, _⟩ := h; rfl
  · obtain ⟨n, a, p, rfl, ha, k⟩ := h
    refine ⟨_, (pss_cons (ps_if (PW.pt (pw_or (pt_not (pt_val (pe_callB call_isi (by rfl) B.isinstance (by decide +kernel) (pa_cons (pv 1) (pa_cons (pe_bltn (v := .ty "tuple") (by rfl) B.tuple_ (by decide +kernel) rfl) pa_nil))))) (pw_or1 (pt_cmpR op_ne (pe_callB call_len_seq (by rfl) B.len (by decide +kernel) (pa_cons (pv 1) pa_nil)) pe_int (nomark _))))) (pss_one (ps_ret pe_bl)) pss_nil)
 (pss_cons (ps_asg (pv 1) (pg_tup (by rfl) (pgs_cons (pg_name (i := 2) sc_is_tie.nd rfl (by first | exact Or.inl rfl | exact Or.inr rfl)) (pgs_cons (pg_name (i := 3) sc_is_tie.nd rfl (by first | exact Or.inl rfl | exact Or.inr rfl)) pgs_nil))))
 (pss_one (ps_ret (pe_and (pe_cal c_is_number (hr.mono (by first | decide | omega)) (pa_cons (pv 2) (pa_cons pe_int (pa_cons (pe_op op_sub (pv 0) pe_int) pa_nil)))) (pe_one (pe_cal c_is_number (hr.mono (by first | decide | omega)) (pa_cons (pv 3) (pa_cons (pe_op op_add (pv 2) pe_int) (pa_cons (pe_op op_sub (pv 0) pe_int) pa_nil)))))))))), ?_⟩
    refine ⟨_, rfl, _, _, _, _, true, rfl, .ty "tuple", .base (.tup ha), kit_ty (by decide +kernel), true, rfl, iteF ?_⟩
    refine ⟨_, rfl, a, _, rfl, .inr (SqT.of ha), rfl, _, rfl, iteNS rfl ?_⟩
    refine ⟨_, rfl, _, _, rfl, SqT.of ha, rfl, _, _, rfl, _, _, rfl, rfl, ?_⟩
    refine ⟨_, rfl, _, rfl, _, _, rfl, rfl, p.1, 0, n - 1, rfl, _, rfl, ?_⟩
    by_cases h1 : 0 ≤ p.1 ∧ p.1 ≤ n - 1
    · rw [if_pos (decide_eq_true h1)]
      refine ⟨_, rfl, _, rfl, _, _, rfl, rfl, _, rfl, _, _, rfl, rfl, p.2, p.1 + 1, n - 1, rfl, ?_⟩
      have e : decide (0 ≤ p.1 ∧ p.1 < p.2 ∧ p.2 < n) = decide (p.1 + 1 ≤ p.2 ∧ p.2 ≤ n - 1) := by
        by_cases h2 : p.1 + 1 ≤ p.2 ∧ p.2 ≤ n - 1
        · rw [decide_eq_true h2]; exact decide_eq_true (by omega)
        · rw [decide_eq_false h2]; exact decide_eq_false (by omega)
      rw [e] at k
      exact k
    · rw [if_neg (by simpa using h1)]
      have e : decide (0 ≤ p.1 ∧ p.1 < p.2 ∧ p.2 < n) = false := decide_eq_false (by omega)
      rw [e] at k
      exact k
/-- ties as they should be -/
structure Good (n : Int) (ps : List (Int × Int)) : Prop where
  ok : ∀ p ∈ ps, 0 ≤ p.1 ∧ p.1 < p.2 ∧ p.2 < n
  up : ps.Pairwise lt2
theorem Good.le {n : Int} {ps : List (Int × Int)} (g : Good n ps) {i : Nat} {p q : Int × Int} (h1 : ps[i]? = some p) (h2 : ps[i + 1]? = some q) : lt2 p q := by
  obtain ⟨a1, e1⟩ := List.getElem?_eq_some_iff.mp h1
  obtain ⟨a2, e2⟩ := List.getElem?_eq_some_iff.mp h2
  rw [← e1, ← e2]
  exact List.pairwise_iff_getElem.mp g.up i (i + 1) a1 a2 (Nat.lt_succ_self i)
def sp_wrong_tie : Sp := fun vs H Q _ => ∃ n t xs ps, vs = [.int n, .ref t] ∧ H t = some (.tup xs) ∧ Pairs H xs ps ∧ Good n ps ∧ ∀ H', Same H H' → Q .non H'
abbrev s_wrong_tie : Stmt := (top 27)
theorem sc_wrong_tie : FnScope ["size", "ties", "last", "at", "pair"] ["size", "ties"] (defScope s_wrong_tie) := ⟨rfl, rfl, rfl, by decide +kernel, rfl, by decide +kernel, by decide +kernel⟩

theorem lexLe_no {p q : Int × Int} (h : lt2 p q) : Ob.lexAt (fun j => decide ([q.1, q.2].getD j 0 = [p.1, p.2].getD j 0)) (fun j => decide ([q.1, q.2].getD j 0 ≤ [p.1, p.2].getD j 0)) (decide ([q.1, q.2].length ≤ [p.1, p.2].length)) 0 (min [q.1, q.2].length [p.1, p.2].length) = false := by
  show (if decide (q.1 = p.1) = true then (if decide (q.2 = p.2) = true then true else decide (q.2 ≤ p.2)) else decide (q.1 ≤ p.1)) = false
  unfold lt2 at h
  rcases h with h | ⟨h1, h2⟩
  · rw [if_neg (by simp; omega)]
    exact decide_eq_false (by omega)
  · rw [if_pos (by simp; omega), if_neg (by simp; omega)]
    exact decide_eq_false (by omega)
theorem ok_wrong_tie {f : Addr} {fd : FuncData} (F : Fun K "wrong_tie" "wrong_tie" s_wrong_tie f fd) (hm : mg "wrong_tie" = some (.ref f)) (B : Bl mg) (c_is_tie : Cal P w K mg base 3 "is_tie" ["size", "thing"] sp_is_tie) : Cal P w K mg base 4 "wrong_tie" ["size", "ties"] sp_wrong_tie := by
  refine ⟨f, fd, F.ok sc_wrong_tie (fun vs H Q E h => ?_) (fun cdv A outer s H vs Q E hr h => ?_), hm, F.kp, F.binds (ps := ["size", "ties"]) fun _ _ _ _ _ _ us hl => match us, hl with | [_, _], _ => rfl⟩
  · obtain ⟨n, t, xs, ps, rfl, _⟩ := h; rfl
  · obtain ⟨n, t, xs, ps, rfl, ht, hp, G, k⟩ := h
    refine ⟨_, (pss_cons (ps_set (i := 2) sc_wrong_tie.nd rfl (by first | exact Or.inl rfl | exact Or.inr rfl) (pe_tup pa_nil))
 (pss_cons (ps_for PassesOwn.never rfl (pi_enumT (by rfl) B.enumerate (pa_cons (pv 1) pa_nil)) (pg_tup (by rfl) (pgs_cons (pg_name (i := 3) sc_wrong_tie.nd rfl (by first | exact Or.inl rfl | exact Or.inr rfl)) (pgs_cons (pg_name (i := 4) sc_wrong_tie.nd rfl (by first | exact Or.inl rfl | exact Or.inr rfl)) pgs_nil)))
  (pss_cons (ps_if (PW.pt (pw_or (pt_not (pt_val (pe_cal c_is_tie (hr.mono (by first | decide | omega)) (pa_cons (pv 0) (pa_cons (pv 4) pa_nil))))) (pw_or1 (pt_cmpR (op_leT hr.units0) (pv 4) (pv 2) (nomark _))))) (pss_one (ps_ret (pv 3))) pss_nil)
 (pss_one (ps_set (i := 2) sc_wrong_tie.nd rfl (by first | exact Or.inl rfl | exact Or.inr rfl) (pv 4)))))
 (pss_one (ps_ret pe_non)))), ?_⟩
    refine ⟨Nat.zero_le _, fun z hz => ?_⟩
    refine ⟨_, rfl, t, xs, rfl, SqT.of ((Same.new hz) _ _ ht), for_it (walk_enumT (K := K) (a := t) (xs := xs)) (fun i σ H' => Same H H' ∧ ∃ (u v : Option V) (l : Addr) (ms : List Int), σ = [some (.int n), some (.ref t), some (.ref l), u, v] ∧ H' l = some (.tup (ms.map V.int)) ∧ (i = 0 → ms = []) ∧ ∀ j q, i = j + 1 → ps[j]? = some q → ms = [q.1, q.2])
      ⟨Same.new hz, none, none, z, [], rfl, upd_same, fun _ => rfl, fun j q e _ => by omega⟩ (fun i σ H' _ p => SqT.of (p.1 _ _ ht)) ?_ ?_⟩
    · rintro i y σ H1 H2 hi ⟨e1, u, v, l, ms, rfl, hl, m0, m1⟩ ⟨A1, y1, y2, rfl, hA, rfl, hy1, hy2⟩
      cases hy1
      obtain ⟨q, hq, a, rfl, hqa⟩ := Paired.get hp hy2
      have e2 : Same H1 (upd H1 A1 (.tup [.int (i : Nat), .ref a])) := Same.new hA
      have hqa2 := e2 _ _ (e1 _ _ hqa)
      refine ⟨A1, _, rfl, SqT.of upd_same, rfl, _, _, rfl, _, _, rfl, rfl, ?_⟩
      refine ⟨_, rfl, _, rfl, n, a, q, rfl, hqa2, _, rfl, ?_⟩
      rw [decide_eq_true (G.ok q (List.mem_of_getElem? hq))]
      refine iteF ?_
      refine ⟨_, rfl, _, rfl, a, l, [q.1, q.2], ms, rfl, rfl, SqT.of hqa2, SqT.of (e2 _ _ hl), ?_⟩
      have no : Ob.lexAt (fun j => decide ([q.1, q.2].getD j 0 = ms.getD j 0)) (fun j => decide ([q.1, q.2].getD j 0 ≤ ms.getD j 0)) (decide ([q.1, q.2].length ≤ ms.length)) 0 (min [q.1, q.2].length ms.length) = false := by
        cases i with
        | zero => rw [m0 rfl]; rfl
        | succ j =>
          have hj : j < ps.length := by
            have := (List.getElem?_eq_some_iff.mp hq).1
            omega
          rw [m1 j ps[j] rfl (List.getElem?_eq_getElem hj)]
          exact lexLe_no (G.le (List.getElem?_eq_getElem hj) hq)
      rw [no]
      refine ⟨_, rfl, iteF ?_⟩
      refine ⟨_, rfl, e1.trans e2, _, _, a, [q.1, q.2], rfl, hqa2, fun e => by omega, fun j q' e h' => ?_⟩
      have : j = i := by omega
      subst this
      rw [hq] at h'
      cases h'
      rfl
    · rintro σ H' ⟨e1, _⟩
      exact k _ e1
end
open PySem PySem.Spec L2
/-! ## ties as data -/
def pD (p : Int × Int) : PyData := .tuple [.int p.1, .int p.2]
theorem pD_lay (z : Int × Int) : (pD z).canLay0 = true := by simp [pD, PyData.canLay0, PyData.canLayAll0]
theorem pD_depth (z : Int × Int) : (pD z).depth = 1 := by simp [pD, PyData.depth, PyData.depthAll]
theorem pDs_lay : ∀ zs : List (Int × Int), PyData.canLayAll0 (zs.map pD) = true
  | [] => by simp [PyData.canLayAll0]
  | z :: zs => by simp [PyData.canLayAll0, pD_lay z, pDs_lay zs]
theorem pDs_depth : ∀ zs : List (Int × Int), PyData.depthAll (zs.map pD) ≤ 1
  | [] => by simp [PyData.depthAll]
  | z :: zs => by
    have h1 := pDs_depth zs
    have h2 := pD_depth z
    simp only [List.map_cons, PyData.depthAll]
    omega
theorem pD_shaped (z : Int × Int) : SeqAt.shaped (pD z) = true := by
  have h := pD_depth z
  show ((pD z).canLay0 && decide ((pD z).depth ≤ 64)) = true
  rw [Bool.and_eq_true]
  exact ⟨pD_lay z, decide_eq_true (by omega)⟩
theorem pDs_shaped (zs : List (Int × Int)) : SeqAt.shaped (.tuple (zs.map pD)) = true := by
  have h1 := pDs_depth zs
  have h2 : PyData.depth (.tuple (zs.map pD)) ≤ 64 := by
    simp only [PyData.depth]
    omega
  show (PyData.canLay0 (.tuple (zs.map pD)) && decide (PyData.depth (.tuple (zs.map pD)) ≤ 64)) = true
  rw [Bool.and_eq_true]
  exact ⟨by simp only [PyData.canLay0]; exact pDs_lay zs, decide_eq_true h2⟩
theorem pDs_shapedL (zs : List (Int × Int)) : SeqAt.shaped (.list (zs.map pD)) = true := by
  have h1 := pDs_depth zs
  have h2 : PyData.depth (.list (zs.map pD)) ≤ 64 := by
    simp only [PyData.depth]
    omega
  show (PyData.canLay0 (.list (zs.map pD)) && decide (PyData.depth (.list (zs.map pD)) ≤ 64)) = true
  rw [Bool.and_eq_true]
  exact ⟨by simp only [PyData.canLay0]; exact pDs_lay zs, decide_eq_true h2⟩
theorem pD_eqv (z w : Int × Int) : PyData.eqv (pD z) (pD w) = decide (z = w) := by
  obtain ⟨a, b⟩ := z
  obtain ⟨a', b'⟩ := w
  have e : PyData.eqv (pD (a, b)) (pD (a', b')) = ((a == a') && ((b == b') && true)) := by simp only [pD, PyData.eqv, PyData.eqvAll]
  rw [e]
  by_cases h : ((a, b) : Int × Int) = (a', b')
  · cases h; simp
  · rw [decide_eq_false h]
    by_cases h1 : a = a'
    · have q : (b == b') = false := beq_eq_false_iff_ne.mpr (fun h2 => h (by rw [h1, h2]))
      rw [q]; simp
    · have q : (a == a') = false := beq_eq_false_iff_ne.mpr h1
      rw [q]; simp
theorem pDs_eqv : ∀ ps qs : List (Int × Int), PyData.eqvAll (ps.map pD) (qs.map pD) = decide (ps = qs)
  | [], [] => by simp [PyData.eqvAll]
  | [], q :: qs => by simp [PyData.eqvAll]
  | p :: ps, [] => by simp [PyData.eqvAll]
  | p :: ps, q :: qs => by
    rw [List.map_cons, List.map_cons]
    simp only [PyData.eqvAll]
    rw [pD_eqv, pDs_eqv ps qs]
    by_cases h1 : p = q
    · by_cases h2 : ps = qs <;> simp [h1, h2]
    · simp [h1]
theorem pDt_eqv (ps qs : List (Int × Int)) : PyData.eqv (.tuple (ps.map pD)) (.tuple (qs.map pD)) = decide (ps = qs) := by
  simp only [PyData.eqv]
  exact pDs_eqv ps qs
section
variable {K : PySem.W.Frag} {H : Hp}
theorem dp_pair {v : V} {p : Int × Int} (h : PairAt H v p) : Dp K H v (pD p) := by
  obtain ⟨a, rfl, h2⟩ := h
  exact .tup (SqT.of h2) (.cons (.int _) (.cons (.int _) .nil))
theorem dp_pairs : ∀ {xs : List V} {ps : List (Int × Int)}, Pairs H xs ps → DpAll K H xs (ps.map pD)
  | _, _, .nil => .nil
  | _, _, .cons r t => .cons (dp_pair r) (dp_pairs t)
theorem dp_ties {t : Addr} {xs : List V} {ps : List (Int × Int)} (h : H t = some (.tup xs)) (hp : Pairs H xs ps) : Dp K H (.ref t) (.tuple (ps.map pD)) := .tup (SqT.of h) (dp_pairs hp)
theorem dp_list {t : Addr} {xs : List V} {ps : List (Int × Int)} (h : H t = some (.lst xs)) (hp : Pairs H xs ps) : Dp K H (.ref t) (.list (ps.map pD)) := .lst (SqL.of h) (dp_pairs hp)
end
/-! ## lists in order -/
theorem lt2_irr {p : Int × Int} : ¬ lt2 p p := by unfold lt2; omega
theorem lt2_trans {p q r : Int × Int} (h1 : lt2 p q) (h2 : lt2 q r) : lt2 p r := by unfold lt2 at *; omega
theorem lt2_of {p q : Int × Int} (h : le2 p q) (n : p ≠ q) : lt2 p q := by
  unfold le2 at h; unfold lt2
  rcases h with h | ⟨h1, h2⟩
  · exact .inl h
  · refine .inr ⟨h1, ?_⟩
    have : p.2 ≠ q.2 := fun e => n (Prod.ext h1 e)
    omega
theorem up_of {ps : List (Int × Int)} (h : ps.Pairwise le2) (n : ps.Nodup) : ps.Pairwise lt2 := by
  induction ps with
  | nil => exact .nil
  | cons p ps ih =>
    obtain ⟨h1, h2⟩ := List.pairwise_cons.mp h
    obtain ⟨n1, n2⟩ := List.nodup_cons.mp n
    refine List.pairwise_cons.mpr ⟨fun q hq => lt2_of (h1 q hq) (fun e => n1 (e ▸ hq)), ih h2 n2⟩
theorem up_ext : ∀ {ps qs : List (Int × Int)}, ps.Pairwise lt2 → qs.Pairwise lt2 → (∀ p, p ∈ ps ↔ p ∈ qs) → ps = qs
  | [], [], _, _, _ => rfl
  | [], q :: qs, _, _, h => by have := (h q).mpr (by simp); simp at this
  | p :: ps, [], _, _, h => by have := (h p).mp (by simp); simp at this
  | p :: ps, q :: qs, hp, hq, h => by
    obtain ⟨p1, p2⟩ := List.pairwise_cons.mp hp
    obtain ⟨q1, q2⟩ := List.pairwise_cons.mp hq
    have e : p = q := by
      rcases List.mem_cons.mp ((h p).mp (by simp)) with e | e
      · exact e
      · rcases List.mem_cons.mp ((h q).mpr (by simp)) with e' | e'
        · exact e'.symm
        · exact absurd (lt2_trans (q1 p e) (p1 q e')) lt2_irr
    subst e
    have : ps = qs := up_ext p2 q2 fun r => by
      constructor
      · intro hr
        rcases List.mem_cons.mp ((h r).mp (by simp [hr])) with e | e
        · subst e; exact absurd (p1 r hr) lt2_irr
        · exact e
      · intro hr
        rcases List.mem_cons.mp ((h r).mpr (by simp [hr])) with e | e
        · subst e; exact absurd (q1 r hr) lt2_irr
        · exact e
    rw [this]
theorem up_nodup {ps : List (Int × Int)} (h : ps.Pairwise lt2) : ps.Nodup := List.Pairwise.imp (fun {a b} (q : lt2 a b) => show a ≠ b from fun e => by subst e; exact lt2_irr q) h
def norm (a b : Int) : Int × Int := (if b < a then b else a, if b > a then b else a)
theorem norm_id {p : Int × Int} (h : p.1 < p.2) : norm p.1 p.2 = p := by
  unfold norm
  rw [if_neg (by omega), if_pos h]
section
variable {P : Program} {w : World} {K : PySem.W.Frag} {mg : Str → Option Value} {base : Heap} {C : Addr}
/-! ## Web -/
def wf (n : Int) (t : Addr) : List (Str × V) := putF "ties" (.ref t) (putF "size" (.int n) [])
theorem ts_ : ¬ (("ties" : Str) = "size") := by decide +kernel
theorem st_ : ¬ (("size" : Str) = "ties") := by decide +kernel
theorem wf_size (n : Int) (t : Addr) : (wf n t).lookup ("size" : Str) = some (.int n) := by
  unfold wf
  rw [lookup_putF, if_neg st_, lookup_putF, if_pos rfl]
theorem wf_ties (n : Int) (t : Addr) : (wf n t).lookup ("ties" : Str) = some (.ref t) := by
  unfold wf
  rw [lookup_putF, if_pos rfl]
theorem wf_len (n : Int) (t : Addr) : (wf n t).length = 2 := by
  show (if ("size" : Str) = "ties" then [(("size" : Str), V.ref t)] else (("size" : Str), V.int n) :: putF "ties" (V.ref t) []).length = 2
  rw [if_neg st_]
  rfl
def sp_Web_init (C : Addr) : Sp := fun vs H Q _ => ∃ x dx n t xs ps, vs = [.ref x, .int n, .ref t] ∧ H x = some (.ins C dx []) ∧ 1 ≤ n ∧ n ≤ 24 ∧ H t = some (.tup xs) ∧ Pairs H xs ps ∧ Good n ps ∧ ∀ H', ExT x H H' → H' x = some (.ins C dx (wf n t)) → Q .non H'
abbrev s_Web_init : Stmt := (inClass (top 25) 0)
theorem sc_Web_init : FnScope ["self", "size", "ties", "wrong"] ["self", "size", "ties"] (defScope s_Web_init) := ⟨rfl, rfl, rfl, by decide +kernel, rfl, by decide +kernel, by decide +kernel⟩

theorem ok_Web_init {f : Addr} {fd : FuncData} (F : Fun K "__init__" "Web.__init__" s_Web_init f fd) (B : Bl mg) (T : Txt K mg C) (c_is_number : Cal P w K mg base 2 "is_number" ["thing", "least", "most"] sp_is_number) (c_wrong_tie : Cal P w K mg base 4 "wrong_tie" ["size", "ties"] sp_wrong_tie) : FnOk P w K mg base CX0 5 f fd ["self", "size", "ties"] (sp_Web_init C) := by
  refine F.ok sc_Web_init (fun vs H Q E h => ?_) (fun cdv A outer s H vs Q E hr h => ?_)
  · obtain ⟨x, dx, n, t, xs, ps, rfl, _⟩ := h; rfl
  · obtain ⟨x, dx, n, t, xs, ps, rfl, hx, n1, n2, ht, hp, G, k⟩ := h
    obtain ⟨t24, h24⟩ := T.mg_MOST_PARTS
    refine ⟨_, (pss_cons (ps_if (pt_not (pt_val (pe_cal c_is_number (hr.mono (by first | decide | omega)) (pa_cons (pv 1) (pa_cons pe_int (pa_cons (pe_glob (v := .int 24) (by rfl) h24 ⟨_, rfl⟩) pa_nil)))))) (pss_one ps_never) pss_nil)
 (pss_cons (ps_if (pt_not (pt_val (pe_callB call_isi (by rfl) B.isinstance (by decide +kernel) (pa_cons (pv 2) (pa_cons (pe_bltn (v := .ty "tuple") (by rfl) B.tuple_ (by decide +kernel) rfl) pa_nil))))) (pss_one ps_never) pss_nil)
 (pss_cons (ps_set (i := 3) sc_Web_init.nd rfl (by first | exact Or.inl rfl | exact Or.inr rfl) (pe_cal c_wrong_tie (hr.mono (by first | decide | omega)) (pa_cons (pv 1) (pa_cons (pv 2) pa_nil))))
 (pss_cons (ps_if (pt_cmpR op_notN (pv 3) pe_non (nomark _)) (pss_one ps_never) pss_nil)
 (pss_cons (ps_fld (pv 0) (pv 1) rfl)
 (pss_one (ps_fld (pv 0) (pv 2) rfl))))))), ?_⟩
    refine ⟨_, rfl, n, 1, 24, rfl, _, rfl, ?_⟩
    rw [decide_eq_true (⟨n1, n2⟩ : 1 ≤ n ∧ n ≤ 24)]
    refine iteF ?_
    refine ⟨_, rfl, _, _, _, _, true, rfl, .ty "tuple", .base (.tup ht), kit_ty (by decide +kernel), true, rfl, iteF ?_⟩
    refine ⟨_, rfl, _, rfl, n, t, xs, ps, rfl, ht, hp, G, fun H1 e1 => ?_⟩
    refine ⟨_, rfl, rfl, _, rfl, iteF ?_⟩
    refine ⟨_, rfl, _, rfl, x, C, dx, [], rfl, e1 _ _ hx, T.cl, T.nSize, (by decide), ?_⟩
    refine ⟨_, rfl, _, rfl, x, C, dx, _, rfl, upd_same, T.cl, T.nTies, (by show 1 < 1000; decide), ?_⟩
    exact k _ (e1.exT.upd.upd) upd_same
/-- Web(size, ties) -/
theorem make_web {H : Hp} {n : Int} {t : Addr} {xs : List V} {ps : List (Int × Int)} {Q : Addr → Hp → Prop} (n1 : 1 ≤ n) (n2 : n ≤ 24) (ht : H t = some (.tup xs)) (hp : Pairs H xs ps) (G : Good n ps)
    (k : ∀ x H', Same H H' → H x = none → WebAt C H' x n t ps → (∃ dx, H' x = some (.ins C dx (wf n t))) → Q x H') :
    ∀ x dx, H x = none → H dx = none → dx ≠ x → sp_Web_init C (.ref x :: ([.int n, .ref t] ++ [])) (upd (upd H dx (.own x)) x (.ins C dx [])) (fun v H2 => v = .non ∧ Q x H2) E0 := by
  intro x dx nx nd ne
  have s0 : Same H (upd (upd H dx (.own x)) x (.ins C dx [])) := fun b o e => by
    rw [upd_ne (ne_of_none e nx), upd_ne (ne_of_none e nd)]
    exact e
  refine ⟨x, dx, n, t, xs, ps, rfl, upd_same, n1, n2, s0 _ _ ht, hp.tk s0.tk, G, fun H' e' h' => ⟨rfl, ?_⟩⟩
  have s1 : Same H H' := fun b o e => e' _ _ (ne_of_none e nx) (s0 _ _ e)
  exact k x H' s1 nx ⟨⟨dx, _, h', wf_size n t, wf_ties n t⟩, xs, s1 _ _ ht, hp.tk s1.tk⟩ ⟨dx, h'⟩
def sp_Web_eq (C : Addr) : Sp := fun vs H Q _ => ∃ a b n m t u ps qs, vs = [.ref a, .ref b] ∧ WebAt C H a n t ps ∧ WebAt C H b m u qs ∧ Q (.bl (decide (n = m ∧ ps = qs))) H
theorem kit_own {C : Addr} : PySem.W.kitOne K (.ref C) (.ref C) = some true := by
  unfold PySem.W.kitOne
  simp
abbrev s_Web_eq : Stmt := (inClass (top 25) 1)
theorem sc_Web_eq : FnScope ["self", "other"] ["self", "other"] (defScope s_Web_eq) := ⟨rfl, rfl, rfl, by decide +kernel, rfl, by decide +kernel, by decide +kernel⟩

theorem ok_Web_eq {f : Addr} {fd : FuncData} (F : Fun K "__eq__" "Web.__eq__" s_Web_eq f fd) (B : Bl mg) (T : Txt K mg C) : FnOk P w K mg base CX0 1 f fd ["self", "other"] (sp_Web_eq C) := by
  refine F.ok sc_Web_eq (fun vs H Q E h => ?_) (fun cdv A outer s H vs Q E hr h => ?_)
  · obtain ⟨a, b, n, m, t, u, ps, qs, rfl, _⟩ := h; rfl
  · obtain ⟨a, b, n, m, t, u, ps, qs, rfl, ⟨⟨dx, fs, h1, h2, h3⟩, xs, h4, h5⟩, ⟨⟨dy, gs, g1, g2, g3⟩, ys, g4, g5⟩, k⟩ := h
    refine ⟨_, (pss_one (ps_ret (pe_and (pe_callB call_isi (by rfl) B.isinstance (by decide +kernel) (pa_cons (pv 1) (pa_cons (pe_globR T.mg_Web) pa_nil))) (pe_and (pe_cmpR op_eq (pe_fld (pv 0) rfl) (pe_fld (pv 1) rfl) (nomark _)) (pe_one (pe_cmpR (op_eqD hr.units) (pe_fld (pv 0) rfl) (pe_fld (pv 1) rfl) (nomark _))))))), ?_⟩
    refine ⟨_, rfl, _, _, _, _, true, rfl, .own C, .base (.ins g1 T.cl T.xc T.xg T.xt T.xm), kit_own, true, rfl, iteT ?_⟩
    refine ⟨_, rfl, a, C, dx, fs, _, rfl, h1, T.cl, T.nSize, h2, _, rfl, b, C, dy, gs, _, rfl, g1, T.cl, T.nSize, g2, rfl, _, rfl, ?_⟩
    by_cases e : n = m
    · rw [if_pos (decide_eq_true (by rw [e]))]
      refine ⟨_, rfl, a, C, dx, fs, _, rfl, h1, T.cl, T.nTies, h3, _, rfl, b, C, dy, gs, _, rfl, g1, T.cl, T.nTies, g3, _, _, dp_ties h4 h5, dp_ties g4 g5, pDs_shaped ps, pDs_shaped qs, ?_⟩
      rw [pDt_eqv]
      have e2 : decide (n = m ∧ ps = qs) = decide (ps = qs) := by simp [e]
      rw [e2] at k
      exact k
    · rw [if_neg (by simpa using e)]
      have e2 : decide (n = m ∧ ps = qs) = false := decide_eq_false fun q => e q.1
      rw [e2] at k
      exact k
end
open PySem PySem.Spec L2
theorem paired_map {α β γ : Type} {F : α → γ → Prop} {g : β → γ} : ∀ {l : List α} {m : List β}, Paired (fun v a => F v (g a)) l m → Paired F l (m.map g)
  | _, _, .nil => .nil
  | _, _, .cons r t => .cons r (paired_map t)
theorem paired_eq {α : Type} {g : α → V} : ∀ {l : List V} {m : List α}, Paired (fun v a => v = g a) l m → l = m.map g
  | _, _, .nil => rfl
  | _, _, .cons r t => by rw [r, paired_eq t]; rfl
theorem filter_yes {α : Type} (l : List α) : l.filter (fun _ => true) = l := List.filter_eq_self.mpr fun _ _ => rfl
theorem paired_at {α : Type} {F : V → α → Prop} {xs : List V} {as : List α} {i : Nat} {x : V} {a : α} (h : Paired F xs as) (hx : xs[i]? = some x) (ha : as[i]? = some a) : F x a := by
  obtain ⟨b, hb, q⟩ := Paired.get h hx
  rw [ha] at hb
  cases hb
  exact q
section
variable {P : Program} {w : World} {K : PySem.W.Frag} {mg : Str → Option Value} {base : Heap} {C : Addr}
theorem inV_pair (k a b : Int) : inV (.int k) [.int a, .int b] = (a == k || b == k) := by
  simp [inV, eqV]
theorem norm_lt {a b : Int} (h : a ≠ b) : (norm a b).1 < (norm a b).2 := by
  unfold norm
  by_cases h1 : b < a
  · rw [if_pos h1, if_neg (by omega)]; exact h1
  · rw [if_neg h1, if_pos (by omega)]; show a < b; omega
theorem norm_in {a b n : Int} (h : a ≠ b) (a1 : 0 ≤ a) (a2 : a < n) (b1 : 0 ≤ b) (b2 : b < n) : 0 ≤ (norm a b).1 ∧ (norm a b).1 < (norm a b).2 ∧ (norm a b).2 < n := by
  unfold norm
  by_cases h1 : b < a
  · rw [if_pos h1, if_neg (by omega)]; exact ⟨b1, h1, a2⟩
  · rw [if_neg h1, if_pos (by omega)]; exact ⟨a1, by show a < b; omega, b2⟩
theorem map_norm {n : Int} {ps : List (Int × Int)} (h : ∀ p ∈ ps, p.1 < p.2) : (ps.map fun p => norm p.1 p.2) = ps := by
  induction ps with
  | nil => rfl
  | cons p ps ih => rw [List.map_cons, norm_id (h p (by simp)), ih fun q hq => h q (by simp [hq])]
theorem good_of {n : Int} {qs rs : List (Int × Int)} (hp : qs.Perm rs) (hl : qs.Pairwise le2) (hn : rs.Nodup) (ok : ∀ p ∈ rs, 0 ≤ p.1 ∧ p.1 < p.2 ∧ p.2 < n) : Good n qs :=
  ⟨fun p h => ok p (hp.mem_iff.mp h), up_of hl (hp.nodup_iff.mpr hn)⟩
end
open PySem PySem.Spec L2
theorem fm0 {a m : Int} (h : 0 < m) : 0 ≤ a.fmod m ∧ a.fmod m < m := by
  rw [Int.fmod_eq_emod_of_nonneg _ (Int.le_of_lt h)]
  exact ⟨Int.emod_nonneg _ (by omega), Int.emod_lt_of_pos _ h⟩
theorem on_if {c : Prop} [Decidable c] {A B : Hp → Prop} {H : Hp} (h1 : c → A H) (h2 : ¬ c → B H) : (fun (b : Bool) (H1 : Hp) => if b = true then A H1 else B H1) (decide c) H := by
  by_cases h : c
  · show (if decide c = true then A H else B H)
    rw [if_pos (decide_eq_true h)]; exact h1 h
  · show (if decide c = true then A H else B H)
    rw [if_neg (by simpa using h)]; exact h2 h
theorem on_ifN {c : Prop} [Decidable c] {A B : Hp → Prop} {H : Hp} (h1 : ¬ c → A H) (h2 : c → B H) : (fun (b : Bool) (H1 : Hp) => if b = true then A H1 else B H1) (!decide c) H := by
  by_cases h : c
  · show (if (!decide c) = true then A H else B H)
    rw [if_neg (by simpa using h)]; exact h2 h
  · show (if (!decide c) = true then A H else B H)
    rw [if_pos (by simpa using h)]; exact h1 h
section
variable {P : Program} {w : World} {K : PySem.W.Frag} {mg : Str → Option Value} {base : Heap} {C : Addr}
def sp_tape (K : PySem.W.Frag) : Sp := fun vs H Q _ => ∃ (a : Addr) (ns : List Int), vs = [.ref a] ∧ SqL K H a (ns.map V.int) ∧ ∀ T L H', Same H H' → H T = none → H L = none → Tp H' T L → Q (.ref T) H'
abbrev s__law_tape : Stmt := (top 29)
theorem sc__law_tape : FnScope ["script"] ["script"] (defScope s__law_tape) := ⟨rfl, rfl, rfl, by decide +kernel, rfl, by decide +kernel, by decide +kernel⟩

theorem ok_law_tape {f : Addr} {fd : FuncData} (F : Fun K "_law_tape" "_law_tape" s__law_tape f fd) (hm : mg "_law_tape" = some (.ref f)) (B : Bl mg) : Cal P w K mg base 1 "_law_tape" ["script"] (sp_tape K) := by
  refine ⟨f, fd, F.ok sc__law_tape (fun vs H Q E h => ?_) (fun cdv A outer s H vs Q E hr h => ?_), hm, F.kp, F.binds (ps := ["script"]) fun _ _ _ _ _ _ us hl => match us, hl with | [_], _ => rfl⟩
  · obtain ⟨a, ns, rfl, _⟩ := h; rfl
  · obtain ⟨a, ns, rfl, hS, k⟩ := h
    refine ⟨_, (pss_one (ps_ret (pe_lst (pa_cons (pe_callTy call_list_of (by rfl) B.list_ (by decide +kernel) (pa_cons (pv 0) pa_nil)) (pa_cons pe_int (pa_cons pe_int (pa_cons pe_int (pa_cons pe_int pa_nil)))))))), ?_⟩
    refine ⟨_, rfl, a, _, rfl, .inl hS, fun l hl => ?_⟩
    refine ⟨by show 5 ≤ sizeLine; decide, fun T hT => ?_⟩
    have e := (L2.Same.new (o := .lst (ns.map V.int)) hl).new' (o := .lst [.ref l, .int 0, .int 0, .int 1, .int 0]) hT
    have ne : l ≠ T := fun q => by rw [← q, upd_same] at hT; cases hT
    exact k T l _ e (L2.Same.free (L2.Same.new hl) hT) hl ⟨⟨ns, 0, 0, 1, 0⟩, upd_same, by rw [upd_ne ne, upd_same], ne, (by show (0 : Int) ≤ 0; decide), (by show (0 : Int) ≤ 1; decide), (by show (1 : Int) < 2147483648; decide)⟩
abbrev s__law_pick : Stmt := (top 30)
theorem sc__law_pick : FnScope ["tape", "many", "digit", "cell", "mixed"] ["tape", "many"] (defScope s__law_pick) := ⟨rfl, rfl, rfl, by decide +kernel, rfl, by decide +kernel, by decide +kernel⟩

theorem ok_law_pick {f : Addr} {fd : FuncData} (F : Fun K "_law_pick" "_law_pick" s__law_pick f fd) (hm : mg "_law_pick" = some (.ref f)) (B : Bl mg) : Cal P w K mg base 1 "_law_pick" ["tape", "many"] spPick := by
  refine ⟨f, fd, F.ok sc__law_pick (fun vs H Q E h => ?_) (fun cdv A outer s H vs Q E hr h => ?_), hm, F.kp, F.binds (ps := ["tape", "many"]) fun _ _ _ _ _ _ us hl => match us, hl with | [_, _], _ => rfl⟩
  · obtain ⟨T, l, m, rfl, _⟩ := h; rfl
  · obtain ⟨T, l, m, rfl, m1, m2, ⟨⟨ns, i1, i2, i3, i4⟩, hT, hl, ne, p1, p3, p4⟩, k⟩ := h
    dsimp only at hT hl ne p1 p3 p4
    have m0 : m ≠ 0 := by omega
    have mN : m.natAbs < 1073741824 := by omega
    refine ⟨_, (pss_cons (ps_if (pt_cmpR op_gt (pe_ix ix_list (pv 0) pe_int (fun _ _ => rfl)) pe_int (nomark _)) (pss_cons (ps_set (i := 2) sc__law_pick.nd rfl (by first | exact Or.inl rfl | exact Or.inr rfl) (pe_op op_modN (pe_callTy call_int1 (by rfl) B.int_ (by decide +kernel) (pa_cons (pe_ix ix_list (pv 0) pe_int (fun _ _ => rfl)) pa_nil)) (pv 1)))
 (pss_cons (ps_asg (pe_op op_fdivN (pe_ix ix_list (pv 0) pe_int (fun _ _ => rfl)) (pv 1)) (pg_sub (pv 0) pe_int set_list))
 (pss_one (ps_ret (pv 2))))) pss_nil)
 (pss_cons (ps_asg (pe_op op_add (pe_ix ix_list (pv 0) pe_int (fun _ _ => rfl)) pe_int) (pg_sub (pv 0) pe_int set_list))
 (pss_cons (ps_set (i := 3) sc__law_pick.nd rfl (by first | exact Or.inl rfl | exact Or.inr rfl) pe_int)
 (Evl.pss_cut (ps_if (pt_cmpR op_lt (pe_ix ix_list (pv 0) pe_int (fun _ _ => rfl)) (pe_callB call_len_seq (by rfl) B.len (by decide +kernel) (pa_cons (pe_ix ix_list (pv 0) pe_int (fun _ _ => rfl)) pa_nil)) (nomark _)) (pss_cons (ps_set (i := 3) sc__law_pick.nd rfl (by first | exact Or.inl rfl | exact Or.inr rfl) (pe_ix ix_list (pe_ix ix_list (pv 0) pe_int (fun _ _ => rfl)) (pe_ix ix_list (pv 0) pe_int (fun _ _ => rfl)) (fun _ _ => rfl)))
 (pss_one (ps_asg (pe_op op_add (pe_ix ix_list (pv 0) pe_int (fun _ _ => rfl)) pe_int) (pg_sub (pv 0) pe_int set_list)))) pss_nil)
 (pss_cons (ps_if (pt_cmpR op_ge (pv 3) (pe_op op_pow pe_int pe_int) (nomark _)) (pss_cons (ps_asg (pe_op op_fdivN (pv 3) (pv 1)) (pg_sub (pv 0) pe_int set_list))
 (pss_one (ps_ret (pe_op op_modN (pe_callTy call_int1 (by rfl) B.int_ (by decide +kernel) (pa_cons (pv 3) pa_nil)) (pv 1))))) pss_nil)
 (pss_cons (ps_set (i := 4) sc__law_pick.nd rfl (by first | exact Or.inl rfl | exact Or.inr rfl) (pe_op op_modN (pe_callTy call_int1 (by rfl) B.int_ (by decide +kernel) (pa_cons (pe_op op_add (pe_op op_add (pe_op op_mul (pe_ix ix_list (pv 0) pe_int (fun _ _ => rfl)) pe_int) (pe_op op_modN (pe_callTy call_int1 (by rfl) B.int_ (by decide +kernel) (pa_cons (pv 3) pa_nil)) pe_int)) (pe_op op_mul (pe_ix ix_list (pv 0) pe_int (fun _ _ => rfl)) pe_int)) pa_nil)) pe_int))
 (pss_cons (ps_set (i := 4) sc__law_pick.nd rfl (by first | exact Or.inl rfl | exact Or.inr rfl) (pe_op op_modN (pe_callTy call_int1 (by rfl) B.int_ (by decide +kernel) (pa_cons (pe_op op_mul (pv 4) (pe_op op_add (pe_op op_fdivN (pv 4) pe_int) pe_int)) pa_nil)) pe_int))
 (pss_cons (ps_asg (pv 4) (pg_sub (pv 0) pe_int set_list))
 (pss_one (ps_ret (pe_op op_modN (pe_callTy call_int1 (by rfl) B.int_ (by decide +kernel) (pa_cons (pe_op op_fdivN (pv 4) pe_int) pa_nil)) (pv 1)))))))))))), ?_⟩
    refine ⟨_, rfl, T, _, 2, _, rfl, rfl, SqL.of hT, rfl, _, _, rfl, rfl, _, rfl, ?_⟩
    refine on_if (fun c => ?_) (fun c => ?_)
    · refine ⟨_, rfl, T, _, 2, _, rfl, rfl, SqL.of hT, rfl, .inl ⟨_, rfl, ?_⟩⟩
      refine ⟨_, rfl, _, _, rfl, rfl, m0, ?_⟩
      refine ⟨_, rfl, T, _, 2, _, rfl, rfl, SqL.of hT, rfl, _, rfl, _, _, rfl, rfl, ⟨m0, mN⟩, ?_⟩
      refine ⟨_, rfl, T, _, 2, 2, rfl, rfl, hT, rfl, ?_⟩
      refine ⟨_, rfl, k _ _ (fm0 m1).1 (fm0 m1).2 ExT.rfl'.upd ⟨⟨ns, i1, i2.fdiv m, i3, i4⟩, upd_same, by rw [upd_ne ne]; exact hl, ne, p1, p3, p4⟩⟩
    · refine ⟨_, rfl, T, _, 4, _, rfl, rfl, SqL.of hT, rfl, _, _, rfl, rfl, ?_⟩
      refine ⟨_, rfl, T, _, 4, 4, rfl, rfl, hT, rfl, ?_⟩
      have e1 : ExT T H (upd H T (.lst ([.ref l, .int i1, .int i2, .int i3, .int i4].set 4 (.int (i4 + 1))))) := ExT.rfl'.upd
      generalize hH1 : upd H T (.lst ([.ref l, .int i1, .int i2, .int i3, .int i4].set 4 (.int (i4 + 1)))) = H1 at e1 ⊢
      have hT1 : H1 T = some (.lst [.ref l, .int i1, .int i2, .int i3, .int (i4 + 1)]) := by rw [← hH1]; exact upd_same
      have hl1 := e1 _ _ ne hl
      refine ⟨fun σ H' => ∃ (cc i1' : Int), σ = [some (.ref T), some (.int m), none, some (.int cc), none] ∧ ExT T H H' ∧ H' T = some (.lst [.ref l, .int i1', .int i2, .int i3, .int (i4 + 1)]) ∧ 0 ≤ i1', ?_, ?_⟩
      · refine ⟨_, rfl, T, _, 1, _, rfl, rfl, SqL.of hT1, rfl, _, rfl, T, _, 0, _, rfl, rfl, SqL.of hT1, rfl, l, _, rfl, .inl (SqL.of hl1), _, _, rfl, rfl, _, rfl, ?_⟩
        refine on_if (fun c2 => ?_) (fun c2 => ?_)
        · rw [List.length_map] at c2
          have hc : ns[i1.toNat]? = some ns[i1.toNat] := List.getElem?_eq_getElem (by omega)
          refine ⟨_, rfl, T, _, 0, _, rfl, rfl, SqL.of hT1, rfl, _, rfl, T, _, 1, _, rfl, rfl, SqL.of hT1, rfl, l, _, i1, .int ns[i1.toNat], rfl, rfl, SqL.of hl1, at_of (j := i1.toNat) (by omega) (by rw [List.getElem?_map, hc]; rfl), ?_⟩
          refine ⟨_, rfl, T, _, 1, _, rfl, rfl, SqL.of hT1, rfl, _, _, rfl, rfl, ?_⟩
          refine ⟨_, rfl, T, _, 1, 1, rfl, rfl, hT1, rfl, ?_⟩
          exact ⟨_, _, rfl, e1.upd, upd_same, by omega⟩
        · exact ⟨_, _, rfl, e1, hT1, p1⟩
      · rintro σ H2 ⟨cc, i1', rfl, e2, hT2, q1⟩
        have hl2 := e2 _ _ ne hl
        refine ⟨_, rfl, _, _, rfl, rfl, ⟨by decide, by decide, by decide⟩, _, _, rfl, rfl, _, rfl, ?_⟩
        refine on_if (fun c3 => ?_) (fun c3 => ?_)
        · refine ⟨_, rfl, _, rfl, _, _, rfl, rfl, ⟨m0, mN⟩, ?_⟩
          refine ⟨_, rfl, T, _, 2, 2, rfl, rfl, hT2, rfl, ?_⟩
          refine ⟨_, rfl, .inl ⟨_, rfl, _, rfl, _, _, rfl, rfl, m0, k _ _ (fm0 m1).1 (fm0 m1).2 e2.upd ⟨⟨ns, i1', cc.fdiv m, i3, i4 + 1⟩, upd_same, by rw [upd_ne ne]; exact hl2, ne, q1, p3, p4⟩⟩⟩
        · refine ⟨_, rfl, T, _, 3, _, rfl, rfl, SqL.of hT2, rfl, _, _, rfl, rfl, .inr ⟨by decide, by decide⟩, ?_⟩
          refine ⟨_, rfl, .inl ⟨_, rfl, _, _, rfl, rfl, (by show (2147483629 : Int) ≠ 0; decide), _, _, rfl, rfl, ?_⟩⟩
          refine ⟨_, rfl, T, _, 4, _, rfl, rfl, SqL.of hT2, rfl, _, _, rfl, rfl, .inr ⟨by decide, by decide⟩, _, _, rfl, rfl, .inl ⟨_, rfl, _, _, rfl, rfl, (by show (2147483647 : Int) ≠ 0; decide), ?_⟩⟩
          dsimp only
          generalize hm1 : (i3 * 48271 + cc.fmod 2147483629 + (i4 + 1) * 69621).fmod 2147483647 = mx
          have b1 : 0 ≤ mx ∧ mx < 2147483647 := by rw [← hm1]; exact fm0 (by decide)
          refine ⟨_, rfl, _, rfl, _, _, rfl, rfl, ⟨by decide, by decide⟩, _, _, rfl, rfl, _, _, rfl, rfl, .inl ⟨by omega, by omega⟩, .inl ⟨_, rfl, _, _, rfl, rfl, (by show (2147483399 : Int) ≠ 0; decide), ?_⟩⟩
          dsimp only
          generalize hm2 : (mx * (mx.fdiv 1009 + 40692)).fmod 2147483399 = my
          have b2 : 0 ≤ my ∧ my < 2147483399 := by rw [← hm2]; exact fm0 (by decide)
          refine ⟨_, rfl, _, rfl, T, _, 3, 3, rfl, rfl, hT2, rfl, ?_⟩
          refine ⟨_, rfl, _, _, rfl, rfl, ⟨by decide, by decide⟩, .inl ⟨_, rfl, _, rfl, _, _, rfl, rfl, m0, ?_⟩⟩
          exact k _ _ (fm0 m1).1 (fm0 m1).2 e2.upd ⟨⟨ns, i1', i2, my, i4 + 1⟩, upd_same, by rw [upd_ne ne]; exact hl2, ne, q1, b2.1, (by show my < 2147483648; omega)⟩
end
open PySem PySem.Spec L2
/-! ## the law's own likeness: the same data on both sides -/
def flat1 : V → Bool
  | .non => true
  | .bl _ => true
  | .int _ => true
  | .str _ => true
  | _ => false
def SameV : Nat → Hp → V → V → Prop
  | 0, _, v, u => v = u ∧ flat1 v = true
  | k + 1, H, v, u => SameV k H v u ∨ (∃ a b xs ys, v = .ref a ∧ u = .ref b ∧ ((H a = some (.tup xs) ∧ H b = some (.tup ys)) ∨ (H a = some (.lst xs) ∧ H b = some (.lst ys))) ∧ xs.length ≤ 100000 ∧ Paired (SameV k H) xs ys)
theorem SameV.same : ∀ {k : Nat} {H H' : Hp} {v u : V}, SameV k H v u → Same H H' → SameV k H' v u
  | 0, _, _, _, _, h, _ => h
  | k + 1, H, H', v, u, h, e => by
    rcases h with h | ⟨a, b, xs, ys, rfl, rfl, h, hl, hp⟩
    · exact .inl (SameV.same h e)
    · refine .inr ⟨a, b, xs, ys, rfl, rfl, ?_, hl, Paired.imp' hp fun _ _ q => SameV.same q e⟩
      rcases h with ⟨h1, h2⟩ | ⟨h1, h2⟩
      · exact .inl ⟨e _ _ h1, e _ _ h2⟩
      · exact .inr ⟨e _ _ h1, e _ _ h2⟩
theorem SameV.up {k : Nat} {H : Hp} {v u : V} (h : SameV k H v u) : SameV (k + 1) H v u := .inl h
theorem paired_ints {k : Nat} {H : Hp} : ∀ (l : List Int), Paired (SameV k H) (l.map V.int) (l.map V.int) := by
  intro l
  have z : ∀ (k : Nat) (i : Int), SameV k H (.int i) (.int i) := by
    intro k i
    induction k with
    | zero => exact ⟨rfl, rfl⟩
    | succ k ih => exact .inl ih
  induction l with
  | nil => exact .nil
  | cons i l ih => exact .cons (z k i) ih
theorem same_int (k : Nat) (H : Hp) (i : Int) : SameV k H (.int i) (.int i) := by
  induction k with
  | zero => exact ⟨rfl, rfl⟩
  | succ k ih => exact .inl ih
theorem same_pairs {k : Nat} {H : Hp} : ∀ {xs ys : List V} {ps : List (Int × Int)}, Pairs H xs ps → Pairs H ys ps → Paired (SameV (k + 1) H) xs ys
  | _, _, _, .nil, .nil => .nil
  | _, _, _, .cons r t, .cons r' t' => by
    refine .cons ?_ (same_pairs t t')
    obtain ⟨a, rfl, ha⟩ := r
    obtain ⟨b, rfl, hb⟩ := r'
    exact .inr ⟨a, b, _, _, rfl, rfl, .inl ⟨ha, hb⟩, (by show 2 ≤ 100000; decide), .cons (same_int _ _ _) (.cons (same_int _ _ _) .nil)⟩
def spSame (k : Nat) : Sp := fun vs H Q _ => ∃ v u, vs = [v, u] ∧ SameV k H v u ∧ ∀ H', Same H H' → Q (.bl true) H'
theorem bl_all : ∀ {l : List V} {m : List (V × V)}, Paired (fun v _ => v = .bl true) l m → l = (m.map fun _ => true).map V.bl
  | _, _, .nil => rfl
  | _, _, .cons r t => by rw [r, bl_all t]; rfl
theorem zip_get {α β : Type} {xs : List α} {ys : List β} {i : Nat} {p : α × β} (h : (xs.zip ys)[i]? = some p) : xs[i]? = some p.1 ∧ ys[i]? = some p.2 := by
  rw [List.getElem?_zip_eq_some] at h
  exact h
section
variable {P : Program} {w : World} {K : PySem.W.Frag} {mg : Str → Option Value} {base : Heap} {C : Addr}
abbrev s__law_is_integer : Stmt := (top 31)
theorem sc__law_is_integer : FnScope ["thing"] ["thing"] (defScope s__law_is_integer) := ⟨rfl, rfl, rfl, by decide +kernel, rfl, by decide +kernel, by decide +kernel⟩

theorem ok_law_is_integer {f : Addr} {fd : FuncData} (F : Fun K "_law_is_integer" "_law_is_integer" s__law_is_integer f fd) (hm : mg "_law_is_integer" = some (.ref f)) (B : Bl mg) : Cal P w K mg base 1 "_law_is_integer" ["thing"] sp_is_integer := by
  refine ⟨f, fd, F.ok sc__law_is_integer (fun vs H Q E h => ?_) (fun cdv A outer s H vs Q E hr h => ?_), hm, F.kp, F.binds (ps := ["thing"]) fun _ _ _ _ _ _ us hl => match us, hl with | [_], _ => rfl⟩
  · obtain ⟨i, rfl, _⟩ := h; rfl
  · obtain ⟨i, rfl, k⟩ := h
    refine ⟨_, (pss_one (ps_ret (pe_and (pe_callB call_isi (by rfl) B.isinstance (by decide +kernel) (pa_cons (pv 0) (pa_cons (pe_bltn (v := .ty "int") (by rfl) B.int_ (by decide +kernel) rfl) pa_nil))) (pe_one (pe_not (pe_callB call_isi (by rfl) B.isinstance (by decide +kernel) (pa_cons (pv 0) (pa_cons (pe_bltn (v := .ty "bool") (by rfl) B.bool_ (by decide +kernel) rfl) pa_nil)))))))), ?_⟩
    refine ⟨_, rfl, _, _, _, _, true, rfl, .ty "int", .base (.int i), kit_ty (by decide +kernel), true, rfl, iteT ?_⟩
    refine ⟨_, rfl, _, _, _, _, false, rfl, .ty "bool", .base (.int i), kit_ty (by decide +kernel), false, rfl, ?_⟩
    exact k
theorem ka2 {t a b : String} {x y : Bool} (h1 : kitB t a = some x) (h2 : kitB t b = some y) : PySem.W.kitAny K (.type t) [.type a, .type b] = some (x || y) :=
  kitAny_cons (kit_ty h1) (fun e => by subst e; exact kitAny_cons (kit_ty h2) (fun e => by subst e; exact kitAny_nil) (fun e => by subst e; rfl)) (fun e => by subst e; rfl)
theorem tyx_flat {H : Hp} {v : V} (h : flat1 v = true) : ∃ t : String, TyX K H v (.type t) ∧ PySem.W.kitAny K (.type t) [.type "list", .type "tuple"] = some false := by
  cases v with
  | non => exact ⟨_, .base .non, ka2 (x := false) (y := false) (by decide +kernel) (by decide +kernel)⟩
  | bl b => exact ⟨_, .base (.bl b), ka2 (x := false) (y := false) (by decide +kernel) (by decide +kernel)⟩
  | int i => exact ⟨_, .base (.int i), ka2 (x := false) (y := false) (by decide +kernel) (by decide +kernel)⟩
  | str z => exact ⟨_, .base (.str z), ka2 (x := false) (y := false) (by decide +kernel) (by decide +kernel)⟩
  | _ => cases h
abbrev s__law_same : Stmt := (top 33)
theorem sc__law_same : FnScope ["told", "due", "one", "other"] ["told", "due"] (defScope s__law_same) := ⟨rfl, rfl, rfl, by decide +kernel, rfl, by decide +kernel, by decide +kernel⟩

theorem fn_law_same0 {f : Addr} {fd : FuncData} (F : Fun K "_law_same" "_law_same" s__law_same f fd) (B : Bl mg) (c__law_is_integer : Cal P w K mg base 1 "_law_is_integer" ["thing"] sp_is_integer) : FnOk P w K mg base CX0 2 f fd ["told", "due"] (spSame 0) := by
  refine F.ok sc__law_same (fun vs H Q E h => ?_) (fun cdv A outer s H vs Q E hr h => ?_)
  · obtain ⟨v, u, rfl, _⟩ := h; rfl
  · obtain ⟨v, u, rfl, ⟨rfl, fl⟩, k⟩ := h
    obtain ⟨ty, h1, h2⟩ := tyx_flat (K := K) (H := H) fl
    refine ⟨_, (pss_cons (ps_if (pt_val (pe_callB call_isiT (by rfl) B.isinstance (by decide +kernel) (pa_cons (pv 1) (pa_cons (pe_tup (pa_cons (pe_bltn (v := .ty "list") (by rfl) B.list_ (by decide +kernel) rfl) (pa_cons (pe_bltn (v := .ty "tuple") (by rfl) B.tuple_ (by decide +kernel) rfl) pa_nil))) pa_nil)))) pss_never pss_nil)
 (pss_cons (ps_if (pt_cmpR op_isN (pv 1) pe_non (nomark _)) (pss_one (ps_ret (pe_cmpR op_isN (pv 0) pe_non (nomark _)))) pss_nil)
 (pss_cons (ps_if (pt_val (pe_callB call_isi (by rfl) B.isinstance (by decide +kernel) (pa_cons (pv 1) (pa_cons (pe_bltn (v := .ty "bool") (by rfl) B.bool_ (by decide +kernel) rfl) pa_nil)))) (pss_one (ps_ret (pe_and (pe_callB call_isi (by rfl) B.isinstance (by decide +kernel) (pa_cons (pv 0) (pa_cons (pe_bltn (v := .ty "bool") (by rfl) B.bool_ (by decide +kernel) rfl) pa_nil))) (pe_one (pe_cmpR op_eq (pv 0) (pv 1) (nomark _)))))) pss_nil)
 (pss_cons (ps_if (pt_val (pe_callB call_isi (by rfl) B.isinstance (by decide +kernel) (pa_cons (pv 1) (pa_cons (pe_bltn (v := .ty "str") (by rfl) B.str_ (by decide +kernel) rfl) pa_nil)))) (pss_one (ps_ret (pe_and (pe_callB call_isi (by rfl) B.isinstance (by decide +kernel) (pa_cons (pv 0) (pa_cons (pe_bltn (v := .ty "str") (by rfl) B.str_ (by decide +kernel) rfl) pa_nil))) (pe_one (pe_cmpR op_eq (pv 0) (pv 1) (nomark _)))))) pss_nil)
 (pss_one (ps_ret (pe_and (pe_cal c__law_is_integer (hr.mono (by first | decide | omega)) (pa_cons (pv 0) pa_nil)) (pe_one (pe_cmpR op_eq (pv 0) (pv 1) (nomark _)))))))))), ?_⟩
    refine ⟨_, rfl, (by show 2 ≤ sizeLine; decide), fun p hp => ?_⟩
    have ep := L2.Same.new (o := .tup [.ty "list", .ty "tuple"]) hp
    obtain ⟨ty, h1, h2⟩ := tyx_flat (K := K) (H := upd H p (.tup [.ty "list", .ty "tuple"])) fl
    refine ⟨_, p, _, _, _, false, rfl, upd_same, .cons (.ty "list") (.cons (.ty "tuple") .nil), h1, h2, false, rfl, iteF ?_⟩
    cases v with
    | non => exact ⟨_, rfl, rfl, _, rfl, iteT ⟨_, rfl, rfl, k _ ep⟩⟩
    | bl b =>
      refine ⟨_, rfl, rfl, _, rfl, iteF ?_⟩
      refine ⟨_, rfl, _, _, _, _, true, rfl, .ty "bool", .base (.bl b), kit_ty (by decide +kernel), true, rfl, iteT ?_⟩
      refine ⟨_, rfl, _, _, _, _, true, rfl, .ty "bool", .base (.bl b), kit_ty (by decide +kernel), true, rfl, iteT ?_⟩
      refine ⟨_, rfl, _, rfl, rfl, ?_⟩
      rw [decide_eq_true rfl]
      exact k _ ep
    | int i =>
      refine ⟨_, rfl, rfl, _, rfl, iteF ?_⟩
      refine ⟨_, rfl, _, _, _, _, false, rfl, .ty "bool", .base (.int i), kit_ty (by decide +kernel), false, rfl, iteF ?_⟩
      refine ⟨_, rfl, _, _, _, _, false, rfl, .ty "str", .base (.int i), kit_ty (by decide +kernel), false, rfl, iteF ?_⟩
      refine ⟨_, rfl, i, rfl, true, rfl, iteT ?_⟩
      refine ⟨_, rfl, _, rfl, rfl, ?_⟩
      rw [decide_eq_true rfl]
      exact k _ ep
    | str z =>
      refine ⟨_, rfl, rfl, _, rfl, iteF ?_⟩
      refine ⟨_, rfl, _, _, _, _, false, rfl, .ty "bool", .base (.str z), kit_ty (by decide +kernel), false, rfl, iteF ?_⟩
      refine ⟨_, rfl, _, _, _, _, true, rfl, .ty "str", .base (.str z), kit_ty (by decide +kernel), true, rfl, iteT ?_⟩
      refine ⟨_, rfl, _, _, _, _, true, rfl, .ty "str", .base (.str z), kit_ty (by decide +kernel), true, rfl, iteT ?_⟩
      refine ⟨_, rfl, _, rfl, rfl, ?_⟩
      rw [decide_eq_true rfl]
      exact k _ ep
    | _ => cases fl
end
open PySem PySem.Spec L2
theorem _root_.L2.FnOk.or {P : Program} {w : World} {K : PySem.W.Frag} {mg : Str → Option Value} {base : Heap} {CX : CXT} {k : Nat} {f : Addr} {fd : FuncData} {ps : List Str} {sp sp' : Sp} (F : FnOk P w K mg base CX k f fd ps sp) (F' : FnOk P w K mg base CX k f fd ps sp') :
    FnOk P w K mg base CX k f fd ps (fun vs H Q E => sp vs H Q E ∨ sp' vs H Q E) :=
  ⟨fun vs H Q E q => q.elim (F.len vs H Q E) (F'.len vs H Q E), fun A outer s H args us vs Q E hr he hb hv hs => hs.elim (F.run A outer s H args us vs Q E hr he hb hv) (F'.run A outer s H args us vs Q E hr he hb hv)⟩
section
variable {P : Program} {w : World} {K : PySem.W.Frag} {mg : Str → Option Value} {base : Heap} {C : Addr}
def spSameR (k : Nat) : Sp := fun vs H Q _ => ∃ a b xs ys, vs = [.ref a, .ref b] ∧ ((H a = some (.tup xs) ∧ H b = some (.tup ys)) ∨ (H a = some (.lst xs) ∧ H b = some (.lst ys))) ∧ xs.length ≤ 100000 ∧ Paired (SameV k H) xs ys ∧ ∀ H', Same H H' → Q (.bl true) H'
theorem fn_law_sameR (k : Nat) {f : Addr} {fd : FuncData} (F : Fun K "_law_same" "_law_same" s__law_same f fd) (B : Bl mg) (c__law_is_integer : Cal P w K mg base 1 "_law_is_integer" ["thing"] sp_is_integer)
    (c__law_same : Cal P w K mg base (k + 2) "_law_same" ["told", "due"] (spSame k)) : FnOk P w K mg base CX0 (k + 3) f fd ["told", "due"] (spSameR k) := by
  refine F.ok sc__law_same (fun vs H Q E h => ?_) (fun cdv A outer s H vs Q E hr h => ?_)
  · obtain ⟨a, b, xs, ys, rfl, _⟩ := h; rfl
  · obtain ⟨a, b, xs, ys, rfl, hab, hlen, hp, k0⟩ := h
    have hzl : (xs.zip ys).length = xs.length := by rw [List.length_zip, Paired.len hp, Nat.min_self]
    refine ⟨_, (pss_cons (ps_if (pt_val (pe_callB call_isiT (by rfl) B.isinstance (by decide +kernel) (pa_cons (pv 1) (pa_cons (pe_tup (pa_cons (pe_bltn (v := .ty "list") (by rfl) B.list_ (by decide +kernel) rfl) (pa_cons (pe_bltn (v := .ty "tuple") (by rfl) B.tuple_ (by decide +kernel) rfl) pa_nil))) pa_nil)))) (pss_cons (ps_if (PW.pt (pw_or (pt_cmpR op_ne (pe_callB call_isi (by rfl) B.isinstance (by decide +kernel) (pa_cons (pv 0) (pa_cons (pe_bltn (v := .ty "list") (by rfl) B.list_ (by decide +kernel) rfl) pa_nil))) (pe_callB call_isi (by rfl) B.isinstance (by decide +kernel) (pa_cons (pv 1) (pa_cons (pe_bltn (v := .ty "list") (by rfl) B.list_ (by decide +kernel) rfl) pa_nil))) (nomark _)) (pw_or1 (pt_not (pt_val (pe_callB call_isiT (by rfl) B.isinstance (by decide +kernel) (pa_cons (pv 0) (pa_cons (pe_tup (pa_cons (pe_bltn (v := .ty "list") (by rfl) B.list_ (by decide +kernel) rfl) (pa_cons (pe_bltn (v := .ty "tuple") (by rfl) B.tuple_ (by decide +kernel) rfl) pa_nil))) pa_nil)))))))) (pss_one (ps_ret pe_bl)) pss_nil)
 (pss_cons (ps_if (pt_cmpR op_ne (pe_callB call_len_seq (by rfl) B.len (by decide +kernel) (pa_cons (pv 0) pa_nil)) (pe_callB call_len_seq (by rfl) B.len (by decide +kernel) (pa_cons (pv 1) pa_nil)) (nomark _)) (pss_one (ps_ret pe_bl)) pss_nil)
 (pss_one (ps_ret (pe_callB (cr_all rfl) (by rfl) B.all (by decide +kernel) (pa_cons (pe_lc (own := [("one", 2), ("other", 3)]) (g := (gTup K 2 (gCons (gName 2) (gCons (gName 3) gNil)))) (by rfl) sc__law_same.nd (RZ.pi_zipA (by rfl) B.zip (pa_cons (pv 0) (pa_cons (pv 1) pa_nil))) (blkOk_by (own := [("one", 2), ("other", 3)]) (N := ["told", "due", "one", "other"]) (sc := defScope s__law_same) (by decide +kernel)) (fun _ _ _ _ _ => (pg_tup (by rfl) (pgs_cons (pg_name (i := 2) sc__law_same.nd rfl (by first | exact Or.inl rfl | exact Or.inr rfl)) (pgs_cons (pg_name (i := 3) sc__law_same.nd rfl (by first | exact Or.inl rfl | exact Or.inr rfl)) pgs_nil)))) (fun _ _ _ _ _ => pts_nil) (fun _ _ _ _ _ => (pe_cal c__law_same (hr.mono (by first | decide | omega)) (pa_cons (pv 2) (pa_cons (pv 3) pa_nil))))) pa_nil)))))) pss_nil)
 (pss_cons (ps_if (pt_cmpR op_isN (pv 1) pe_non (nomark _)) (pss_one (ps_ret (pe_cmpR op_isN (pv 0) pe_non (nomark _)))) pss_nil)
 (pss_cons (ps_if (pt_val (pe_callB call_isi (by rfl) B.isinstance (by decide +kernel) (pa_cons (pv 1) (pa_cons (pe_bltn (v := .ty "bool") (by rfl) B.bool_ (by decide +kernel) rfl) pa_nil)))) (pss_one (ps_ret (pe_and (pe_callB call_isi (by rfl) B.isinstance (by decide +kernel) (pa_cons (pv 0) (pa_cons (pe_bltn (v := .ty "bool") (by rfl) B.bool_ (by decide +kernel) rfl) pa_nil))) (pe_one (pe_cmpR op_eq (pv 0) (pv 1) (nomark _)))))) pss_nil)
 (pss_cons (ps_if (pt_val (pe_callB call_isi (by rfl) B.isinstance (by decide +kernel) (pa_cons (pv 1) (pa_cons (pe_bltn (v := .ty "str") (by rfl) B.str_ (by decide +kernel) rfl) pa_nil)))) (pss_one (ps_ret (pe_and (pe_callB call_isi (by rfl) B.isinstance (by decide +kernel) (pa_cons (pv 0) (pa_cons (pe_bltn (v := .ty "str") (by rfl) B.str_ (by decide +kernel) rfl) pa_nil))) (pe_one (pe_cmpR op_eq (pv 0) (pv 1) (nomark _)))))) pss_nil)
 (pss_one (ps_ret (pe_and (pe_cal c__law_is_integer (hr.mono (by first | decide | omega)) (pa_cons (pv 0) pa_nil)) (pe_one (pe_cmpR op_eq (pv 0) (pv 1) (nomark _)))))))))), ?_⟩
    refine ⟨_, rfl, (by show 2 ≤ sizeLine; decide), fun p hp1 => ?_⟩
    have e1 := L2.Same.new (o := .tup [.ty "list", .ty "tuple"]) hp1
    generalize hH1 : upd H p (.tup [.ty "list", .ty "tuple"]) = H1 at e1 ⊢
    have hp1 : H1 p = some (.tup [.ty "list", .ty "tuple"]) := by rw [← hH1]; exact upd_same
    rcases hab with ⟨ha, hb⟩ | ⟨ha, hb⟩
    · have ha1 := e1 _ _ ha
      have hb1 := e1 _ _ hb
      refine ⟨_, p, _, _, _, true, rfl, hp1, .cons (.ty "list") (.cons (.ty "tuple") .nil), .base (.tup hb1), ka2 (x := false) (y := true) (by decide +kernel) (by decide +kernel), true, rfl, iteT ?_⟩
      refine ⟨_, rfl, _, _, _, _, false, rfl, .ty "list", .base (.tup ha1), kit_ty (by decide +kernel), _, rfl, _, _, _, _, false, rfl, .ty "list", .base (.tup hb1), kit_ty (by decide +kernel), rfl, _, rfl, iteNS rfl ?_⟩
      refine ⟨_, rfl, (by show 2 ≤ sizeLine; decide), fun q hq => ?_⟩
      have e2 := e1.new' (o := .tup [.ty "list", .ty "tuple"]) hq
      have e12 := L2.Same.new (o := .tup [.ty "list", .ty "tuple"]) hq
      generalize hH2 : upd H1 q (.tup [.ty "list", .ty "tuple"]) = H2 at e2 e12 ⊢
      have hq2 : H2 q = some (.tup [.ty "list", .ty "tuple"]) := by rw [← hH2]; exact upd_same
      have ha2 := e2 _ _ ha
      have hb2 := e2 _ _ hb
      refine ⟨_, q, _, _, _, true, rfl, hq2, .cons (.ty "list") (.cons (.ty "tuple") .nil), .base (.tup ha2), ka2 (x := false) (y := true) (by decide +kernel) (by decide +kernel), true, rfl, iteF ?_⟩
      refine ⟨_, rfl, a, _, rfl, .inr (SqT.of ha2), _, rfl, b, _, rfl, .inr (SqT.of hb2), rfl, _, rfl, ?_⟩
      refine on_ifN (fun c => absurd (by rw [Paired.len hp]) c) (fun _ => ?_)
      refine ⟨_, rfl, _, rfl, a, b, xs, ys, rfl, .inr ⟨SqT.of ha2, SqT.of hb2, fun D hD => lc_data (walk_zipT (K := K) (n := xs.length) (by rw [Paired.len hp, Nat.min_self])) (xs.zip ys) hzl (fun _ => true) (fun _ v _ => v = .bl true) (fun _ _ _ _ _ q => q) hD (fun H' e => ⟨SqT.of (e _ _ ha2), SqT.of (e _ _ hb2)⟩) (by rw [hzl]; exact Nat.lt_of_le_of_lt hlen (by decide)) ?_ (fun _ _ _ _ _ y => ypair_same y) ?_⟩⟩
      · rintro i ⟨x, y⟩ v H3 H4 Ny Nn hpi e3 ⟨T, x', y', rfl, hT, rfl, hx, hy⟩ kE kN
        obtain ⟨hx0, hy0⟩ := zip_get hpi
        have sv := ((paired_at hp hx hy).same e2).same e3
        have eT := L2.Same.new (o := .tup [x', y']) hT
        refine ⟨T, _, rfl, SqT.of upd_same, rfl, _, _, rfl, _, _, rfl, rfl, rfl, yes_if ?_⟩
        exact ⟨_, rfl, _, rfl, x', y', rfl, sv.same eT, fun H5 e5 => kE _ _ rfl e5 rfl⟩
      · intro zs H3 e3 hzs hpr
        have ez := bl_all hpr
        refine ⟨D, _, rfl, by rw [← ez]; exact SqL.of hzs, ?_⟩
        have : (((xs.zip ys).filter fun _ => true).map fun _ => true).all id = true := by simp
        rw [this]
        exact k0 _ (e2.trans e3)
    · have ha1 := e1 _ _ ha
      have hb1 := e1 _ _ hb
      refine ⟨_, p, _, _, _, true, rfl, hp1, .cons (.ty "list") (.cons (.ty "tuple") .nil), .base (.lst hb1), ka2 (x := true) (y := false) (by decide +kernel) (by decide +kernel), true, rfl, iteT ?_⟩
      refine ⟨_, rfl, _, _, _, _, true, rfl, .ty "list", .base (.lst ha1), kit_ty (by decide +kernel), _, rfl, _, _, _, _, true, rfl, .ty "list", .base (.lst hb1), kit_ty (by decide +kernel), rfl, _, rfl, iteNS rfl ?_⟩
      refine ⟨_, rfl, (by show 2 ≤ sizeLine; decide), fun q hq => ?_⟩
      have e2 := e1.new' (o := .tup [.ty "list", .ty "tuple"]) hq
      generalize hH2 : upd H1 q (.tup [.ty "list", .ty "tuple"]) = H2 at e2 ⊢
      have hq2 : H2 q = some (.tup [.ty "list", .ty "tuple"]) := by rw [← hH2]; exact upd_same
      have ha2 := e2 _ _ ha
      have hb2 := e2 _ _ hb
      refine ⟨_, q, _, _, _, true, rfl, hq2, .cons (.ty "list") (.cons (.ty "tuple") .nil), .base (.lst ha2), ka2 (x := true) (y := false) (by decide +kernel) (by decide +kernel), true, rfl, iteF ?_⟩
      refine ⟨_, rfl, a, _, rfl, .inl (SqL.of ha2), _, rfl, b, _, rfl, .inl (SqL.of hb2), rfl, _, rfl, ?_⟩
      refine on_ifN (fun c => absurd (by rw [Paired.len hp]) c) (fun _ => ?_)
      refine ⟨_, rfl, _, rfl, a, b, xs, ys, rfl, .inl ⟨SqL.of ha2, SqL.of hb2, fun D hD => lc_data (walk_zip (K := K) (n := xs.length) (by rw [Paired.len hp, Nat.min_self])) (xs.zip ys) hzl (fun _ => true) (fun _ v _ => v = .bl true) (fun _ _ _ _ _ q => q) hD (fun H' e => ⟨SqL.of (e _ _ ha2), SqL.of (e _ _ hb2)⟩) (by rw [hzl]; exact Nat.lt_of_le_of_lt hlen (by decide)) ?_ (fun _ _ _ _ _ y => ypair_same y) ?_⟩⟩
      · rintro i ⟨x, y⟩ v H3 H4 Ny Nn hpi e3 ⟨T, x', y', rfl, hT, rfl, hx, hy⟩ kE kN
        have sv := ((paired_at hp hx hy).same e2).same e3
        have eT := L2.Same.new (o := .tup [x', y']) hT
        refine ⟨T, _, rfl, SqT.of upd_same, rfl, _, _, rfl, _, _, rfl, rfl, rfl, yes_if ?_⟩
        exact ⟨_, rfl, _, rfl, x', y', rfl, sv.same eT, fun H5 e5 => kE _ _ rfl e5 rfl⟩
      · intro zs H3 e3 hzs hpr
        have ez := bl_all hpr
        refine ⟨D, _, rfl, by rw [← ez]; exact SqL.of hzs, ?_⟩
        have : (((xs.zip ys).filter fun _ => true).map fun _ => true).all id = true := by simp
        rw [this]
        exact k0 _ (e2.trans e3)
theorem ok_law_same {f : Addr} {fd : FuncData} (F : Fun K "_law_same" "_law_same" s__law_same f fd) (hm : mg "_law_same" = some (.ref f)) (B : Bl mg) (c__law_is_integer : Cal P w K mg base 1 "_law_is_integer" ["thing"] sp_is_integer) :
    ∀ k, FnOk P w K mg base CX0 (k + 2) f fd ["told", "due"] (spSame k)
  | 0 => fn_law_same0 F B c__law_is_integer
  | k + 1 => by
    have F0 := ok_law_same F hm B c__law_is_integer k
    have c0 : Cal P w K mg base (k + 2) "_law_same" ["told", "due"] (spSame k) := ⟨f, fd, F0, hm, F.kp, F.binds (ps := ["told", "due"]) fun _ _ _ _ _ _ us hl => match us, hl with | [_, _], _ => rfl⟩
    have FR := fn_law_sameR k F B c__law_is_integer c0
    refine ((F0.mono (Nat.le_succ _)).or FR).imp fun vs H Q E h => ?_
    obtain ⟨v, u, rfl, h, q⟩ := h
    rcases h with h | ⟨a, b, xs, ys, rfl, rfl, h⟩
    · exact .inl ⟨v, u, rfl, h, q⟩
    · exact .inr ⟨a, b, xs, ys, rfl, h.1, h.2.1, h.2.2, q⟩
end
open PySem PySem.Spec L2
theorem seq_ix {r : Int} {n : Nat} (h0 : 0 ≤ r) (h1 : r < n) : seqIndex? r n = some r.toNat := by
  unfold seqIndex?
  simp [show ¬ r < 0 by omega, h0, h1]
theorem cons_erase {α : Type} : ∀ {l : List α} {i : Nat} (h : i < l.length), (l[i] :: l.eraseIdx i).Perm l
  | [], _, h => by simp at h
  | a :: l, 0, _ => .refl _
  | a :: l, i + 1, h => by
    have h' : i < l.length := by simpa using h
    exact (List.Perm.swap a l[i] _).trans ((cons_erase h').cons a)
theorem perm_sorted : ∀ {l m : List Int}, l.Perm m → l.Pairwise (· ≤ ·) → m.Pairwise (· < ·) → l = m := by
  intro l m hp hl hm
  have hm' : m.Pairwise (· ≤ ·) := hm.imp fun {a b} h => Int.le_of_lt h
  have key : ∀ {l m : List Int}, l.Perm m → l.Pairwise (· ≤ ·) → m.Pairwise (· ≤ ·) → l = m := by
    intro l
    induction l with
    | nil => intro m hp _ _; exact (List.nil_perm.mp hp).symm
    | cons a l ih =>
      intro m hp hl hm
      cases m with
      | nil => exact absurd hp.length_eq (by simp)
      | cons b m =>
        obtain ⟨l1, l2⟩ := List.pairwise_cons.mp hl
        obtain ⟨m1, m2⟩ := List.pairwise_cons.mp hm
        have e : a = b := by
          have h1 : a ∈ b :: m := hp.mem_iff.mp (by simp)
          have h2 : b ∈ a :: l := hp.mem_iff.mpr (by simp)
          rcases List.mem_cons.mp h1 with h1 | h1
          · exact h1
          · rcases List.mem_cons.mp h2 with h2 | h2
            · exact h2.symm
            · have := l1 b h2; have := m1 a h1; omega
        subst e
        rw [ih (List.Perm.cons_inv hp) l2 m2]
  exact key hp hl hm'
section
variable {P : Program} {w : World} {K : PySem.W.Frag} {mg : Str → Option Value} {base : Heap} {C : Addr}
def sp_mixed : Sp := fun vs H Q _ => ∃ T L l xs, vs = [.ref T, .ref l] ∧ Tp H T L ∧ H l = some (.lst xs) ∧ l ≠ T ∧ xs.length ≤ 1000 ∧ ∀ p ys H', ExT T H H' → Tp H' T L → H p = none → H' p = some (.lst ys) → ys.Perm xs → Q (.ref p) H'
abbrev s__law_mixed : Stmt := (top 35)
theorem sc__law_mixed : FnScope ["tape", "things", "left", "found", "turn"] ["tape", "things"] (defScope s__law_mixed) := ⟨rfl, rfl, rfl, by decide +kernel, rfl, by decide +kernel, by decide +kernel⟩

theorem ok_law_mixed {f : Addr} {fd : FuncData} (F : Fun K "_law_mixed" "_law_mixed" s__law_mixed f fd) (hm : mg "_law_mixed" = some (.ref f)) (B : Bl mg) (c__law_pick : Cal P w K mg base 1 "_law_pick" ["tape", "many"] spPick) : Cal P w K mg base 2 "_law_mixed" ["tape", "things"] sp_mixed := by
  refine ⟨f, fd, F.ok sc__law_mixed (fun vs H Q E h => ?_) (fun cdv A outer s H vs Q E hr h => ?_), hm, F.kp, F.binds (ps := ["tape", "things"]) fun _ _ _ _ _ _ us hl => match us, hl with | [_, _], _ => rfl⟩
  · obtain ⟨T, L, l, xs, rfl, _⟩ := h; rfl
  · obtain ⟨T, L, l, xs, rfl, hT, hl, lT, hlen, k⟩ := h
    refine ⟨_, (pss_cons (ps_set (i := 2) sc__law_mixed.nd rfl (by first | exact Or.inl rfl | exact Or.inr rfl) (pe_callTy call_list_of (by rfl) B.list_ (by decide +kernel) (pa_cons (pv 1) pa_nil)))
 (pss_cons (ps_set (i := 3) sc__law_mixed.nd rfl (by first | exact Or.inl rfl | exact Or.inr rfl) (pe_lst pa_nil))
 (pss_cons (ps_for PassesOwn.never rfl (pi_range1 (by rfl) B.range (pa_cons (pe_callB call_len_seq (by rfl) B.len (by decide +kernel) (pa_cons (pv 1) pa_nil)) pa_nil)) (pg_name (i := 4) sc__law_mixed.nd rfl (by first | exact Or.inl rfl | exact Or.inr rfl))
  (pss_one (ps_expr (pe_bm PySem.F.plainAttrs_list PySem.F.slot_list_append PySem.F.type_list_append mt_append (pv 3) (pa_cons (pe_bm PySem.F.plainAttrs_list PySem.F.slot_list_pop PySem.F.type_list_pop mt_popAt (pv 2) (pa_cons (pe_cal c__law_pick (hr.mono (by first | decide | omega)) (pa_cons (pv 0) (pa_cons (pe_callB call_len_seq (by rfl) B.len (by decide +kernel) (pa_cons (pv 2) pa_nil)) pa_nil))) pa_nil)) pa_nil)))))
 (pss_one (ps_ret (pv 3)))))), ?_⟩
    refine ⟨_, rfl, l, xs, rfl, .inl (SqL.of hl), fun lf hlf => ?_⟩
    refine ⟨Nat.zero_le _, fun fo hfo => ?_⟩
    have nlf := hT.neT hlf
    have nlf2 := hT.neL hlf
    have e1 := L2.Same.new (o := .lst xs) hlf
    have hfo0 := L2.Same.free e1 hfo
    have nfo := hT.neT hfo0
    have nfo2 := hT.neL hfo0
    have nff : lf ≠ fo := fun q => by rw [← q, upd_same] at hfo; cases hfo
    have e2 := e1.new' (o := .lst []) hfo
    have hl2 := e2 _ _ hl
    have hT2 := hT.ext e2
    generalize hH2 : upd (upd H lf (.lst xs)) fo (.lst []) = H2 at e2 hl2 hT2 ⊢
    have hlf2 : H2 lf = some (.lst xs) := by rw [← hH2, upd_ne nff]; exact upd_same
    have hfo2 : H2 fo = some (.lst []) := by rw [← hH2]; exact upd_same
    refine ⟨_, rfl, l, _, rfl, .inl (SqL.of hl2), _, rfl, by omega, by omega, for_range (lo := 0) (n := (xs.length : Int).toNat) (fun i σ H' => ∃ (v : Option V) (zs ws : List V), σ = [some (.ref T), some (.ref l), some (.ref lf), some (.ref fo), v] ∧ ExT T H H' ∧ Tp H' T L ∧ H' lf = some (.lst zs) ∧ H' fo = some (.lst ws) ∧ zs.length + i = xs.length ∧ (ws ++ zs).Perm xs)
      ⟨none, xs, [], rfl, e2.exT, hT2, hlf2, hfo2, rfl, .refl _⟩ ?_ ?_⟩
    · rintro i σ H3 hi ⟨v, zs, ws, rfl, e3, hT3, h1, h2, hn, hp⟩
      have zl : 0 < zs.length := by omega
      refine ⟨_, rfl, .inl ⟨rfl, _, SqL.of h2⟩, _, rfl, .inl ⟨rfl, _, SqL.of h1⟩, _, rfl, _, rfl, lf, _, rfl, .inl (SqL.of h1), T, L, _, rfl, by omega, by omega, hT3, fun r H4 r0 r1 e4 hT4 => ?_⟩
      have h14 := e4 _ _ nlf h1
      have h24 := e4 _ _ nfo h2
      have hr' : r.toNat < zs.length := by omega
      have hz : zs[r.toNat]? = some zs[r.toNat] := List.getElem?_eq_getElem hr'
      refine ⟨lf, zs, r, r.toNat, _, rfl, rfl, h14, by omega, by omega, seq_ix r0 r1, hz, ?_⟩
      have h25 : (upd H4 lf (.lst (zs.eraseIdx r.toNat))) fo = some (.lst ws) := by rw [upd_ne nff.symm]; exact h24
      have hws : ws.length ≤ 1000 := by
        have := hp.length_eq
        rw [List.length_append] at this
        omega
      refine ⟨fo, ws, _, rfl, rfl, h25, Nat.lt_of_le_of_lt hws (by decide), ?_⟩
      refine ⟨_, zs.eraseIdx r.toNat, ws ++ [zs[r.toNat]], rfl, ?_, ?_, ?_, upd_same, ?_, ?_⟩
      · exact ((e3.trans e4).mut hlf).mut hfo0
      · exact (hT4.upd nlf nlf2).upd nfo nfo2
      · rw [upd_ne nff]; exact upd_same
      · rw [List.length_eraseIdx_of_lt hr']; omega
      · refine List.Perm.trans ?_ hp
        rw [List.append_assoc]
        refine List.Perm.append_left ws ?_
        exact cons_erase hr'
    · rintro σ H3 ⟨v, zs, ws, rfl, e3, hT3, h1, h2, hn, hp⟩
      have z0 : zs = [] := List.eq_nil_of_length_eq_zero (by omega)
      subst z0
      rw [List.append_nil] at hp
      exact ⟨_, rfl, k fo ws H3 e3 hT3 hfo0 h2 hp⟩
end
open PySem PySem.Spec L2
theorem onb {c : Prop} [Decidable c] {A B : Prop} (h1 : c → A) (h2 : ¬ c → B) : if decide c = true then A else B := on_if (A := fun _ => A) (B := fun _ => B) (H := fun _ => none) h1 h2
theorem onbN {c : Prop} [Decidable c] {A B : Prop} (h1 : ¬ c → A) (h2 : c → B) : if (!decide c) = true then A else B := on_ifN (A := fun _ => A) (B := fun _ => B) (H := fun _ => none) h1 h2
def unI : V → Int
  | .int i => i
  | _ => 0
theorem ints_of : ∀ {ys : List V} {ns : List Int}, ys.Perm (ns.map V.int) → ys = (ys.map unI).map V.int ∧ (ys.map unI).Perm ns := by
  intro ys ns hp
  have h1 : ∀ y ∈ ys, V.int (unI y) = y := fun y hy => by
    obtain ⟨i, _, rfl⟩ := List.mem_map.mp (hp.mem_iff.mp hy)
    rfl
  refine ⟨?_, ?_⟩
  · rw [List.map_map]
    have : ys.map (V.int ∘ unI) = ys.map id := List.map_congr_left fun y hy => h1 y hy
    rw [this, List.map_id]
  · have h2 := hp.map unI
    rw [List.map_map] at h2
    have : ns.map (unI ∘ V.int) = ns.map id := List.map_congr_left fun y hy => rfl
    rw [this, List.map_id] at h2
    exact h2
/-- names: the numbers below n in some order -/
structure Names (n : Int) (ns : List Int) : Prop where
  len : (ns.length : Int) = n
  nd : ns.Nodup
  ok : ∀ x ∈ ns, 0 ≤ x ∧ x < n
theorem names_of {n : Int} {ns : List Int} (h0 : 0 ≤ n) (h : ns.Perm ((List.range (n - 0).toNat).map fun i => (0 : Int) + (i : Nat))) : Names n ns := by
  refine ⟨?_, ?_, fun x hx => ?_⟩
  · have := h.length_eq
    rw [List.length_map, List.length_range] at this
    omega
  · refine h.nodup_iff.mpr ?_
    refine List.pairwise_map.mpr (List.nodup_range.imp fun {a b} h e => h (by omega))
  · obtain ⟨i, hi, rfl⟩ := List.mem_map.mp (h.mem_iff.mp hx)
    have := List.mem_range.mp hi
    omega
theorem Names.at_ {n : Int} {ns : List Int} (N : Names n ns) {i : Nat} (h : (i : Int) < n) : ns[i]? = some (ns.getD i 0) ∧ 0 ≤ ns.getD i 0 ∧ ns.getD i 0 < n := by
  have hi : i < ns.length := by have := N.len; omega
  have e : ns[i]? = some ns[i] := List.getElem?_eq_getElem hi
  have e2 : ns.getD i 0 = ns[i] := by rw [List.getD_eq_getElem?_getD, e]; rfl
  rw [e2]
  exact ⟨e, N.ok _ (List.getElem_mem hi)⟩
theorem Names.inj {n : Int} {ns : List Int} (N : Names n ns) {i j : Nat} (hi : (i : Int) < n) (hj : (j : Int) < n) (e : ns.getD i 0 = ns.getD j 0) : i = j := by
  have h1 := (N.at_ hi).1
  have h2 := (N.at_ hj).1
  rw [e] at h1
  obtain ⟨a1, b1⟩ := List.getElem?_eq_some_iff.mp h1
  obtain ⟨a2, b2⟩ := List.getElem?_eq_some_iff.mp h2
  exact (List.getElem_inj N.nd).mp (b1.trans b2.symm)
theorem norm_eq {a b c d : Int} (hab : a ≠ b) (hcd : c ≠ d) (h : norm a b = norm c d) : (a = c ∧ b = d) ∨ (a = d ∧ b = c) := by
  unfold norm at h
  have h1 := congrArg Prod.fst h
  have h2 := congrArg Prod.snd h
  dsimp only at h1 h2
  by_cases x : b < a
  · rw [if_pos x, if_neg (show ¬ b > a by omega)] at *
    by_cases y : d < c
    · rw [if_pos y, if_neg (show ¬ d > c by omega)] at *; omega
    · rw [if_neg y, if_pos (show d > c by omega)] at *; omega
  · rw [if_neg x, if_pos (show b > a by omega)] at *
    by_cases y : d < c
    · rw [if_pos y, if_neg (show ¬ d > c by omega)] at *; omega
    · rw [if_neg y, if_pos (show d > c by omega)] at *; omega
/-- the ties so far: of the pairs of numbers ahead of (i, j) -/
structure Ps (ns : List Int) (i j : Nat) (ps : List (Int × Int)) : Prop where
  nd : ps.Nodup
  of : ∀ p ∈ ps, ∃ a b : Nat, b < a ∧ (a < i ∨ (a = i ∧ b < j)) ∧ p = norm (ns.getD a 0) (ns.getD b 0)
theorem Ps.zero {ns : List Int} : Ps ns 0 0 [] := ⟨.nil, fun p h => by simp at h⟩
theorem Ps.next {ns : List Int} {i : Nat} {ps : List (Int × Int)} (h : Ps ns i i ps) : Ps ns (i + 1) 0 ps :=
  ⟨h.nd, fun p hp => let ⟨a, b, h1, h2, h3⟩ := h.of p hp; ⟨a, b, h1, by omega, h3⟩⟩
theorem Ps.skip {ns : List Int} {i j : Nat} {ps : List (Int × Int)} (h : Ps ns i j ps) : Ps ns i (j + 1) ps :=
  ⟨h.nd, fun p hp => let ⟨a, b, h1, h2, h3⟩ := h.of p hp; ⟨a, b, h1, by omega, h3⟩⟩
theorem Ps.put {n : Int} {ns : List Int} (N : Names n ns) {i j : Nat} {ps : List (Int × Int)} (hi : (i : Int) < n) (hj : j < i) (h : Ps ns i j ps) : Ps ns i (j + 1) (ps ++ [norm (ns.getD i 0) (ns.getD j 0)]) := by
  refine ⟨List.nodup_append.mpr ⟨h.nd, by simp, fun q hq r hr e => ?_⟩, fun p hp => ?_⟩
  · simp at hr
    subst hr; subst e
    obtain ⟨a, b, h1, h2, h3⟩ := h.of _ hq
    have ne1 : ns.getD i 0 ≠ ns.getD j 0 := fun e => by have := N.inj hi (by omega) e; omega
    have ne2 : ns.getD a 0 ≠ ns.getD b 0 := fun e => by have := N.inj (i := a) (j := b) (by omega) (by omega) e; omega
    rcases norm_eq ne1 ne2 h3 with ⟨e1, e2⟩ | ⟨e1, e2⟩
    · have := N.inj hi (by omega) e1
      have := N.inj (i := j) (j := b) (by omega) (by omega) e2
      omega
    · have := N.inj hi (by omega) e1
      have := N.inj (i := j) (j := a) (by omega) (by omega) e2
      omega
  · rcases List.mem_append.mp hp with hp | hp
    · obtain ⟨a, b, h1, h2, h3⟩ := h.of p hp
      exact ⟨a, b, h1, by omega, h3⟩
    · simp at hp
      exact ⟨i, j, hj, by omega, hp⟩
theorem Ps.good {n : Int} {ns : List Int} (N : Names n ns) {ps qs : List (Int × Int)} {k : Nat} (hk : (k : Int) = n) (h : Ps ns k 0 ps) (hp : qs.Perm ps) (hl : qs.Pairwise le2) : Good n qs := by
  refine good_of hp hl h.nd fun p hp' => ?_
  obtain ⟨a, b, h1, h2, rfl⟩ := h.of p hp'
  have ha := N.at_ (i := a) (by omega)
  have hb := N.at_ (i := b) (by omega)
  exact norm_in (fun e => by have := N.inj (i := a) (j := b) (by omega) (by omega) e; omega) ha.2.1 ha.2.2 hb.2.1 hb.2.2
section
variable {P : Program} {w : World} {K : PySem.W.Frag} {mg : Str → Option Value} {base : Heap} {C : Addr}
def sp_web : Sp := fun vs H Q _ => ∃ T L m, vs = [.ref T, .int m] ∧ Tp H T L ∧ 1 ≤ m ∧ m ≤ 24 ∧ ∀ p t n xs ps H', ExT T H H' → Tp H' T L → H p = none → H' p = some (.tup [.int n, .ref t]) → H t = none → H' t = some (.tup xs) → Pairs H' xs ps → 1 ≤ n → n ≤ m → Good n ps → Q (.ref p) H'
abbrev s__law_web : Stmt := (top 36)
theorem sc__law_web : FnScope ["tape", "most", "size", "style", "names", "found", "one", "other", "take"] ["tape", "most"] (defScope s__law_web) := ⟨rfl, rfl, rfl, by decide +kernel, rfl, by decide +kernel, by decide +kernel⟩

theorem ok_law_web {f : Addr} {fd : FuncData} (F : Fun K "_law_web" "_law_web" s__law_web f fd) (hm : mg "_law_web" = some (.ref f)) (B : Bl mg) (c__law_pick : Cal P w K mg base 1 "_law_pick" ["tape", "many"] spPick) (c__law_mixed : Cal P w K mg base 2 "_law_mixed" ["tape", "things"] sp_mixed) : Cal P w K mg base 3 "_law_web" ["tape", "most"] sp_web := by
  refine ⟨f, fd, F.ok sc__law_web (fun vs H Q E h => ?_) (fun cdv A outer s H vs Q E hr h => ?_), hm, F.kp, F.binds (ps := ["tape", "most"]) fun _ _ _ _ _ _ us hl => match us, hl with | [_, _], _ => rfl⟩
  · obtain ⟨T, L, m, rfl, _⟩ := h; rfl
  · obtain ⟨T, L, m, rfl, hT, m1, m2, k⟩ := h
    refine ⟨_, (pss_cons (ps_set (i := 2) sc__law_web.nd rfl (by first | exact Or.inl rfl | exact Or.inr rfl) (pe_op op_add pe_int (pe_cal c__law_pick (hr.mono (by first | decide | omega)) (pa_cons (pv 0) (pa_cons (pv 1) pa_nil)))))
 (pss_cons (ps_set (i := 3) sc__law_web.nd rfl (by first | exact Or.inl rfl | exact Or.inr rfl) (pe_cal c__law_pick (hr.mono (by first | decide | omega)) (pa_cons (pv 0) (pa_cons pe_int pa_nil))))
 (pss_cons (ps_set (i := 4) sc__law_web.nd rfl (by first | exact Or.inl rfl | exact Or.inr rfl) (pe_cal c__law_mixed (hr.mono (by first | decide | omega)) (pa_cons (pv 0) (pa_cons (pe_listRg (by rfl) (by rfl) B.list_ (prg_1 (by rfl) B.range (pv 2))) pa_nil))))
 (pss_cons (ps_set (i := 5) sc__law_web.nd rfl (by first | exact Or.inl rfl | exact Or.inr rfl) (pe_lst pa_nil))
 (pss_cons (ps_for PassesOwn.never rfl (pi_range1 (by rfl) B.range (pa_cons (pv 2) pa_nil)) (pg_name (i := 6) sc__law_web.nd rfl (by first | exact Or.inl rfl | exact Or.inr rfl))
  (pss_one (ps_for PassesOwn.never rfl (pi_range1 (by rfl) B.range (pa_cons (pv 6) pa_nil)) (pg_name (i := 7) sc__law_web.nd rfl (by first | exact Or.inl rfl | exact Or.inr rfl))
  (pss_cons (ps_set (i := 8) sc__law_web.nd rfl (by first | exact Or.inl rfl | exact Or.inr rfl) (pe_cmpR op_lt (pe_cal c__law_pick (hr.mono (by first | decide | omega)) (pa_cons (pv 0) (pa_cons pe_int pa_nil))) (pe_op op_sub (pv 3) pe_int) (nomark _)))
 (Evl.pss_cut (ps_if (pt_cmpR op_eq (pv 3) pe_int (nomark _)) (pss_one (ps_set (i := 8) sc__law_web.nd rfl (by first | exact Or.inl rfl | exact Or.inr rfl) (pe_or (pe_cmpR op_eq (pe_op op_add (pv 7) pe_int) (pv 6) (nomark _)) (pe_one (pe_and (pe_cmpR op_eq (pv 7) pe_int (nomark _)) (pe_one (pe_cmpR op_eq (pv 6) (pe_op op_sub (pv 2) pe_int) (nomark _)))))))) pss_nil)
 (Evl.pss_cut (ps_if (pt_cmpR op_eq (pv 3) pe_int (nomark _)) (pss_one (ps_set (i := 8) sc__law_web.nd rfl (by first | exact Or.inl rfl | exact Or.inr rfl) (pe_cmpR op_eq (pe_callTy call_int1 (by rfl) B.int_ (by decide +kernel) (pa_cons (pe_op op_fdivN (pv 6) pe_int) pa_nil)) (pe_callTy call_int1 (by rfl) B.int_ (by decide +kernel) (pa_cons (pe_op op_fdivN (pv 7) pe_int) pa_nil)) (nomark _)))) pss_nil)
 (Evl.pss_cut (ps_if (pt_cmpR op_eq (pv 3) pe_int (nomark _)) (pss_one (ps_set (i := 8) sc__law_web.nd rfl (by first | exact Or.inl rfl | exact Or.inr rfl) (pe_and (pe_cmpR op_ne (pe_op op_modN (pe_callTy call_int1 (by rfl) B.int_ (by decide +kernel) (pa_cons (pv 6) pa_nil)) pe_int) (pe_op op_modN (pe_callTy call_int1 (by rfl) B.int_ (by decide +kernel) (pa_cons (pv 7) pa_nil)) pe_int) (nomark _)) (pe_one (pe_cmpR op_gt (pe_cal c__law_pick (hr.mono (by first | decide | omega)) (pa_cons (pv 0) (pa_cons pe_int pa_nil))) pe_int (nomark _)))))) pss_nil)
 (pss_one (ps_if (pt_val (pv 8)) (pss_one (ps_expr (pe_bm PySem.F.plainAttrs_list PySem.F.slot_list_append PySem.F.type_list_append mt_append (pv 5) (pa_cons (pe_tup (pa_cons (pe_callB (call_min2 rfl) (by rfl) B.min (by decide +kernel) (pa_cons (pe_ix ix_list (pv 4) (pv 6) (fun _ _ => rfl)) (pa_cons (pe_ix ix_list (pv 4) (pv 7) (fun _ _ => rfl)) pa_nil))) (pa_cons (pe_callB (call_max2 rfl) (by rfl) B.max (by decide +kernel) (pa_cons (pe_ix ix_list (pv 4) (pv 6) (fun _ _ => rfl)) (pa_cons (pe_ix ix_list (pv 4) (pv 7) (fun _ _ => rfl)) pa_nil))) pa_nil))) pa_nil)))) pss_nil)))))))))
 (pss_one (ps_ret (pe_tup (pa_cons (pv 2) (pa_cons (pe_callTy call_tuple_of (by rfl) B.tuple_ (by decide +kernel) (pa_cons (pe_callB cr_sortedPO (by rfl) B.sorted (by decide +kernel) (pa_cons (pv 5) pa_nil)) pa_nil)) pa_nil)))))))))), ?_⟩
    refine ⟨_, rfl, _, rfl, T, L, m, rfl, by omega, by omega, hT, fun r H1 r0 r1 e1 hT1 => ?_⟩
    refine ⟨_, _, rfl, rfl, ?_⟩
    have s1 : 1 ≤ 1 + r := by omega
    have s2 : 1 + r ≤ m := by omega
    dsimp only
    generalize 1 + r = n at s1 s2 ⊢
    refine ⟨_, rfl, T, L, 7, rfl, by decide, by decide, hT1, fun st H2 _ _ e2 hT2 => ?_⟩
    have e12 := e1.trans e2
    refine ⟨_, rfl, _, rfl, n, rfl, RgOk.of_le (by decide) (by omega) (by decide) (by omega), fun q hq => ?_⟩
    have e13 := e12.new (o := .lst (rgV 0 n)) hq
    have hT3 := hT2.ext (L2.Same.new (o := .lst (rgV 0 n)) hq)
    refine ⟨T, L, q, _, rfl, hT3, upd_same, hT2.neT hq, (by rw [rgV_length]; omega), fun nm ys H4 e4 hT4 nnm hnm hperm => ?_⟩
    have hperm2 : ys.Perm (((List.range (n - 0).toNat).map fun i => (0 : Int) + (i : Nat)).map V.int) := by
      rw [List.map_map]; exact hperm
    obtain ⟨ey, hns⟩ := ints_of hperm2
    generalize ys.map unI = ns at ey hns
    subst ey
    have N : Names n ns := names_of (by omega) hns
    have e14 := e13.trans e4
    have hqT := hT2.neT hq
    have nmT : nm ≠ T := hT3.neT nnm
    have nnm0 : H nm = none := ExT.free e13 nmT nnm
    refine ⟨Nat.zero_le _, fun fo hfo => ?_⟩
    have foT := hT4.neT hfo
    have foL := hT4.neL hfo
    have hfo0 : H fo = none := ExT.free e14 foT hfo
    have fnm : fo ≠ nm := fun q => by rw [q, hnm] at hfo; cases hfo
    refine ⟨_, rfl, _, rfl, by omega, by omega, for_range (lo := 0) (n := n.toNat) (fun i σ H' => ∃ (v6 v7 v8 : Option V) (ys : List V) (ps : List (Int × Int)), σ = [some (.ref T), some (.int m), some (.int n), some (.int st), some (.ref nm), some (.ref fo), v6, v7, v8] ∧ ExT T H H' ∧ Tp H' T L ∧ H' nm = some (.lst (ns.map V.int)) ∧ H' fo = some (.lst ys) ∧ Pairs H' ys ps ∧ Ps ns i 0 ps ∧ ys.length ≤ 100 * i)
      ⟨none, none, none, [], [], rfl, e14.new hfo, hT4.ext (L2.Same.new hfo), by rw [upd_ne fnm.symm]; exact hnm, upd_same, .nil, .zero, by simp⟩ ?_ ?_⟩
    · rintro i σ H5 hi ⟨v6, v7, v8, ys, ps, rfl, e5, hT5, hnm5, hfo5, hp5, P5, l5⟩
      have hin : (i : Int) < n := by omega
      refine ⟨_, rfl, _, rfl, by omega, by omega, for_range (lo := 0) (n := ((0 : Int) + (i : Nat)).toNat) (fun j σ H' => ∃ (v7 v8 : Option V) (ys : List V) (ps : List (Int × Int)), σ = [some (.ref T), some (.int m), some (.int n), some (.int st), some (.ref nm), some (.ref fo), some (.int (0 + (i : Nat))), v7, v8] ∧ ExT T H H' ∧ Tp H' T L ∧ H' nm = some (.lst (ns.map V.int)) ∧ H' fo = some (.lst ys) ∧ Pairs H' ys ps ∧ Ps ns i j ps ∧ ys.length ≤ 100 * i + j)
        ⟨v7, v8, ys, ps, rfl, e5, hT5, hnm5, hfo5, hp5, P5, l5⟩ ?_ ?_⟩
      · rintro j σ H6 hj ⟨v7, v8, ys, ps, rfl, e6, hT6, hnm6, hfo6, hp6, P6, l6⟩
        have hji : j < i := by omega
        refine ⟨_, rfl, T, L, 6, rfl, by decide, by decide, hT6, fun r H7 _ _ e7 hT7 => ?_⟩
        refine ⟨_, rfl, _, _, rfl, rfl, _, _, rfl, rfl, ?_⟩
        have t7 := hT6.tk e7
        have X7 : ExT T H H7 ∧ Tp H7 T L ∧ H7 nm = some (.lst (ns.map V.int)) ∧ H7 fo = some (.lst ys) ∧ Pairs H7 ys ps := ⟨e6.trans e7, hT7, e7 _ _ nmT hnm6, e7 _ _ foT hfo6, hp6.tk t7⟩
        dsimp only
        generalize decide (r < st - 2) = b0
        -- if style == 0
        refine ⟨fun σ' H' => ∃ b, σ' = [some (.ref T), some (.int m), some (.int n), some (.int st), some (.ref nm), some (.ref fo), some (.int (0 + (i : Nat))), some (.int (0 + (j : Nat))), some (.bl b)] ∧ ExT T H H' ∧ Tp H' T L ∧ H' nm = some (.lst (ns.map V.int)) ∧ H' fo = some (.lst ys) ∧ Pairs H' ys ps, ?_, ?_⟩
        · refine ⟨_, rfl, rfl, _, rfl, on_if (fun _ => ?_) (fun _ => ⟨b0, rfl, X7⟩)⟩
          refine ⟨_, rfl, _, _, rfl, rfl, _, rfl, rfl, _, rfl, onb (fun _ => ⟨_, rfl, X7⟩) (fun _ => ?_)⟩
          refine ⟨_, rfl, rfl, _, rfl, onb (fun _ => ?_) (fun _ => ⟨_, rfl, X7⟩)⟩
          exact ⟨_, rfl, _, rfl, _, _, rfl, rfl, rfl, _, rfl, X7⟩
        rintro σ' H8 ⟨b1, rfl, X8⟩
        -- if style == 1
        refine ⟨fun σ' H' => ∃ b, σ' = [some (.ref T), some (.int m), some (.int n), some (.int st), some (.ref nm), some (.ref fo), some (.int (0 + (i : Nat))), some (.int (0 + (j : Nat))), some (.bl b)] ∧ ExT T H H' ∧ Tp H' T L ∧ H' nm = some (.lst (ns.map V.int)) ∧ H' fo = some (.lst ys) ∧ Pairs H' ys ps, ?_, ?_⟩
        · refine ⟨_, rfl, rfl, _, rfl, on_if (fun _ => ?_) (fun _ => ⟨b1, rfl, X8⟩)⟩
          refine ⟨_, rfl, _, _, rfl, rfl, ⟨by decide, by decide⟩, .inl ⟨_, rfl, ?_⟩⟩
          refine ⟨_, rfl, _, _, rfl, rfl, ⟨by decide, by decide⟩, .inl ⟨_, rfl, rfl, _, rfl, X8⟩⟩
        rintro σ' H9 ⟨b2, rfl, X9⟩
        -- if style == 2
        refine ⟨fun σ' H' => ∃ b, σ' = [some (.ref T), some (.int m), some (.int n), some (.int st), some (.ref nm), some (.ref fo), some (.int (0 + (i : Nat))), some (.int (0 + (j : Nat))), some (.bl b)] ∧ ExT T H H' ∧ Tp H' T L ∧ H' nm = some (.lst (ns.map V.int)) ∧ H' fo = some (.lst ys) ∧ Pairs H' ys ps, ?_, ?_⟩
        · refine ⟨_, rfl, rfl, _, rfl, on_if (fun _ => ?_) (fun _ => ⟨b2, rfl, X9⟩)⟩
          refine ⟨_, rfl, .inl ⟨_, rfl, _, _, rfl, rfl, (by show (2 : Int) ≠ 0; decide), ?_⟩⟩
          refine ⟨_, rfl, .inl ⟨_, rfl, _, _, rfl, rfl, (by show (2 : Int) ≠ 0; decide), rfl, _, rfl, onbN (fun _ => ?_) (fun _ => ⟨_, rfl, X9⟩)⟩⟩
          obtain ⟨a1, a2, a3, a4, a5⟩ := X9
          refine ⟨_, rfl, T, L, 3, rfl, by decide, by decide, a2, fun r3 H10 _ _ e10 hT10 => ?_⟩
          exact ⟨_, _, rfl, rfl, _, rfl, a1.trans e10, hT10, e10 _ _ nmT a3, e10 _ _ foT a4, a5.tk (a2.tk e10)⟩
        rintro σ' H11 ⟨b3, rfl, a1, a2, a3, a4, a5⟩
        have hi' := N.at_ (i := i) hin
        have hj' := N.at_ (i := j) (by omega)
        have ix : ∀ c : Nat, (c : Int) < n → atI (ns.map V.int) (0 + (c : Int)) = some (.int (ns.getD c 0)) := fun c hc => at_of (j := c) (by omega) (by rw [List.getElem?_map, (N.at_ hc).1]; rfl)
        have ixi := ix i hin
        have ixj := ix j (by omega)
        have hyl : ys.length < 100000 := by omega
        refine ⟨_, rfl, b3, rfl, ?_⟩
        cases b3 with
        | true =>
          refine iteT ?_
          refine ⟨_, rfl, .inl ⟨rfl, _, SqL.of a4⟩, ?_⟩
          refine ⟨_, rfl, _, rfl, nm, _, _, _, rfl, rfl, SqL.of a3, ixi, _, rfl, _, rfl, nm, _, _, _, rfl, rfl, SqL.of a3, ixj, _, _, rfl, ?_⟩
          refine ⟨_, rfl, _, rfl, nm, _, _, _, rfl, rfl, SqL.of a3, ixi, _, rfl, _, rfl, nm, _, _, _, rfl, rfl, SqL.of a3, ixj, _, _, rfl, ?_⟩
          refine ⟨(by show 2 ≤ sizeLine; decide), fun c hc => ?_⟩
          have ec := L2.Same.new (o := .tup [.int (if ns.getD j 0 < ns.getD i 0 then ns.getD j 0 else ns.getD i 0), .int (if ns.getD j 0 > ns.getD i 0 then ns.getD j 0 else ns.getD i 0)]) hc
          refine ⟨fo, ys, _, rfl, rfl, ec _ _ a4, Nat.lt_of_lt_of_le hyl (by decide), ?_⟩
          have cf : c ≠ fo := fun q => by rw [q, a4] at hc; cases hc
          refine ⟨_, _, ys ++ [.ref c], ps ++ [norm (ns.getD i 0) (ns.getD j 0)], rfl, ?_, ?_, ?_, upd_same, ?_, P6.put N hin hji, ?_⟩
          · exact (a1.trans ec.exT).mut hfo0
          · exact (a2.ext ec).upd foT foL
          · rw [upd_ne fnm.symm]; exact ec _ _ a3
          · refine Paired.app ((a5.tk ec.tk).tk (tk_lst (ec _ _ a4))) (.cons ⟨c, rfl, ?_⟩ .nil)
            rw [upd_ne cf]; exact upd_same
          · rw [List.length_append, List.length_singleton]; omega
        | false => exact iteF ⟨_, _, ys, ps, rfl, a1, a2, a3, a4, a5, P6.skip, by omega⟩
      · rintro σ H6 ⟨v7, v8, ys, ps, rfl, e6, hT6, hnm6, hfo6, hp6, P6, l6⟩
        have ei : ((0 : Int) + (i : Nat)).toNat = i := by omega
        rw [ei] at P6 l6
        exact ⟨_, _, _, ys, ps, rfl, e6, hT6, hnm6, hfo6, hp6, P6.next, by omega⟩
    · rintro σ H5 ⟨v6, v7, v8, ys, ps, rfl, e5, hT5, hnm5, hfo5, hp5, P5, l5⟩
      refine ⟨_, rfl, _, rfl, fo, ys, pairOf H5, rfl, SqL.of hfo5, pairs_mem hp5, fun zs q s1' s2' hq => ?_⟩
      obtain ⟨qs, hz, hperm', hle⟩ := sorted_post hp5 s1' s2'
      have eq := L2.Same.new (o := .lst zs) hq
      refine ⟨q, _, rfl, .inl ⟨SqL.of upd_same, fun t ht => ?_⟩⟩
      have et := eq.new' (o := .tup zs) ht
      refine ⟨(by show 2 ≤ sizeLine; decide), fun z hz' => ?_⟩
      have ez := et.new' (o := .tup [.int n, .ref t]) hz'
      have ht5 : H5 t = none := L2.Same.free eq ht
      have hz5 : H5 z = none := L2.Same.free et hz'
      exact k z t n zs qs _ (e5.trans ez.exT) (hT5.ext ez) (ExT.free e5 (hT5.neT hz5) hz5) upd_same (ExT.free e5 (hT5.neT ht5) ht5) ((L2.Same.new hz') _ _ upd_same) (hz.tk ez.tk) s1 s2 (P5.good N (by omega) hperm' hle)
end
open PySem PySem.Spec L2
theorem units65 {k : Nat} {A : Around} (r : Room k A) : A.units + 65 < cLine := by have := r.un; omega
def tIfC (t : TT) (x y : V) : TE := fun σ H Q => t σ H fun c H1 => Q (if c = true then x else y) H1
theorem pe_ifC {X : Cx} {c a b : Expr} {pos : Pos} {t : TT} {x y : V} (hc : PT X c t) (ha : PE X a (tC x)) (hb : PE X b (tC y)) : PE X (.IfExp c a b pos) (tIfC t x y) := by
  have h := pe_ifExp (pos := pos) hc ha hb
  have e : tIf t (tC x) (tC y) = tIfC t x y := by
    funext σ H Q
    show t σ H (fun c H1 => if c = true then Q x H1 else Q y H1) = t σ H (fun c H1 => Q (if c = true then x else y) H1)
    have : (fun (c : Bool) (H1 : Hp) => if c = true then Q x H1 else Q y H1) = (fun c H1 => Q (if c = true then x else y) H1) := by
      funext c H1
      cases c <;> simp
    rw [this]
  rw [← e]
  exact h
/-- how many ties there can be -/
theorem up_len : ∀ {l : List Int} {lo hi : Int}, l.Pairwise (· < ·) → (∀ x ∈ l, lo ≤ x ∧ x < hi) → (l.length : Int) ≤ hi - lo ∨ l = []
  | [], _, _, _, _ => .inr rfl
  | x :: l, lo, hi, h, hb => by
    obtain ⟨h1, h2⟩ := List.pairwise_cons.mp h
    have hx := hb x (by simp)
    rcases up_len (lo := x + 1) (hi := hi) h2 (fun y hy => ⟨by have := h1 y hy; omega, (hb y (by simp [hy])).2⟩) with ih | ih
    · left; rw [List.length_cons]; omega
    · subst ih; left; simp; omega
theorem Good.len {n : Int} {ps : List (Int × Int)} (G : Good n ps) (hn : n ≤ 24) : ps.length ≤ 1000 := by
  have h1 : (ps.map fun p => 24 * p.1 + p.2).Pairwise (· < ·) := by
    refine List.pairwise_map.mpr ?_
    have : ps.Pairwise fun p q => lt2 p q ∧ (p ∈ ps ∧ q ∈ ps) := List.Pairwise.imp_of_mem (fun {p q} hp hq h => ⟨h, hp, hq⟩) G.up
    refine this.imp fun {p q} ⟨h, hp, hq⟩ => ?_
    have a := G.ok p hp
    have b := G.ok q hq
    unfold lt2 at h
    omega
  rcases up_len (lo := 0) (hi := 1000) h1 (fun x hx => by
    obtain ⟨p, hp, rfl⟩ := List.mem_map.mp hx
    have a := G.ok p hp
    omega) with h | h
  · rw [List.length_map] at h; omega
  · have := congrArg List.length h
    rw [List.length_map] at this
    simp at this
    simp [this]
theorem norm_comm {a b : Int} (h : a ≠ b) : norm a b = norm b a := by
  unfold norm
  by_cases h1 : b < a
  · rw [if_pos h1, if_neg (by omega), if_neg (by omega), if_pos (by omega)]
  · rw [if_neg h1, if_pos (by omega), if_pos (by omega), if_neg (by omega)]
theorem inV_ints (k : Int) : ∀ l : List Int, inV (.int k) (l.map V.int) = decide (k ∈ l)
  | [] => by simp [inV]
  | a :: l => by
    have ih := inV_ints k l
    unfold inV at ih ⊢
    rw [List.map_cons, List.any_cons, ih]
    by_cases h1 : a = k
    · subst h1; simp [eqV]
    · have : ¬ k = a := fun e => h1 e.symm
      by_cases h2 : k ∈ l <;> simp [eqV, h1, this, h2]
theorem any_pairs (p : Int × Int) : ∀ l : List (Int × Int), ((l.map pD).any fun z => PyData.eqv z (pD p)) = decide (p ∈ l)
  | [] => by simp
  | a :: l => by
    rw [List.map_cons, List.any_cons, any_pairs p l, pD_eqv]
    by_cases h1 : a = p
    · subst h1; simp
    · have : ¬ p = a := fun e => h1 e.symm
      by_cases h2 : p ∈ l <;> simp [h1, this, h2]
theorem flat_ints : ∀ l : List Int, (l.map V.int).all flatV = true
  | [] => rfl
  | a :: l => by rw [List.map_cons, List.all_cons, flat_ints l]; rfl
/-- another part, some parts on -/
theorem other_ne {o r n : Int} (h1 : 0 ≤ o) (h2 : o < n) (h3 : 0 ≤ r) (h4 : r < n - 1) : 0 ≤ (o + 1 + r).fmod n ∧ (o + 1 + r).fmod n < n ∧ o ≠ (o + 1 + r).fmod n := by
  rw [Int.fmod_eq_emod_of_nonneg _ (by omega)]
  by_cases h : o + 1 + r < n
  · rw [Int.emod_eq_of_lt (by omega) h]; omega
  · have e : (o + 1 + r) % n = (o + 1 + r - n) % n := by
      have := Int.sub_emod_right (o + 1 + r) n
      exact this.symm
    rw [e, Int.emod_eq_of_lt (by omega) (by omega)]; omega
section
variable {P : Program} {w : World} {K : PySem.W.Frag} {mg : Str → Option Value} {base : Heap} {C : Addr}
theorem same_ties {H : Hp} {t u : Addr} {xs ys : List V} {ps : List (Int × Int)} (ht : H t = some (.tup xs)) (hp : Pairs H xs ps) (hu : H u = some (.tup ys)) (hq : Pairs H ys ps) (hl : ps.length ≤ 100000) : SameV 2 H (.ref t) (.ref u) :=
  .inr ⟨t, u, xs, ys, rfl, rfl, .inl ⟨ht, hu⟩, by rw [Paired.len hp]; exact hl, same_pairs (k := 0) hp hq⟩
/-- (size, ties) twice -/
theorem same_web {H : Hp} {p q t u : Addr} {n : Int} {xs ys : List V} {ps : List (Int × Int)} (hp' : H p = some (.tup [.int n, .ref t])) (hq' : H q = some (.tup [.int n, .ref u])) (ht : H t = some (.tup xs)) (hp : Pairs H xs ps) (hu : H u = some (.tup ys)) (hq : Pairs H ys ps) (hl : ps.length ≤ 100000) : SameV 3 H (.ref p) (.ref q) :=
  .inr ⟨p, q, _, _, rfl, rfl, .inl ⟨hp', hq'⟩, (by show 2 ≤ 100000; decide), .cons (same_int _ _ _) (.cons (same_ties ht hp hu hq hl) .nil)⟩
theorem same_lots {H : Hp} {p q : Addr} {l : List Int} (hp : H p = some (.tup (l.map V.int))) (hq : H q = some (.tup (l.map V.int))) (hl : l.length ≤ 100000) : SameV 3 H (.ref p) (.ref q) :=
  .inl (.inl (.inr ⟨p, q, _, _, rfl, rfl, .inl ⟨hp, hq⟩, by rw [List.length_map]; exact hl, paired_ints l⟩))
end
end Bs

namespace Bs
open PySem PySem.Spec L2
/-! ## lots -/
structure Lot (n : Int) (l : List Int) : Prop where
  up : l.Pairwise (· < ·)
  ok : ∀ x ∈ l, 0 ≤ x ∧ x < n
theorem lot_len {n : Int} {l : List Int} (h : Lot n l) (h0 : 0 ≤ n) : (l.length : Int) ≤ n := by
  have key : ∀ {l : List Int} {lo hi : Int}, l.Pairwise (· < ·) → (∀ x ∈ l, lo ≤ x ∧ x < hi) → lo ≤ hi → (l.length : Int) ≤ hi - lo := by
    intro l
    induction l with
    | nil => intro lo hi _ _ h; simp; omega
    | cons x l ih =>
      intro lo hi h hb hle
      obtain ⟨h1, h2⟩ := List.pairwise_cons.mp h
      have hx := hb x (by simp)
      have := ih (lo := x + 1) (hi := hi) h2 (fun y hy => ⟨by have := h1 y hy; omega, (hb y (by simp [hy])).2⟩) (by omega)
      rw [List.length_cons]; omega
  have := key h.up h.ok h0
  omega
theorem ups_ext : ∀ {ps qs : List Int}, ps.Pairwise (· < ·) → qs.Pairwise (· < ·) → (∀ p, p ∈ ps ↔ p ∈ qs) → ps = qs
  | [], [], _, _, _ => rfl
  | [], q :: qs, _, _, h => by have := (h q).mpr (by simp); simp at this
  | p :: ps, [], _, _, h => by have := (h p).mp (by simp); simp at this
  | p :: ps, q :: qs, hp, hq, h => by
    obtain ⟨p1, p2⟩ := List.pairwise_cons.mp hp
    obtain ⟨q1, q2⟩ := List.pairwise_cons.mp hq
    have e : p = q := by
      rcases List.mem_cons.mp ((h p).mp (by simp)) with e | e
      · exact e
      · rcases List.mem_cons.mp ((h q).mpr (by simp)) with e' | e'
        · exact e'.symm
        · have := q1 p e; have := p1 q e'; omega
    subst e
    have : ps = qs := ups_ext p2 q2 fun r => by
      constructor
      · intro hr
        rcases List.mem_cons.mp ((h r).mp (by simp [hr])) with e | e
        · subst e; have := p1 r hr; omega
        · exact e
      · intro hr
        rcases List.mem_cons.mp ((h r).mpr (by simp [hr])) with e | e
        · subst e; have := q1 r hr; omega
        · exact e
    rw [this]
/-- a lot's bits -/
def IsLot (l : List Int) (b : Nat) : Prop := (∀ x ∈ l, 0 ≤ x) ∧ l.Pairwise (· < ·) ∧ ∀ k : Nat, (k : Int) ∈ l ↔ b.testBit k = true
def bitsN (l : List Int) : Nat := l.foldl (fun b p => b ||| 2 ^ p.toNat) 0
theorem bitsN_snoc (l : List Int) (p : Int) : bitsN (l ++ [p]) = bitsN l ||| 2 ^ p.toNat := by
  unfold bitsN
  rw [List.foldl_append]
  rfl
theorem bits_fold : ∀ (l : List Int) (b : Nat) (k : Nat), (∀ x ∈ l, 0 ≤ x) → (l.foldl (fun b p => b ||| 2 ^ p.toNat) b).testBit k = (b.testBit k || decide ((k : Int) ∈ l))
  | [], b, k, _ => by simp
  | p :: l, b, k, h => by
    rw [List.foldl_cons, bits_fold l _ k (fun x hx => h x (by simp [hx])), Nat.testBit_or, Nat.testBit_two_pow]
    have h0 := h p (by simp)
    by_cases c : p.toNat = k
    · have : (k : Int) = p := by omega
      simp [c, this]
    · have : ¬ (k : Int) = p := by omega
      simp [c, this]
theorem bitsN_bit {l : List Int} (h : ∀ x ∈ l, 0 ≤ x) (k : Nat) : (bitsN l).testBit k = decide ((k : Int) ∈ l) := by
  unfold bitsN
  rw [bits_fold l 0 k h]
  simp
theorem isLot_bits {n : Int} {l : List Int} (h : Lot n l) : IsLot l (bitsN l) :=
  ⟨fun x hx => (h.ok x hx).1, h.up, fun k => by rw [bitsN_bit fun x hx => (h.ok x hx).1]; simp⟩
theorem take_snoc {α : Type} {l : List α} {i : Nat} {x : α} (h : l[i]? = some x) : l.take (i + 1) = l.take i ++ [x] := by
  rw [List.take_succ, h]; rfl
theorem map_get {l : List Int} {i : Nat} {v : V} (h : (l.map V.int)[i]? = some v) : ∃ x, l[i]? = some x ∧ v = .int x := by
  rw [List.getElem?_map] at h
  cases e : l[i]? with
  | none => rw [e] at h; cases h
  | some x => rw [e] at h; exact ⟨x, rfl, (Option.some.inj h).symm⟩
theorem p2 (k : Nat) : (1 : Int) * 2 ^ ((k : Int)).toNat = ((2 ^ k : Nat) : Int) := by
  rw [Int.toNat_natCast, Int.one_mul, Int.natCast_pow]; rfl
theorem p2i {p : Int} (h : 0 ≤ p) : (1 : Int) * 2 ^ p.toNat = ((2 ^ p.toNat : Nat) : Int) := by
  rw [Int.one_mul, Int.natCast_pow]; rfl
section
variable {P : Program} {w : World} {K : PySem.W.Frag} {mg : Str → Option Value} {base : Heap} {C : Addr}
def sp_is_lot (C : Addr) : Sp := fun vs H Q _ => ∃ x n u ps t l, vs = [.ref x, .ref t] ∧ WebAt C H x n u ps ∧ H t = some (.tup (l.map V.int)) ∧ Lot n l ∧ Q (.bl true) H
def sp_is_lot_below : Sp := fun vs H Q _ => ∃ n t l, vs = [.int n, .ref t] ∧ H t = some (.tup (l.map V.int)) ∧ Lot n l ∧ Q (.bl true) H
abbrev s_is_lot_below : Stmt := (top 9)
theorem sc_is_lot_below : FnScope ["size", "thing", "last", "part"] ["size", "thing"] (defScope s_is_lot_below) := ⟨rfl, rfl, rfl, by decide +kernel, rfl, by decide +kernel, by decide +kernel⟩

theorem ok_is_lot_below {f : Addr} {fd : FuncData} (F : Fun K "is_lot_below" "is_lot_below" s_is_lot_below f fd) (hm : mg "is_lot_below" = some (.ref f)) (B : Bl mg) (c_is_number : Cal P w K mg base 2 "is_number" ["thing", "least", "most"] sp_is_number) : Cal P w K mg base 3 "is_lot_below" ["size", "thing"] sp_is_lot_below := by
  refine ⟨f, fd, F.ok sc_is_lot_below (fun vs H Q E h => ?_) (fun cdv A outer s H vs Q E hr h => ?_), hm, F.kp, F.binds (ps := ["size", "thing"]) fun _ _ _ _ _ _ us hl => match us, hl with | [_, _], _ => rfl⟩
  · obtain ⟨n, t, l, rfl, _⟩ := h; rfl
  · obtain ⟨n, t, l, rfl, ht, hl, k⟩ := h
    refine ⟨_, (pss_cons (ps_if (pt_not (pt_val (pe_callB call_isi (by rfl) B.isinstance (by decide +kernel) (pa_cons (pv 1) (pa_cons (pe_bltn (v := .ty "tuple") (by rfl) B.tuple_ (by decide +kernel) rfl) pa_nil))))) (pss_one (ps_ret pe_bl)) pss_nil)
 (pss_cons (ps_set (i := 2) sc_is_lot_below.nd rfl (by first | exact Or.inl rfl | exact Or.inr rfl) (pe_un un_neg pe_int))
 (pss_cons (ps_for PassesOwn.never rfl (pi_tup (pv 1)) (pg_name (i := 3) sc_is_lot_below.nd rfl (by first | exact Or.inl rfl | exact Or.inr rfl))
  (pss_cons (ps_if (pt_not (pt_val (pe_cal c_is_number (hr.mono (by first | decide | omega)) (pa_cons (pv 3) (pa_cons (pe_op op_add (pv 2) pe_int) (pa_cons (pe_op op_sub (pv 0) pe_int) pa_nil)))))) (pss_one (ps_ret pe_bl)) pss_nil)
 (pss_one (ps_set (i := 2) sc_is_lot_below.nd rfl (by first | exact Or.inl rfl | exact Or.inr rfl) (pv 3)))))
 (pss_one (ps_ret pe_bl))))), ?_⟩
    refine ⟨_, rfl, _, _, _, _, true, rfl, .ty "tuple", .base (.tup ht), kit_ty (by decide +kernel), true, rfl, iteF ?_⟩
    refine ⟨_, rfl, ?_⟩
    refine ⟨_, rfl, t, rfl, ⟨_, SqT.of ht⟩, for_tup (K := K) (a := t) (xs := l.map V.int) (fun i σ H' => H' = H ∧ ∃ (z : Int) (v : Option V), σ = [some (.int n), some (.ref t), some (.int z), v] ∧ (i = 0 → z = -1) ∧ ∀ j y, i = j + 1 → l[j]? = some y → z = y)
      ⟨rfl, -1, none, rfl, fun _ => rfl, fun j y e _ => by omega⟩ (fun i σ H' _ p => by rw [p.1]; exact SqT.of ht) ?_ ?_⟩
    · rintro i v σ H' hv ⟨rfl, z, u', rfl, z0, z1⟩
      obtain ⟨y, hy, rfl⟩ := map_get hv
      have hy2 := hl.ok y (List.mem_of_getElem? hy)
      have hz : z < y := by
        cases i with
        | zero => rw [z0 rfl]; omega
        | succ j =>
          have hj : j < l.length := by have := (List.getElem?_eq_some_iff.mp hy).1; omega
          rw [z1 j l[j] rfl (List.getElem?_eq_getElem hj)]
          obtain ⟨h2, e2⟩ := List.getElem?_eq_some_iff.mp hy
          have := List.pairwise_iff_getElem.mp hl.up j (j + 1) hj h2 (Nat.lt_succ_self j)
          omega
      refine ⟨_, rfl, _, rfl, _, _, rfl, rfl, _, rfl, _, _, rfl, rfl, y, z + 1, n - 1, rfl, _, rfl, ?_⟩
      rw [decide_eq_true (show z + 1 ≤ y ∧ y ≤ n - 1 by omega)]
      refine iteF ?_
      refine ⟨_, rfl, rfl, y, _, rfl, fun e => by omega, fun j q e h' => ?_⟩
      have : j = i := by omega
      subst this
      rw [hy] at h'
      cases h'
      rfl
    · rintro σ H' ⟨rfl, _⟩
      exact k
abbrev s_is_lot : Stmt := (top 10)
theorem sc_is_lot : FnScope ["web", "thing"] ["web", "thing"] (defScope s_is_lot) := ⟨rfl, rfl, rfl, by decide +kernel, rfl, by decide +kernel, by decide +kernel⟩

theorem ok_is_lot {f : Addr} {fd : FuncData} (F : Fun K "is_lot" "is_lot" s_is_lot f fd) (hm : mg "is_lot" = some (.ref f)) (B : Bl mg) (T : Txt K mg C) (c_is_lot_below : Cal P w K mg base 3 "is_lot_below" ["size", "thing"] sp_is_lot_below) : Cal P w K mg base 4 "is_lot" ["web", "thing"] (sp_is_lot C) := by
  refine ⟨f, fd, F.ok sc_is_lot (fun vs H Q E h => ?_) (fun cdv A outer s H vs Q E hr h => ?_), hm, F.kp, F.binds (ps := ["web", "thing"]) fun _ _ _ _ _ _ us hl => match us, hl with | [_, _], _ => rfl⟩
  · obtain ⟨x, n, u, ps, t, l, rfl, _⟩ := h; rfl
  · obtain ⟨x, n, u, ps, t, l, rfl, ⟨⟨dx, fs, h1, h2, h3⟩, _⟩, ht, hl, k⟩ := h
    refine ⟨_, (pss_one (ps_ret (pe_cal c_is_lot_below (hr.mono (by first | decide | omega)) (pa_cons (pe_fld (pv 0) rfl) (pa_cons (pv 1) pa_nil))))), ?_⟩
    exact ⟨_, rfl, x, C, dx, fs, _, rfl, h1, T.cl, T.nSize, h2, _, rfl, n, t, l, rfl, ht, hl, k⟩
def sp_check_stand (C : Addr) : Sp := fun vs H Q _ => ∃ x n u ps t l, vs = [.ref x, .ref t] ∧ WebAt C H x n u ps ∧ H t = some (.tup (l.map V.int)) ∧ Lot n l ∧ Q .non H
abbrev s_check_stand : Stmt := (top 12)
theorem sc_check_stand : FnScope ["web", "thing"] ["web", "thing"] (defScope s_check_stand) := ⟨rfl, rfl, rfl, by decide +kernel, rfl, by decide +kernel, by decide +kernel⟩

theorem ok_check_stand {f : Addr} {fd : FuncData} (F : Fun K "check_stand" "check_stand" s_check_stand f fd) (hm : mg "check_stand" = some (.ref f)) (B : Bl mg) (c_is_lot : Cal P w K mg base 4 "is_lot" ["web", "thing"] (sp_is_lot C)) : Cal P w K mg base 5 "check_stand" ["web", "thing"] (sp_check_stand C) := by
  refine ⟨f, fd, F.ok sc_check_stand (fun vs H Q E h => ?_) (fun cdv A outer s H vs Q E hr h => ?_), hm, F.kp, F.binds (ps := ["web", "thing"]) fun _ _ _ _ _ _ us hl => match us, hl with | [_, _], _ => rfl⟩
  · obtain ⟨x, n, u, ps, t, l, rfl, _⟩ := h; rfl
  · obtain ⟨x, n, u, ps, t, l, rfl, W, ht, hl, k⟩ := h
    refine ⟨_, (pss_one (ps_if (pt_not (pt_val (pe_cal c_is_lot (hr.mono (by first | decide | omega)) (pa_cons (pv 0) (pa_cons (pv 1) pa_nil))))) (pss_one ps_never) pss_nil)), ?_⟩
    exact ⟨_, rfl, _, rfl, x, n, u, ps, t, l, rfl, W, ht, hl, true, rfl, iteF k⟩
def sp_bits_of : Sp := fun vs H Q _ => ∃ t l, vs = [.ref t] ∧ H t = some (.tup (l.map V.int)) ∧ (∀ x ∈ l, 0 ≤ x ∧ x ≤ 1000) ∧ Q (.int (bitsN l : Nat)) H
abbrev s_bits_of : Stmt := (top 13)
theorem sc_bits_of : FnScope ["lot", "bits", "part"] ["lot"] (defScope s_bits_of) := ⟨rfl, rfl, rfl, by decide +kernel, rfl, by decide +kernel, by decide +kernel⟩

theorem ok_bits_of {f : Addr} {fd : FuncData} (F : Fun K "bits_of" "bits_of" s_bits_of f fd) (hm : mg "bits_of" = some (.ref f)) (B : Bl mg) : Cal P w K mg base 1 "bits_of" ["lot"] sp_bits_of := by
  refine ⟨f, fd, F.ok sc_bits_of (fun vs H Q E h => ?_) (fun cdv A outer s H vs Q E hr h => ?_), hm, F.kp, F.binds (ps := ["lot"]) fun _ _ _ _ _ _ us hl => match us, hl with | [_], _ => rfl⟩
  · obtain ⟨t, l, rfl, _⟩ := h; rfl
  · obtain ⟨t, l, rfl, ht, hl, k⟩ := h
    refine ⟨_, (pss_cons (ps_set (i := 1) sc_bits_of.nd rfl (by first | exact Or.inl rfl | exact Or.inr rfl) pe_int)
 (pss_cons (ps_for PassesOwn.never rfl (pi_tup (pv 0)) (pg_name (i := 2) sc_bits_of.nd rfl (by first | exact Or.inl rfl | exact Or.inr rfl))
  (pss_one (ps_aug (i := 1) sc_bits_of.nd rfl (by first | exact Or.inl rfl | exact Or.inr rfl) (pe_op op_shl pe_int (pv 2)) ip_or)))
 (pss_one (ps_ret (pv 1))))), ?_⟩
    refine ⟨_, rfl, t, rfl, ⟨_, SqT.of ht⟩, for_tup (K := K) (a := t) (xs := l.map V.int) (fun i σ H' => H' = H ∧ ∃ v : Option V, σ = [some (.ref t), some (.int (bitsN (l.take i) : Nat)), v])
      ⟨rfl, none, rfl⟩ (fun i σ H' _ p => by rw [p.1]; exact SqT.of ht) ?_ ?_⟩
    · rintro i v σ H' hv ⟨rfl, u, rfl⟩
      obtain ⟨y, hy, rfl⟩ := map_get hv
      have hy2 := hl y (List.mem_of_getElem? hy)
      refine ⟨_, rfl, _, rfl, _, _, rfl, rfl, ⟨hy2.1, by omega, by decide⟩, _, _, rfl, rfl, rfl, some (.int y), ?_⟩
      rw [p2i hy2.1]
      dsimp only
      rw [or_pp, take_snoc hy, bitsN_snoc]
      rfl
    · rintro σ H' ⟨rfl, v, rfl⟩
      rw [show (l.map V.int).length = l.length from List.length_map ..] 
      rw [List.take_length]
      exact ⟨_, rfl, k⟩
def sp_lot_of : Sp := fun vs H Q _ => ∃ b : Nat, vs = [.int (b : Int)] ∧ b < 2 ^ 200 ∧ ∀ p l H', Same H H' → H p = none → H' p = some (.tup (l.map V.int)) → IsLot l b → Q (.ref p) H'
abbrev s_lot_of : Stmt := (top 14)
theorem sc_lot_of : FnScope ["bits", "lot", "low"] ["bits"] (defScope s_lot_of) := ⟨rfl, rfl, rfl, by decide +kernel, rfl, by decide +kernel, by decide +kernel⟩

theorem ok_lot_of {f : Addr} {fd : FuncData} (F : Fun K "lot_of" "lot_of" s_lot_of f fd) (hm : mg "lot_of" = some (.ref f)) (B : Bl mg) : Cal P w K mg base 1 "lot_of" ["bits"] sp_lot_of := by
  refine ⟨f, fd, F.ok sc_lot_of (fun vs H Q E h => ?_) (fun cdv A outer s H vs Q E hr h => ?_), hm, F.kp, F.binds (ps := ["bits"]) fun _ _ _ _ _ _ us hl => match us, hl with | [_], _ => rfl⟩
  · obtain ⟨b, rfl, _⟩ := h; rfl
  · obtain ⟨b, rfl, hb, k⟩ := h
    refine ⟨_, (pss_cons (ps_set (i := 1) sc_lot_of.nd rfl (by first | exact Or.inl rfl | exact Or.inr rfl) (pe_lst pa_nil))
 (pss_cons (ps_while PassesOwn.never (pt_truth (pv 0) (by intro _; rfl)) (pss_cons (ps_set (i := 2) sc_lot_of.nd rfl (by first | exact Or.inl rfl | exact Or.inr rfl) (pe_op op_and (pv 0) (pe_un un_neg (pv 0))))
 (pss_cons (ps_expr (pe_bm PySem.F.plainAttrs_list PySem.F.slot_list_append PySem.F.type_list_append mt_append (pv 1) (pa_cons (pe_op op_sub (pe_bits (pv 2)) pe_int) pa_nil)))
 (pss_one (ps_aug (i := 0) sc_lot_of.nd rfl (by first | exact Or.inl rfl | exact Or.inr rfl) (pv 2) ip_xor)))))
 (pss_one (ps_ret (pe_callTy call_tuple_of (by rfl) B.tuple_ (by decide +kernel) (pa_cons (pv 1) pa_nil)))))), ?_⟩
    refine ⟨Nat.zero_le _, fun p hp => ?_⟩
    refine ⟨fun m σ H' => ∃ (c : Nat) (l : List Int) (v : Option V), σ = [some (.int (c : Int)), some (.ref p), v] ∧ c = m ∧ Same H H' ∧ H' p = some (.lst (l.map V.int)) ∧ (∀ x ∈ l, 0 ≤ x ∧ x < 200) ∧ l.Pairwise (· < ·) ∧ (∀ j : Nat, b.testBit j = (decide ((j : Int) ∈ l) || c.testBit j)) ∧ ∀ x ∈ l, ∀ j : Nat, c.testBit j = true → x < j,
      ⟨b, b, [], none, rfl, rfl, L2.Same.new hp, upd_same, by simp, .nil, by simp, by simp⟩, ?_⟩
    · rintro m σ H' ⟨c, l, v, rfl, rfl, e, hl, ok, up, hbit, hlt⟩
      refine ⟨_, rfl, (((c : Int)) != 0), rfl, ?_⟩
      by_cases c0 : c = 0
      · subst c0
        refine iteF ?_
        refine ⟨_, rfl, p, _, rfl, .inl ⟨SqL.of hl, fun q hq => ?_⟩⟩
        exact k q l _ (e.new' hq) (L2.Same.free e hq) upd_same ⟨fun x hx => (ok x hx).1, up, fun j => by rw [hbit j]; simp⟩
      · have hne : (((c : Int)) != 0) = true := by simp [c0]
        rw [hne]
        refine iteT ⟨_, fun σ' H' h => h, ?_⟩
        obtain ⟨kk, k1, k2⟩ := low_ex c0
        have hk : kk < 200 := by
          rcases Nat.lt_or_ge kk 200 with h | h
          · exact h
          · have h3 : b.testBit kk = true := by rw [hbit kk, k1]; simp
            rw [Nat.testBit_lt_two_pow (Nat.lt_of_lt_of_le hb (Nat.pow_le_pow_right (by decide) h))] at h3
            cases h3
        have hlow := low_is k1 k2
        refine ⟨_, rfl, _, rfl, c, rfl, c, -(c : Int), rfl, rfl, ?_⟩
        dsimp only
        rw [hlow]
        refine ⟨_, rfl, .inl ⟨rfl, _, SqL.of hl⟩, _, rfl, _, rfl, _, _, rfl, rfl, ?_⟩
        rw [bits_pow]
        have e1 : ((kk + 1 : Nat) : Int) - 1 = (kk : Int) := by omega
        dsimp only
        rw [e1]
        have hlen : l.length ≤ 1000 := by
          have := lot_len (n := 200) ⟨up, ok⟩ (by decide)
          omega
        refine ⟨p, _, _, rfl, rfl, hl, (by rw [List.length_map]; exact Nat.lt_of_le_of_lt hlen (by decide)), ?_⟩
        refine ⟨_, rfl, _, rfl, _, _, rfl, rfl, ?_⟩
        have e2 : ((2 : Int) ^ kk) = ((2 ^ kk : Nat) : Int) := by rw [Int.natCast_pow]; rfl
        dsimp only
        rw [e2, xor_pp, xor_low k1]
        refine ⟨clr c kk, clr_lt k1, clr c kk, l ++ [(kk : Int)], _, rfl, rfl, L2.Same.mut e hp, ?_, ?_, ?_, fun j => ?_, ?_⟩
        · rw [upd_same, List.map_append]; rfl
        · intro x hx
          rcases List.mem_append.mp hx with h | h
          · exact ok x h
          · simp at h; omega
        · refine List.pairwise_append.mpr ⟨up, by simp, fun x hx y hy => ?_⟩
          simp at hy
          subst hy
          exact hlt x hx kk k1
        · have hmm : decide ((j : Int) ∈ l ++ [(kk : Int)]) = (decide ((j : Int) ∈ l) || decide ((j : Int) = (kk : Int))) := by
            by_cases d : (j : Int) ∈ l <;> simp [d]
          rw [hbit j, clr_bit, hmm]
          by_cases c2 : j = kk
          · subst c2; simp [k1]
          · have : ¬ (j : Int) = (kk : Int) := by omega
            simp [c2, this]
        · intro x hx j hj
          rw [clr_bit] at hj
          simp at hj
          rcases List.mem_append.mp hx with h | h
          · exact hlt x h j hj.1
          · simp at h
            subst h
            have h3 : ¬ j < kk := fun h4 => by rw [k2 j h4] at hj; simp at hj
            omega
end
end Bs

namespace Bs
open PySem PySem.Spec L2
theorem dec_or {p a b : Prop} [Decidable p] [Decidable a] [Decidable b] (h : p ↔ a ∨ b) : decide p = (decide a || decide b) := by
  by_cases ha : a <;> by_cases hb : b <;> simp [h, ha, hb]
theorem dec_iff {p a : Prop} [Decidable p] [Decidable a] (h : p ↔ a) : decide p = decide a := by
  by_cases ha : a <;> simp [h, ha]
def nints (ts : List Nat) : List V := ts.map fun b : Nat => V.int (b : Int)
/-- the bits of what each part is tied to -/
structure Tied (n : Int) (ps : List (Int × Int)) (ts : List Nat) : Prop where
  len : (ts.length : Int) = n
  bit : ∀ i k : Nat, i < ts.length → (ts.getD i 0).testBit k = decide (norm (i : Int) (k : Int) ∈ ps)
theorem nints_get {ts : List Nat} {i : Nat} (h : i < ts.length) : (nints ts)[i]? = some (.int (ts.getD i 0 : Nat)) := by
  unfold nints
  rw [List.getElem?_map, List.getElem?_eq_getElem h, List.getD_eq_getElem?_getD, List.getElem?_eq_getElem h]
  rfl
theorem nints_len (ts : List Nat) : (nints ts).length = ts.length := List.length_map ..
theorem nints_set (ts : List Nat) (i b : Nat) : (nints ts).set i (.int (b : Int)) = nints (ts.set i b) := by
  unfold nints
  rw [List.map_set]
theorem getD_set (ts : List Nat) (i j b : Nat) (h : i < ts.length) : (ts.set i b).getD j 0 = if i = j then b else ts.getD j 0 := by
  rw [List.getD_eq_getElem?_getD, List.getD_eq_getElem?_getD, List.getElem?_set]
  by_cases c : i = j
  · subst c; simp [h]
  · simp [c]
theorem flat_rep (v : V) : ∀ n : Nat, (List.replicate n [v]).flatten = List.replicate n v
  | 0 => rfl
  | n + 1 => by rw [List.replicate_succ, List.flatten_cons, flat_rep v n]; rfl
theorem norm_pair {a b c d : Int} (hab : a < b) : norm c d = (a, b) ↔ (c = a ∧ d = b) ∨ (c = b ∧ d = a) := by
  unfold norm
  constructor
  · intro h
    have h1 := congrArg Prod.fst h
    have h2 := congrArg Prod.snd h
    dsimp only at h1 h2
    by_cases x : d < c
    · rw [if_pos x] at h1; rw [if_neg (show ¬ d > c by omega)] at h2; omega
    · rw [if_neg x] at h1
      by_cases y : d > c
      · rw [if_pos y] at h2; omega
      · rw [if_neg y] at h2; omega
  · rintro (⟨rfl, rfl⟩ | ⟨rfl, rfl⟩)
    · rw [if_neg (by omega), if_pos (by omega)]
    · rw [if_pos (by omega), if_neg (by omega)]
/-- what a part tells -/
def says (ps : List (Int × Int)) (l : List Int) (p : Int) : Bool := l.all fun q => !decide (norm p q ∈ ps)
theorem says_iff {ps : List (Int × Int)} {l : List Int} {p : Int} : says ps l p = true ↔ ∀ q ∈ l, norm p q ∉ ps := by
  unfold says
  rw [List.all_eq_true]
  constructor
  · intro h q hq; simpa using h q hq
  · intro h q hq; simpa using h q hq
/-- tied to none of the stand, by bits -/
theorem says_bits {n : Int} {ps : List (Int × Int)} {ts : List Nat} {l : List Int} {b : Nat} (T : Tied n ps ts) (hb : IsLot l b) {p : Int} (h0 : 0 ≤ p) (h1 : p < n) : decide ((ts.getD p.toNat 0 &&& b) = 0) = says ps l p := by
  have hlt : p.toNat < ts.length := by have := T.len; omega
  have hp : ((p.toNat : Nat) : Int) = p := Int.toNat_of_nonneg h0
  have bit : ∀ k : Nat, (ts.getD p.toNat 0 &&& b).testBit k = (decide (norm p (k : Int) ∈ ps) && decide ((k : Int) ∈ l)) := fun k => by
    rw [Nat.testBit_and, T.bit _ _ hlt, hp]
    have := hb.2.2 k
    cases hc : b.testBit k with
    | true => simp [this.mpr hc]
    | false =>
      have : ¬ (k : Int) ∈ l := fun h => by rw [this.mp h] at hc; cases hc
      simp [this]
  by_cases c : says ps l p = true
  · rw [c]
    refine decide_eq_true (Nat.eq_of_testBit_eq fun k => ?_)
    rw [bit]
    by_cases d : (k : Int) ∈ l
    · have := says_iff.mp c _ d; simp [this]
    · simp [d]
  · rw [eq_false_of_ne_true c]
    refine decide_eq_false fun e => c (says_iff.mpr fun q hq hm => ?_)
    have hq0 := hb.1 q hq
    have := bit q.toNat
    rw [e, Int.toNat_of_nonneg hq0] at this
    simp [hm, hq] at this
/-- the stand behind a call -/
def Behind (n : Int) (ps : List (Int × Int)) (l : List Int) (p : Int) (l' : List Int) : Prop :=
  Lot n l' ∧ ∀ x, x ∈ l' ↔ (if says ps l p = true then x ∈ l ∨ x = p else x ∈ l ∧ x ≠ p)
theorem Behind.uniq {n : Int} {ps : List (Int × Int)} {l l1 l2 : List Int} {p : Int} (h1 : Behind n ps l p l1) (h2 : Behind n ps l p l2) : l1 = l2 :=
  ups_ext h1.1.up h2.1.up fun x => by rw [h1.2, h2.2]
def behB (ps : List (Int × Int)) (l : List Int) (b : Nat) (p : Int) : Nat := if says ps l p = true then b ||| 2 ^ p.toNat else clr b p.toNat
theorem behind_bits {n : Int} {ps : List (Int × Int)} {l l' : List Int} {b : Nat} {p : Int} (hl : Lot n l) (hb : IsLot l b) (h0 : 0 ≤ p) (h1 : p < n) (h' : IsLot l' (behB ps l b p)) : Behind n ps l p l' := by
  have key : ∀ x, x ∈ l' ↔ (if says ps l p = true then x ∈ l ∨ x = p else x ∈ l ∧ x ≠ p) := fun x => by
    by_cases x0 : 0 ≤ x
    · have e : ((x.toNat : Nat) : Int) = x := Int.toNat_of_nonneg x0
      have h2 := h'.2.2 x.toNat
      have h3 := hb.2.2 x.toNat
      rw [e] at h2 h3
      rw [h2]
      unfold behB
      by_cases c : says ps l p = true
      · rw [if_pos c, if_pos c, Nat.testBit_or, Nat.testBit_two_pow, h3]
        have : p.toNat = x.toNat ↔ x = p := by omega
        simp [this]
      · rw [if_neg c, if_neg c, clr_bit, h3]
        have : x.toNat = p.toNat ↔ x = p := by omega
        simp [this]
    · have a1 : ¬ x ∈ l' := fun h => x0 (h'.1 x h)
      have a2 : ¬ x ∈ l := fun h => x0 (hb.1 x h)
      have a3 : ¬ x = p := fun h => x0 (h ▸ h0)
      by_cases c : says ps l p = true <;> simp [c, a1, a2, a3]
  refine ⟨⟨h'.2.1, fun x hx => ?_⟩, key⟩
  have h2 := (key x).mp hx
  by_cases c : says ps l p = true
  · rw [if_pos c] at h2
    rcases h2 with h2 | rfl
    · exact hl.ok x h2
    · exact ⟨h0, h1⟩
  · rw [if_neg c] at h2
    exact hl.ok x h2.1
theorem bits_small {n : Int} {l : List Int} (hl : Lot n l) (hn : n ≤ 200) : bitsN l < 2 ^ 200 := by
  apply Nat.lt_pow_two_of_testBit
  intro k hk
  rw [bitsN_bit fun x hx => (hl.ok x hx).1]
  refine decide_eq_false fun h => ?_
  have := hl.ok _ h
  omega
theorem behB_small {ps : List (Int × Int)} {l : List Int} {b : Nat} {p : Int} (hb : b < 2 ^ 200) (h0 : 0 ≤ p) (h1 : p < 200) : behB ps l b p < 2 ^ 200 := by
  unfold behB
  by_cases c : says ps l p = true
  · rw [if_pos c]
    exact Nat.or_lt_two_pow hb (Nat.pow_lt_pow_right (by decide) (by omega))
  · rw [if_neg c]
    unfold clr
    omega
section
variable {P : Program} {w : World} {K : PySem.W.Frag} {mg : Str → Option Value} {base : Heap} {C : Addr}
def sp_tied_bits (C : Addr) : Sp := fun vs H Q _ => ∃ x n u ps, vs = [.ref x] ∧ WebAt C H x n u ps ∧ Good n ps ∧ 1 ≤ n ∧ n ≤ 200 ∧ ∀ p ts H', Same H H' → H p = none → H' p = some (.lst (nints ts)) → Tied n ps ts → Q (.ref p) H'
abbrev s_tied_bits : Stmt := (top 15)
theorem sc_tied_bits : FnScope ["web", "tied", "a", "b"] ["web"] (defScope s_tied_bits) := ⟨rfl, rfl, rfl, by decide +kernel, rfl, by decide +kernel, by decide +kernel⟩

theorem ok_tied_bits {f : Addr} {fd : FuncData} (F : Fun K "tied_bits" "tied_bits" s_tied_bits f fd) (hm : mg "tied_bits" = some (.ref f)) (B : Bl mg) (T : Txt K mg C) : Cal P w K mg base 1 "tied_bits" ["web"] (sp_tied_bits C) := by
  refine ⟨f, fd, F.ok sc_tied_bits (fun vs H Q E h => ?_) (fun cdv A outer s H vs Q E hr h => ?_), hm, F.kp, F.binds (ps := ["web"]) fun _ _ _ _ _ _ us hl => match us, hl with | [_], _ => rfl⟩
  · obtain ⟨x, n, u, ps, rfl, _⟩ := h; rfl
  · obtain ⟨x, n, u, ps, rfl, W, G, n1, n2, k⟩ := h
    obtain ⟨⟨dx, fs, h1, h2, h3⟩, xs, h4, h5⟩ := id W
    refine ⟨_, (pss_cons (ps_set (i := 1) sc_tied_bits.nd rfl (by first | exact Or.inl rfl | exact Or.inr rfl) (pe_op op_rep (pe_lst (pa_cons pe_int pa_nil)) (pe_fld (pv 0) rfl)))
 (pss_cons (ps_for PassesOwn.never rfl (pi_tup (pe_fld (pv 0) rfl)) (pg_tup (by rfl) (pgs_cons (pg_name (i := 2) sc_tied_bits.nd rfl (by first | exact Or.inl rfl | exact Or.inr rfl)) (pgs_cons (pg_name (i := 3) sc_tied_bits.nd rfl (by first | exact Or.inl rfl | exact Or.inr rfl)) pgs_nil)))
  (pss_cons (ps_augS (pv 1) (pv 2) get_listP (pe_op op_shl pe_int (pv 3)) ip_or set_list)
 (pss_one (ps_augS (pv 1) (pv 3) get_listP (pe_op op_shl pe_int (pv 2)) ip_or set_list))))
 (pss_one (ps_ret (pv 1))))), ?_⟩
    refine ⟨(by show 1 ≤ sizeLine; decide), fun z hz => ?_⟩
    have e1 := L2.Same.new (o := .lst [.int 0]) hz
    refine ⟨_, rfl, x, C, dx, fs, _, rfl, e1 _ _ h1, T.cl, T.nSize, h2, z, n, _, rfl, rfl, upd_same, by omega, by omega, (by show 1 * n.toNat ≤ sizeLine; exact Nat.le_trans (show 1 * n.toNat ≤ 200 by omega) (by decide)), fun p hp => ?_⟩
    rw [flat_rep]
    have e2 := e1.new' (o := .lst (List.replicate n.toNat (V.int 0))) hp
    have e0 : List.replicate n.toNat (V.int 0) = nints (List.replicate n.toNat 0) := by unfold nints; rw [List.map_replicate]; rfl
    rw [e0] at e2 ⊢
    have hp0 := L2.Same.free e1 hp
    generalize hH2 : upd (upd H z (.lst [.int 0])) p (.lst (nints (List.replicate n.toNat 0))) = H2 at e2 ⊢
    have hp2 : H2 p = some (.lst (nints (List.replicate n.toNat 0))) := by rw [← hH2]; exact upd_same
    refine ⟨_, rfl, x, C, dx, fs, _, rfl, e2 _ _ h1, T.cl, T.nTies, h3, u, rfl, ⟨_, SqT.of (e2 _ _ h4)⟩, for_tup (K := K) (a := u) (xs := xs) (fun i σ H' => Same H H' ∧ ∃ (ts : List Nat) (v1 v2 : Option V), σ = [some (.ref x), some (.ref p), v1, v2] ∧ H' p = some (.lst (nints ts)) ∧ (ts.length : Int) = n ∧ ∀ j k : Nat, j < ts.length → (ts.getD j 0).testBit k = decide (norm (j : Int) (k : Int) ∈ ps.take i))
      ⟨e2, _, none, none, rfl, hp2, by rw [List.length_replicate]; omega, fun j k hj => by
        have : (List.replicate n.toNat 0).getD j 0 = 0 := by rw [List.getD_eq_getElem?_getD, List.getElem?_replicate]; split <;> rfl
        rw [this]; simp⟩ (fun i σ H' _ p => SqT.of (p.1 _ _ h4)) ?_ ?_⟩
    · rintro i v σ H' hv ⟨e3, ts, v1, v2, rfl, hts, hlen, hbit⟩
      obtain ⟨q, hq, a, rfl, ha⟩ := Paired.get h5 hv
      have hq2 := G.ok q (List.mem_of_getElem? hq)
      have l1 : q.1.toNat < ts.length := by omega
      have l2 : q.2.toNat < ts.length := by omega
      refine ⟨a, _, rfl, SqT.of (e3 _ _ ha), rfl, _, _, rfl, _, _, rfl, rfl, ?_⟩
      refine ⟨_, rfl, _, rfl, p, _, q.1, _, rfl, rfl, SqL.of hts, hq2.1, nints_get l1, ?_⟩
      refine ⟨_, rfl, _, _, rfl, rfl, ⟨by omega, by omega, by decide⟩, _, _, rfl, rfl, ?_⟩
      dsimp only
      rw [p2i (show 0 ≤ q.2 by omega), or_pp]
      refine ⟨p, _, q.1, q.1.toNat, rfl, rfl, hts, (by unfold ixN; rw [nints_len, if_pos hq2.1, if_pos (by omega)]), ?_⟩
      rw [nints_set]
      have l2' : q.2.toNat < (ts.set q.1.toNat (ts.getD q.1.toNat 0 ||| 2 ^ q.2.toNat)).length := by rw [List.length_set]; exact l2
      refine ⟨_, rfl, _, rfl, p, _, q.2, _, rfl, rfl, SqL.of upd_same, by omega, nints_get l2', ?_⟩
      refine ⟨_, rfl, _, _, rfl, rfl, ⟨by omega, by omega, by decide⟩, _, _, rfl, rfl, ?_⟩
      dsimp only
      rw [p2i hq2.1, or_pp]
      refine ⟨p, _, q.2, q.2.toNat, rfl, rfl, upd_same, (by unfold ixN; rw [nints_len, List.length_set, if_pos (show 0 ≤ q.2 by omega), if_pos (by omega)]), ?_⟩
      rw [nints_set, upd_upd]
      refine ⟨L2.Same.mut e3 hp0, _, _, _, rfl, upd_same, by rw [List.length_set, List.length_set]; exact hlen, fun j k hj => ?_⟩
      rw [List.length_set, List.length_set] at hj
      rw [getD_set _ _ _ _ l2', getD_set _ _ _ _ l1, take_snoc hq]
      have hb := hbit j k hj
      have hb2 := hbit q.2.toNat k l2
      have hmem : (norm (j : Int) (k : Int) ∈ ps.take i ++ [q]) ↔ (norm (j : Int) (k : Int) ∈ ps.take i ∨ ((j : Int) = q.1 ∧ (k : Int) = q.2) ∨ ((j : Int) = q.2 ∧ (k : Int) = q.1)) := by
        rw [List.mem_append, List.mem_singleton, norm_pair (a := q.1) (b := q.2) hq2.2.1]
      have ne12 : ¬ q.1.toNat = q.2.toNat := by omega
      by_cases c2 : q.2.toNat = j
      · rw [if_pos c2, if_neg ne12, Nat.testBit_or, Nat.testBit_two_pow, hb2]
        have ej : ((q.2.toNat : Nat) : Int) = (j : Int) := by omega
        rw [ej]
        have hm2 : (norm (j : Int) (k : Int) ∈ ps.take i ∨ ((j : Int) = q.1 ∧ (k : Int) = q.2) ∨ ((j : Int) = q.2 ∧ (k : Int) = q.1)) ↔ (norm (j : Int) (k : Int) ∈ ps.take i ∨ q.1.toNat = k) := by
          constructor
          · rintro (h | h | h)
            · exact .inl h
            · omega
            · exact .inr (by omega)
          · rintro (h | h)
            · exact .inl h
            · exact .inr (.inr (by omega))
        exact (dec_or (hmem.trans hm2)).symm
      · rw [if_neg c2, getD_set _ _ _ _ l1]
        by_cases c1 : q.1.toNat = j
        · rw [if_pos c1, Nat.testBit_or, Nat.testBit_two_pow, c1, hb]
          have hm2 : (norm (j : Int) (k : Int) ∈ ps.take i ∨ ((j : Int) = q.1 ∧ (k : Int) = q.2) ∨ ((j : Int) = q.2 ∧ (k : Int) = q.1)) ↔ (norm (j : Int) (k : Int) ∈ ps.take i ∨ q.2.toNat = k) := by
            constructor
            · rintro (h | h | h)
              · exact .inl h
              · exact .inr (by omega)
              · omega
            · rintro (h | h)
              · exact .inl h
              · exact .inr (.inl (by omega))
          exact (dec_or (hmem.trans hm2)).symm
        · rw [if_neg c1, hb]
          refine dec_iff (Iff.trans ⟨fun h => .inl h, ?_⟩ hmem.symm)
          rintro (h | h | h)
          · exact h
          · omega
          · omega
    · rintro σ H' ⟨e3, ts, v1, v2, rfl, hts, hlen, hbit⟩
      refine ⟨_, rfl, k p ts H' e3 hp0 hts ⟨hlen, fun i k hi => ?_⟩⟩
      have := hbit i k hi
      rw [Paired.len h5, List.take_length] at this
      exact this
def sp_told_by : Sp := fun vs H Q _ => ∃ t ts b p, vs = [.ref t, .int (b : Nat), .int p] ∧ H t = some (.lst (nints ts)) ∧ 0 ≤ p ∧ p < ts.length ∧ Q (.bl (decide ((ts.getD p.toNat 0 &&& b) = 0))) H
abbrev s_told_by : Stmt := (top 17)
theorem sc_told_by : FnScope ["tied", "bits", "part"] ["tied", "bits", "part"] (defScope s_told_by) := ⟨rfl, rfl, rfl, by decide +kernel, rfl, by decide +kernel, by decide +kernel⟩

theorem ok_told_by {f : Addr} {fd : FuncData} (F : Fun K "told_by" "told_by" s_told_by f fd) (hm : mg "told_by" = some (.ref f)) (B : Bl mg) : Cal P w K mg base 1 "told_by" ["tied", "bits", "part"] sp_told_by := by
  refine ⟨f, fd, F.ok sc_told_by (fun vs H Q E h => ?_) (fun cdv A outer s H vs Q E hr h => ?_), hm, F.kp, F.binds (ps := ["tied", "bits", "part"]) fun _ _ _ _ _ _ us hl => match us, hl with | [_, _, _], _ => rfl⟩
  · obtain ⟨t, ts, b, p, rfl, _⟩ := h; rfl
  · obtain ⟨t, ts, b, p, rfl, ht, h0, h1, k⟩ := h
    refine ⟨_, (pss_one (ps_ret (pe_cmpR op_eq (pe_op op_and (pe_ix ix_list (pv 0) (pv 2) (fun _ _ => rfl)) (pv 1)) pe_int (nomark _)))), ?_⟩
    refine ⟨_, rfl, _, rfl, t, _, p, _, rfl, rfl, SqL.of ht, at_of (j := p.toNat) (by omega) (nints_get (by omega)), _, rfl, _, _, rfl, rfl, ?_⟩
    dsimp only
    rw [and_pp]
    refine ⟨rfl, ?_⟩
    have e : decide (V.int ((ts.getD p.toNat 0 &&& b : Nat) : Int) = V.int 0) = decide ((ts.getD p.toNat 0 &&& b) = 0) := by
      refine decide_eq_decide.mpr ⟨fun h => ?_, fun h => by rw [h]; rfl⟩
      injection h with h
      omega
    rw [e]
    exact k
def sp_behind_call : Sp := fun vs H Q _ => ∃ t ts b p, vs = [.ref t, .int (b : Nat), .int p] ∧ H t = some (.lst (nints ts)) ∧ 0 ≤ p ∧ p < ts.length ∧ p ≤ 200 ∧ Q (.int ((if decide ((ts.getD p.toNat 0 &&& b) = 0) = true then b ||| 2 ^ p.toNat else clr b p.toNat : Nat) : Int)) H
abbrev s_behind_call : Stmt := (top 18)
theorem sc_behind_call : FnScope ["tied", "bits", "part"] ["tied", "bits", "part"] (defScope s_behind_call) := ⟨rfl, rfl, rfl, by decide +kernel, rfl, by decide +kernel, by decide +kernel⟩

theorem ok_behind_call {f : Addr} {fd : FuncData} (F : Fun K "behind_call" "behind_call" s_behind_call f fd) (hm : mg "behind_call" = some (.ref f)) (B : Bl mg) (c_told_by : Cal P w K mg base 1 "told_by" ["tied", "bits", "part"] sp_told_by) : Cal P w K mg base 2 "behind_call" ["tied", "bits", "part"] sp_behind_call := by
  refine ⟨f, fd, F.ok sc_behind_call (fun vs H Q E h => ?_) (fun cdv A outer s H vs Q E hr h => ?_), hm, F.kp, F.binds (ps := ["tied", "bits", "part"]) fun _ _ _ _ _ _ us hl => match us, hl with | [_, _, _], _ => rfl⟩
  · obtain ⟨t, ts, b, p, rfl, _⟩ := h; rfl
  · obtain ⟨t, ts, b, p, rfl, ht, h0, h1, h2, k⟩ := h
    have e2 : ((2 : Int) ^ p.toNat) = ((2 ^ p.toNat : Nat) : Int) := by rw [Int.natCast_pow]; rfl
    refine ⟨_, (pss_cons (ps_if (pt_val (pe_cal c_told_by (hr.mono (by first | decide | omega)) (pa_cons (pv 0) (pa_cons (pv 1) (pa_cons (pv 2) pa_nil))))) (pss_one (ps_ret (pe_op op_or (pv 1) (pe_op op_shl pe_int (pv 2))))) pss_nil)
 (pss_one (ps_ret (pe_op op_and (pv 1) (pe_un un_inv (pe_op op_shl pe_int (pv 2))))))), ?_⟩
    refine ⟨_, rfl, _, rfl, _, rfl, t, ts, b, p, rfl, ht, h0, h1, _, rfl, ?_⟩
    show (if decide ((ts.getD p.toNat 0 &&& b) = 0) = true then _ else _)
    refine onb (fun c => ?_) (fun c => ?_)
    · rw [if_pos (decide_eq_true c)] at k
      refine ⟨_, rfl, _, rfl, _, _, rfl, rfl, ⟨h0, by omega, by decide⟩, _, _, rfl, rfl, ?_⟩
      dsimp only
      rw [p2i h0, or_pp]
      exact k
    · rw [if_neg (by simpa using c)] at k
      refine ⟨_, rfl, _, rfl, _, _, rfl, rfl, ⟨h0, by omega, by decide⟩, _, rfl, _, _, rfl, rfl, ?_⟩
      dsimp only
      rw [Int.one_mul, and_not]
      exact k
end
end Bs

namespace Bs
open PySem PySem.Spec L2
/-! ## lots as data -/
theorem iD_lay : ∀ zs : List Int, PyData.canLayAll0 (zs.map PyData.int) = true
  | [] => by simp [PyData.canLayAll0]
  | z :: zs => by simp [PyData.canLayAll0, PyData.canLay0, iD_lay zs]
theorem iD_depth : ∀ zs : List Int, PyData.depthAll (zs.map PyData.int) = 0
  | [] => by simp [PyData.depthAll]
  | z :: zs => by simp [PyData.depthAll, PyData.depth, iD_depth zs]
theorem iD_shaped (zs : List Int) : SeqAt.shaped (.tuple (zs.map PyData.int)) = true := by
  have h1 := iD_depth zs
  have h2 : PyData.depth (.tuple (zs.map PyData.int)) ≤ 64 := by
    simp only [PyData.depth]
    omega
  show (PyData.canLay0 (.tuple (zs.map PyData.int)) && decide (PyData.depth (.tuple (zs.map PyData.int)) ≤ 64)) = true
  rw [Bool.and_eq_true]
  exact ⟨by simp only [PyData.canLay0]; exact iD_lay zs, decide_eq_true h2⟩
theorem iDs_eqv : ∀ ps qs : List Int, PyData.eqvAll (ps.map PyData.int) (qs.map PyData.int) = decide (ps = qs)
  | [], [] => by simp [PyData.eqvAll]
  | [], q :: qs => by simp [PyData.eqvAll]
  | p :: ps, [] => by simp [PyData.eqvAll]
  | p :: ps, q :: qs => by
    rw [List.map_cons, List.map_cons]
    simp only [PyData.eqvAll, PyData.eqv]
    rw [iDs_eqv ps qs]
    by_cases h1 : p = q
    · by_cases h2 : ps = qs <;> simp [h1, h2]
    · simp [h1]
theorem iD_eqv (ps qs : List Int) : PyData.eqv (.tuple (ps.map PyData.int)) (.tuple (qs.map PyData.int)) = decide (ps = qs) := by
  simp only [PyData.eqv]
  exact iDs_eqv ps qs
theorem dp_ints {K : PySem.W.Frag} {H : Hp} : ∀ l : List Int, DpAll K H (l.map V.int) (l.map PyData.int)
  | [] => .nil
  | a :: l => .cons (.int a) (dp_ints l)
theorem dp_lot {K : PySem.W.Frag} {H : Hp} {t : Addr} {l : List Int} (h : H t = some (.tup (l.map V.int))) : Dp K H (.ref t) (.tuple (l.map PyData.int)) := .tup (SqT.of h) (dp_ints l)
/-! ## what a call changes -/
theorem says_off {n : Int} {ps : List (Int × Int)} (G : Good n ps) {l l' : List Int} {p q : Int} (hpq : norm p q ∉ ps) (h : ∀ x, x ≠ q → (x ∈ l ↔ x ∈ l')) : says ps l p = says ps l' p := by
  rw [Bool.eq_iff_iff, says_iff, says_iff]
  constructor
  · intro a x hx
    by_cases c : x = q
    · subst c; exact hpq
    · exact a x ((h x c).mpr hx)
  · intro a x hx
    by_cases c : x = q
    · subst c; exact hpq
    · exact a x ((h x c).mp hx)
theorem norm_self {n : Int} {ps : List (Int × Int)} (G : Good n ps) (p : Int) : norm p p ∉ ps := fun h => by
  have := (G.ok _ h).2.1
  unfold norm at this
  simp at this
theorem Behind.off {n : Int} {ps : List (Int × Int)} {l l' : List Int} {p : Int} (h : Behind n ps l p l') : ∀ x, x ≠ p → (x ∈ l ↔ x ∈ l') := fun x hx => by
  rw [h.2]
  by_cases c : says ps l p = true <;> simp [c, hx]
/-- twice is once -/
theorem Behind.twice {n : Int} {ps : List (Int × Int)} (G : Good n ps) {l l1 l2 : List Int} {p : Int} (h1 : Behind n ps l p l1) (h2 : Behind n ps l1 p l2) : l2 = l1 := by
  have e : says ps l1 p = says ps l p := (says_off G (norm_self G p) h1.off).symm
  refine ups_ext h2.1.up h1.1.up fun x => ?_
  rw [h2.2, h1.2, e]
  by_cases c : says ps l p = true
  · simp only [c, if_pos]
    by_cases d : x = p <;> simp [d]
  · simp only [c, if_neg]
    by_cases d : x = p <;> simp [d]
/-- parts that are not tied can be called in either order -/
theorem Behind.swap {n : Int} {ps : List (Int × Int)} (G : Good n ps) {l la lb lab lba : List Int} {a b : Int} (hn : norm a b ∉ ps) (ha : Behind n ps l a la) (hab : Behind n ps la b lab) (hb : Behind n ps l b lb) (hba : Behind n ps lb a lba) : lab = lba := by
  have hn' : norm b a ∉ ps := by
    by_cases c : a = b
    · subst c; exact hn
    · rw [← norm_comm c]; exact hn
  have e1 : says ps la b = says ps l b := (says_off G hn' ha.off).symm
  have e2 : says ps lb a = says ps l a := (says_off G hn hb.off).symm
  refine ups_ext hab.1.up hba.1.up fun x => ?_
  rw [hab.2, hba.2, e1, e2, ha.2, hb.2]
  by_cases c1 : says ps l a = true <;> by_cases c2 : says ps l b = true <;> simp only [c1, c2, if_true, if_false, Bool.false_eq_true, if_pos, if_neg]
  · constructor
    · rintro ((h | h) | h)
      · exact .inl (.inl h)
      · exact .inr h
      · exact .inl (.inr h)
    · rintro ((h | h) | h)
      · exact .inl (.inl h)
      · exact .inr h
      · exact .inl (.inr h)
  · by_cases ab : a = b
    · subst ab; exact absurd c1 c2
    · constructor
      · rintro ⟨h | h, h'⟩
        · exact .inl ⟨h, h'⟩
        · exact .inr h
      · rintro (⟨h, h'⟩ | h)
        · exact ⟨.inl h, h'⟩
        · exact ⟨.inr h, by rw [h]; exact ab⟩
  · by_cases ab : a = b
    · subst ab; exact absurd c2 c1
    · constructor
      · rintro (⟨h, h'⟩ | h)
        · exact ⟨.inl h, h'⟩
        · exact ⟨.inr h, by rw [h]; exact fun e => ab e.symm⟩
      · rintro ⟨h | h, h'⟩
        · exact .inl ⟨h, h'⟩
        · exact .inr h
  · constructor
    · rintro ⟨⟨h, h1⟩, h2⟩; exact ⟨⟨h, h2⟩, h1⟩
    · rintro ⟨⟨h, h1⟩, h2⟩; exact ⟨⟨h, h2⟩, h1⟩
theorem Behind.same_iff {n : Int} {ps : List (Int × Int)} {l l' : List Int} {p : Int} (hl : Lot n l) (h : Behind n ps l p l') : l' = l ↔ says ps l p = decide (p ∈ l) := by
  constructor
  · intro e
    have := h.2 p
    rw [e] at this
    by_cases c : says ps l p = true
    · rw [c]; rw [c] at this; simp at this; simp [this]
    · rw [eq_false_of_ne_true c]; rw [eq_false_of_ne_true c] at this; simp at this; simp [this]
  · intro e
    refine ups_ext h.1.up hl.up fun x => ?_
    rw [h.2, e]
    by_cases c : p ∈ l
    · simp only [c, decide_true, if_true]
      constructor
      · rintro (h | rfl)
        · exact h
        · exact c
      · exact .inl
    · simp only [c, decide_false, Bool.false_eq_true, if_false]
      constructor
      · exact fun h => h.1
      · exact fun h => ⟨h, fun e => c (e ▸ h)⟩
def bc (ts : List Nat) (b i : Nat) : Nat := if decide ((ts.getD i 0 &&& b) = 0) = true then b ||| 2 ^ i else clr b i
def chgB (ts : List Nat) (b : Nat) : List Int := ((List.range ts.length).filter fun i => !decide (bc ts b i = b)).map fun i : Nat => (i : Int)
/-- the parts whose call changes the stand -/
def chg (n : Int) (ps : List (Int × Int)) (l : List Int) : List Int := ((List.range n.toNat).filter fun i : Nat => says ps l (i : Int) != decide ((i : Int) ∈ l)).map fun i : Nat => (i : Int)
theorem or_same (b i : Nat) : b ||| 2 ^ i = b ↔ b.testBit i = true := by
  constructor
  · intro h
    have := congrArg (fun x => Nat.testBit x i) h
    simp only [Nat.testBit_or, Nat.testBit_two_pow] at this
    simpa using this.symm
  · intro h
    apply Nat.eq_of_testBit_eq
    intro j
    rw [Nat.testBit_or, Nat.testBit_two_pow]
    by_cases c : i = j
    · subst c; simp [h]
    · simp [c]
theorem clr_same (b i : Nat) : clr b i = b ↔ b.testBit i = false := by
  constructor
  · intro h
    have := congrArg (fun x => Nat.testBit x i) h
    simp only [clr_bit] at this
    simpa using this.symm
  · intro h
    apply Nat.eq_of_testBit_eq
    intro j
    rw [clr_bit]
    by_cases c : j = i
    · subst c; simp [h]
    · simp [c]
theorem chg_eq {n : Int} {ps : List (Int × Int)} {ts : List Nat} {l : List Int} {b : Nat} (T : Tied n ps ts) (hb : IsLot l b) : chgB ts b = chg n ps l := by
  unfold chgB chg
  have e : ts.length = n.toNat := by have := T.len; omega
  rw [e]
  congr 1
  refine List.filter_congr fun i hi => ?_
  have hi' := List.mem_range.mp hi
  have hs := says_bits T hb (p := (i : Int)) (by omega) (by omega)
  rw [Int.toNat_natCast] at hs
  unfold bc
  rw [hs]
  have h3 := hb.2.2 i
  cases c : says ps l (i : Int) with
  | true =>
    rw [if_pos rfl]
    have := or_same b i
    rw [← h3] at this
    rw [dec_iff this]
    by_cases d : (i : Int) ∈ l <;> simp [d]
  | false =>
    rw [if_neg Bool.false_ne_true]
    have := clr_same b i
    have h4 : (b.testBit i = false) ↔ ¬ (i : Int) ∈ l := by rw [h3]; simp
    rw [h4] at this
    rw [dec_iff this]
    by_cases d : (i : Int) ∈ l <;> simp [d]
section
variable {P : Program} {w : World} {K : PySem.W.Frag} {mg : Str → Option Value} {base : Heap} {C : Addr}
def sp_changed_by : Sp := fun vs H Q _ => ∃ t ts b, vs = [.ref t, .int (b : Nat)] ∧ H t = some (.lst (nints ts)) ∧ ts.length ≤ 200 ∧ ∀ p H', Same H H' → H p = none → H' p = some (.lst ((chgB ts b).map V.int)) → Q (.ref p) H'
abbrev s_changed_by : Stmt := (top 19)
theorem sc_changed_by : FnScope ["tied", "bits", "part"] ["tied", "bits"] (defScope s_changed_by) := ⟨rfl, rfl, rfl, by decide +kernel, rfl, by decide +kernel, by decide +kernel⟩

theorem ok_changed_by {f : Addr} {fd : FuncData} (F : Fun K "changed_by" "changed_by" s_changed_by f fd) (hm : mg "changed_by" = some (.ref f)) (B : Bl mg) (c_behind_call : Cal P w K mg base 2 "behind_call" ["tied", "bits", "part"] sp_behind_call) : Cal P w K mg base 3 "changed_by" ["tied", "bits"] sp_changed_by := by
  refine ⟨f, fd, F.ok sc_changed_by (fun vs H Q E h => ?_) (fun cdv A outer s H vs Q E hr h => ?_), hm, F.kp, F.binds (ps := ["tied", "bits"]) fun _ _ _ _ _ _ us hl => match us, hl with | [_, _], _ => rfl⟩
  · obtain ⟨t, ts, b, rfl, _⟩ := h; rfl
  · obtain ⟨t, ts, b, rfl, ht, hlen, k⟩ := h
    refine ⟨_, (pss_one (ps_ret (pe_lc (own := [("part", 2)]) (by rfl) sc_changed_by.nd (pi_range1 (by rfl) B.range (pa_cons (pe_callB call_len_seq (by rfl) B.len (by decide +kernel) (pa_cons (pv 0) pa_nil)) pa_nil)) (blkOk_by (own := [("part", 2)]) (N := ["tied", "bits", "part"]) (sc := defScope s_changed_by) (by decide +kernel)) (fun _ _ _ _ _ => (pg_name (i := 2) sc_changed_by.nd rfl (by first | exact Or.inl rfl | exact Or.inr rfl))) (fun _ _ _ _ _ => (pts_one (pt_cmpR op_ne (pe_cal c_behind_call (hr.mono (by first | decide | omega)) (pa_cons (pv 0) (pa_cons (pv 1) (pa_cons (pv 2) pa_nil)))) (pv 1) (nomark _)))) (fun _ _ _ _ _ => (pv 2))))), ?_⟩
    refine ⟨_, rfl, t, _, rfl, .inl (SqL.of ht), _, rfl, by omega, (by rw [nints_len]; omega), fun D hD => lc_data (walk_range (lo := 0) (n := ((nints ts).length : Int).toNat)) (List.range ts.length) (by rw [List.length_range, Int.toNat_natCast, nints_len]) (fun i => !decide (bc ts b i = b)) (fun _ v i => v = .int (i : Nat)) (fun _ _ _ _ _ q => q) hD (fun _ _ => trivial) (by rw [List.length_range]; exact Nat.lt_of_le_of_lt hlen (by decide)) ?_ (fun _ _ _ _ _ y => by rw [y.1]; exact L2.Same.refl _) ?_⟩
    · rintro i a v H3 H4 Ny Nn hai e3 ⟨rfl, rfl⟩ kE kN
      have ea : a = i := by
        rw [List.getElem?_range (by have := (List.getElem?_eq_some_iff.mp hai).1; rw [List.length_range] at this; exact this)] at hai
        exact (Option.some.inj hai).symm
      subst ea
      have hi : a < ts.length := by have := (List.getElem?_eq_some_iff.mp hai).1; rw [List.length_range] at this; exact this
      refine ⟨rfl, ?_⟩
      refine ⟨_, rfl, _, rfl, _, rfl, t, ts, b, _, rfl, e3 _ _ ht, by omega, by omega, by omega, _, rfl, rfl, _, rfl, ?_⟩
      have ei : ((0 : Int) + (a : Nat)).toNat = a := by omega
      rw [ei]
      have ed : decide (V.int ((if decide ((ts.getD a 0 &&& b) = 0) = true then b ||| 2 ^ a else clr b a : Nat) : Int) = V.int (b : Int)) = decide (bc ts b a = b) := by
        refine dec_iff ⟨fun h => ?_, fun h => ?_⟩
        · injection h with h
          unfold bc
          omega
        · unfold bc at h
          rw [h]
      rw [ed]
      show (if (!decide (bc ts b a = b)) = true then _ else _)
      refine onbN (fun c => ?_) (fun c => ?_)
      · exact ⟨_, rfl, kE _ _ (by simpa using c) (L2.Same.refl _) (by show V.int (0 + ((a : Nat) : Int)) = _; rw [Int.zero_add])⟩
      · exact kN _ (by simpa using c) (L2.Same.refl _)
    · intro ys H3 e3 hys hpr
      have ey := paired_eq (g := fun i : Nat => V.int (i : Int)) hpr
      subst ey
      refine k D H3 e3 hD ?_
      rw [hys]
      unfold chgB
      rw [List.map_map]
      rfl
def sp_tells (C : Addr) : Sp := fun vs H Q _ => ∃ x n u ps t l p, vs = [.ref x, .ref t, .int p] ∧ WebAt C H x n u ps ∧ Good n ps ∧ 1 ≤ n ∧ n ≤ 200 ∧ H t = some (.tup (l.map V.int)) ∧ Lot n l ∧ 0 ≤ p ∧ p < n ∧ ∀ H', Same H H' → Q (.bl (says ps l p)) H'
abbrev s_tells : Stmt := (top 20)
theorem sc_tells : FnScope ["web", "stand", "part"] ["web", "stand", "part"] (defScope s_tells) := ⟨rfl, rfl, rfl, by decide +kernel, rfl, by decide +kernel, by decide +kernel⟩

theorem ok_tells {f : Addr} {fd : FuncData} (F : Fun K "tells" "tells" s_tells f fd) (hm : mg "tells" = some (.ref f)) (B : Bl mg) (c_check_stand : Cal P w K mg base 5 "check_stand" ["web", "thing"] (sp_check_stand C)) (c_check_part : Cal P w K mg base 4 "check_part" ["web", "thing"] (sp_check_part C)) (c_told_by : Cal P w K mg base 1 "told_by" ["tied", "bits", "part"] sp_told_by) (c_tied_bits : Cal P w K mg base 1 "tied_bits" ["web"] (sp_tied_bits C)) (c_bits_of : Cal P w K mg base 1 "bits_of" ["lot"] sp_bits_of) : Cal P w K mg base 6 "tells" ["web", "stand", "part"] (sp_tells C) := by
  refine ⟨f, fd, F.ok sc_tells (fun vs H Q E h => ?_) (fun cdv A outer s H vs Q E hr h => ?_), hm, F.kp, F.binds (ps := ["web", "stand", "part"]) fun _ _ _ _ _ _ us hl => match us, hl with | [_, _, _], _ => rfl⟩
  · obtain ⟨x, n, u, ps, t, l, p, rfl, _⟩ := h; rfl
  · obtain ⟨x, n, u, ps, t, l, p, rfl, W, G, n1, n2, ht, hl, p0, p1, k⟩ := h
    refine ⟨_, (pss_cons (ps_expr (pe_cal c_check_stand (hr.mono (by first | decide | omega)) (pa_cons (pv 0) (pa_cons (pv 1) pa_nil))))
 (pss_cons (ps_expr (pe_cal c_check_part (hr.mono (by first | decide | omega)) (pa_cons (pv 0) (pa_cons (pv 2) pa_nil))))
 (pss_one (ps_ret (pe_cal c_told_by (hr.mono (by first | decide | omega)) (pa_cons (pe_cal c_tied_bits (hr.mono (by first | decide | omega)) (pa_cons (pv 0) pa_nil)) (pa_cons (pe_cal c_bits_of (hr.mono (by first | decide | omega)) (pa_cons (pv 1) pa_nil)) (pa_cons (pv 2) pa_nil)))))))), ?_⟩
    refine ⟨_, rfl, _, rfl, x, n, u, ps, t, l, rfl, W, ht, hl, ?_⟩
    refine ⟨_, rfl, _, rfl, x, n, u, ps, p, rfl, W, p0, p1, ?_⟩
    refine ⟨_, rfl, x, n, u, ps, rfl, W, G, n1, n2, fun tb ts H1 e1 ntb htb TB => ?_⟩
    refine ⟨_, rfl, t, l, rfl, e1 _ _ ht, (fun y hy => by have := hl.ok y hy; omega), _, rfl, tb, ts, bitsN l, p, rfl, htb, p0, (by have := TB.len; omega), ?_⟩
    rw [says_bits TB (isLot_bits hl) p0 p1]
    exact k _ e1
def sp_called (C : Addr) : Sp := fun vs H Q _ => ∃ x n u ps t l p, vs = [.ref x, .ref t, .int p] ∧ WebAt C H x n u ps ∧ Good n ps ∧ 1 ≤ n ∧ n ≤ 200 ∧ H t = some (.tup (l.map V.int)) ∧ Lot n l ∧ 0 ≤ p ∧ p < n ∧ ∀ q l' H', Same H H' → H q = none → H' q = some (.tup (l'.map V.int)) → Behind n ps l p l' → Q (.ref q) H'
abbrev s_called : Stmt := (top 21)
theorem sc_called : FnScope ["web", "stand", "part"] ["web", "stand", "part"] (defScope s_called) := ⟨rfl, rfl, rfl, by decide +kernel, rfl, by decide +kernel, by decide +kernel⟩

theorem ok_called {f : Addr} {fd : FuncData} (F : Fun K "called" "called" s_called f fd) (hm : mg "called" = some (.ref f)) (B : Bl mg) (c_check_stand : Cal P w K mg base 5 "check_stand" ["web", "thing"] (sp_check_stand C)) (c_check_part : Cal P w K mg base 4 "check_part" ["web", "thing"] (sp_check_part C)) (c_behind_call : Cal P w K mg base 2 "behind_call" ["tied", "bits", "part"] sp_behind_call) (c_tied_bits : Cal P w K mg base 1 "tied_bits" ["web"] (sp_tied_bits C)) (c_bits_of : Cal P w K mg base 1 "bits_of" ["lot"] sp_bits_of) (c_lot_of : Cal P w K mg base 1 "lot_of" ["bits"] sp_lot_of) : Cal P w K mg base 6 "called" ["web", "stand", "part"] (sp_called C) := by
  refine ⟨f, fd, F.ok sc_called (fun vs H Q E h => ?_) (fun cdv A outer s H vs Q E hr h => ?_), hm, F.kp, F.binds (ps := ["web", "stand", "part"]) fun _ _ _ _ _ _ us hl => match us, hl with | [_, _, _], _ => rfl⟩
  · obtain ⟨x, n, u, ps, t, l, p, rfl, _⟩ := h; rfl
  · obtain ⟨x, n, u, ps, t, l, p, rfl, W, G, n1, n2, ht, hl, p0, p1, k⟩ := h
    refine ⟨_, (pss_cons (ps_expr (pe_cal c_check_stand (hr.mono (by first | decide | omega)) (pa_cons (pv 0) (pa_cons (pv 1) pa_nil))))
 (pss_cons (ps_expr (pe_cal c_check_part (hr.mono (by first | decide | omega)) (pa_cons (pv 0) (pa_cons (pv 2) pa_nil))))
 (pss_one (ps_ret (pe_cal c_lot_of (hr.mono (by first | decide | omega)) (pa_cons (pe_cal c_behind_call (hr.mono (by first | decide | omega)) (pa_cons (pe_cal c_tied_bits (hr.mono (by first | decide | omega)) (pa_cons (pv 0) pa_nil)) (pa_cons (pe_cal c_bits_of (hr.mono (by first | decide | omega)) (pa_cons (pv 1) pa_nil)) (pa_cons (pv 2) pa_nil)))) pa_nil)))))), ?_⟩
    refine ⟨_, rfl, _, rfl, x, n, u, ps, t, l, rfl, W, ht, hl, ?_⟩
    refine ⟨_, rfl, _, rfl, x, n, u, ps, p, rfl, W, p0, p1, ?_⟩
    refine ⟨_, rfl, x, n, u, ps, rfl, W, G, n1, n2, fun tb ts H1 e1 ntb htb TB => ?_⟩
    refine ⟨_, rfl, t, l, rfl, e1 _ _ ht, (fun y hy => by have := hl.ok y hy; omega), _, rfl, tb, ts, bitsN l, p, rfl, htb, p0, (by have := TB.len; omega), (by omega), ?_⟩
    rw [says_bits TB (isLot_bits hl) p0 p1]
    refine ⟨behB ps l (bitsN l) p, rfl, behB_small (bits_small hl n2) p0 (by omega), fun q l' H2 e2 nq hq hl' => ?_⟩
    exact k q l' H2 (e1.trans e2) (L2.Same.free e1 nq) hq (behind_bits hl (isLot_bits hl) p0 p1 hl')
def sp_changers (C : Addr) : Sp := fun vs H Q _ => ∃ x n u ps t l, vs = [.ref x, .ref t] ∧ WebAt C H x n u ps ∧ Good n ps ∧ 1 ≤ n ∧ n ≤ 200 ∧ H t = some (.tup (l.map V.int)) ∧ Lot n l ∧ ∀ q H', Same H H' → H q = none → H' q = some (.tup ((chg n ps l).map V.int)) → Q (.ref q) H'
abbrev s_changers : Stmt := (top 22)
theorem sc_changers : FnScope ["web", "stand"] ["web", "stand"] (defScope s_changers) := ⟨rfl, rfl, rfl, by decide +kernel, rfl, by decide +kernel, by decide +kernel⟩

theorem ok_changers {f : Addr} {fd : FuncData} (F : Fun K "changers" "changers" s_changers f fd) (hm : mg "changers" = some (.ref f)) (B : Bl mg) (c_check_stand : Cal P w K mg base 5 "check_stand" ["web", "thing"] (sp_check_stand C)) (c_changed_by : Cal P w K mg base 3 "changed_by" ["tied", "bits"] sp_changed_by) (c_tied_bits : Cal P w K mg base 1 "tied_bits" ["web"] (sp_tied_bits C)) (c_bits_of : Cal P w K mg base 1 "bits_of" ["lot"] sp_bits_of) : Cal P w K mg base 6 "changers" ["web", "stand"] (sp_changers C) := by
  refine ⟨f, fd, F.ok sc_changers (fun vs H Q E h => ?_) (fun cdv A outer s H vs Q E hr h => ?_), hm, F.kp, F.binds (ps := ["web", "stand"]) fun _ _ _ _ _ _ us hl => match us, hl with | [_, _], _ => rfl⟩
  · obtain ⟨x, n, u, ps, t, l, rfl, _⟩ := h; rfl
  · obtain ⟨x, n, u, ps, t, l, rfl, W, G, n1, n2, ht, hl, k⟩ := h
    refine ⟨_, (pss_cons (ps_expr (pe_cal c_check_stand (hr.mono (by first | decide | omega)) (pa_cons (pv 0) (pa_cons (pv 1) pa_nil))))
 (pss_one (ps_ret (pe_callTy call_tuple_of (by rfl) B.tuple_ (by decide +kernel) (pa_cons (pe_cal c_changed_by (hr.mono (by first | decide | omega)) (pa_cons (pe_cal c_tied_bits (hr.mono (by first | decide | omega)) (pa_cons (pv 0) pa_nil)) (pa_cons (pe_cal c_bits_of (hr.mono (by first | decide | omega)) (pa_cons (pv 1) pa_nil)) pa_nil))) pa_nil))))), ?_⟩
    refine ⟨_, rfl, _, rfl, x, n, u, ps, t, l, rfl, W, ht, hl, ?_⟩
    refine ⟨_, rfl, x, n, u, ps, rfl, W, G, n1, n2, fun tb ts H1 e1 ntb htb TB => ?_⟩
    refine ⟨_, rfl, t, l, rfl, e1 _ _ ht, (fun y hy => by have := hl.ok y hy; omega), tb, ts, bitsN l, rfl, htb, (by have := TB.len; omega), fun q H2 e2 nq hq => ?_⟩
    rw [chg_eq TB (isLot_bits hl)] at hq
    refine ⟨q, _, rfl, .inl ⟨SqL.of hq, fun z hz => ?_⟩⟩
    exact k z _ ((e1.trans e2).new' hz) (L2.Same.free (e1.trans e2) hz) upd_same
/-! ## the law's own defs -/
def sp_flag : Sp := fun vs H Q _ => ∃ b, vs = [.bl b, .bl b] ∧ Q (.bl true) H
abbrev s__law_flag : Stmt := (top 32)
theorem sc__law_flag : FnScope ["told", "due"] ["told", "due"] (defScope s__law_flag) := ⟨rfl, rfl, rfl, by decide +kernel, rfl, by decide +kernel, by decide +kernel⟩

theorem ok_law_flag {f : Addr} {fd : FuncData} (F : Fun K "_law_flag" "_law_flag" s__law_flag f fd) (hm : mg "_law_flag" = some (.ref f)) (B : Bl mg) : Cal P w K mg base 1 "_law_flag" ["told", "due"] sp_flag := by
  refine ⟨f, fd, F.ok sc__law_flag (fun vs H Q E h => ?_) (fun cdv A outer s H vs Q E hr h => ?_), hm, F.kp, F.binds (ps := ["told", "due"]) fun _ _ _ _ _ _ us hl => match us, hl with | [_, _], _ => rfl⟩
  · obtain ⟨b, rfl, _⟩ := h; rfl
  · obtain ⟨b, rfl, k⟩ := h
    refine ⟨_, (pss_one (ps_ret (pe_and (pe_callB call_isi (by rfl) B.isinstance (by decide +kernel) (pa_cons (pv 0) (pa_cons (pe_bltn (v := .ty "bool") (by rfl) B.bool_ (by decide +kernel) rfl) pa_nil))) (pe_one (pe_cmpR op_eq (pv 0) (pv 1) (nomark _)))))), ?_⟩
    refine ⟨_, rfl, _, _, _, _, true, rfl, .ty "bool", .base (.bl b), kit_ty (by decide +kernel), true, rfl, iteT ?_⟩
    refine ⟨_, rfl, _, rfl, rfl, ?_⟩
    rw [decide_eq_true rfl]
    exact k
def sp_any : Sp := fun vs H Q _ => ∃ T L l xs, vs = [.ref T, .ref l] ∧ Tp H T L ∧ H l = some (.lst xs) ∧ l ≠ T ∧ 0 < xs.length ∧ xs.length ≤ 1000 ∧ ∀ (i : Nat) v H', ExT T H H' → Tp H' T L → xs[i]? = some v → Q v H'
abbrev s__law_any : Stmt := (top 34)
theorem sc__law_any : FnScope ["tape", "things"] ["tape", "things"] (defScope s__law_any) := ⟨rfl, rfl, rfl, by decide +kernel, rfl, by decide +kernel, by decide +kernel⟩

theorem ok_law_any {f : Addr} {fd : FuncData} (F : Fun K "_law_any" "_law_any" s__law_any f fd) (hm : mg "_law_any" = some (.ref f)) (B : Bl mg) (c__law_pick : Cal P w K mg base 1 "_law_pick" ["tape", "many"] spPick) : Cal P w K mg base 2 "_law_any" ["tape", "things"] sp_any := by
  refine ⟨f, fd, F.ok sc__law_any (fun vs H Q E h => ?_) (fun cdv A outer s H vs Q E hr h => ?_), hm, F.kp, F.binds (ps := ["tape", "things"]) fun _ _ _ _ _ _ us hl => match us, hl with | [_, _], _ => rfl⟩
  · obtain ⟨T, L, l, xs, rfl, _⟩ := h; rfl
  · obtain ⟨T, L, l, xs, rfl, hT, hl, lT, h0, h1, k⟩ := h
    refine ⟨_, (pss_one (ps_ret (pe_ix ix_list (pv 1) (pe_cal c__law_pick (hr.mono (by first | decide | omega)) (pa_cons (pv 0) (pa_cons (pe_callB call_len_seq (by rfl) B.len (by decide +kernel) (pa_cons (pv 1) pa_nil)) pa_nil))) (fun _ _ => rfl)))), ?_⟩
    refine ⟨_, rfl, _, rfl, _, rfl, l, xs, rfl, .inl (SqL.of hl), T, L, _, rfl, by omega, by omega, hT, fun r H1 r0 r1 e1 hT1 => ?_⟩
    have hr' : r.toNat < xs.length := by omega
    exact ⟨l, xs, r, xs[r.toNat], rfl, rfl, SqL.of (e1 _ _ lT hl), at_of (j := r.toNat) (by omega) (List.getElem?_eq_getElem hr'), k r.toNat _ _ e1 hT1 (List.getElem?_eq_getElem hr')⟩
def sp_stand : Sp := fun vs H Q _ => ∃ T L n, vs = [.ref T, .int n] ∧ Tp H T L ∧ 0 ≤ n ∧ n ≤ 1000 ∧ ∀ p l H', ExT T H H' → Tp H' T L → H p = none → H' p = some (.tup (l.map V.int)) → Lot n l → Q (.ref p) H'
abbrev s__law_stand : Stmt := (top 37)
theorem sc__law_stand : FnScope ["tape", "size", "part"] ["tape", "size"] (defScope s__law_stand) := ⟨rfl, rfl, rfl, by decide +kernel, rfl, by decide +kernel, by decide +kernel⟩

theorem ok_law_stand {f : Addr} {fd : FuncData} (F : Fun K "_law_stand" "_law_stand" s__law_stand f fd) (hm : mg "_law_stand" = some (.ref f)) (B : Bl mg) (c__law_pick : Cal P w K mg base 1 "_law_pick" ["tape", "many"] spPick) : Cal P w K mg base 2 "_law_stand" ["tape", "size"] sp_stand := by
  refine ⟨f, fd, F.ok sc__law_stand (fun vs H Q E h => ?_) (fun cdv A outer s H vs Q E hr h => ?_), hm, F.kp, F.binds (ps := ["tape", "size"]) fun _ _ _ _ _ _ us hl => match us, hl with | [_, _], _ => rfl⟩
  · obtain ⟨T, L, n, rfl, _⟩ := h; rfl
  · obtain ⟨T, L, n, rfl, hT, n0, n1, k⟩ := h
    refine ⟨_, (pss_one (ps_ret (pe_callTy call_tuple_of (by rfl) B.tuple_ (by decide +kernel) (pa_cons (pe_lc (own := [("part", 2)]) (by rfl) sc__law_stand.nd (pi_range1 (by rfl) B.range (pa_cons (pv 1) pa_nil)) (blkOk_by (own := [("part", 2)]) (N := ["tape", "size", "part"]) (sc := defScope s__law_stand) (by decide +kernel)) (fun _ _ _ _ _ => (pg_name (i := 2) sc__law_stand.nd rfl (by first | exact Or.inl rfl | exact Or.inr rfl))) (fun _ _ _ _ _ => (pts_one (pt_cmpR op_eq (pe_cal c__law_pick (hr.mono (by first | decide | omega)) (pa_cons (pv 0) (pa_cons pe_int pa_nil))) pe_int (nomark _)))) (fun _ _ _ _ _ => (pv 2))) pa_nil)))), ?_⟩
    refine ⟨_, rfl, _, rfl, by omega, by omega, fun D hD => lc_range (lo := 0) (n := n.toNat) (fun i H' => ExT T H H' ∧ Tp H' T L ∧ ∃ l : List Int, H' D = some (.lst (l.map V.int)) ∧ Lot (i : Nat) l)
      ⟨(L2.Same.new hD).exT, hT.ext (L2.Same.new hD), [], upd_same, .nil, by simp⟩ ?_ ?_⟩
    · rintro i H1 hi ⟨e1, hT1, l, hl, lot⟩
      have DT := hT.neT hD
      have DL := hT.neL hD
      refine ⟨rfl, _, rfl, T, L, 2, rfl, by decide, by decide, hT1, fun r H2 _ _ e2 hT2 => ⟨rfl, _, rfl, ?_⟩⟩
      have hl2 := e2 _ _ DT hl
      show (if decide (V.int r = V.int 0) = true then _ else _)
      refine onb (fun c => ?_) (fun c => ?_)
      · refine ⟨_, rfl, _, hl2, ?_, (e1.trans e2).mut hD, hT2.upd DT DL, l ++ [(i : Int)], ?_, ?_, fun x hx => ?_⟩
        · rw [List.length_map]
          have := lot_len lot (by omega)
          exact Nat.lt_of_le_of_lt (show l.length ≤ 1000 by omega) (by decide)
        · rw [upd_same, Int.zero_add, List.map_append]; rfl
        · refine List.pairwise_append.mpr ⟨lot.up, by simp, fun x hx y hy => ?_⟩
          simp at hy
          subst hy
          exact (lot.ok x hx).2
        · rcases List.mem_append.mp hx with h | h
          · have := lot.ok x h; omega
          · simp at h; omega
      · exact ⟨e1.trans e2, hT2, l, hl2, lot.up, fun x hx => by have := lot.ok x hx; omega⟩
    · rintro H1 ⟨e1, hT1, l, hl, lot⟩
      refine ⟨D, _, rfl, .inl ⟨SqL.of hl, fun q hq => ?_⟩⟩
      have e2 := L2.Same.new (o := .tup (l.map V.int)) hq
      have en : ((n.toNat : Nat) : Int) = n := by omega
      rw [en] at lot
      exact k q l _ (e1.trans e2.exT) (hT1.ext e2) (ExT.free e1 (hT1.neT hq) hq) upd_same lot
def hit (l : List Int) (p : Int) (q : Int × Int) : Prop := (q.1 = p ∧ q.2 ∈ l) ∨ (q.2 = p ∧ q.1 ∈ l)
theorem says_hit {n : Int} {ps : List (Int × Int)} (G : Good n ps) (l : List Int) (p : Int) : says ps l p = true ↔ ∀ q ∈ ps, ¬ hit l p q := by
  rw [says_iff]
  constructor
  · rintro h q hq (⟨h1, h2⟩ | ⟨h1, h2⟩)
    · have := (G.ok q hq).2.1
      refine h q.2 h2 ?_
      rw [(norm_pair (a := q.1) (b := q.2) this).mpr (.inl ⟨h1.symm, rfl⟩)]
      exact hq
    · have := (G.ok q hq).2.1
      refine h q.1 h2 ?_
      rw [(norm_pair (a := q.1) (b := q.2) this).mpr (.inr ⟨h1.symm, rfl⟩)]
      exact hq
  · intro h x hx hm
    have h1 := (G.ok _ hm).2.1
    have h2 := (norm_pair (a := (norm p x).1) (b := (norm p x).2) h1).mp rfl
    rcases h2 with ⟨e1, e2⟩ | ⟨e1, e2⟩
    · exact h _ hm (.inl ⟨e1.symm, by rw [← e2]; exact hx⟩)
    · exact h _ hm (.inr ⟨e1.symm, by rw [← e2]; exact hx⟩)
def sp_says : Sp := fun vs H Q _ => ∃ u xs n ps t l p, vs = [.ref u, .ref t, .int p] ∧ H u = some (.tup xs) ∧ Pairs H xs ps ∧ Good n ps ∧ H t = some (.tup (l.map V.int)) ∧ Q (.bl (says ps l p)) H
abbrev s__law_says : Stmt := (top 38)
theorem sc__law_says : FnScope ["ties", "stand", "part", "one", "other"] ["ties", "stand", "part"] (defScope s__law_says) := ⟨rfl, rfl, rfl, by decide +kernel, rfl, by decide +kernel, by decide +kernel⟩

theorem ok_law_says {f : Addr} {fd : FuncData} (F : Fun K "_law_says" "_law_says" s__law_says f fd) (hm : mg "_law_says" = some (.ref f)) (B : Bl mg) : Cal P w K mg base 1 "_law_says" ["ties", "stand", "part"] sp_says := by
  refine ⟨f, fd, F.ok sc__law_says (fun vs H Q E h => ?_) (fun cdv A outer s H vs Q E hr h => ?_), hm, F.kp, F.binds (ps := ["ties", "stand", "part"]) fun _ _ _ _ _ _ us hl => match us, hl with | [_, _, _], _ => rfl⟩
  · obtain ⟨u, xs, n, ps, t, l, p, rfl, _⟩ := h; rfl
  · obtain ⟨u, xs, n, ps, t, l, p, rfl, hu, hp, G, ht, k⟩ := h
    refine ⟨_, (pss_cons (ps_for PassesOwn.never rfl (pi_tup (pv 0)) (pg_tup (by rfl) (pgs_cons (pg_name (i := 3) sc__law_says.nd rfl (by first | exact Or.inl rfl | exact Or.inr rfl)) (pgs_cons (pg_name (i := 4) sc__law_says.nd rfl (by first | exact Or.inl rfl | exact Or.inr rfl)) pgs_nil)))
  (pss_one (ps_if (PW.pt (pw_or (PW.pt (pw_and (pt_cmpR op_eq (pv 3) (pv 2) (nomark _)) (pw_and1 (pt_cmpR op_in_seq (pv 4) (pv 1) (by rfl))))) (pw_or1 (PW.pt (pw_and (pt_cmpR op_eq (pv 4) (pv 2) (nomark _)) (pw_and1 (pt_cmpR op_in_seq (pv 3) (pv 1) (by rfl)))))))) (pss_one (ps_ret pe_bl)) pss_nil)))
 (pss_one (ps_ret pe_bl))), ?_⟩
    refine ⟨_, rfl, u, rfl, ⟨_, SqT.of hu⟩, for_tup (K := K) (a := u) (xs := xs) (fun i σ H' => H' = H ∧ ∃ v1 v2 : Option V, σ = [some (.ref u), some (.ref t), some (.int p), v1, v2] ∧ ∀ q ∈ ps.take i, ¬ hit l p q)
      ⟨rfl, none, none, rfl, by simp⟩ (fun i σ H' _ p => by rw [p.1]; exact SqT.of hu) ?_ ?_⟩
    · rintro i v σ H' hv ⟨rfl, v1, v2, rfl, hno⟩
      obtain ⟨q, hq, a, rfl, ha⟩ := Paired.get hp hv
      refine ⟨a, _, rfl, SqT.of ha, rfl, _, _, rfl, _, _, rfl, rfl, ?_⟩
      have yes : hit l p q → Q (.bl false) H' := fun h => by
        have e : says ps l p = false := by
          cases c : says ps l p with
          | false => rfl
          | true => exact absurd h ((says_hit G l p).mp c q (List.mem_of_getElem? hq))
        rw [e] at k
        exact k
      have no : ¬ hit l p q → (H' = H' ∧ ∃ v1 v2 : Option V, [some (.ref u), some (.ref t), some (.int p), some (.int q.1), some (.int q.2)] = [some (.ref u), some (.ref t), some (.int p), v1, v2] ∧ ∀ q ∈ ps.take (i + 1), ¬ hit l p q) := fun h => by
        refine ⟨rfl, _, _, rfl, fun r hr => ?_⟩
        rw [take_snoc hq] at hr
        rcases List.mem_append.mp hr with hr | hr
        · exact hno r hr
        · simp at hr; rw [hr]; exact h
      have fl : ∀ z : Int, inV (.int z) (l.map V.int) = decide (z ∈ l) := fun z => inV_ints z l
      refine ⟨_, rfl, _, rfl, rfl, _, rfl, ?_⟩
      by_cases c1 : q.1 = p
      · rw [decide_eq_true (show V.int q.1 = V.int p by rw [c1])]
        refine iteT ?_
        refine ⟨_, rfl, _, rfl, t, _, rfl, .inr (SqT.of ht), rfl, flat_ints _, _, rfl, ?_⟩
        rw [fl]
        by_cases d1 : q.2 ∈ l
        · rw [decide_eq_true d1]
          exact iteT (iteT (yes (.inl ⟨c1, d1⟩)))
        · rw [decide_eq_false d1]
          refine iteF ?_
          refine ⟨_, rfl, _, rfl, rfl, _, rfl, ?_⟩
          by_cases c2 : q.2 = p
          · rw [decide_eq_true (show V.int q.2 = V.int p by rw [c2])]
            refine iteT ?_
            refine ⟨_, rfl, _, rfl, t, _, rfl, .inr (SqT.of ht), rfl, flat_ints _, _, rfl, ?_⟩
            rw [fl]
            by_cases d2 : q.1 ∈ l
            · rw [decide_eq_true d2]
              exact iteT (yes (.inr ⟨c2, d2⟩))
            · rw [decide_eq_false d2]
              exact iteF (no (by rintro (⟨h1, h2⟩ | ⟨h1, h2⟩) <;> simp_all))
          · rw [decide_eq_false (show ¬ V.int q.2 = V.int p from fun e => c2 (V.int.inj e))]
            exact iteF (iteF (no (by rintro (⟨h1, h2⟩ | ⟨h1, h2⟩) <;> simp_all)))
      · rw [decide_eq_false (show ¬ V.int q.1 = V.int p from fun e => c1 (V.int.inj e))]
        refine iteF (iteF ?_)
        refine ⟨_, rfl, _, rfl, rfl, _, rfl, ?_⟩
        by_cases c2 : q.2 = p
        · rw [decide_eq_true (show V.int q.2 = V.int p by rw [c2])]
          refine iteT ?_
          refine ⟨_, rfl, _, rfl, t, _, rfl, .inr (SqT.of ht), rfl, flat_ints _, _, rfl, ?_⟩
          rw [fl]
          by_cases d2 : q.1 ∈ l
          · rw [decide_eq_true d2]
            exact iteT (yes (.inr ⟨c2, d2⟩))
          · rw [decide_eq_false d2]
            exact iteF (no (by rintro (⟨h1, h2⟩ | ⟨h1, h2⟩) <;> simp_all))
        · rw [decide_eq_false (show ¬ V.int q.2 = V.int p from fun e => c2 (V.int.inj e))]
          exact iteF (iteF (no (by rintro (⟨h1, h2⟩ | ⟨h1, h2⟩) <;> simp_all)))
    · rintro σ H' ⟨rfl, v1, v2, rfl, hno⟩
      rw [Paired.len hp, List.take_length] at hno
      have e : says ps l p = true := (says_hit G l p).mpr hno
      rw [e] at k
      exact k
end
end Bs

namespace Bs
open PySem PySem.Spec L2
theorem lt_of_le_nd : ∀ {l : List Int}, l.Pairwise (· ≤ ·) → l.Nodup → l.Pairwise (· < ·)
  | [], _, _ => .nil
  | a :: l, h, n => by
    obtain ⟨h1, h2⟩ := List.pairwise_cons.mp h
    obtain ⟨n1, n2⟩ := List.nodup_cons.mp n
    refine List.pairwise_cons.mpr ⟨fun b hb => ?_, lt_of_le_nd h2 n2⟩
    have := h1 b hb
    have : a ≠ b := fun e => n1 (e ▸ hb)
    omega
theorem lt_nd {l : List Int} (h : l.Pairwise (· < ·)) : l.Nodup := List.Pairwise.imp (fun {a b} (q : a < b) => show a ≠ b by omega) h
theorem behind_no {n : Int} {ps : List (Int × Int)} {l : List Int} {p : Int} (hl : Lot n l) (h : says ps l p = false) : Behind n ps l p (l.filter fun x => !decide (x = p)) := by
  refine ⟨⟨hl.up.sublist List.filter_sublist, fun x hx => hl.ok x (List.mem_filter.mp hx).1⟩, fun x => ?_⟩
  rw [h, List.mem_filter]
  simp
theorem behind_yes {n : Int} {ps : List (Int × Int)} {l ns : List Int} {p : Int} (hl : Lot n l) (p0 : 0 ≤ p) (p1 : p < n) (h : says ps l p = true) (hp : ns.Perm ((l.filter fun x => !decide (x = p)) ++ [p])) (hs : ns.Pairwise (· ≤ ·)) : Behind n ps l p ns := by
  have nd : ((l.filter fun x => !decide (x = p)) ++ [p]).Nodup := by
    refine List.nodup_append.mpr ⟨(lt_nd hl.up).sublist List.filter_sublist, by simp, fun q hq r hr => ?_⟩
    have := (List.mem_filter.mp hq).2
    simp at this hr
    rw [hr]; exact this
  refine ⟨⟨lt_of_le_nd hs (hp.nodup_iff.mpr nd), fun x hx => ?_⟩, fun x => ?_⟩
  · rcases List.mem_append.mp (hp.mem_iff.mp hx) with h | h
    · exact hl.ok x (List.mem_filter.mp h).1
    · simp at h; subst h; exact ⟨p0, p1⟩
  · rw [h, hp.mem_iff, List.mem_append, List.mem_filter]
    by_cases c : x = p <;> simp [c]
section
variable {P : Program} {w : World} {K : PySem.W.Frag} {mg : Str → Option Value} {base : Heap} {C : Addr}
def sp_lbc : Sp := fun vs H Q _ => ∃ u xs n ps t l p, vs = [.ref u, .ref t, .int p] ∧ H u = some (.tup xs) ∧ Pairs H xs ps ∧ Good n ps ∧ n ≤ 1000 ∧ H t = some (.tup (l.map V.int)) ∧ Lot n l ∧ 0 ≤ p ∧ p < n ∧ ∀ q l' H', Same H H' → H q = none → H' q = some (.tup (l'.map V.int)) → Behind n ps l p l' → Q (.ref q) H'
abbrev s__law_behind_call : Stmt := (top 39)
theorem sc__law_behind_call : FnScope ["ties", "stand", "part", "other", "left"] ["ties", "stand", "part"] (defScope s__law_behind_call) := ⟨rfl, rfl, rfl, by decide +kernel, rfl, by decide +kernel, by decide +kernel⟩

theorem ok_law_behind_call {f : Addr} {fd : FuncData} (F : Fun K "_law_behind_call" "_law_behind_call" s__law_behind_call f fd) (hm : mg "_law_behind_call" = some (.ref f)) (B : Bl mg) (c__law_says : Cal P w K mg base 1 "_law_says" ["ties", "stand", "part"] sp_says) : Cal P w K mg base 2 "_law_behind_call" ["ties", "stand", "part"] sp_lbc := by
  refine ⟨f, fd, F.ok sc__law_behind_call (fun vs H Q E h => ?_) (fun cdv A outer s H vs Q E hr h => ?_), hm, F.kp, F.binds (ps := ["ties", "stand", "part"]) fun _ _ _ _ _ _ us hl => match us, hl with | [_, _, _], _ => rfl⟩
  · obtain ⟨u, xs, n, ps, t, l, p, rfl, _⟩ := h; rfl
  · obtain ⟨u, xs, n, ps, t, l, p, rfl, hu, hp, G, nn, ht, hl, p0, p1, k⟩ := h
    have hlen : l.length ≤ 1000 := by have := lot_len hl (by omega); omega
    refine ⟨_, (pss_cons (ps_setLc (i := 4) (own := [("other", 3)]) (by rfl) sc__law_behind_call.nd rfl rfl (sw_true rfl rfl rfl (by decide +kernel)) (pi_tup (pv 1)) (blkOk_by (own := [("other", 3)]) (N := ["ties", "stand", "part", "other", "left"]) (sc := defScope s__law_behind_call) (by decide +kernel)) (fun _ _ _ _ _ => (pg_name (i := 3) sc__law_behind_call.nd rfl (by first | exact Or.inl rfl | exact Or.inr rfl))) (fun _ _ _ _ _ => (pts_one (pt_cmpR op_ne (pv 3) (pv 2) (nomark _)))) (fun _ _ _ _ _ => (pv 3)))
 (pss_one (ps_ret (pe_ifExp (pt_val (pe_cal c__law_says (hr.mono (by first | decide | omega)) (pa_cons (pv 0) (pa_cons (pv 1) (pa_cons (pv 2) pa_nil))))) (pe_callTy call_tuple_of (by rfl) B.tuple_ (by decide +kernel) (pa_cons (pe_callB cr_sortedI (by rfl) B.sorted (by decide +kernel) (pa_cons (pe_op op_cat (pv 4) (pe_lst (pa_cons (pv 2) pa_nil))) pa_nil)) pa_nil)) (pe_callTy call_tuple_of (by rfl) B.tuple_ (by decide +kernel) (pa_cons (pv 4) pa_nil)))))), ?_⟩
    refine ⟨_, rfl, t, rfl, ⟨_, SqT.of ht⟩, fun D hD => lc_data walk_tup l (by rw [List.length_map]) (fun x => !decide (x = p)) (fun _ v x => v = .int x) (fun _ _ _ _ _ q => q) hD (fun H' e => SqT.of (e _ _ ht)) (Nat.lt_of_le_of_lt hlen (by decide)) ?_ (fun _ _ _ _ _ y => yat_same y) ?_⟩
    · rintro i x v H3 H4 Ny Nn hxi e3 ⟨rfl, hv⟩ kE kN
      obtain ⟨y, hy, rfl⟩ := map_get hv
      rw [hxi] at hy
      cases hy
      refine ⟨rfl, ?_⟩
      refine ⟨_, rfl, _, rfl, rfl, _, rfl, ?_⟩
      show (if (!decide (V.int x = V.int p)) = true then _ else _)
      refine onbN (fun c => ?_) (fun c => ?_)
      · exact ⟨_, rfl, kE _ _ (by simp; exact fun e => c (by rw [e])) (L2.Same.refl _) rfl⟩
      · exact kN _ (by simp; exact V.int.inj c) (L2.Same.refl _)
    · intro ys H3 e3 hys hpr
      have ey := paired_eq (g := fun x : Int => V.int x) hpr
      subst ey
      have hflen : (l.filter fun x => !decide (x = p)).length ≤ 1000 := Nat.le_trans (List.length_filter_le _ _) hlen
      refine ⟨_, rfl, _, rfl, _, rfl, u, xs, n, ps, t, l, p, rfl, e3 _ _ hu, hp.tk e3.tk, G, e3 _ _ ht, says ps l p, rfl, ?_⟩
      cases c : says ps l p with
      | true =>
        refine iteT ?_
        refine ⟨_, rfl, _, rfl, (by show 1 ≤ sizeLine; decide), fun d hd => ?_⟩
        have e4 := L2.Same.new (o := .lst [.int p]) hd
        refine ⟨D, d, _, _, rfl, rfl, e4 _ _ hys, upd_same, (by rw [List.length_map]; show (l.filter fun x => !decide (x = p)).length + 1 ≤ sizeLine; exact Nat.le_trans (Nat.succ_le_succ hflen) (by decide)), fun g hg => ?_⟩
        have e5 := e4.new' (o := .lst ((l.filter fun x => !decide (x = p)).map V.int ++ [.int p])) hg
        have em : (l.filter fun x => !decide (x = p)).map V.int ++ [V.int p] = ((l.filter fun x => !decide (x = p)) ++ [p]).map V.int := by rw [List.map_append]; rfl
        refine ⟨g, (l.filter fun x => !decide (x = p)) ++ [p], rfl, (by rw [← em]; exact SqL.of upd_same), fun ns' q hperm hle hq => ?_⟩
        have e6 := e5.new' (o := .lst (ns'.map V.int)) hq
        refine ⟨q, _, rfl, .inl ⟨SqL.of upd_same, fun z hz => ?_⟩⟩
        have e7 := e3.trans e6
        exact k z ns' _ (e7.new' hz) (L2.Same.free e7 hz) upd_same (behind_yes hl p0 p1 c hperm hle)
      | false =>
        refine iteF ?_
        refine ⟨_, rfl, D, _, rfl, .inl ⟨SqL.of hys, fun z hz => ?_⟩⟩
        exact k z _ _ (e3.new' hz) (L2.Same.free e3 hz) upd_same (behind_no hl c)
def sp_law (K : PySem.W.Frag) : Sp := fun vs H Q _ => ∃ (a : Addr) (ns : List Int), vs = [.ref a] ∧ SqL K H a (ns.map V.int) ∧ ∀ H', Q (.bl true) H'
theorem lot_all {n : Int} (h : 0 ≤ n) : ∃ l : List Int, rgV 0 n = l.map V.int ∧ Lot n l := by
  refine ⟨(List.range (n - 0).toNat).map fun i => (0 : Int) + (i : Nat), ?_, ?_, fun x hx => ?_⟩
  · unfold rgV
    rw [List.map_map]
    rfl
  · refine List.pairwise_map.mpr (List.pairwise_lt_range.imp fun {a b} h => by omega)
  · obtain ⟨i, hi, rfl⟩ := List.mem_map.mp hx
    have := List.mem_range.mp hi
    omega
theorem chg_snoc {n : Int} {ps : List (Int × Int)} {l : List Int} (i : Nat) : ((List.range (i + 1)).filter fun i : Nat => says ps l (i : Int) != decide ((i : Int) ∈ l)).map (fun i : Nat => (i : Int)) =
    ((List.range i).filter fun i : Nat => says ps l (i : Int) != decide ((i : Int) ∈ l)).map (fun i : Nat => (i : Int)) ++ (if (says ps l (i : Int) != decide ((i : Int) ∈ l)) = true then [(i : Int)] else []) := by
  rw [List.range_succ, List.filter_append, List.map_append]
  congr 1
  rw [List.filter_cons]
  by_cases c : (says ps l (i : Int) != decide ((i : Int) ∈ l)) = true
  · rw [if_pos c, if_pos c]; rfl
  · rw [if_neg c, if_neg c]; rfl
abbrev s_law : Stmt := (top 40)
theorem sc_law : FnScope ["script", "tape", "turn", "size", "ties", "web", "stand", "due", "part", "later", "one", "other"] ["script"] (defScope s_law) := ⟨rfl, rfl, rfl, by decide +kernel, rfl, by decide +kernel, by decide +kernel⟩

theorem ok_law {f : Addr} {fd : FuncData} (F : Fun K "law" "law" s_law f fd) (B : Bl mg) (T : Txt K mg C) (m_Web : Mkc P w K mg base 5 C "Web" ["self", "size", "ties"] (sp_Web_init C))
    (c_tells : Cal P w K mg base 6 "tells" ["web", "stand", "part"] (sp_tells C)) (c_called : Cal P w K mg base 6 "called" ["web", "stand", "part"] (sp_called C)) (c_changers : Cal P w K mg base 6 "changers" ["web", "stand"] (sp_changers C))
    (c__law_tape : Cal P w K mg base 1 "_law_tape" ["script"] (sp_tape K)) (c__law_pick : Cal P w K mg base 1 "_law_pick" ["tape", "many"] spPick) (c__law_flag : Cal P w K mg base 1 "_law_flag" ["told", "due"] sp_flag) (c__law_same : Cal P w K mg base 5 "_law_same" ["told", "due"] (spSame 3)) (c__law_any : Cal P w K mg base 2 "_law_any" ["tape", "things"] sp_any)
    (c__law_web : Cal P w K mg base 3 "_law_web" ["tape", "most"] sp_web) (c__law_stand : Cal P w K mg base 2 "_law_stand" ["tape", "size"] sp_stand) (c__law_says : Cal P w K mg base 1 "_law_says" ["ties", "stand", "part"] sp_says) (c__law_behind_call : Cal P w K mg base 2 "_law_behind_call" ["ties", "stand", "part"] sp_lbc) :
    FnOk P w K mg base CX0 9 f fd ["script"] (sp_law K) := by
  refine F.ok sc_law (fun vs H Q E h => ?_) (fun cdv A outer s H vs Q E hr h => ?_)
  · obtain ⟨a, ns, rfl, _⟩ := h; rfl
  · obtain ⟨a, ns, rfl, hS, k⟩ := h
    refine ⟨_, (pss_cons (ps_set (i := 1) sc_law.nd rfl (by first | exact Or.inl rfl | exact Or.inr rfl) (pe_cal c__law_tape (hr.mono (by first | decide | omega)) (pa_cons (pv 0) pa_nil)))
 (pss_cons (ps_for PassesOwn.never rfl (pi_range1 (by rfl) B.range (pa_cons pe_int pa_nil)) (pg_name (i := 2) sc_law.nd rfl (by first | exact Or.inl rfl | exact Or.inr rfl))
  (pss_cons (ps_asg (pe_cal c__law_web (hr.mono (by first | decide | omega)) (pa_cons (pv 1) (pa_cons (pe_ifC (pt_cmpR op_eq (pe_cal c__law_pick (hr.mono (by first | decide | omega)) (pa_cons (pv 1) (pa_cons pe_int pa_nil))) pe_int (nomark _)) pe_int pe_int) pa_nil))) (pg_tup (by rfl) (pgs_cons (pg_name (i := 3) sc_law.nd rfl (by first | exact Or.inl rfl | exact Or.inr rfl)) (pgs_cons (pg_name (i := 4) sc_law.nd rfl (by first | exact Or.inl rfl | exact Or.inr rfl)) pgs_nil))))
 (pss_cons (ps_set (i := 5) sc_law.nd rfl (by first | exact Or.inl rfl | exact Or.inr rfl) (pe_mkc m_Web (hr.mono (by first | decide | omega)) (pa_cons (pv 3) (pa_cons (pv 4) pa_nil))))
 (pss_cons (ps_set (i := 6) sc_law.nd rfl (by first | exact Or.inl rfl | exact Or.inr rfl) (pe_cal c__law_any (hr.mono (by first | decide | omega)) (pa_cons (pv 1) (pa_cons (pe_lst (pa_cons (pe_tup pa_nil) (pa_cons (pe_tupRg (by rfl) (by rfl) B.tuple_ (prg_1 (by rfl) B.range (pv 3))) (pa_cons (pe_cal c__law_stand (hr.mono (by first | decide | omega)) (pa_cons (pv 1) (pa_cons (pv 3) pa_nil))) (pa_cons (pe_cal c__law_stand (hr.mono (by first | decide | omega)) (pa_cons (pv 1) (pa_cons (pv 3) pa_nil))) pa_nil))))) pa_nil))))
 (pss_cons (ps_set (i := 7) sc_law.nd rfl (by first | exact Or.inl rfl | exact Or.inr rfl) (pe_lst pa_nil))
 (pss_cons (ps_for PassesOwn.never rfl (pi_range1 (by rfl) B.range (pa_cons (pv 3) pa_nil)) (pg_name (i := 8) sc_law.nd rfl (by first | exact Or.inl rfl | exact Or.inr rfl))
  (pss_cons (ps_set (i := 9) sc_law.nd rfl (by first | exact Or.inl rfl | exact Or.inr rfl) (pe_cal c__law_behind_call (hr.mono (by first | decide | omega)) (pa_cons (pv 4) (pa_cons (pv 6) (pa_cons (pv 8) pa_nil)))))
 (pss_cons (ps_if (pt_not (pt_val (pe_cal c__law_flag (hr.mono (by first | decide | omega)) (pa_cons (pe_cal c_tells (hr.mono (by first | decide | omega)) (pa_cons (pv 5) (pa_cons (pv 6) (pa_cons (pv 8) pa_nil)))) (pa_cons (pe_cal c__law_says (hr.mono (by first | decide | omega)) (pa_cons (pv 4) (pa_cons (pv 6) (pa_cons (pv 8) pa_nil)))) pa_nil))))) (pss_one (ps_ret pe_bl)) pss_nil)
 (pss_cons (ps_if (PW.pt (pw_or (pt_not (pt_val (pe_cal c__law_same (hr.mono (by first | decide | omega)) (pa_cons (pe_cal c_called (hr.mono (by first | decide | omega)) (pa_cons (pv 5) (pa_cons (pv 6) (pa_cons (pv 8) pa_nil)))) (pa_cons (pv 9) pa_nil))))) (pw_or1 (pt_cmpR (op_neD hr.units) (pe_cal c_called (hr.mono (by first | decide | omega)) (pa_cons (pv 5) (pa_cons (pv 9) (pa_cons (pv 8) pa_nil)))) (pv 9) (nomark _))))) (pss_one (ps_ret pe_bl)) pss_nil)
 (pss_one (ps_if (pt_cmpR (op_neD hr.units) (pv 9) (pv 6) (nomark _)) (pss_one (ps_expr (pe_bm PySem.F.plainAttrs_list PySem.F.slot_list_append PySem.F.type_list_append mt_append (pv 7) (pa_cons (pv 8) pa_nil)))) pss_nil))))))
 (pss_cons (ps_if (pt_not (pt_val (pe_cal c__law_same (hr.mono (by first | decide | omega)) (pa_cons (pe_cal c_changers (hr.mono (by first | decide | omega)) (pa_cons (pv 5) (pa_cons (pv 6) pa_nil))) (pa_cons (pe_callTy call_tuple_of (by rfl) B.tuple_ (by decide +kernel) (pa_cons (pv 7) pa_nil)) pa_nil))))) (pss_one (ps_ret pe_bl)) pss_nil)
 (pss_cons (ps_par (i := 10) (j := 11) (by rfl) sc_law.nd rfl rfl (by decide) rfl rfl (pa_cons (pe_cal c__law_pick (hr.mono (by first | decide | omega)) (pa_cons (pv 1) (pa_cons (pv 3) pa_nil))) (pa_cons (pe_cal c__law_pick (hr.mono (by first | decide | omega)) (pa_cons (pv 1) (pa_cons (pv 3) pa_nil))) pa_nil)) (by rfl))
 (pss_one (ps_if (pt_cmpR (op_notInT (units65 hr)) (pe_tup (pa_cons (pe_callB (call_min2 rfl) (by rfl) B.min (by decide +kernel) (pa_cons (pv 10) (pa_cons (pv 11) pa_nil))) (pa_cons (pe_callB (call_max2 rfl) (by rfl) B.max (by decide +kernel) (pa_cons (pv 10) (pa_cons (pv 11) pa_nil))) pa_nil))) (pv 4) (by rfl)) (pss_one (ps_if (pt_cmpR (op_neD hr.units) (pe_cal c_called (hr.mono (by first | decide | omega)) (pa_cons (pv 5) (pa_cons (pe_cal c_called (hr.mono (by first | decide | omega)) (pa_cons (pv 5) (pa_cons (pv 6) (pa_cons (pv 10) pa_nil)))) (pa_cons (pv 11) pa_nil)))) (pe_cal c_called (hr.mono (by first | decide | omega)) (pa_cons (pv 5) (pa_cons (pe_cal c_called (hr.mono (by first | decide | omega)) (pa_cons (pv 5) (pa_cons (pv 6) (pa_cons (pv 11) pa_nil)))) (pa_cons (pv 10) pa_nil)))) (nomark _)) (pss_one (ps_ret pe_bl)) pss_nil)) pss_nil))))))))))
 (pss_one (ps_ret pe_bl)))), ?_⟩
    refine ⟨_, rfl, a, ns, rfl, hS, fun TT L H1 e1 nT nL hT1 => ?_⟩
    refine ⟨3, rfl, by decide, by decide, for_range (lo := 0) (n := 3) (fun i σ H' => ∃ v2 v3 v4 v5 v6 v7 v8 v9 v10 v11 : Option V, σ = [some (.ref a), some (.ref TT), v2, v3, v4, v5, v6, v7, v8, v9, v10, v11] ∧ Tp H' TT L)
      ⟨none, none, none, none, none, none, none, none, none, none, rfl, hT1⟩ ?_ (fun σ H' _ => k H')⟩
    rintro i σ H2 hi ⟨v2, v3, v4, v5, v6, v7, v8, v9, v10, v11, rfl, hT2⟩
    refine ⟨_, rfl, _, rfl, TT, L, 8, rfl, by decide, by decide, hT2, fun r H3 _ _ _ hT3 => ⟨rfl, _, rfl, ?_⟩⟩
    have hm : ∃ m : Int, 1 ≤ m ∧ m ≤ 24 ∧ (if decide (V.int r = V.int 0) = true then V.int 24 else V.int 8) = .int m := by
      by_cases c : V.int r = V.int 0
      · exact ⟨24, by decide, by decide, by rw [if_pos (decide_eq_true c)]⟩
      · exact ⟨8, by decide, by decide, by rw [if_neg (by simpa using c)]⟩
    obtain ⟨m, m1, m2, hm⟩ := hm
    dsimp only
    rw [hm]
    refine ⟨TT, L, m, rfl, hT3, m1, m2, fun p t n xs ps H4 e4 hT4 np hp nt ht hP n1 nm G => ?_⟩
    have n2 : n ≤ 24 := by omega
    have hlen := G.len n2
    refine ⟨p, _, rfl, SqT.of hp, rfl, _, _, rfl, _, _, rfl, rfl, ?_⟩
    -- web = Web(size, ties)
    refine ⟨_, rfl, _, rfl, make_web (C := C) n1 n2 ht hP G fun x H5 e5 nx W hx => ?_⟩
    have hT5 := hT4.ext e5
    have ht5 := e5 _ _ ht
    have hP5 := hP.tk e5.tk
    -- stand
    refine ⟨_, rfl, Nat.zero_le _, fun a1 ha1 => ?_⟩
    have f1 := L2.Same.new (o := .tup []) ha1
    refine ⟨_, rfl, n, rfl, RgOk.of_le (by decide) (by omega) (by decide) (by omega), fun a2 ha2 => ?_⟩
    obtain ⟨l2, hl2, lot2⟩ := lot_all (show 0 ≤ n by omega)
    rw [hl2]
    have f2 := f1.new' (o := .tup (l2.map V.int)) ha2
    have f2' := L2.Same.new (o := .tup (l2.map V.int)) ha2
    have hT6 := hT5.ext f2
    have hx1 := f2' _ _ (show (upd H5 a1 (.tup [])) a1 = some (.tup []) from upd_same)
    generalize hH6 : upd (upd H5 a1 (.tup [])) a2 (.tup (l2.map V.int)) = H6 at f2 hT6 hx1 ⊢
    have hx2 : H6 a2 = some (.tup (l2.map V.int)) := by rw [← hH6]; exact upd_same
    refine ⟨_, rfl, _, rfl, TT, L, n, rfl, hT6, by omega, by omega, fun a3 l3 H7 f3 hT7 na3 hx3 lot3 => ?_⟩
    refine ⟨_, rfl, _, rfl, TT, L, n, rfl, hT7, by omega, by omega, fun a4 l4 H8 f4 hT8 na4 hx4 lot4 => ?_⟩
    have t7 := hT6.tk f3
    have t8 := hT7.tk f4
    refine ⟨(by show 4 ≤ sizeLine; decide), fun D hD => ?_⟩
    have f5 := L2.Same.new (o := .lst [.ref a1, .ref a2, .ref a3, .ref a4]) hD
    refine ⟨TT, L, D, _, rfl, hT8.ext f5, upd_same, hT8.neT hD, (by show 0 < 4; decide), (by show 4 ≤ 1000; decide), fun ii v H9 f6 hT9 hv => ?_⟩
    have t9 := f5.tk.trans ((hT8.ext f5).tk f6)
    have E9 : ExT TT H5 H9 := (((f2.exT.trans f3).trans f4).trans f5.exT).trans f6
    have hst : ∃ (s : Addr) (l : List Int), v = .ref s ∧ H9 s = some (.tup (l.map V.int)) ∧ Lot n l := by
      match ii, hv with
      | 0, hv => cases hv; exact ⟨a1, [], rfl, (t7.trans (t8.trans t9)) _ _ hx1, .nil, by simp⟩
      | 1, hv => cases hv; exact ⟨a2, l2, rfl, (t7.trans (t8.trans t9)) _ _ hx2, lot2⟩
      | 2, hv => cases hv; exact ⟨a3, l3, rfl, (t8.trans t9) _ _ hx3, lot3⟩
      | 3, hv => cases hv; exact ⟨a4, l4, rfl, t9 _ _ hx4, lot4⟩
      | ii + 4, hv => simp at hv
    obtain ⟨s, l, rfl, hs9, hl⟩ := hst
    obtain ⟨l5', hl5'⟩ := hT5.lst
    have T59 := hT5.tk E9
    have W9 := W.exT E9 hl5'
    have ht9 := T59 _ _ ht5
    have hP9 := hP5.tk T59
    -- due = []
    refine ⟨Nat.zero_le _, fun du hdu => ?_⟩
    have g1 := L2.Same.new (o := .lst []) hdu
    have duT := hT9.neT hdu
    have duL := hT9.neL hdu
    refine ⟨_, rfl, _, rfl, by omega, by omega, for_range (lo := 0) (n := n.toNat) (fun j σ H' => ∃ u8 u9 : Option V, σ = [some (.ref a), some (.ref TT), some (.int (0 + (i : Nat))), some (.int n), some (.ref t), some (.ref x), some (.ref s), some (.ref du), u8, u9, v10, v11] ∧ Same H9 H' ∧ Tp H' TT L ∧ H' du = some (.lst ((((List.range j).filter fun i : Nat => says ps l (i : Int) != decide ((i : Int) ∈ l)).map fun i : Nat => (i : Int)).map V.int)))
      ⟨v8, v9, rfl, g1, hT9.ext g1, upd_same⟩ ?_ ?_⟩
    · rintro j σ H10 hj ⟨u8, u9, rfl, g2, hT10, hdu10⟩
      have hj1 : (0 : Int) ≤ 0 + (j : Nat) := by omega
      have hj2 : (0 : Int) + (j : Nat) < n := by omega
      refine ⟨_, rfl, _, rfl, _, rfl, t, xs, n, ps, s, l, _, rfl, g2 _ _ ht9, hP9.tk g2.tk, G, by omega, g2 _ _ hs9, hl, hj1, hj2, fun la l' H11 g3 nla hla hb => ?_⟩
      have g23 := g2.trans g3
      refine ⟨_, rfl, _, rfl, _, rfl, x, n, t, ps, s, l, _, rfl, W9.same g23, G, n1, by omega, g23 _ _ hs9, hl, hj1, hj2, fun H12 g4 => ?_⟩
      have g24 := g23.trans g4
      refine ⟨_, rfl, _, rfl, _, rfl, t, xs, n, ps, s, l, _, rfl, g24 _ _ ht9, hP9.tk g24.tk, G, g24 _ _ hs9, _, rfl, true, rfl, iteF ?_⟩
      refine ⟨_, rfl, _, rfl, _, rfl, x, n, t, ps, s, l, _, rfl, W9.same g24, G, n1, by omega, g24 _ _ hs9, hl, hj1, hj2, fun q1 l1 H13 g5 nq1 hq1 hb1 => ?_⟩
      have g25 := g24.trans g5
      have eb : l1 = l' := hb1.uniq hb
      subst eb
      have hlenl : l1.length ≤ 100000 := by have := lot_len hb.1 (by omega); omega
      refine ⟨_, rfl, .ref q1, .ref la, rfl, same_lots hq1 ((g4.trans g5) _ _ hla) hlenl, fun H14 g6 => ⟨true, rfl, iteF ?_⟩⟩
      have g26 := g25.trans g6
      have hla14 := (g4.trans (g5.trans g6)) _ _ hla
      refine ⟨_, rfl, _, rfl, _, rfl, x, n, t, ps, la, l1, _, rfl, W9.same g26, G, n1, by omega, hla14, hb.1, hj1, hj2, fun q2 l3 H15 g7 nq2 hq2 hb2 => ?_⟩
      have eb2 : l3 = l1 := hb.twice G hb2
      subst eb2
      have g27 := g26.trans g7
      have hla15 := g7 _ _ hla14
      refine ⟨_, rfl, _, _, dp_lot hq2, dp_lot hla15, iD_shaped _, iD_shaped _, ?_⟩
      rw [iD_eqv, decide_eq_true rfl]
      refine ⟨_, rfl, iteF ?_⟩
      refine ⟨_, rfl, _, rfl, _, _, dp_lot hla15, dp_lot (g27 _ _ hs9), iD_shaped _, iD_shaped _, _, rfl, ?_⟩
      rw [iD_eqv]
      have hsame := hb.same_iff hl
      have ej : (0 : Int) + (j : Nat) = (j : Nat) := Int.zero_add _
      rw [ej] at hsame
      have hdu15 := (g3.trans (g4.trans (g5.trans (g6.trans g7)))) _ _ hdu10
      have hT15 := hT10.ext (g3.trans (g4.trans (g5.trans (g6.trans g7))))
      show (if (!decide (l3 = l)) = true then _ else _)
      refine onbN (fun c => ?_) (fun c => ?_)
      · have cc : (says ps l ((j : Nat) : Int) != decide (((j : Nat) : Int) ∈ l)) = true := by
          rw [bne_iff_ne]
          exact fun e => c (hsame.mpr e)
        refine ⟨_, rfl, .inl ⟨rfl, _, SqL.of hdu15⟩, _, rfl, du, _, _, rfl, rfl, hdu15, ?_, ?_⟩
        · rw [List.length_map, List.length_map]
          have := List.length_filter_le (fun i : Nat => says ps l (i : Int) != decide ((i : Int) ∈ l)) (List.range j)
          rw [List.length_range] at this
          exact Nat.lt_of_le_of_lt (show _ ≤ 1000 by omega) (by decide)
        · refine ⟨_, _, rfl, L2.Same.mut g27 hdu, hT15.upd duT duL, ?_⟩
          rw [upd_same, chg_snoc (n := n), if_pos cc, List.map_append (f := V.int), ej]
          rfl
      · have cc : ¬ (says ps l ((j : Nat) : Int) != decide (((j : Nat) : Int) ∈ l)) = true := by
          rw [bne_iff_ne]
          exact fun e => e (hsame.mp c)
        refine ⟨_, _, rfl, g27, hT15, ?_⟩
        rw [hdu15, chg_snoc (n := n), if_neg cc, List.append_nil]
    · rintro σ H10 ⟨u8, u9, rfl, g2, hT10, hdu10⟩
      have hdu10' : H10 du = some (.lst ((chg n ps l).map V.int)) := hdu10
      refine ⟨_, rfl, _, rfl, x, n, t, ps, s, l, rfl, W9.same g2, G, n1, by omega, g2 _ _ hs9, hl, fun q1 H11 g3 nq1 hq1 => ?_⟩
      have g23 := g2.trans g3
      refine ⟨_, rfl, du, _, rfl, .inl ⟨SqL.of (g3 _ _ hdu10'), fun z hz => ?_⟩⟩
      have g4 := L2.Same.new (o := .tup ((chg n ps l).map V.int)) hz
      have g24 := g23.trans g4
      have hclen : (chg n ps l).length ≤ 100000 := by
        unfold chg
        rw [List.length_map]
        have := List.length_filter_le (fun i : Nat => says ps l (i : Int) != decide ((i : Int) ∈ l)) (List.range n.toNat)
        rw [List.length_range] at this
        omega
      refine ⟨.ref q1, .ref z, rfl, same_lots (g4 _ _ hq1) upd_same hclen, fun H12 g5 => ⟨true, rfl, iteF ?_⟩⟩
      have g25 := g24.trans g5
      have hT12 := hT10.ext (g3.trans (g4.trans g5))
      -- two calls, in either order
      refine ⟨_, rfl, _, rfl, TT, L, n, rfl, by omega, by omega, hT12, fun o H13 o0 o1 d1 hT13 => ?_⟩
      refine ⟨_, rfl, _, rfl, TT, L, n, rfl, by omega, by omega, hT13, fun b H14 b0 b1 d2 hT14 => ?_⟩
      have d12 := d1.trans d2
      have t14 := hT12.tk d12
      obtain ⟨l12, hl12⟩ := hT12.lst
      have W14 := (W9.same g25).exT d12 hl12
      have hs14 := t14 _ _ (g25 _ _ hs9)
      have ht14 := t14 _ _ (g25 _ _ ht9)
      have hP14 := (hP9.tk g25.tk).tk t14
      refine ⟨_, _, rfl, ?_⟩
      refine ⟨_, rfl, _, rfl, _, _, rfl, _, rfl, _, rfl, _, _, rfl, (by show 2 ≤ sizeLine; decide), fun c2 hc2 => ?_⟩
      have d3 := L2.Same.new (o := .tup [.int (norm o b).1, .int (norm o b).2]) hc2
      have hc15 : PairAt (upd H14 c2 (.tup [.int (norm o b).1, .int (norm o b).2])) (.ref c2) (norm o b) := ⟨c2, rfl, upd_same⟩
      refine ⟨_, rfl, _, ps.map pD, dp_pair hc15, dp_ties (d3 _ _ ht14) (hP14.tk d3.tk), pD_shaped _, pDs_shapedL _, pDs_shaped _, ?_⟩
      rw [any_pairs]
      refine ⟨_, rfl, ?_⟩
      show (if (!decide (norm o b ∈ ps)) = true then _ else _)
      refine onbN (fun c => ?_) (fun c => ?_)
      · refine ⟨_, rfl, _, rfl, _, rfl, _, rfl, x, n, t, ps, s, l, o, rfl, W14.same d3, G, n1, by omega, d3 _ _ hs14, hl, o0, o1, fun q2 la H16 d4 nq2 hq2 hba => ?_⟩
        have d34 := d3.trans d4
        refine ⟨_, rfl, x, n, t, ps, q2, la, b, rfl, W14.same d34, G, n1, by omega, hq2, hba.1, b0, b1, fun q3 lab H17 d5 nq3 hq3 hbab => ?_⟩
        have d35 := d34.trans d5
        refine ⟨_, rfl, _, rfl, _, rfl, _, rfl, x, n, t, ps, s, l, b, rfl, W14.same d35, G, n1, by omega, d35 _ _ hs14, hl, b0, b1, fun q4 lb H18 d6 nq4 hq4 hbb => ?_⟩
        have d36 := d35.trans d6
        refine ⟨_, rfl, x, n, t, ps, q4, lb, o, rfl, W14.same d36, G, n1, by omega, hq4, hbb.1, o0, o1, fun q5 lba H19 d7 nq5 hq5 hbba => ?_⟩
        have ee : lab = lba := Behind.swap G c hba hbab hbb hbba
        subst ee
        refine ⟨_, _, dp_lot ((d6.trans d7) _ _ hq3), dp_lot hq5, iD_shaped _, iD_shaped _, ?_⟩
        rw [iD_eqv, decide_eq_true rfl]
        refine ⟨_, rfl, iteF ?_⟩
        exact ⟨_, _, _, _, _, _, _, _, _, _, rfl, hT14.ext (d36.trans d7)⟩
      · exact ⟨_, _, _, _, _, _, _, _, _, _, rfl, hT14.ext d3⟩
end
end Bs

namespace Bs
open PySem PySem.Spec L2
theorem all_mk {l : PySem.W.OpenLaw} {w : World} {K : PySem.W.Frag} {h : Heap} {mg : Str → Option Value} {fa C_Web : Addr} {tk : Tok} (X : K.In h) (G : h.Ns mainGlobals mg) (hfa : mg "law" = some (.ref fa))
    {f_is_integer : Addr} {oc_is_integer kV_is_integer dc_is_integer pm_is_integer cd_is_integer ct_is_integer : Value} {od_is_integer an_is_integer : Option Addr} {sl_is_integer : Array (Option Value)}
    {f_is_number : Addr} {oc_is_number kV_is_number dc_is_number pm_is_number cd_is_number ct_is_number : Value} {od_is_number an_is_number : Option Addr} {sl_is_number : Array (Option Value)}
    {f_is_part : Addr} {oc_is_part kV_is_part dc_is_part pm_is_part cd_is_part ct_is_part : Value} {od_is_part an_is_part : Option Addr} {sl_is_part : Array (Option Value)}
    {f_is_lot_below : Addr} {oc_is_lot_below kV_is_lot_below dc_is_lot_below pm_is_lot_below cd_is_lot_below ct_is_lot_below : Value} {od_is_lot_below an_is_lot_below : Option Addr} {sl_is_lot_below : Array (Option Value)}
    {f_is_lot : Addr} {oc_is_lot kV_is_lot dc_is_lot pm_is_lot cd_is_lot ct_is_lot : Value} {od_is_lot an_is_lot : Option Addr} {sl_is_lot : Array (Option Value)}
    {f_check_part : Addr} {oc_check_part kV_check_part dc_check_part pm_check_part cd_check_part ct_check_part : Value} {od_check_part an_check_part : Option Addr} {sl_check_part : Array (Option Value)}
    {f_check_stand : Addr} {oc_check_stand kV_check_stand dc_check_stand pm_check_stand cd_check_stand ct_check_stand : Value} {od_check_stand an_check_stand : Option Addr} {sl_check_stand : Array (Option Value)}
    {f_bits_of : Addr} {oc_bits_of kV_bits_of dc_bits_of pm_bits_of cd_bits_of ct_bits_of : Value} {od_bits_of an_bits_of : Option Addr} {sl_bits_of : Array (Option Value)}
    {f_lot_of : Addr} {oc_lot_of kV_lot_of dc_lot_of pm_lot_of cd_lot_of ct_lot_of : Value} {od_lot_of an_lot_of : Option Addr} {sl_lot_of : Array (Option Value)}
    {f_tied_bits : Addr} {oc_tied_bits kV_tied_bits dc_tied_bits pm_tied_bits cd_tied_bits ct_tied_bits : Value} {od_tied_bits an_tied_bits : Option Addr} {sl_tied_bits : Array (Option Value)}
    {f_told_by : Addr} {oc_told_by kV_told_by dc_told_by pm_told_by cd_told_by ct_told_by : Value} {od_told_by an_told_by : Option Addr} {sl_told_by : Array (Option Value)}
    {f_behind_call : Addr} {oc_behind_call kV_behind_call dc_behind_call pm_behind_call cd_behind_call ct_behind_call : Value} {od_behind_call an_behind_call : Option Addr} {sl_behind_call : Array (Option Value)}
    {f_changed_by : Addr} {oc_changed_by kV_changed_by dc_changed_by pm_changed_by cd_changed_by ct_changed_by : Value} {od_changed_by an_changed_by : Option Addr} {sl_changed_by : Array (Option Value)}
    {f_tells : Addr} {oc_tells kV_tells dc_tells pm_tells cd_tells ct_tells : Value} {od_tells an_tells : Option Addr} {sl_tells : Array (Option Value)}
    {f_called : Addr} {oc_called kV_called dc_called pm_called cd_called ct_called : Value} {od_called an_called : Option Addr} {sl_called : Array (Option Value)}
    {f_changers : Addr} {oc_changers kV_changers dc_changers pm_changers cd_changers ct_changers : Value} {od_changers an_changers : Option Addr} {sl_changers : Array (Option Value)}
    {f_is_tie : Addr} {oc_is_tie kV_is_tie dc_is_tie pm_is_tie cd_is_tie ct_is_tie : Value} {od_is_tie an_is_tie : Option Addr} {sl_is_tie : Array (Option Value)}
    {f_wrong_tie : Addr} {oc_wrong_tie kV_wrong_tie dc_wrong_tie pm_wrong_tie cd_wrong_tie ct_wrong_tie : Value} {od_wrong_tie an_wrong_tie : Option Addr} {sl_wrong_tie : Array (Option Value)}
    {f__law_tape : Addr} {oc__law_tape kV__law_tape dc__law_tape pm__law_tape cd__law_tape ct__law_tape : Value} {od__law_tape an__law_tape : Option Addr} {sl__law_tape : Array (Option Value)}
    {f__law_pick : Addr} {oc__law_pick kV__law_pick dc__law_pick pm__law_pick cd__law_pick ct__law_pick : Value} {od__law_pick an__law_pick : Option Addr} {sl__law_pick : Array (Option Value)}
    {f__law_is_integer : Addr} {oc__law_is_integer kV__law_is_integer dc__law_is_integer pm__law_is_integer cd__law_is_integer ct__law_is_integer : Value} {od__law_is_integer an__law_is_integer : Option Addr} {sl__law_is_integer : Array (Option Value)}
    {f__law_flag : Addr} {oc__law_flag kV__law_flag dc__law_flag pm__law_flag cd__law_flag ct__law_flag : Value} {od__law_flag an__law_flag : Option Addr} {sl__law_flag : Array (Option Value)}
    {f__law_same : Addr} {oc__law_same kV__law_same dc__law_same pm__law_same cd__law_same ct__law_same : Value} {od__law_same an__law_same : Option Addr} {sl__law_same : Array (Option Value)}
    {f__law_any : Addr} {oc__law_any kV__law_any dc__law_any pm__law_any cd__law_any ct__law_any : Value} {od__law_any an__law_any : Option Addr} {sl__law_any : Array (Option Value)}
    {f__law_mixed : Addr} {oc__law_mixed kV__law_mixed dc__law_mixed pm__law_mixed cd__law_mixed ct__law_mixed : Value} {od__law_mixed an__law_mixed : Option Addr} {sl__law_mixed : Array (Option Value)}
    {f__law_web : Addr} {oc__law_web kV__law_web dc__law_web pm__law_web cd__law_web ct__law_web : Value} {od__law_web an__law_web : Option Addr} {sl__law_web : Array (Option Value)}
    {f__law_stand : Addr} {oc__law_stand kV__law_stand dc__law_stand pm__law_stand cd__law_stand ct__law_stand : Value} {od__law_stand an__law_stand : Option Addr} {sl__law_stand : Array (Option Value)}
    {f__law_says : Addr} {oc__law_says kV__law_says dc__law_says pm__law_says cd__law_says ct__law_says : Value} {od__law_says an__law_says : Option Addr} {sl__law_says : Array (Option Value)}
    {f__law_behind_call : Addr} {oc__law_behind_call kV__law_behind_call dc__law_behind_call pm__law_behind_call cd__law_behind_call ct__law_behind_call : Value} {od__law_behind_call an__law_behind_call : Option Addr} {sl__law_behind_call : Array (Option Value)}
    {f_law : Addr} {oc_law kV_law dc_law pm_law cd_law ct_law : Value} {od_law an_law : Option Addr} {sl_law : Array (Option Value)}
    {f_Web_init : Addr} {oc_Web_init kV_Web_init dc_Web_init pm_Web_init cd_Web_init ct_Web_init : Value} {od_Web_init an_Web_init : Option Addr} {sl_Web_init : Array (Option Value)}
    (a_Web : PySem.W.nsIn K mainGlobals "Web" = some (some (.ref C_Web)))
    (a_MP : PySem.W.nsIn K mainGlobals "MOST_PARTS" = some (some (.int 24 tk)))
    (pg : PySem.W.plainGet K C_Web Str.empty = true)
    (hd : PySem.W.hasDictIn K C_Web = true)
    (po : PySem.W.plainOver K C_Web = true)
    (sa : PySem.W.findIn K (.ref C_Web) "__setattr__" = some (some (.builtin "object.__setattr__")))
    (mk : PySem.W.makesIn K C_Web = true)
    (kc : PySem.W.keepIn K (.ref C_Web) = true)
    (nS : PySem.W.findIn K (.ref C_Web) "size" = some none)
    (nT : PySem.W.findIn K (.ref C_Web) "ties" = some none)
    (xc : PySem.W.findIn K (.ref C_Web) "__class__" = some (some (.builtin "object.__class__")))
    (xg : PySem.W.specialIn K (.builtin "object.__class__") "__get__" = some (some (.builtin "getset_descriptor.__get__")))
    (xt : PySem.W.takesIn K (.builtin "object.__class__") = some true)
    (xm : PySem.W.mroIn K C_Web (.type "object") = some true)
    (a_is_integer : PySem.W.nsIn K mainGlobals "is_integer" = some (some (.ref f_is_integer)))
    (l_is_integer : K.lookup f_is_integer = some ⟨oc_is_integer, od_is_integer, .func (PySem.W.fnOf "is_integer" "is_integer" (defArgs s_is_integer) (defBody s_is_integer) (defScope s_is_integer) .none kV_is_integer dc_is_integer pm_is_integer an_is_integer cd_is_integer ct_is_integer), sl_is_integer⟩)
    (c_is_integer : PySem.W.codeIn K cd_is_integer "is_integer" = true)
    (k_is_integer : PySem.W.keepIn K (.ref f_is_integer) = true)
    (a_is_number : PySem.W.nsIn K mainGlobals "is_number" = some (some (.ref f_is_number)))
    (l_is_number : K.lookup f_is_number = some ⟨oc_is_number, od_is_number, .func (PySem.W.fnOf "is_number" "is_number" (defArgs s_is_number) (defBody s_is_number) (defScope s_is_number) .none kV_is_number dc_is_number pm_is_number an_is_number cd_is_number ct_is_number), sl_is_number⟩)
    (c_is_number : PySem.W.codeIn K cd_is_number "is_number" = true)
    (k_is_number : PySem.W.keepIn K (.ref f_is_number) = true)
    (a_is_part : PySem.W.nsIn K mainGlobals "is_part" = some (some (.ref f_is_part)))
    (l_is_part : K.lookup f_is_part = some ⟨oc_is_part, od_is_part, .func (PySem.W.fnOf "is_part" "is_part" (defArgs s_is_part) (defBody s_is_part) (defScope s_is_part) .none kV_is_part dc_is_part pm_is_part an_is_part cd_is_part ct_is_part), sl_is_part⟩)
    (c_is_part : PySem.W.codeIn K cd_is_part "is_part" = true)
    (k_is_part : PySem.W.keepIn K (.ref f_is_part) = true)
    (a_is_lot_below : PySem.W.nsIn K mainGlobals "is_lot_below" = some (some (.ref f_is_lot_below)))
    (l_is_lot_below : K.lookup f_is_lot_below = some ⟨oc_is_lot_below, od_is_lot_below, .func (PySem.W.fnOf "is_lot_below" "is_lot_below" (defArgs s_is_lot_below) (defBody s_is_lot_below) (defScope s_is_lot_below) .none kV_is_lot_below dc_is_lot_below pm_is_lot_below an_is_lot_below cd_is_lot_below ct_is_lot_below), sl_is_lot_below⟩)
    (c_is_lot_below : PySem.W.codeIn K cd_is_lot_below "is_lot_below" = true)
    (k_is_lot_below : PySem.W.keepIn K (.ref f_is_lot_below) = true)
    (a_is_lot : PySem.W.nsIn K mainGlobals "is_lot" = some (some (.ref f_is_lot)))
    (l_is_lot : K.lookup f_is_lot = some ⟨oc_is_lot, od_is_lot, .func (PySem.W.fnOf "is_lot" "is_lot" (defArgs s_is_lot) (defBody s_is_lot) (defScope s_is_lot) .none kV_is_lot dc_is_lot pm_is_lot an_is_lot cd_is_lot ct_is_lot), sl_is_lot⟩)
    (c_is_lot : PySem.W.codeIn K cd_is_lot "is_lot" = true)
    (k_is_lot : PySem.W.keepIn K (.ref f_is_lot) = true)
    (a_check_part : PySem.W.nsIn K mainGlobals "check_part" = some (some (.ref f_check_part)))
    (l_check_part : K.lookup f_check_part = some ⟨oc_check_part, od_check_part, .func (PySem.W.fnOf "check_part" "check_part" (defArgs s_check_part) (defBody s_check_part) (defScope s_check_part) .none kV_check_part dc_check_part pm_check_part an_check_part cd_check_part ct_check_part), sl_check_part⟩)
    (c_check_part : PySem.W.codeIn K cd_check_part "check_part" = true)
    (k_check_part : PySem.W.keepIn K (.ref f_check_part) = true)
    (a_check_stand : PySem.W.nsIn K mainGlobals "check_stand" = some (some (.ref f_check_stand)))
    (l_check_stand : K.lookup f_check_stand = some ⟨oc_check_stand, od_check_stand, .func (PySem.W.fnOf "check_stand" "check_stand" (defArgs s_check_stand) (defBody s_check_stand) (defScope s_check_stand) .none kV_check_stand dc_check_stand pm_check_stand an_check_stand cd_check_stand ct_check_stand), sl_check_stand⟩)
    (c_check_stand : PySem.W.codeIn K cd_check_stand "check_stand" = true)
    (k_check_stand : PySem.W.keepIn K (.ref f_check_stand) = true)
    (a_bits_of : PySem.W.nsIn K mainGlobals "bits_of" = some (some (.ref f_bits_of)))
    (l_bits_of : K.lookup f_bits_of = some ⟨oc_bits_of, od_bits_of, .func (PySem.W.fnOf "bits_of" "bits_of" (defArgs s_bits_of) (defBody s_bits_of) (defScope s_bits_of) .none kV_bits_of dc_bits_of pm_bits_of an_bits_of cd_bits_of ct_bits_of), sl_bits_of⟩)
    (c_bits_of : PySem.W.codeIn K cd_bits_of "bits_of" = true)
    (k_bits_of : PySem.W.keepIn K (.ref f_bits_of) = true)
    (a_lot_of : PySem.W.nsIn K mainGlobals "lot_of" = some (some (.ref f_lot_of)))
    (l_lot_of : K.lookup f_lot_of = some ⟨oc_lot_of, od_lot_of, .func (PySem.W.fnOf "lot_of" "lot_of" (defArgs s_lot_of) (defBody s_lot_of) (defScope s_lot_of) .none kV_lot_of dc_lot_of pm_lot_of an_lot_of cd_lot_of ct_lot_of), sl_lot_of⟩)
    (c_lot_of : PySem.W.codeIn K cd_lot_of "lot_of" = true)
    (k_lot_of : PySem.W.keepIn K (.ref f_lot_of) = true)
    (a_tied_bits : PySem.W.nsIn K mainGlobals "tied_bits" = some (some (.ref f_tied_bits)))
    (l_tied_bits : K.lookup f_tied_bits = some ⟨oc_tied_bits, od_tied_bits, .func (PySem.W.fnOf "tied_bits" "tied_bits" (defArgs s_tied_bits) (defBody s_tied_bits) (defScope s_tied_bits) .none kV_tied_bits dc_tied_bits pm_tied_bits an_tied_bits cd_tied_bits ct_tied_bits), sl_tied_bits⟩)
    (c_tied_bits : PySem.W.codeIn K cd_tied_bits "tied_bits" = true)
    (k_tied_bits : PySem.W.keepIn K (.ref f_tied_bits) = true)
    (a_told_by : PySem.W.nsIn K mainGlobals "told_by" = some (some (.ref f_told_by)))
    (l_told_by : K.lookup f_told_by = some ⟨oc_told_by, od_told_by, .func (PySem.W.fnOf "told_by" "told_by" (defArgs s_told_by) (defBody s_told_by) (defScope s_told_by) .none kV_told_by dc_told_by pm_told_by an_told_by cd_told_by ct_told_by), sl_told_by⟩)
    (c_told_by : PySem.W.codeIn K cd_told_by "told_by" = true)
    (k_told_by : PySem.W.keepIn K (.ref f_told_by) = true)
    (a_behind_call : PySem.W.nsIn K mainGlobals "behind_call" = some (some (.ref f_behind_call)))
    (l_behind_call : K.lookup f_behind_call = some ⟨oc_behind_call, od_behind_call, .func (PySem.W.fnOf "behind_call" "behind_call" (defArgs s_behind_call) (defBody s_behind_call) (defScope s_behind_call) .none kV_behind_call dc_behind_call pm_behind_call an_behind_call cd_behind_call ct_behind_call), sl_behind_call⟩)
    (c_behind_call : PySem.W.codeIn K cd_behind_call "behind_call" = true)
    (k_behind_call : PySem.W.keepIn K (.ref f_behind_call) = true)
    (a_changed_by : PySem.W.nsIn K mainGlobals "changed_by" = some (some (.ref f_changed_by)))
    (l_changed_by : K.lookup f_changed_by = some ⟨oc_changed_by, od_changed_by, .func (PySem.W.fnOf "changed_by" "changed_by" (defArgs s_changed_by) (defBody s_changed_by) (defScope s_changed_by) .none kV_changed_by dc_changed_by pm_changed_by an_changed_by cd_changed_by ct_changed_by), sl_changed_by⟩)
    (c_changed_by : PySem.W.codeIn K cd_changed_by "changed_by" = true)
    (k_changed_by : PySem.W.keepIn K (.ref f_changed_by) = true)
    (a_tells : PySem.W.nsIn K mainGlobals "tells" = some (some (.ref f_tells)))
    (l_tells : K.lookup f_tells = some ⟨oc_tells, od_tells, .func (PySem.W.fnOf "tells" "tells" (defArgs s_tells) (defBody s_tells) (defScope s_tells) .none kV_tells dc_tells pm_tells an_tells cd_tells ct_tells), sl_tells⟩)
    (c_tells : PySem.W.codeIn K cd_tells "tells" = true)
    (k_tells : PySem.W.keepIn K (.ref f_tells) = true)
    (a_called : PySem.W.nsIn K mainGlobals "called" = some (some (.ref f_called)))
    (l_called : K.lookup f_called = some ⟨oc_called, od_called, .func (PySem.W.fnOf "called" "called" (defArgs s_called) (defBody s_called) (defScope s_called) .none kV_called dc_called pm_called an_called cd_called ct_called), sl_called⟩)
    (c_called : PySem.W.codeIn K cd_called "called" = true)
    (k_called : PySem.W.keepIn K (.ref f_called) = true)
    (a_changers : PySem.W.nsIn K mainGlobals "changers" = some (some (.ref f_changers)))
    (l_changers : K.lookup f_changers = some ⟨oc_changers, od_changers, .func (PySem.W.fnOf "changers" "changers" (defArgs s_changers) (defBody s_changers) (defScope s_changers) .none kV_changers dc_changers pm_changers an_changers cd_changers ct_changers), sl_changers⟩)
    (c_changers : PySem.W.codeIn K cd_changers "changers" = true)
    (k_changers : PySem.W.keepIn K (.ref f_changers) = true)
    (a_is_tie : PySem.W.nsIn K mainGlobals "is_tie" = some (some (.ref f_is_tie)))
    (l_is_tie : K.lookup f_is_tie = some ⟨oc_is_tie, od_is_tie, .func (PySem.W.fnOf "is_tie" "is_tie" (defArgs s_is_tie) (defBody s_is_tie) (defScope s_is_tie) .none kV_is_tie dc_is_tie pm_is_tie an_is_tie cd_is_tie ct_is_tie), sl_is_tie⟩)
    (c_is_tie : PySem.W.codeIn K cd_is_tie "is_tie" = true)
    (k_is_tie : PySem.W.keepIn K (.ref f_is_tie) = true)
    (a_wrong_tie : PySem.W.nsIn K mainGlobals "wrong_tie" = some (some (.ref f_wrong_tie)))
    (l_wrong_tie : K.lookup f_wrong_tie = some ⟨oc_wrong_tie, od_wrong_tie, .func (PySem.W.fnOf "wrong_tie" "wrong_tie" (defArgs s_wrong_tie) (defBody s_wrong_tie) (defScope s_wrong_tie) .none kV_wrong_tie dc_wrong_tie pm_wrong_tie an_wrong_tie cd_wrong_tie ct_wrong_tie), sl_wrong_tie⟩)
    (c_wrong_tie : PySem.W.codeIn K cd_wrong_tie "wrong_tie" = true)
    (k_wrong_tie : PySem.W.keepIn K (.ref f_wrong_tie) = true)
    (a__law_tape : PySem.W.nsIn K mainGlobals "_law_tape" = some (some (.ref f__law_tape)))
    (l__law_tape : K.lookup f__law_tape = some ⟨oc__law_tape, od__law_tape, .func (PySem.W.fnOf "_law_tape" "_law_tape" (defArgs s__law_tape) (defBody s__law_tape) (defScope s__law_tape) .none kV__law_tape dc__law_tape pm__law_tape an__law_tape cd__law_tape ct__law_tape), sl__law_tape⟩)
    (c__law_tape : PySem.W.codeIn K cd__law_tape "_law_tape" = true)
    (k__law_tape : PySem.W.keepIn K (.ref f__law_tape) = true)
    (a__law_pick : PySem.W.nsIn K mainGlobals "_law_pick" = some (some (.ref f__law_pick)))
    (l__law_pick : K.lookup f__law_pick = some ⟨oc__law_pick, od__law_pick, .func (PySem.W.fnOf "_law_pick" "_law_pick" (defArgs s__law_pick) (defBody s__law_pick) (defScope s__law_pick) .none kV__law_pick dc__law_pick pm__law_pick an__law_pick cd__law_pick ct__law_pick), sl__law_pick⟩)
    (c__law_pick : PySem.W.codeIn K cd__law_pick "_law_pick" = true)
    (k__law_pick : PySem.W.keepIn K (.ref f__law_pick) = true)
    (a__law_is_integer : PySem.W.nsIn K mainGlobals "_law_is_integer" = some (some (.ref f__law_is_integer)))
    (l__law_is_integer : K.lookup f__law_is_integer = some ⟨oc__law_is_integer, od__law_is_integer, .func (PySem.W.fnOf "_law_is_integer" "_law_is_integer" (defArgs s__law_is_integer) (defBody s__law_is_integer) (defScope s__law_is_integer) .none kV__law_is_integer dc__law_is_integer pm__law_is_integer an__law_is_integer cd__law_is_integer ct__law_is_integer), sl__law_is_integer⟩)
    (c__law_is_integer : PySem.W.codeIn K cd__law_is_integer "_law_is_integer" = true)
    (k__law_is_integer : PySem.W.keepIn K (.ref f__law_is_integer) = true)
    (a__law_flag : PySem.W.nsIn K mainGlobals "_law_flag" = some (some (.ref f__law_flag)))
    (l__law_flag : K.lookup f__law_flag = some ⟨oc__law_flag, od__law_flag, .func (PySem.W.fnOf "_law_flag" "_law_flag" (defArgs s__law_flag) (defBody s__law_flag) (defScope s__law_flag) .none kV__law_flag dc__law_flag pm__law_flag an__law_flag cd__law_flag ct__law_flag), sl__law_flag⟩)
    (c__law_flag : PySem.W.codeIn K cd__law_flag "_law_flag" = true)
    (k__law_flag : PySem.W.keepIn K (.ref f__law_flag) = true)
    (a__law_same : PySem.W.nsIn K mainGlobals "_law_same" = some (some (.ref f__law_same)))
    (l__law_same : K.lookup f__law_same = some ⟨oc__law_same, od__law_same, .func (PySem.W.fnOf "_law_same" "_law_same" (defArgs s__law_same) (defBody s__law_same) (defScope s__law_same) .none kV__law_same dc__law_same pm__law_same an__law_same cd__law_same ct__law_same), sl__law_same⟩)
    (c__law_same : PySem.W.codeIn K cd__law_same "_law_same" = true)
    (k__law_same : PySem.W.keepIn K (.ref f__law_same) = true)
    (a__law_any : PySem.W.nsIn K mainGlobals "_law_any" = some (some (.ref f__law_any)))
    (l__law_any : K.lookup f__law_any = some ⟨oc__law_any, od__law_any, .func (PySem.W.fnOf "_law_any" "_law_any" (defArgs s__law_any) (defBody s__law_any) (defScope s__law_any) .none kV__law_any dc__law_any pm__law_any an__law_any cd__law_any ct__law_any), sl__law_any⟩)
    (c__law_any : PySem.W.codeIn K cd__law_any "_law_any" = true)
    (k__law_any : PySem.W.keepIn K (.ref f__law_any) = true)
    (a__law_mixed : PySem.W.nsIn K mainGlobals "_law_mixed" = some (some (.ref f__law_mixed)))
    (l__law_mixed : K.lookup f__law_mixed = some ⟨oc__law_mixed, od__law_mixed, .func (PySem.W.fnOf "_law_mixed" "_law_mixed" (defArgs s__law_mixed) (defBody s__law_mixed) (defScope s__law_mixed) .none kV__law_mixed dc__law_mixed pm__law_mixed an__law_mixed cd__law_mixed ct__law_mixed), sl__law_mixed⟩)
    (c__law_mixed : PySem.W.codeIn K cd__law_mixed "_law_mixed" = true)
    (k__law_mixed : PySem.W.keepIn K (.ref f__law_mixed) = true)
    (a__law_web : PySem.W.nsIn K mainGlobals "_law_web" = some (some (.ref f__law_web)))
    (l__law_web : K.lookup f__law_web = some ⟨oc__law_web, od__law_web, .func (PySem.W.fnOf "_law_web" "_law_web" (defArgs s__law_web) (defBody s__law_web) (defScope s__law_web) .none kV__law_web dc__law_web pm__law_web an__law_web cd__law_web ct__law_web), sl__law_web⟩)
    (c__law_web : PySem.W.codeIn K cd__law_web "_law_web" = true)
    (k__law_web : PySem.W.keepIn K (.ref f__law_web) = true)
    (a__law_stand : PySem.W.nsIn K mainGlobals "_law_stand" = some (some (.ref f__law_stand)))
    (l__law_stand : K.lookup f__law_stand = some ⟨oc__law_stand, od__law_stand, .func (PySem.W.fnOf "_law_stand" "_law_stand" (defArgs s__law_stand) (defBody s__law_stand) (defScope s__law_stand) .none kV__law_stand dc__law_stand pm__law_stand an__law_stand cd__law_stand ct__law_stand), sl__law_stand⟩)
    (c__law_stand : PySem.W.codeIn K cd__law_stand "_law_stand" = true)
    (k__law_stand : PySem.W.keepIn K (.ref f__law_stand) = true)
    (a__law_says : PySem.W.nsIn K mainGlobals "_law_says" = some (some (.ref f__law_says)))
    (l__law_says : K.lookup f__law_says = some ⟨oc__law_says, od__law_says, .func (PySem.W.fnOf "_law_says" "_law_says" (defArgs s__law_says) (defBody s__law_says) (defScope s__law_says) .none kV__law_says dc__law_says pm__law_says an__law_says cd__law_says ct__law_says), sl__law_says⟩)
    (c__law_says : PySem.W.codeIn K cd__law_says "_law_says" = true)
    (k__law_says : PySem.W.keepIn K (.ref f__law_says) = true)
    (a__law_behind_call : PySem.W.nsIn K mainGlobals "_law_behind_call" = some (some (.ref f__law_behind_call)))
    (l__law_behind_call : K.lookup f__law_behind_call = some ⟨oc__law_behind_call, od__law_behind_call, .func (PySem.W.fnOf "_law_behind_call" "_law_behind_call" (defArgs s__law_behind_call) (defBody s__law_behind_call) (defScope s__law_behind_call) .none kV__law_behind_call dc__law_behind_call pm__law_behind_call an__law_behind_call cd__law_behind_call ct__law_behind_call), sl__law_behind_call⟩)
    (c__law_behind_call : PySem.W.codeIn K cd__law_behind_call "_law_behind_call" = true)
    (k__law_behind_call : PySem.W.keepIn K (.ref f__law_behind_call) = true)
    (a_law : PySem.W.nsIn K mainGlobals "law" = some (some (.ref f_law)))
    (l_law : K.lookup f_law = some ⟨oc_law, od_law, .func (PySem.W.fnOf "law" "law" (defArgs s_law) (defBody s_law) (defScope s_law) .none kV_law dc_law pm_law an_law cd_law ct_law), sl_law⟩)
    (c_law : PySem.W.codeIn K cd_law "law" = true)
    (k_law : PySem.W.keepIn K (.ref f_law) = true)
    (a_Web_init : PySem.W.findIn K (.ref C_Web) "__init__" = some (some (.ref f_Web_init)))
    (i_Web_init : PySem.W.isFn K (.ref f_Web_init) = true)
    (l_Web_init : K.lookup f_Web_init = some ⟨oc_Web_init, od_Web_init, .func (PySem.W.fnOf "__init__" "Web.__init__" (defArgs s_Web_init) (defBody s_Web_init) (defScope s_Web_init) .none kV_Web_init dc_Web_init pm_Web_init an_Web_init cd_Web_init ct_Web_init), sl_Web_init⟩)
    (c_Web_init : PySem.W.codeIn K cd_Web_init "Web.__init__" = true)
    (k_Web_init : PySem.W.keepIn K (.ref f_Web_init) = true)
    (z_isinstance : PySem.W.nsIn K mainGlobals "isinstance" = some none)
    (z_len : PySem.W.nsIn K mainGlobals "len" = some none)
    (z_sorted : PySem.W.nsIn K mainGlobals "sorted" = some none)
    (z_min : PySem.W.nsIn K mainGlobals "min" = some none)
    (z_max : PySem.W.nsIn K mainGlobals "max" = some none)
    (z_all : PySem.W.nsIn K mainGlobals "all" = some none)
    (z_zip : PySem.W.nsIn K mainGlobals "zip" = some none)
    (z_range : PySem.W.nsIn K mainGlobals "range" = some none)
    (z_enumerate : PySem.W.nsIn K mainGlobals "enumerate" = some none)
    (z_int : PySem.W.nsIn K mainGlobals "int" = some none)
    (z_bool : PySem.W.nsIn K mainGlobals "bool" = some none)
    (z_str : PySem.W.nsIn K mainGlobals "str" = some none)
    (z_list : PySem.W.nsIn K mainGlobals "list" = some none)
    (z_tuple : PySem.W.nsIn K mainGlobals "tuple" = some none) :
    ∃ fd : FuncData, (∀ (s : Shared) (v : Value), BindsTo s fd ⟨[v], []⟩ [("script", v)]) ∧ ∀ base : Heap, K.In base → base.Ns mainGlobals mg → FnOk l.prog w K mg base CX0 9 fa fd ["script"] (sp_law (K := K)) := by
  have e := hfa.symm.trans (PySem.W.mg_of X G a_law)
  cases e
  have B : Bl mg := ⟨PySem.W.mg_none_of X G z_isinstance, PySem.W.mg_none_of X G z_len, PySem.W.mg_none_of X G z_sorted, PySem.W.mg_none_of X G z_min, PySem.W.mg_none_of X G z_max, PySem.W.mg_none_of X G z_all, PySem.W.mg_none_of X G z_zip, PySem.W.mg_none_of X G z_range, PySem.W.mg_none_of X G z_enumerate, PySem.W.mg_none_of X G z_int, PySem.W.mg_none_of X G z_bool, PySem.W.mg_none_of X G z_str, PySem.W.mg_none_of X G z_list, PySem.W.mg_none_of X G z_tuple⟩
  have T : Txt K mg C_Web := ⟨⟨pg, hd, po, sa⟩, nS, nT, PySem.W.mg_of X G a_Web, ⟨_, PySem.W.mg_of X G a_MP⟩, xc, xg, xt, xm⟩
  have F_is_integer := fun_mk (st := s_is_integer) l_is_integer c_is_integer k_is_integer
  have m_is_integer := PySem.W.mg_of X G a_is_integer
  have F_is_number := fun_mk (st := s_is_number) l_is_number c_is_number k_is_number
  have m_is_number := PySem.W.mg_of X G a_is_number
  have F_is_part := fun_mk (st := s_is_part) l_is_part c_is_part k_is_part
  have m_is_part := PySem.W.mg_of X G a_is_part
  have F_is_lot_below := fun_mk (st := s_is_lot_below) l_is_lot_below c_is_lot_below k_is_lot_below
  have m_is_lot_below := PySem.W.mg_of X G a_is_lot_below
  have F_is_lot := fun_mk (st := s_is_lot) l_is_lot c_is_lot k_is_lot
  have m_is_lot := PySem.W.mg_of X G a_is_lot
  have F_check_part := fun_mk (st := s_check_part) l_check_part c_check_part k_check_part
  have m_check_part := PySem.W.mg_of X G a_check_part
  have F_check_stand := fun_mk (st := s_check_stand) l_check_stand c_check_stand k_check_stand
  have m_check_stand := PySem.W.mg_of X G a_check_stand
  have F_bits_of := fun_mk (st := s_bits_of) l_bits_of c_bits_of k_bits_of
  have m_bits_of := PySem.W.mg_of X G a_bits_of
  have F_lot_of := fun_mk (st := s_lot_of) l_lot_of c_lot_of k_lot_of
  have m_lot_of := PySem.W.mg_of X G a_lot_of
  have F_tied_bits := fun_mk (st := s_tied_bits) l_tied_bits c_tied_bits k_tied_bits
  have m_tied_bits := PySem.W.mg_of X G a_tied_bits
  have F_told_by := fun_mk (st := s_told_by) l_told_by c_told_by k_told_by
  have m_told_by := PySem.W.mg_of X G a_told_by
  have F_behind_call := fun_mk (st := s_behind_call) l_behind_call c_behind_call k_behind_call
  have m_behind_call := PySem.W.mg_of X G a_behind_call
  have F_changed_by := fun_mk (st := s_changed_by) l_changed_by c_changed_by k_changed_by
  have m_changed_by := PySem.W.mg_of X G a_changed_by
  have F_tells := fun_mk (st := s_tells) l_tells c_tells k_tells
  have m_tells := PySem.W.mg_of X G a_tells
  have F_called := fun_mk (st := s_called) l_called c_called k_called
  have m_called := PySem.W.mg_of X G a_called
  have F_changers := fun_mk (st := s_changers) l_changers c_changers k_changers
  have m_changers := PySem.W.mg_of X G a_changers
  have F_is_tie := fun_mk (st := s_is_tie) l_is_tie c_is_tie k_is_tie
  have m_is_tie := PySem.W.mg_of X G a_is_tie
  have F_wrong_tie := fun_mk (st := s_wrong_tie) l_wrong_tie c_wrong_tie k_wrong_tie
  have m_wrong_tie := PySem.W.mg_of X G a_wrong_tie
  have F__law_tape := fun_mk (st := s__law_tape) l__law_tape c__law_tape k__law_tape
  have m__law_tape := PySem.W.mg_of X G a__law_tape
  have F__law_pick := fun_mk (st := s__law_pick) l__law_pick c__law_pick k__law_pick
  have m__law_pick := PySem.W.mg_of X G a__law_pick
  have F__law_is_integer := fun_mk (st := s__law_is_integer) l__law_is_integer c__law_is_integer k__law_is_integer
  have m__law_is_integer := PySem.W.mg_of X G a__law_is_integer
  have F__law_flag := fun_mk (st := s__law_flag) l__law_flag c__law_flag k__law_flag
  have m__law_flag := PySem.W.mg_of X G a__law_flag
  have F__law_same := fun_mk (st := s__law_same) l__law_same c__law_same k__law_same
  have m__law_same := PySem.W.mg_of X G a__law_same
  have F__law_any := fun_mk (st := s__law_any) l__law_any c__law_any k__law_any
  have m__law_any := PySem.W.mg_of X G a__law_any
  have F__law_mixed := fun_mk (st := s__law_mixed) l__law_mixed c__law_mixed k__law_mixed
  have m__law_mixed := PySem.W.mg_of X G a__law_mixed
  have F__law_web := fun_mk (st := s__law_web) l__law_web c__law_web k__law_web
  have m__law_web := PySem.W.mg_of X G a__law_web
  have F__law_stand := fun_mk (st := s__law_stand) l__law_stand c__law_stand k__law_stand
  have m__law_stand := PySem.W.mg_of X G a__law_stand
  have F__law_says := fun_mk (st := s__law_says) l__law_says c__law_says k__law_says
  have m__law_says := PySem.W.mg_of X G a__law_says
  have F__law_behind_call := fun_mk (st := s__law_behind_call) l__law_behind_call c__law_behind_call k__law_behind_call
  have m__law_behind_call := PySem.W.mg_of X G a__law_behind_call
  have F_law := fun_mk (st := s_law) l_law c_law k_law
  have m_law := PySem.W.mg_of X G a_law
  have F_Web_init := fun_mk (st := s_Web_init) l_Web_init c_Web_init k_Web_init
  refine ⟨PySem.W.fnOf "law" "law" (defArgs s_law) (defBody s_law) (defScope s_law) .none kV_law dc_law pm_law an_law cd_law ct_law, fun s v => .of_eq rfl, fun base _ _ => ?_⟩
  have c1 := ok_is_integer (P := l.prog) (w := w) (base := base) F_is_integer m_is_integer B
  have c2 := ok_is_number F_is_number m_is_number B c1
  have c3 := ok_is_part F_is_part m_is_part B T c2
  have c4 := ok_check_part F_check_part m_check_part B T c3
  have c5 := ok_is_tie F_is_tie m_is_tie B c2
  have c6 := ok_wrong_tie F_wrong_tie m_wrong_tie B c5
  have wI := ok_Web_init F_Web_init B T c2 c6
  have bI := F_Web_init.binds (ps := ["self", "size", "ties"]) fun _ _ _ _ _ _ us hl => match us, hl with | [_, _, _], _ => rfl
  have mW : Mkc l.prog w K mg base 5 C_Web "Web" ["self", "size", "ties"] (sp_Web_init C_Web) := ⟨f_Web_init, _, ⟨mk, a_Web_init, i_Web_init, kc⟩, wI, T.mg_Web, bI⟩
  have b0 := ok_is_lot_below F_is_lot_below m_is_lot_below B c2
  have b1 := ok_is_lot F_is_lot m_is_lot B T b0
  have b2 := ok_check_stand F_check_stand m_check_stand B b1
  have b3 := ok_bits_of (P := l.prog) (w := w) (base := base) F_bits_of m_bits_of B
  have b4 := ok_lot_of (P := l.prog) (w := w) (base := base) F_lot_of m_lot_of B
  have b5 := ok_tied_bits (P := l.prog) (w := w) (base := base) F_tied_bits m_tied_bits B T
  have b6 := ok_told_by (P := l.prog) (w := w) (base := base) F_told_by m_told_by B
  have b7 := ok_behind_call F_behind_call m_behind_call B b6
  have b8 := ok_changed_by F_changed_by m_changed_by B b7
  have d1 := ok_tells F_tells m_tells B b2 c4 b6 b5 b3
  have d2 := ok_called F_called m_called B b2 c4 b7 b5 b3 b4
  have d3 := ok_changers F_changers m_changers B b2 b8 b5 b3
  have t1 := ok_law_tape (P := l.prog) (w := w) (base := base) F__law_tape m__law_tape B
  have t2 := ok_law_pick (P := l.prog) (w := w) (base := base) F__law_pick m__law_pick B
  have t3 := ok_law_is_integer (P := l.prog) (w := w) (base := base) F__law_is_integer m__law_is_integer B
  have t4 : Cal l.prog w K mg base 5 "_law_same" ["told", "due"] (spSame 3) := ⟨_, _, ok_law_same F__law_same m__law_same B t3 3, m__law_same, F__law_same.kp, F__law_same.binds (ps := ["told", "due"]) fun _ _ _ _ _ _ us hl => match us, hl with | [_, _], _ => rfl⟩
  have t5 := ok_law_mixed F__law_mixed m__law_mixed B t2
  have t6 := ok_law_web F__law_web m__law_web B t2 t5
  have e1 := ok_law_flag (P := l.prog) (w := w) (base := base) F__law_flag m__law_flag B
  have e2 := ok_law_any F__law_any m__law_any B t2
  have e3 := ok_law_stand F__law_stand m__law_stand B t2
  have e4 := ok_law_says (P := l.prog) (w := w) (base := base) F__law_says m__law_says B
  have e5 := ok_law_behind_call F__law_behind_call m__law_behind_call B e4
  exact ok_law F_law B T mW d1 d2 d3 t1 t2 e1 t4 e2 t6 e3 e4 e5
theorem walk {l : PySem.W.OpenLaw} {q : Program} {loose : List Str} {XP : (Str → Option Value) → Heap → Prop} {YP : World → Heap → Prop} {d : DefRec} {K : Params → PySem.W.Frag} (hn : l.most = some 63) (hdf : d.params.defaults = [])
    (hY : ∀ (w : World) (h : Heap), YP w h → (K w.params).In h)
    (F : ∀ (w : World) (mg : Str → Option Value) (fa : Addr) (h : Heap), (K w.params).In h → h.Ns mainGlobals mg → mg d.name = some (.ref fa) →
      ∃ fd : FuncData, (∀ (s : Shared) (u : Value), BindsTo s fd ⟨[u], []⟩ [("script", u)]) ∧ ∀ base : Heap, (K w.params).In base → base.Ns mainGlobals mg → FnOk l.prog w (K w.params) mg base CX0 9 fa fd ["script"] (sp_law (K w.params))) :
    PySem.W.WalkO q loose XP YP l.row.toRowW d [] (fun f vs => PySem.call f vs) :=
  L2.walk_of (n := 63) (k := 9) (x := "script") (CX := fun _ => CX0) (sp := fun w => sp_law (K w.params)) hn (by decide) hdf ⟨rfl, by decide, by decide⟩ hY F (fun _ _ a ns hl _ hS => ⟨a, ns, rfl, hS, fun _ => rfl⟩) fun _ _ _ _ _ z => z
end Bs

open PySem PySem.W PyProof.Rows in
set_option maxRecDepth 100000 in
set_option maxHeartbeats 0 in
theorem PySem.Challenge.cw_silencers_k12_whole_calls_by_own_ties_holds : PySem.Challenge.rw_silencers_k12_whole_calls_by_own_ties.Holds := by
  w_on; o_law; k_head; (case hw => w_witness2)
  k_fill
  refine Bs.walk (l := PySem.Challenge.rw_silencers_k12_whole_calls_by_own_ties) rfl rfl (fun w h Y => PySem.W.kIn_of Y) ?F
  case F =>
    intro w mg fa h KX G hmg
    refine' Bs.all_mk KX G hmg ?a_Web ?a_MP ?pg ?hd ?po ?sa ?mk ?kc ?nS ?nT ?xc ?xg ?xt ?xm ?a_is_integer ?l_is_integer ?c_is_integer ?k_is_integer ?a_is_number ?l_is_number ?c_is_number ?k_is_number ?a_is_part ?l_is_part ?c_is_part ?k_is_part ?a_is_lot_below ?l_is_lot_below ?c_is_lot_below ?k_is_lot_below ?a_is_lot ?l_is_lot ?c_is_lot ?k_is_lot ?a_check_part ?l_check_part ?c_check_part ?k_check_part ?a_check_stand ?l_check_stand ?c_check_stand ?k_check_stand ?a_bits_of ?l_bits_of ?c_bits_of ?k_bits_of ?a_lot_of ?l_lot_of ?c_lot_of ?k_lot_of ?a_tied_bits ?l_tied_bits ?c_tied_bits ?k_tied_bits ?a_told_by ?l_told_by ?c_told_by ?k_told_by ?a_behind_call ?l_behind_call ?c_behind_call ?k_behind_call ?a_changed_by ?l_changed_by ?c_changed_by ?k_changed_by ?a_tells ?l_tells ?c_tells ?k_tells ?a_called ?l_called ?c_called ?k_called ?a_changers ?l_changers ?c_changers ?k_changers ?a_is_tie ?l_is_tie ?c_is_tie ?k_is_tie ?a_wrong_tie ?l_wrong_tie ?c_wrong_tie ?k_wrong_tie ?a__law_tape ?l__law_tape ?c__law_tape ?k__law_tape ?a__law_pick ?l__law_pick ?c__law_pick ?k__law_pick ?a__law_is_integer ?l__law_is_integer ?c__law_is_integer ?k__law_is_integer ?a__law_flag ?l__law_flag ?c__law_flag ?k__law_flag ?a__law_same ?l__law_same ?c__law_same ?k__law_same ?a__law_any ?l__law_any ?c__law_any ?k__law_any ?a__law_mixed ?l__law_mixed ?c__law_mixed ?k__law_mixed ?a__law_web ?l__law_web ?c__law_web ?k__law_web ?a__law_stand ?l__law_stand ?c__law_stand ?k__law_stand ?a__law_says ?l__law_says ?c__law_says ?k__law_says ?a__law_behind_call ?l__law_behind_call ?c__law_behind_call ?k__law_behind_call ?a_law ?l_law ?c_law ?k_law ?a_Web_init ?i_Web_init ?l_Web_init ?c_Web_init ?k_Web_init ?z_isinstance ?z_len ?z_sorted ?z_min ?z_max ?z_all ?z_zip ?z_range ?z_enumerate ?z_int ?z_bool ?z_str ?z_list ?z_tuple
    (case a_Web => k_is)
    (case a_MP => k_is)
    (case pg => k_is)
    (case hd => k_is)
    (case po => k_is)
    (case sa => k_is)
    (case mk => k_is)
    (case kc => k_is)
    (case nS => k_is)
    (case nT => k_is)
    (case xc => k_is)
    (case xg => k_is)
    (case xt => k_is)
    (case xm => k_is)
    (case a_is_integer => k_is)
    (case l_is_integer => k_is)
    (case c_is_integer => k_is)
    (case k_is_integer => k_is)
    (case a_is_number => k_is)
    (case l_is_number => k_is)
    (case c_is_number => k_is)
    (case k_is_number => k_is)
    (case a_is_part => k_is)
    (case l_is_part => k_is)
    (case c_is_part => k_is)
    (case k_is_part => k_is)
    (case a_is_lot_below => k_is)
    (case l_is_lot_below => k_is)
    (case c_is_lot_below => k_is)
    (case k_is_lot_below => k_is)
    (case a_is_lot => k_is)
    (case l_is_lot => k_is)
    (case c_is_lot => k_is)
    (case k_is_lot => k_is)
    (case a_check_part => k_is)
    (case l_check_part => k_is)
    (case c_check_part => k_is)
    (case k_check_part => k_is)
    (case a_check_stand => k_is)
    (case l_check_stand => k_is)
    (case c_check_stand => k_is)
    (case k_check_stand => k_is)
    (case a_bits_of => k_is)
    (case l_bits_of => k_is)
    (case c_bits_of => k_is)
    (case k_bits_of => k_is)
    (case a_lot_of => k_is)
    (case l_lot_of => k_is)
    (case c_lot_of => k_is)
    (case k_lot_of => k_is)
    (case a_tied_bits => k_is)
    (case l_tied_bits => k_is)
    (case c_tied_bits => k_is)
    (case k_tied_bits => k_is)
    (case a_told_by => k_is)
    (case l_told_by => k_is)
    (case c_told_by => k_is)
    (case k_told_by => k_is)
    (case a_behind_call => k_is)
    (case l_behind_call => k_is)
    (case c_behind_call => k_is)
    (case k_behind_call => k_is)
    (case a_changed_by => k_is)
    (case l_changed_by => k_is)
    (case c_changed_by => k_is)
    (case k_changed_by => k_is)
    (case a_tells => k_is)
    (case l_tells => k_is)
    (case c_tells => k_is)
    (case k_tells => k_is)
    (case a_called => k_is)
    (case l_called => k_is)
    (case c_called => k_is)
    (case k_called => k_is)
    (case a_changers => k_is)
    (case l_changers => k_is)
    (case c_changers => k_is)
    (case k_changers => k_is)
    (case a_is_tie => k_is)
    (case l_is_tie => k_is)
    (case c_is_tie => k_is)
    (case k_is_tie => k_is)
    (case a_wrong_tie => k_is)
    (case l_wrong_tie => k_is)
    (case c_wrong_tie => k_is)
    (case k_wrong_tie => k_is)
    (case a__law_tape => k_is)
    (case l__law_tape => k_is)
    (case c__law_tape => k_is)
    (case k__law_tape => k_is)
    (case a__law_pick => k_is)
    (case l__law_pick => k_is)
    (case c__law_pick => k_is)
    (case k__law_pick => k_is)
    (case a__law_is_integer => k_is)
    (case l__law_is_integer => k_is)
    (case c__law_is_integer => k_is)
    (case k__law_is_integer => k_is)
    (case a__law_flag => k_is)
    (case l__law_flag => k_is)
    (case c__law_flag => k_is)
    (case k__law_flag => k_is)
    (case a__law_same => k_is)
    (case l__law_same => k_is)
    (case c__law_same => k_is)
    (case k__law_same => k_is)
    (case a__law_any => k_is)
    (case l__law_any => k_is)
    (case c__law_any => k_is)
    (case k__law_any => k_is)
    (case a__law_mixed => k_is)
    (case l__law_mixed => k_is)
    (case c__law_mixed => k_is)
    (case k__law_mixed => k_is)
    (case a__law_web => k_is)
    (case l__law_web => k_is)
    (case c__law_web => k_is)
    (case k__law_web => k_is)
    (case a__law_stand => k_is)
    (case l__law_stand => k_is)
    (case c__law_stand => k_is)
    (case k__law_stand => k_is)
    (case a__law_says => k_is)
    (case l__law_says => k_is)
    (case c__law_says => k_is)
    (case k__law_says => k_is)
    (case a__law_behind_call => k_is)
    (case l__law_behind_call => k_is)
    (case c__law_behind_call => k_is)
    (case k__law_behind_call => k_is)
    (case a_law => k_is)
    (case l_law => k_is)
    (case c_law => k_is)
    (case k_law => k_is)
    (case a_Web_init => k_is)
    (case i_Web_init => k_is)
    (case l_Web_init => k_is)
    (case c_Web_init => k_is)
    (case k_Web_init => k_is)
    (case z_isinstance => k_is)
    (case z_len => k_is)
    (case z_sorted => k_is)
    (case z_min => k_is)
    (case z_max => k_is)
    (case z_all => k_is)
    (case z_zip => k_is)
    (case z_range => k_is)
    (case z_enumerate => k_is)
    (case z_int => k_is)
    (case z_bool => k_is)
    (case z_str => k_is)
    (case z_list => k_is)
    (case z_tuple => k_is)

