import PyProof.Rows.All
import Wide.All
import OpenK.AllK
import Wide.FinOn
import PyProof.EnumMake
import PyProof.Draws
import PyProof.InstNe
import HandS.ForMost
import HandS.IsInst
import HandS.Zip0
import HandS.Zip
import HandS.Conv
import HandS.Deep
import HandS.SortRule
import HandS.SortInts
import HandS.TupLe
import HandS.OwnEq
import HandS.Walk
import HandS.Evl
import HandS.WideBits
import HandS.TupAny
import HandS.Style
import HandS.Flow
import HandS.ForExc
import HandS.ExcInit
import HandS.TryMany
import HandS.ExcIs
import HandS.ExcField
import HandS.Lambda
import PySem.Challenge.RW_silencers_k01_webs_judged
set_option Elab.async false
set_option linter.all false
set_option maxRecDepth 100000
set_option maxHeartbeats 4000000
namespace Bs
open PySem PySem.Spec PyProof.Rows L2
/-! ## enumerate over a tuple -/
theorem draws_tup {prog : Program} {w : World} {A : Around} (hh : A.handled = none) (it l : Addr) (hne : l ≠ it) (items : Array Value) :
    Draws prog w A it [it, l] items.size (fun i v => items[i]? = some v) (fun i h => h.IsTupleIter it l i ∧ h.IsTuple l items) where
  live := fun i h st => let ⟨⟨o, e, _⟩, _⟩ := st; ⟨o, e⟩
  frame := fun i h h' st k => ⟨st.1.at fun o e => k it (by simp) o e, st.2.at fun o e => k l (by simp) o e⟩
  item := fun i s Q E hi st hQ => by
    refine RZ.nextOf_tuple_item st.1 st.2 (x := items[i]) (by simp [hi]) fun h' hit' hs' => ?_
    exact hQ _ h' s.toks (by simp [hi]) ⟨hit', st.2.at fun o e => hs'.extBut l o hne e⟩ hs'
  done := fun s Q E st hQ => RZ.nextOf_tuple_end hh st.1 st.2 (by simp) hQ
theorem meets_enumerate_newT (l : Addr) (items : Array Value) (n : Nat) (dct : Option Addr) (sl : Array (Option Value)) :
    Meets (Builtin.«enumerate.__new__» ⟨[.type "enumerate", .ref l], []⟩) (fun _ R s => s.heap.get? l = some { cls := .type "tuple", dict := dct, data := .seq items n, slots := sl } ∧
      R (.ok (.ret (.ref (s.heap.push { cls := .type "tuple_iterator", data := .fields #[.ref l, .int 0 0] }).objs.size)))
        { s with heap := (s.heap.push { cls := .type "tuple_iterator", data := .fields #[.ref l, .int 0 0] }).push { cls := .type "enumerate", data := .fields #[.none, .bool false, .ref s.heap.objs.size, rawInt 0, .none, .none] } }) :=
  .of_wp fun prog w A R s h => by
    obtain ⟨hp, g, d, tk, os⟩ := s; obtain ⟨hl, h⟩ := h
    have hsub := sub_enumerate
    have hL : Heap.IsTuple (Shared.heap ⟨hp, g, d, tk, os⟩) l items := ⟨_, hl, rfl, n, rfl⟩
    wp_walk using AutoSeq1.wpAny_loadPart' hl
    refine wpAny_stack_any fun st => wpAny_pure ?_
    split
    · rename_i c _ _ _ _ _
      cases (c == Value.type "enumerate")
      · wp_walk using AutoSeq1.wpAny_loadPart' hl, wpAny_pyIter_tuple hL
        exact ⟨_, rfl, h⟩
      · wp_walk using AutoSeq1.wpAny_loadPart' hl, wpAny_pyIter_tuple hL
        exact ⟨_, rfl, h⟩
    · wp_walk using AutoSeq1.wpAny_loadPart' hl, wpAny_pyIter_tuple hL
      exact ⟨_, rfl, h⟩
section
variable {prog : Program} {w : World} {A : Around} {E : Value → Shared → Prop} {s : Shared}
theorem call_enumerate_tup {l : Addr} {items : Array Value} {Q : Value → Shared → Prop} (hL : s.heap.IsTuple l items)
    (h : ∀ h', IsEnum h' (s.heap.objs.size + 1) s.heap.objs.size 0 .none → h'.IsTupleIter s.heap.objs.size l 0 → h'.objs.size = s.heap.objs.size + 2 →
      (∀ b o, s.heap.get? b = some o → h'.get? b = some o) → Q (.ref (s.heap.objs.size + 1)) { s with heap := h' }) :
    wpAny (model prog w) A (call (.type "enumerate") [.ref l]) Q E s := by
  obtain ⟨⟨c, dct, dt, sl⟩, hl, hc, n, hd⟩ := hL
  replace hc : c = .type "tuple" := hc
  replace hd : dt = .seq items n := hd
  subst hc hd
  refine callType_new F.called_enumerate (by decide) (F.typeCall_enumerate_1 _) (F.newCall_enumerate_1 _) (fun obj => F.args_object_init_2 obj _) F.entry_enumerate_new
    (meets_enumerate_newT l items n dct sl) ⟨hl, ?_⟩
  have hz : (s.heap.push { cls := .type "tuple_iterator", data := .fields #[.ref l, .int 0 0] }).objs.size = s.heap.objs.size + 1 := Heap.size_push ..
  show _ ∧ _
  rw [hz]
  have he : IsEnum ((s.heap.push { cls := .type "tuple_iterator", data := .fields #[.ref l, .int 0 0] }).push
      { cls := .type "enumerate", data := .fields #[.none, .bool false, .ref s.heap.objs.size, rawInt 0, .none, .none] }) (s.heap.objs.size + 1) s.heap.objs.size 0 .none := by
    have := Heap.get?_push_size (s.heap.push { cls := .type "tuple_iterator", data := .fields #[.ref l, .int 0 0] })
      (o := { cls := .type "enumerate", data := .fields #[.none, .bool false, .ref s.heap.objs.size, rawInt 0, .none, .none] }) rfl
    rw [hz] at this; exact this
  refine ⟨⟨_, he, rfl⟩, h _ he ⟨_, Heap.get?_push_of_some _ (Heap.get?_push_size _ rfl), rfl, rfl⟩ (by rw [Heap.size_push, hz]) fun b o x => Heap.get?_push_of_some _ (Heap.get?_push_of_some _ x)⟩
end
/-- the tuple at a as it stands at each turn, each item in a new pair -/
def IteT (K : PySem.W.Frag) (a : Addr) : It :=
  ⟨fun i H => ∃ (xs : List V) (x : V), SqT K H a xs ∧ xs[i]? = some x, fun i H v H' => ∃ T x, v = .ref T ∧ H T = none ∧ H' = upd H T (.tup [.int (i : Nat), x]) ∧ ∀ xs, SqT K H a xs → xs[i]? = some x, fun i H => ∃ xs : List V, SqT K H a xs ∧ xs.length ≤ i⟩
theorem turn_enumT {P : Program} {w : World} {K : PySem.W.Frag} {elts : List Expr} {kk : Nat} {tpos : Pos} (a e it : Addr) :
    Turn P w K (.Tuple elts kk tpos) (IteT K a) [e, it] e (fun i h => (∃ old, IsEnum h e it ((i : Nat) : Int) old) ∧ h.IsTupleIter it a i ∧ e ≠ it ∧ a ≠ it ∧ a ≠ e) where
  mem := by simp
  obj := fun i h st b hb => by
    obtain ⟨⟨old, he⟩, ⟨o, ho, hc, hd⟩, _⟩ := st
    have e' : b = e ∨ b = it := by simpa using hb
    rcases e' with z | z
    · rw [z]; exact ⟨_, he, fun v q => nomatch q⟩
    · rw [z]; exact ⟨o, ho, fun v q => by rw [hd] at q; cases q⟩
  keep := fun i h h' st k => let ⟨⟨old, he⟩, hi, hne⟩ := st; ⟨⟨old, k e (by simp) _ he⟩, hi.at fun o q => k it (by simp) o q, hne⟩
  item := by
    intro X hP hw hK hc i pins s σ H E I hf st hg
    subst hP hw hK
    obtain ⟨⟨old, he⟩, hit, hne, hne2, hne3⟩ := st
    obtain ⟨xs, x, hq, hx⟩ := hg
    obtain ⟨its, rv, p, hz⟩ := I.tuple hq
    obtain ⟨u, hu, ru⟩ := rv.get hx
    have hel : e < s.heap.objs.size := Heap.lt_size he
    have hil : it < s.heap.objs.size := by obtain ⟨_, q, _⟩ := hit; exact Heap.lt_size q
    have hlt : i < its.toArray.size := by
      have := (List.getElem?_eq_some_iff.mp hu).1
      simpa using this
    refine wpAny_pyNext_enum_itemD (draws_tup (show X.A.in1.handled = none from I.ok.hd hc) it a hne2 its.toArray) he ⟨hit, p⟩ hlt hne (by simp [hne, Ne.symm hne3]) fun y h' tk hy ho hit' hT hsz hk => ?_
    have hyu : y = u := by
      have h2 : its.toArray[i]? = some u := by simpa using hu
      rw [h2] at hy
      exact (Option.some.inj hy).symm
    subst hyu
    refine ⟨_, rfl, wpAny_letOwnedTupleGo_enum (s := { s with heap := h', toks := tk + 1 }) ho fun h'' he' sb => ?_⟩
    have hT2 : h''.get? s.heap.objs.size = some { cls := .type "tuple", data := .seq #[.int i tk, y] } := (sb.2 _ (Nat.ne_of_gt hel)).trans hT
    have new : ObjOk X.prog X.w (upd H s.heap.objs.size (.tup [.int (i : Nat), x])) h'' s.heap.objs.size (.tup [.int (i : Nat), x]) :=
      ⟨by show 2 ≤ sizeLine; decide, [.int i tk, y], .cons ⟨_, rfl⟩ (.cons ru .nil), ⟨_, hT2, rfl, _, rfl⟩⟩
    have I1 : Inv X pins σ (upd H s.heap.objs.size (.tup [.int (i : Nat), x])) { s with heap := h'', toks := tk + 1 } :=
      I.turnedNew (ch := [e, it]) (fun b ob hb q => (sb.2 b (fun z => hb (by simp [z]))).trans (hk b ob (fun z => hb (by simp [z])) (fun z => hb (by simp [z])) q)) hf (Nat.le_refl _) new
    refine ⟨.ref s.heap.objs.size, _, I1, rfl, ⟨_, x, rfl, I.hok.fresh (Nat.le_refl _), rfl, fun ys hy => by rw [I.tuple_inj hy hq]; exact hx⟩, ⟨⟨y, ?_⟩, hit'.1.at fun o q => (sb.2 it (Ne.symm hne)).trans q, hne, hne2, hne3⟩, fun b hb => ?_⟩
    · have e1 : ((i + 1 : Nat) : Int) = (i : Int) + 1 := by omega
      rw [e1]; exact he'
    · have hb' : b < s.heap.objs.size := by
        have e' : b = e ∨ b = it := by simpa using hb
        rcases e' with z | z
        · rw [z]; exact hel
        · rw [z]; exact hil
      rw [upd_ne (Nat.ne_of_lt hb')]
      exact (hf b hb).1
  done := by
    intro X hP hw hK hc i pins s σ H E I hf st hg
    subst hP hw hK
    obtain ⟨⟨old, he⟩, hit, hne, hne2, hne3⟩ := st
    obtain ⟨xs, hq, hx⟩ := hg
    obtain ⟨its, rv, p, hz⟩ := I.tuple hq
    obtain ⟨f0, f1, f2, f3, f4, f5⟩ := hf it (by simp)
    have hl := rv.length
    have hT : s.TypeIs (.ref e) "enumerate" := ⟨_, he, rfl⟩
    unfold pyNext
    refine wpAny_bind (wpAny_attempt (wpAny_callSpecial?_slot (name := Str.ofString "__next__") hT F.slot_enumerate_next
      (wpAny_call_entry F.slot_enumerate_next hT F.entry_enumerate_next ?_ (F.args_enumerate_next_1 _))))
    show wpAny _ _ (field (.ref e) 2 >>= _) _ _ _
    refine wpAny_bind (wpAny_field he rfl (x := .ref it) rfl ?_)
    refine wpAny_bind (RZ.nextOf_tuple_end (show X.A.in1.handled = none from I.ok.hd hc) hit p (by simp; omega) fun h' x he' hx' => ?_)
    obtain ⟨o, ho, hc⟩ := hx'
    refine wpAny_bind (wpAny_isInstance (T := "StopIteration") (b := true) ⟨o, ho, hc⟩ isSubtype_stop ?_)
    exact wpAny_pure ⟨rfl, I.turned (t' := s.toks) (fun b o hb q => he' b o hb q) f0 f1 f3 f4 f5⟩
  self := fun A i s Q E st h => let ⟨⟨_, he⟩, _⟩ := st; wpAny_pyIter_enum he h
def iEnumT (K : PySem.W.Frag) (ta : TA) : TI := fun σ H R => ta σ H fun vs H1 => ∃ a xs, vs = [.ref a] ∧ SqT K H1 a xs ∧ R (IteT K a) H1
theorem pi_enumT {X : Cx} {e : Expr} {ta : TA} {p pos tpos : Pos} {elts : List Expr} {kk : Nat} (hg : Gl X "enumerate") (hm : X.mg "enumerate" = none) (ha : PA X [e] ta) (hs : starEach [e] X.env = [(false, eval e X.env)] := by rfl) :
    PI X (.Tuple elts kk tpos) (.Call (.Name "enumerate" p) [e] [] pos) (iEnumT X.K ta) := by
  refine ⟨fun pins s σ H R I h => ?_⟩
  refine Call_ (ld_blt I hg hm boot_enumerate (PyProof.Rows.callWith_type1 (thn (ha.run pos pins s σ H _ I h) fun us s1 ⟨vs, H1, I1, r1, q1⟩ => ?_) hs rfl))
  obtain ⟨a, xs, ex, hq, q⟩ := q1
  subst ex
  cases r1 with
  | cons r rr =>
    cases rr
    cases r
    obtain ⟨its, rv, p', hz⟩ := I1.tuple hq
    have hal : a < s1.heap.objs.size := by obtain ⟨_, q, _⟩ := p'; exact Heap.lt_size q
    refine call_enumerate_tup p' fun h' he hit hsz hk => wpAny_pyIter_enum he ?_
    have I2 : Inv X pins σ H1 { s1 with heap := h' } := I1.kept (t' := s1.toks) hk
    refine ⟨s1.heap.objs.size + 1, [s1.heap.objs.size + 1, s1.heap.objs.size], _, _, H1, rfl, I2, turn_enumT a (s1.heap.objs.size + 1) s1.heap.objs.size, ⟨⟨.none, he⟩, hit, Nat.succ_ne_self _, Nat.ne_of_lt hal, Nat.ne_of_lt (Nat.lt_succ_of_lt hal)⟩, fun b hb => ?_, q⟩
    have e' : b = s1.heap.objs.size + 1 ∨ b = s1.heap.objs.size := by simpa using hb
    have hle : s1.heap.objs.size ≤ b := by
      rcases e' with z | z
      · rw [z]; exact Nat.le_add_right _ _
      · rw [z]; exact Nat.le_refl _
    exact I1.fpOk hle (I1.hok.fresh hle)
theorem walk_enumT {K : PySem.W.Frag} {a : Addr} {xs : List V} : Walk (IteT K a) xs.length (fun H => SqT K H a xs) (YPair (fun i => some (.int (i : Nat))) (fun i => xs[i]?)) := by
  refine ⟨fun i _ hi q => ⟨xs, xs[i], q, by simp [hi]⟩, fun _ q => ⟨xs, q, Nat.le_refl _⟩, fun i H v H' _ q y => ?_⟩
  obtain ⟨T, x, h1, h2, h3, h4⟩ := y
  exact ⟨T, .int (i : Nat), x, h1, h2, h3, rfl, h4 xs q⟩
theorem walk_zipT {K : PySem.W.Frag} {a b : Addr} {xs ys : List V} {n : Nat} (hn : n = min xs.length ys.length) : Walk (RZ.ItzT K a b) n (fun H => SqT K H a xs ∧ SqT K H b ys) (YPair (fun i => xs[i]?) (fun i => ys[i]?)) := by
  subst hn
  refine ⟨fun i _ hi q => ?_, fun _ q => ⟨xs, ys, q.1, q.2, by omega⟩, fun i H v H' _ q y => ?_⟩
  · have h1 : i < xs.length := by omega
    have h2 : i < ys.length := by omega
    exact ⟨xs, ys, xs[i], ys[i], q.1, q.2, by simp [h1], by simp [h2]⟩
  · obtain ⟨T, x, z, h1, h2, h3, h4, h5⟩ := y
    exact ⟨T, x, z, h1, h2, h3, h4 xs q.1, h5 ys q.2⟩
end Bs

namespace Bs
open PySem PySem.Spec PyProof.Rows L2
/-! ## != of two instances of one own class with its own == and no != of its own -/
section
variable {prog : Program} {w : World} {A : Around} {E : Value → Shared → Prop} {s : Shared} {K : PySem.W.Frag} {x y C : Addr} {ox oy : Obj} {od oe : Option Obj} {f : Addr}
theorem objNe_K (X : K.In s.heap) (I : PySem.W.InstAt s.heap x ox C od) (hs : PySem.W.findIn K (.ref C) "__eq__" = some (some (.ref f))) (hf : PySem.W.isFn K (.ref f) = true) (hu : A.units < cLine) {Q : Fin → Shared → Prop}
    (hcall : wpAny (model prog w) A (call (.ref f) [.ref x, .ref y]) (fun v s' => ∃ b, v = .bool b ∧ Q (.done (.ret (.bool (!b)))) s') E s) :
    wpAny (model prog w) A (Builtin.«object.__ne__» ⟨[.ref x, .ref y], []⟩) Q E s := by
  obtain ⟨hp, g, d, t, os⟩ := s
  unfold Builtin.«object.__ne__»
  repeat (first
    | with_reducible refine wpAny_cRoomFor hu ?_
    | (refine wpAny_bind (m := callSpecialIfBound? (.ref x) (Str.ofString "__eq__") [.ref y])
        (PySem.W.ifBound_K X I hs hf (wpAny_mono hcall (fun v s' hv => by
          obtain ⟨b, rfl, hq⟩ := hv
          repeat (first | exact hq | exact wpAny_pure hq | exact wpAny_truthy_bool hq | (refine wpAny_bind (m := truthy (.bool _)) (wpAny_truthy_bool ?_)) | wp_step)) fun _ _ e => e)))
    | wp_step)
theorem ifBound_ne (X : K.In s.heap) (I : PySem.W.InstAt s.heap x ox C od) (hn : PySem.W.findIn K (.ref C) "__ne__" = some (some (.builtin "object.__ne__"))) {args : List Value} {Q : Option Value → Shared → Prop} {M : Model}
    (h : wpAny M A (call (.builtin "object.__ne__") (.ref x :: args)) (fun v => Q (some v)) E s) : wpAny M A (callSpecialIfBound? (.ref x) "__ne__" args) Q E s := by
  simp only [callSpecialIfBound?, bindSpecialIfBound?]
  refine wpAny_holding (wpAny_bind (wpAny_bind (wpAny_bind (I.type.here ((PySem.W.looks_findIn X hn).here ?_)))))
  refine wpAny_bind (wpAny_askSetting (wpAny_ite ?_))
  have fin : wpAny M A (call (.builtin "object.__ne__") ([.ref x] ++ args) >>= fun v => pure (some v)) Q E s := wpAny_bind (wpAny_mono h (fun v s' h' => wpAny_pure h') fun _ _ h' => h')
  have hb : bindSpecial (.builtin "object.__ne__") (.ref x) = pure (.builtin "object.__ne__", [.ref x]) := (F.slot_object_ne).bind (.ref x)
  split
  · rw [hb]
    exact wpAny_bind (wpAny_pure (wpAny_pure fin))
  · rw [hb]
    exact wpAny_tryCatch (wpAny_bind (wpAny_pure (wpAny_pure fin)))
theorem tryNe_K (X : K.In s.heap) (I : PySem.W.InstAt s.heap x ox C od) (hs : PySem.W.findIn K (.ref C) "__eq__" = some (some (.ref f))) (hf : PySem.W.isFn K (.ref f) = true)
    (hn : PySem.W.findIn K (.ref C) "__ne__" = some (some (.builtin "object.__ne__"))) (hsub : PySem.W.subIn K (.ref C) (.type "object") = some true) (hu : A.units + 1 < cLine) {Q : Option Value → Shared → Prop}
    (hcall : wpAny (model prog w) A.in1 (call (.ref f) [.ref x, .ref y]) (fun v s' => ∃ b, v = .bool b ∧ Q (some (.bool (!b))) s') E s) :
    wpAny (model prog w) A (tryCompare (.ref x) "__ne__" (.ref y)) Q E s := by
  simp only [tryCompare]
  refine wpAny_bind (ifBound_ne X I hn (wpAny_call (codeAny_call_builtin (F.slot_object_ne).plain F.cmpEntry_ne
    (PySem.W.check_slot F.cmpKind_ne F.cmpSplit_ne (I.type.andThen (PySem.W.looks_subIn X hsub)) (F.cmpArgs_ne _ _)
      (objNe_K (A := A.in1) X I hs hf hu (wpAny_mono hcall (fun v s' hv => ?_) fun _ _ e => e))))))
  obtain ⟨b, rfl, hq⟩ := hv
  first | exact ⟨b, rfl, wpAny_pure hq⟩ | exact ⟨b, rfl, wpAny_pure (wpAny_pure hq)⟩ | exact ⟨b, rfl, hq⟩
theorem richNe_K (X : K.In s.heap) (I : PySem.W.InstAt s.heap x ox C od) (J : PySem.W.InstAt s.heap y oy C oe) (hs : PySem.W.findIn K (.ref C) "__eq__" = some (some (.ref f))) (hf : PySem.W.isFn K (.ref f) = true)
    (hn : PySem.W.findIn K (.ref C) "__ne__" = some (some (.builtin "object.__ne__"))) (hsub : PySem.W.subIn K (.ref C) (.type "object") = some true) (hu : A.units + 1 < cLine) {Q : Value → Shared → Prop}
    (hcall : wpAny (model prog w) A.in1 (call (.ref f) [.ref x, .ref y]) (fun v s' => ∃ b, v = .bool b ∧ Q (.bool (!b)) s') E s) :
    wpAny (model prog w) A (richCompare .NotEq (.ref x) (.ref y)) Q E s := by
  have one : wpAny (model prog w) A (tryCompare (.ref x) "__ne__" (.ref y)) (fun r s' => ∃ v, r = some v ∧ Q v s') E s :=
    tryNe_K X I hs hf hn hsub hu (wpAny_mono hcall (fun v s' ⟨b, e, q⟩ => ⟨b, e, _, rfl, q⟩) fun _ _ e => e)
  unfold richCompare
  simp only [oneThing_ref]
  refine wpAny_holding (wpAny_bind (wpAny_cRoomFor (Nat.lt_of_succ_lt hu) ?_))
  rw [cmpInfo_NotEq]
  dsimp only
  refine wpAny_bind (I.type.here (wpAny_bind (J.type.here ?_)))
  rw [show (Value.ref C != Value.ref C) = false from by simp]
  simp only [Bool.false_eq_true, if_false]
  refine wpAny_bind (wpAny_pure ?_)
  simp only [Bool.false_eq_true, if_false]
  refine wpAny_bind (wpAny_mono one (fun r s' z => ?_) fun _ _ e => e)
  obtain ⟨v, rfl, hq⟩ := z
  exact wpAny_pure hq
end
/-- what != asks of two instances of C: the promise of C's own == -/
def rNeOwn (C : Addr) (sp : Sp) : R2 := fun x y H Q => ∃ a b dx dy fs gs, x = .ref a ∧ y = .ref b ∧ H a = some (.ins C dx fs) ∧ H b = some (.ins C dy gs) ∧ sp [.ref a, .ref b] H (fun v H' => ∃ r, v = .bl r ∧ Q (.bl (!r)) H') E0
structure OwnNe (K : PySem.W.Frag) (C f : Addr) : Prop where
  eq : PySem.W.findIn K (.ref C) "__eq__" = some (some (.ref f))
  fn : PySem.W.isFn K (.ref f) = true
  ne : PySem.W.findIn K (.ref C) "__ne__" = some (some (.builtin "object.__ne__"))
  sub : PySem.W.subIn K (.ref C) (.type "object") = some true
theorem op_neOwn {X : Cx} {C f : Addr} {fd : FuncData} {ps : List Str} {sp : Sp} {n : Nat} (N : OwnNe X.K C f) (F : FnOk X.prog X.w X.K X.mg X.base CX0 n f fd ps sp) (hr : Room (n + 1) X.A) (hb : Binds X.K fd ps []) : OpR X (compareOp .NotEq) (rNeOwn C sp) := by
  intro pins s σ H x y v u Q I rx ry h
  obtain ⟨a, b, dx, dy, fs, gs, rfl, rfl, ha, hb', hsp⟩ := h
  cases rx
  cases ry
  obtain ⟨mA, J, _⟩ := ins_get I.hok ha
  obtain ⟨mB, J', _⟩ := ins_get I.hok hb'
  obtain ⟨od, J, _⟩ := J.look
  obtain ⟨od', J', _⟩ := J'.look
  have hu : X.A.units + 1 < cLine := hu_of hr
  have hr1 : Room n X.A.in1 := hr.in1
  have e0 : Env0 X.prog X.w X.K X.mg X.base X.A.in1 X.stack s H := I.env0.in1
  have hl := F.len _ _ _ _ hsp
  have r2 : Vals [V.ref a, V.ref b] [Value.ref a, Value.ref b] := .cons rfl (.cons rfl .nil)
  show wpAny (model X.prog X.w) X.A (richCompare .NotEq (.ref a) (.ref b)) (EP X pins σ Q) X.xe s
  refine richNe_K I.kIn J J' N.eq N.fn N.ne N.sub hu ?_
  refine wpAny_call (codeAny_mono (F.run X.A.in1 X.stack s H ⟨[.ref a, .ref b], []⟩ [.ref a, .ref b] [.ref a, .ref b] _ E0 hr1 e0 (by
    have := hb s [.ref a, .ref b] I.kIn (by simpa using hl)
    simpa using this) r2 hsp) fun r s' hq => ?_)
  cases r with
  | error e => exact hq.elim
  | ok fl =>
    cases fl with
    | ret w =>
      obtain ⟨z, H', I', rz, r, ez, q⟩ := I.after hq
      subst ez
      cases rz
      exact ⟨r, rfl, .bl (!r), H', I', rfl, q⟩
    | next => exact False.elim hq
    | brk => exact False.elim hq
    | cont => exact False.elim hq
/-! ## calls in short -/
structure Cal (P : Program) (w : World) (K : PySem.W.Frag) (mg : Str → Option Value) (base : Heap) (k : Nat) (x : Str) (ps : List Str) (sp : Sp) : Prop where
  ex : ∃ (f : Addr) (fd : FuncData), FnOk P w K mg base CX0 k f fd ps sp ∧ mg x = some (.ref f) ∧ PySem.W.keepIn K (.ref f) = true ∧ Binds K fd ps []
theorem pe_cal {X : Cx} {k : Nat} {x : Str} {ps : List Str} {sp : Sp} {e : Expr} {es : List Expr} {t : TA} {p pos : Pos} (c : Cal X.prog X.w X.K X.mg X.base k x ps sp) (hr : Room k X.A) (ha : PA X (e :: es) t) (hg : Gl X x := by rfl)
    (hdb : (x == ("__debug__" : Str)) = false := by decide) (he : starEach (e :: es) X.env = (false, eval e X.env) :: starEach es X.env := by rfl) (hpl : (backTo pos (starEach es X.env)).any (·.1) = false := by rfl) :
    PE X (.Call (.Name x p) (e :: es) [] pos) (tCall sp [] E0 t) := by
  obtain ⟨f, fd, F, hm, hk, hb⟩ := c.ex
  exact pe_call F hr hg hm hk hb .nil pass0 ha hdb he hpl
theorem pe_cal0 {X : Cx} {k : Nat} {x : Str} {ps : List Str} {sp : Sp} {p pos : Pos} (c : Cal X.prog X.w X.K X.mg X.base k x ps sp) (hr : Room k X.A) (hg : Gl X x := by rfl)
    (hdb : (x == ("__debug__" : Str)) = false := by decide) :
    PE X (.Call (.Name x p) [] [] pos) (tCall sp [] E0 tNil) := by
  obtain ⟨f, fd, F, hm, hk, hb⟩ := c.ex
  exact pe_call0 F hr hg hm hk hb .nil pass0 hdb
/-- C(..) -/
structure Mkc (P : Program) (w : World) (K : PySem.W.Frag) (mg : Str → Option Value) (base : Heap) (k : Nat) (C : Addr) (x : Str) (ps : List Str) (sp : Sp) : Prop where
  ex : ∃ (f : Addr) (fd : FuncData), Mk K C f ∧ FnOk P w K mg base CX0 k f fd ps sp ∧ mg x = some (.ref C) ∧ Binds K fd ps []
theorem pe_mkc {X : Cx} {k : Nat} {C : Addr} {x : Str} {ps : List Str} {sp : Sp} {e : Expr} {es : List Expr} {t : TA} {p pos : Pos} (c : Mkc X.prog X.w X.K X.mg X.base k C x ps sp) (hr : Room (k + 1) X.A) (ha : PA X (e :: es) t) (hg : Gl X x := by rfl)
    (hdb : (x == ("__debug__" : Str)) = false := by decide) (he : starEach (e :: es) X.env = (false, eval e X.env) :: starEach es X.env := by rfl) (hpl : (backTo pos (starEach es X.env)).any (·.1) = false := by rfl) :
    PE X (.Call (.Name x p) (e :: es) [] pos) (tMake C sp [] E0 t) := by
  obtain ⟨f, fd, M, F, hm, hb⟩ := c.ex
  exact pe_make M F hr hg hm hb .nil pass0 ha hdb he hpl
/-- a global that is a class or a def, as a value -/
theorem pe_globR {X : Cx} {x : Str} {C : Addr} {pos : Pos} (hm : X.mg x = some (.ref C)) (hg : Gl X x := by rfl) (hn : (x == ("__debug__" : Str)) = false := by decide) : PE X (.Name x pos) (tC (.ref C)) := by
  exact pe_glob hg hm rfl hn
/-- the built-ins that no name of the program hides -/
structure Bl (mg : Str → Option Value) : Prop where
  isinstance : mg "isinstance" = none
  len : mg "len" = none
  sorted : mg "sorted" = none
  min : mg "min" = none
  max : mg "max" = none
  all : mg "all" = none
  zip : mg "zip" = none
  range : mg "range" = none
  enumerate : mg "enumerate" = none
  int_ : mg "int" = none
  bool_ : mg "bool" = none
  str_ : mg "str" = none
  list_ : mg "list" = none
  tuple_ : mg "tuple" = none
end Bs

namespace Bs
open PySem PySem.Spec PyProof.Rows L2
/-! ## heaps: what never changes, all but one object -/
/-- tuples stay -/
def TK (H H' : Hp) : Prop := ∀ a xs, H a = some (.tup xs) → H' a = some (.tup xs)
theorem TK.rfl' {H : Hp} : TK H H := fun _ _ h => h
theorem TK.trans {H H1 H2 : Hp} (a : TK H H1) (b : TK H1 H2) : TK H H2 := fun x o h => b x o (a x o h)
theorem _root_.L2.Same.tk {H H' : Hp} (e : Same H H') : TK H H' := fun a xs h => e a _ h
theorem _root_.L2.Same.new {H : Hp} {p : Addr} {o : HO} (h : H p = none) : Same H (upd H p o) := fun a u e => by rw [upd_ne (ne_of_none e h)]; exact e
theorem _root_.L2.Same.new' {H H1 : Hp} {p : Addr} {o : HO} (x : Same H H1) (h : H1 p = none) : Same H (upd H1 p o) := x.trans (Same.new h)
/-- an object that H does not know may change -/
theorem _root_.L2.Same.mut {H H' : Hp} {p : Addr} {o : HO} (e : Same H H') (h : H p = none) : Same H (upd H' p o) := fun a u ha => by
  rw [upd_ne (ne_of_none ha h)]
  exact e a u ha
def isTupO : Option HO → Bool
  | some (.tup _) => true
  | _ => false
theorem TK.upd {H : Hp} {p : Addr} {o : HO} (h : isTupO (H p) = false) : TK H (L2.upd H p o) := fun a xs e => by
  have hn : a ≠ p := fun q => by rw [q] at e; rw [e] at h; cases h
  rw [upd_ne hn]; exact e
theorem tk_lst {H : Hp} {p : Addr} {o : HO} {xs : List V} (h : H p = some (.lst xs)) : TK H (L2.upd H p o) := TK.upd (by rw [h]; rfl)
theorem tk_new {H : Hp} {p : Addr} {o : HO} (h : H p = none) : TK H (L2.upd H p o) := TK.upd (by rw [h]; rfl)
/-- all but the object at T stay -/
def ExT (T : Addr) (H H' : Hp) : Prop := ∀ a o, a ≠ T → H a = some o → H' a = some o
theorem ExT.rfl' {T : Addr} {H : Hp} : ExT T H H := fun _ _ _ h => h
theorem ExT.trans {T : Addr} {H H1 H2 : Hp} (a : ExT T H H1) (b : ExT T H1 H2) : ExT T H H2 := fun x o n h => b x o n (a x o n h)
theorem _root_.L2.Same.exT {T : Addr} {H H' : Hp} (e : Same H H') : ExT T H H' := fun a o _ h => e a o h
theorem ExT.tk {T : Addr} {H H' : Hp} {l : List V} (e : ExT T H H') (h : H T = some (.lst l)) : TK H H' := fun a xs q => e a _ (ne_of q h (by intro z; cases z)) q
theorem ExT.upd {T : Addr} {H H1 : Hp} {o : HO} (e : ExT T H H1) : ExT T H (L2.upd H1 T o) := fun a u n h => by rw [upd_ne n]; exact e a u n h
theorem ExT.new {T p : Addr} {H H1 : Hp} {o : HO} (e : ExT T H H1) (h : H1 p = none) : ExT T H (L2.upd H1 p o) := fun a u n q => by
  have q' := e a u n q
  rw [upd_ne (ne_of_none q' h)]; exact q'
/-- one more object, unknown at first, that may change -/
theorem ExT.mut {T p : Addr} {H H1 : Hp} {o : HO} (e : ExT T H H1) (h : H p = none) : ExT T H (L2.upd H1 p o) := fun a u n q => by
  rw [upd_ne (ne_of_none q h)]; exact e a u n q
theorem ExT.free {T : Addr} {H H' : Hp} (e : ExT T H H') {l : Addr} (hl : l ≠ T) (h : H' l = none) : H l = none := by
  cases q : H l with
  | none => rfl
  | some o => rw [e l o hl q] at h; cases h
/-! ## pairs of ints -/
def PairAt (H : Hp) (v : V) (p : Int × Int) : Prop := ∃ a, v = .ref a ∧ H a = some (.tup [.int p.1, .int p.2])
theorem PairAt.tk {H H' : Hp} {v : V} {p : Int × Int} (e : TK H H') (h : PairAt H v p) : PairAt H' v p := let ⟨a, h1, h2⟩ := h; ⟨a, h1, e _ _ h2⟩
theorem PairAt.inj {H : Hp} {v : V} {p q : Int × Int} (h : PairAt H v p) (h' : PairAt H v q) : p = q := by
  obtain ⟨a, rfl, h2⟩ := h
  obtain ⟨b, e, h3⟩ := h'
  cases e
  rw [h2] at h3
  injection h3 with h3
  injection h3 with h3
  injection h3 with h4 h5
  injection h4 with h4
  injection h5 with h5
  injection h5 with h5
  exact Prod.ext h4 h5
abbrev Pairs (H : Hp) (xs : List V) (ps : List (Int × Int)) : Prop := Paired (PairAt H) xs ps
theorem Paired.imp' {α β : Type} {F G : α → β → Prop} : ∀ {l₁ : List α} {l₂ : List β}, Paired F l₁ l₂ → (∀ a b, F a b → G a b) → Paired G l₁ l₂
  | _, _, .nil, _ => .nil
  | _, _, .cons r t, f => .cons (f _ _ r) (Paired.imp' t f)
theorem Pairs.tk {H H' : Hp} {xs : List V} {ps : List (Int × Int)} (e : TK H H') (h : Pairs H xs ps) : Pairs H' xs ps := Paired.imp' h fun _ _ q => q.tk e
theorem Paired.get {α β : Type} {F : α → β → Prop} : ∀ {l₁ : List α} {l₂ : List β} {i : Nat} {a : α}, Paired F l₁ l₂ → l₁[i]? = some a → ∃ b, l₂[i]? = some b ∧ F a b
  | _, _, _, _, .nil, h => by simp at h
  | _, _, 0, _, .cons r _, h => by simp at h; subst h; exact ⟨_, by simp, r⟩
  | _, _, i + 1, a, .cons _ t, h => by
    obtain ⟨b, h1, h2⟩ := Paired.get (i := i) (a := a) t (by simpa using h)
    exact ⟨b, by simpa using h1, h2⟩
theorem Paired.len {α β : Type} {F : α → β → Prop} : ∀ {l₁ : List α} {l₂ : List β}, Paired F l₁ l₂ → l₁.length = l₂.length
  | _, _, .nil => rfl
  | _, _, .cons _ t => by simp [Paired.len t]
theorem Paired.app {α β : Type} {F : α → β → Prop} : ∀ {l₁ m₁ : List α} {l₂ m₂ : List β}, Paired F l₁ l₂ → Paired F m₁ m₂ → Paired F (l₁ ++ m₁) (l₂ ++ m₂)
  | _, _, _, _, .nil, h => h
  | _, _, _, _, .cons r t, h => .cons r (Paired.app t h)
/-- the pair that a value is -/
def pairOf (H : Hp) (v : V) : Int × Int := match v with
  | .ref a => match H a with
    | some (.tup [.int i, .int j]) => (i, j)
    | _ => (0, 0)
  | _ => (0, 0)
theorem pairOf_of {H : Hp} {v : V} {p : Int × Int} (h : PairAt H v p) : pairOf H v = p := by
  obtain ⟨a, rfl, h2⟩ := h
  unfold pairOf
  simp only [h2]
theorem pairs_map {H : Hp} : ∀ {xs : List V} {ps : List (Int × Int)}, Pairs H xs ps → xs.map (pairOf H) = ps
  | _, _, .nil => rfl
  | _, _, .cons r t => by rw [List.map_cons, pairOf_of r, pairs_map t]
theorem pairs_mem {H : Hp} : ∀ {xs : List V} {ps : List (Int × Int)}, Pairs H xs ps → ∀ x ∈ xs, PairAt H x (pairOf H x)
  | _, _, .nil, _, h => by simp at h
  | _, _, .cons r t, x, h => by
    rcases List.mem_cons.mp h with e | h
    · subst e; rw [pairOf_of r]; exact r
    · exact pairs_mem t x h
theorem pairs_self {H : Hp} : ∀ {xs : List V}, (∀ x ∈ xs, PairAt H x (pairOf H x)) → Pairs H xs (xs.map (pairOf H))
  | [], _ => .nil
  | x :: xs, h => .cons (h x (by simp)) (pairs_self fun y hy => h y (by simp [hy]))
/-- before, or the same -/
def le2 (p q : Int × Int) : Prop := p.1 < q.1 ∨ (p.1 = q.1 ∧ p.2 ≤ q.2)
def lt2 (p q : Int × Int) : Prop := p.1 < q.1 ∨ (p.1 = q.1 ∧ p.2 < q.2)
/-- sorted(xs), xs a list of pairs -/
theorem sorted_pairs {K : PySem.W.Frag} {H : Hp} {a : Addr} {xs : List V} {ps : List (Int × Int)} {Q : VK} (hs : SqL K H a xs) (hp : Pairs H xs ps)
    (k : ∀ p ys qs, H p = none → Pairs H ys qs → qs.Perm ps → qs.Pairwise le2 → Q (.ref p) (upd H p (.lst ys))) : rSortedPO K [.ref a] H Q := by
  refine ⟨a, xs, pairOf H, rfl, hs, fun x hx => pairs_mem hp x hx, fun ys p h1 h2 hn => ?_⟩
  have hm : ∀ y ∈ ys, PairAt H y (pairOf H y) := fun y hy => pairs_mem hp y (h2.perm.mem_iff.mp hy)
  refine k p ys (ys.map (pairOf H)) hn (pairs_self hm) ?_ ?_
  · rw [← pairs_map hp]
    exact h2.perm.map _
  · refine List.pairwise_map.mpr (h1.imp fun {x y} h => ?_)
    have h' := SrtO.lexB_no.mp h
    unfold le2
    omega
theorem sorted_post {H : Hp} {xs ys : List V} {ps : List (Int × Int)} (hp : Pairs H xs ps) (h1 : SrtO.Srtd (ltP (pairOf H)) ys) (h2 : SrtO.Stb (ltP (pairOf H)) ys xs) : ∃ qs, Pairs H ys qs ∧ qs.Perm ps ∧ qs.Pairwise le2 := by
  have hm : ∀ y ∈ ys, PairAt H y (pairOf H y) := fun y hy => pairs_mem hp y (h2.perm.mem_iff.mp hy)
  refine ⟨ys.map (pairOf H), pairs_self hm, ?_, ?_⟩
  · rw [← pairs_map hp]
    exact h2.perm.map _
  · refine List.pairwise_map.mpr (h1.imp fun {x y} h => ?_)
    have h' := SrtO.lexB_no.mp h
    unfold le2
    omega
/-! ## comprehensions -/
theorem lc_data {J : It} {n : Nat} {G : Hp → Prop} {Y : Nat → Hp → V → Hp → Prop} (w : Walk J n G Y) {α : Type} (as : List α) (hn : as.length = n) (f : α → Bool) (P : Hp → V → α → Prop) (hP : ∀ H H' v a, TK H H' → P H v a → P H' v a)
    {g : TG} {tt : TT} {te : TE} {vs : List Nat} {σ : L2.St} {H1 : Hp} {D : Addr} {Qd : Hp → Prop} (hD : H1 D = none) (hG : ∀ H', Same H1 H' → G H') (hsz : as.length < sizeLine)
    (hs : ∀ i a x H H' (Ny : V → Hp → Prop) (Nn : Hp → Prop), as[i]? = some a → Same H1 H → Y i H x H' →
      (∀ y H4, f a = true → Same H' H4 → P H4 y a → Ny y H4) → (∀ H3, f a = false → Same H' H3 → Nn H3) →
      g x (wipe σ vs) H' fun σ2 H2 => wipe σ2 vs = wipe σ vs ∧ tt σ2 H2 fun b H3 => if b = true then te σ2 H3 fun y H4 => Ny y H4 else Nn H3)
    (hY : ∀ i H x H', H D = some (.lst []) ∨ True → Y i H x H' → Same H H')
    (hd : ∀ ys H', Same H1 H' → H' D = some (.lst ys) → Paired (P H') ys (as.filter f) → Qd H') :
    ∃ W : Nat → Nat → Hp → Prop, (∃ m, W 0 m (upd H1 D (.lst []))) ∧ ∀ i m H, W i m H →
      (J.stop i H ∧ Qd H) ∨ (J.go i H ∧ ∃ Nx : Hp → Prop, (∀ H', Nx H' → ∃ m', m' < m ∧ W (i + 1) m' H') ∧ ∀ x H', J.yld i H x H' → g x (wipe σ vs) H' fun σ2 H2 => wipe σ2 vs = wipe σ vs ∧ tt σ2 H2 fun b H3 =>
        if b = true then te σ2 H3 fun y H4 => ∃ acc, H4 D = some (.lst acc) ∧ acc.length < sizeLine ∧ Nx (upd H4 D (.lst (acc ++ [y]))) else Nx H3) := by
  refine lc_it w (Pv := fun i H => Same H1 H ∧ ∃ ys, H D = some (.lst ys) ∧ Paired (P H) ys ((as.take i).filter f)) ⟨L2.Same.new hD, [], upd_same, by simp; exact .nil⟩ (fun i H hi p => hG H p.1) ?_ ?_
  · intro i x H H' hi p hy
    obtain ⟨e1, ys, hys, hpr⟩ := p
    have hi' : i < as.length := by omega
    have ha : as[i]? = some as[i] := List.getElem?_eq_getElem hi'
    have eY := hY i H x H' (.inr trivial) hy
    have htk : (as.take (i + 1)).filter f = (as.take i).filter f ++ [as[i]].filter f := by
      rw [List.take_succ, ha, List.filter_append]; rfl
    have hlen : ys.length ≤ i := by
      have := Paired.len hpr
      have h2 := List.length_filter_le f (as.take i)
      have h3 := List.length_take_le i as
      omega
    refine hs i as[i] x H H' _ _ ha e1 hy ?_ ?_
    · intro y H4 hf e4 hPy
      refine ⟨ys, e4 _ _ (eY _ _ hys), by omega, ?_, _, upd_same, ?_⟩
      · exact Same.mut (e1.trans (eY.trans e4)) hD
      · rw [htk, List.filter_cons, if_pos hf]
        refine Paired.app (Paired.imp' hpr fun v a q => hP _ _ _ _ ?_ q) (.cons (hP _ _ _ _ ?_ hPy) .nil)
        · exact (Same.tk (eY.trans e4)).trans (tk_lst (e4 _ _ (eY _ _ hys)))
        · exact tk_lst (e4 _ _ (eY _ _ hys))
    · intro H3 hf e3
      refine ⟨e1.trans (eY.trans e3), ys, e3 _ _ (eY _ _ hys), ?_⟩
      rw [htk, List.filter_cons, if_neg (by simp [hf])]
      simp only [List.filter_nil, List.append_nil]
      exact Paired.imp' hpr fun v a q => hP _ _ _ _ (Same.tk (eY.trans e3)) q
  · intro H p
    obtain ⟨e1, ys, hys, hpr⟩ := p
    rw [← hn, List.take_length] at hpr
    exact hd ys H e1 hys hpr
theorem yes_if {σ : L2.St} {H : Hp} {A B : Hp → Prop} (h : A H) : tYes σ H (fun b H3 => if b = true then A H3 else B H3) := by
  show (if true = true then A H else B H)
  exact iteT h
theorem yat_same {xs : List V} {i : Nat} {H H' : Hp} {x : V} (h : YAt xs i H x H') : Same H H' := by rw [h.1]; exact Same.refl H
theorem ypair_same {xs ys : Nat → Option V} {i : Nat} {H H' : Hp} {x : V} (h : YPair xs ys i H x H') : Same H H' := by
  obtain ⟨T, x, y, _, h2, h3, _⟩ := h
  rw [h3]; exact Same.new h2
/-! ## the tape -/
structure Tape where
  ns : List Int
  i1 : Int
  i2 : Int
  i3 : Int
  i4 : Int
def Tp (H : Hp) (T L : Addr) : Prop := ∃ t : Tape, H T = some (.lst [.ref L, .int t.i1, .int t.i2, .int t.i3, .int t.i4]) ∧ H L = some (.lst (t.ns.map V.int)) ∧ L ≠ T ∧ 0 ≤ t.i1 ∧ 0 ≤ t.i3 ∧ t.i3 < 2147483648
theorem Tp.ext {T L : Addr} {H H' : Hp} (h : Tp H T L) (e : Same H H') : Tp H' T L := by
  obtain ⟨t, h1, h2, h3⟩ := h
  exact ⟨t, e _ _ h1, e _ _ h2, h3⟩
theorem Tp.lst {T L : Addr} {H : Hp} (h : Tp H T L) : ∃ l, H T = some (.lst l) := let ⟨t, h1, _⟩ := h; ⟨_, h1⟩
theorem Tp.lst2 {T L : Addr} {H : Hp} (h : Tp H T L) : ∃ l, H L = some (.lst l) := let ⟨t, _, h1, _⟩ := h; ⟨_, h1⟩
theorem Tp.tk {T L : Addr} {H H' : Hp} (h : Tp H T L) (e : ExT T H H') : TK H H' := let ⟨_, q⟩ := h.lst; e.tk q
/-- another object changes -/
theorem Tp.upd {T L p : Addr} {H : Hp} {o : HO} (h : Tp H T L) (h1 : p ≠ T) (h2 : p ≠ L) : Tp (L2.upd H p o) T L := by
  obtain ⟨t, a1, a2, a3⟩ := h
  exact ⟨t, by rw [upd_ne h1.symm]; exact a1, by rw [upd_ne h2.symm]; exact a2, a3⟩
theorem Tp.neT {T L p : Addr} {H : Hp} (h : Tp H T L) (hp : H p = none) : p ≠ T := fun q => by
  obtain ⟨l, h1⟩ := h.lst
  rw [← q, hp] at h1; cases h1
theorem Tp.neL {T L p : Addr} {H : Hp} (h : Tp H T L) (hp : H p = none) : p ≠ L := fun q => by
  obtain ⟨l, h1⟩ := h.lst2
  rw [← q, hp] at h1; cases h1
/-- what a draw promises -/
def spPick : Sp := fun vs H Q _ => ∃ (T L : Addr) (m : Int), vs = [.ref T, .int m] ∧ 0 < m ∧ m < 1073741824 ∧ Tp H T L ∧ ∀ r H', 0 ≤ r → r < m → ExT T H H' → Tp H' T L → Q (.int r) H'
end Bs

namespace Bs
open PySem PySem.Spec PyProof.Rows L2
/-! ## bits -/
theorem and_pp (x y : Nat) : Builtin.bitAnd (x : Int) (y : Int) = ((x &&& y : Nat) : Int) := by
  unfold Builtin.bitAnd
  rw [decide_eq_true (Int.natCast_nonneg x), decide_eq_true (Int.natCast_nonneg y)]
  simp
theorem or_pp (x y : Nat) : Builtin.bitOr (x : Int) (y : Int) = ((x ||| y : Nat) : Int) := by
  rw [Bits.bitOr_pp (Int.natCast_nonneg x) (Int.natCast_nonneg y)]; simp
theorem xor_pp (x y : Nat) : Builtin.bitXor (x : Int) (y : Int) = ((x ^^^ y : Nat) : Int) := by
  rw [Bits.bitXor_pp (Int.natCast_nonneg x) (Int.natCast_nonneg y)]; simp
/-- one bit less -/
def clr (x k : Nat) : Nat := x - (x &&& 2 ^ k)
theorem and_pow (x k : Nat) : x &&& 2 ^ k = if x.testBit k = true then 2 ^ k else 0 := by
  apply Nat.eq_of_testBit_eq
  intro j
  rw [Nat.testBit_and, Nat.testBit_two_pow]
  by_cases h : k = j
  · subst h
    cases hb : x.testBit k <;> simp
  · cases hb : x.testBit k <;> simp [h, Nat.testBit_two_pow]
theorem clr_bit (x k j : Nat) : (clr x k).testBit j = (x.testBit j && !decide (j = k)) := by
  unfold clr
  rw [and_pow]
  cases hb : x.testBit k with
  | false =>
    simp only [Bool.false_eq_true, if_false, Nat.sub_zero]
    by_cases h : j = k
    · subst h; simp [hb]
    · simp [h]
  | true =>
    rw [if_pos rfl]
    have h1 : x = 2 ^ (k + 1) * (x / 2 ^ (k + 1)) + x % 2 ^ (k + 1) := (Nat.div_add_mod x _).symm
    have hr : x % 2 ^ (k + 1) < 2 ^ (k + 1) := Nat.mod_lt _ (Nat.pow_pos (by decide))
    generalize x / 2 ^ (k + 1) = a at h1
    generalize x % 2 ^ (k + 1) = r at h1 hr
    have hrk : r.testBit k = true := by
      rw [h1, Nat.testBit_two_pow_mul_add _ hr, if_pos (Nat.lt_succ_self k)] at hb
      exact hb
    have hge : 2 ^ k ≤ r := by
      rcases Nat.lt_or_ge r (2 ^ k) with h | h
      · rw [Nat.testBit_lt_two_pow h] at hrk; cases hrk
      · exact h
    have hp : 2 ^ (k + 1) = 2 ^ k + 2 ^ k := by rw [Nat.pow_succ]; omega
    have hb' : r - 2 ^ k < 2 ^ k := by omega
    have hb2 : r - 2 ^ k < 2 ^ (k + 1) := by omega
    have e1 : x - 2 ^ k = 2 ^ (k + 1) * a + (r - 2 ^ k) := by omega
    have e2 : r = 2 ^ k * 1 + (r - 2 ^ k) := by omega
    rw [e1, Nat.testBit_two_pow_mul_add _ hb2]
    conv => rhs; rw [h1]
    rw [Nat.testBit_two_pow_mul_add _ hr]
    by_cases c : j < k + 1
    · rw [if_pos c, if_pos c]
      conv => rhs; rw [e2]
      rw [Nat.testBit_two_pow_mul_add _ hb']
      by_cases d : j < k
      · rw [if_pos d]; simp [show j ≠ k by omega]
      · have : j = k := by omega
        subst this
        rw [if_neg d, Nat.testBit_lt_two_pow hb']
        simp
    · rw [if_neg c, if_neg c]; simp [show j ≠ k by omega]
theorem bitNot_pow (k : Nat) : Builtin.bitNot ((2 : Int) ^ k) = -(2 ^ k) - 1 := rfl
theorem two_pow_pos (k : Nat) : (0 : Int) < 2 ^ k := Int.pow_pos (by decide)
theorem and_not (x k : Nat) : Builtin.bitAnd (x : Int) (Builtin.bitNot ((2 : Int) ^ k)) = ((clr x k : Nat) : Int) := by
  have h2 := two_pow_pos k
  unfold Builtin.bitAnd
  rw [decide_eq_true (Int.natCast_nonneg x), decide_eq_false (show ¬ 0 ≤ Builtin.bitNot ((2 : Int) ^ k) by rw [bitNot_pow]; omega)]
  show (x : Int) - (((x : Int).toNat &&& (Builtin.bitNot (Builtin.bitNot ((2 : Int) ^ k))).toNat : Nat) : Int) = _
  have e : (Builtin.bitNot (Builtin.bitNot ((2 : Int) ^ k))).toNat = 2 ^ k := by
    have : Builtin.bitNot (Builtin.bitNot ((2 : Int) ^ k)) = ((2 ^ k : Nat) : Int) := by
      unfold Builtin.bitNot
      rw [Int.natCast_pow]
      show -(-(2 : Int) ^ k - 1) - 1 = 2 ^ k
      omega
    rw [this]; exact Int.toNat_natCast _
  rw [e]
  unfold clr
  have hle : x &&& 2 ^ k ≤ x := Nat.and_le_left
  have e3 : ((x : Int).toNat &&& 2 ^ k) = x &&& 2 ^ k := by simp
  rw [e3]
  omega
/-- the lowest bit -/
theorem low_ex {n : Nat} (h : n ≠ 0) : ∃ k, n.testBit k = true ∧ ∀ j, j < k → n.testBit j = false := by
  obtain ⟨i, hi⟩ := Nat.exists_testBit_of_ne_zero h
  induction i using Nat.strongRecOn with
  | ind i ih =>
    by_cases c : ∃ j, j < i ∧ n.testBit j = true
    · obtain ⟨j, hj, hb⟩ := c
      exact ih j hj hb
    · refine ⟨i, hi, fun j hj => ?_⟩
      cases hb : n.testBit j with
      | false => rfl
      | true => exact absurd ⟨j, hj, hb⟩ c
theorem low_is {n k : Nat} (h1 : n.testBit k = true) (h2 : ∀ j, j < k → n.testBit j = false) : Builtin.bitAnd (n : Int) (-(n : Int)) = 2 ^ k := by
  have hn : n ≠ 0 := fun e => by rw [e] at h1; simp at h1
  have hm : n % 2 ^ k = 0 := by
    apply Nat.eq_of_testBit_eq
    intro j
    rw [Nat.testBit_mod_two_pow]
    by_cases c : j < k
    · rw [h2 j c]; simp
    · simp [c]
  have e1 : n = 2 ^ k * (n / 2 ^ k) := by
    have := Nat.div_add_mod n (2 ^ k)
    omega
  generalize hc : n / 2 ^ k = c at e1
  have hodd : c.testBit 0 = true := by
    rw [e1, Nat.testBit_two_pow_mul] at h1
    simpa using h1
  have hodd2 : c % 2 = 1 := by simpa using hodd
  obtain ⟨m, hm2⟩ : ∃ m, c = 2 * m + 1 := ⟨c / 2, by omega⟩
  have hp : 0 < 2 ^ k := Nat.pow_pos (by decide)
  have e2 : n - 1 = 2 ^ k * (2 * m) + (2 ^ k - 1) := by
    have : 2 ^ k * c = 2 ^ k * (2 * m) + 2 ^ k := by rw [hm2, Nat.mul_add, Nat.mul_one]
    omega
  have e3 : n &&& (n - 1) = clr n k := by
    apply Nat.eq_of_testBit_eq
    intro j
    rw [Nat.testBit_and, clr_bit]
    conv => lhs; rhs; rw [e2]
    rw [Nat.testBit_two_pow_mul_add _ (show 2 ^ k - 1 < 2 ^ k by omega)]
    by_cases c1 : j < k
    · rw [if_pos c1, h2 j c1]; simp
    · rw [if_neg c1]
      by_cases c2 : j = k
      · subst c2; simp
      · have e4 : n.testBit j = (2 * m + 1).testBit (j - k) := by
          rw [e1, hm2, Nat.testBit_two_pow_mul]
          simp [show k ≤ j by omega]
        rw [e4]
        obtain ⟨i, hi⟩ : ∃ i, j - k = i + 1 := ⟨j - k - 1, by omega⟩
        rw [hi, Nat.testBit_succ, Nat.testBit_succ]
        have a1 : (2 * m + 1) / 2 = m := by omega
        have a2 : 2 * m / 2 = m := by omega
        rw [a1, a2]
        simp [c2]
  unfold Builtin.bitAnd
  rw [decide_eq_true (Int.natCast_nonneg n), decide_eq_false (show ¬ 0 ≤ -(n : Int) by omega)]
  show (n : Int) - (((n : Int).toNat &&& (Builtin.bitNot (-(n : Int))).toNat : Nat) : Int) = _
  have e5 : (Builtin.bitNot (-(n : Int))).toNat = n - 1 := by unfold Builtin.bitNot; omega
  have e6 : ((n : Int).toNat &&& (n - 1)) = clr n k := by rw [Int.toNat_natCast]; exact e3
  rw [e5, e6]
  unfold clr
  rw [and_pow, if_pos h1]
  have hle : 2 ^ k ≤ n := by
    have := Nat.and_le_left (n := n) (m := 2 ^ k)
    rw [and_pow, if_pos h1] at this
    exact this
  have e7 : ((2 : Int) ^ k) = ((2 ^ k : Nat) : Int) := by rw [Int.natCast_pow]; rfl
  rw [e7]
  omega
theorem xor_low {n k : Nat} (h1 : n.testBit k = true) : n ^^^ 2 ^ k = clr n k := by
  apply Nat.eq_of_testBit_eq
  intro j
  rw [Nat.testBit_xor, clr_bit, Nat.testBit_two_pow]
  by_cases c : k = j
  · subst c; simp [h1]
  · simp [c, show j ≠ k from fun e => c e.symm]
theorem clr_lt {n k : Nat} (h1 : n.testBit k = true) : clr n k < n := by
  unfold clr
  rw [and_pow, if_pos h1]
  have hp : 0 < 2 ^ k := Nat.pow_pos (by decide)
  have hle : 2 ^ k ≤ n := by
    have := Nat.and_le_left (n := n) (m := 2 ^ k)
    rw [and_pow, if_pos h1] at this
    exact this
  omega
theorem bits_pow (k : Nat) : Builtin.Int.intBits ((2 : Int) ^ k) = k + 1 := by
  have h1 := natAbs_lt_pow_bits ((2 : Int) ^ k)
  have e : ((2 : Int) ^ k).natAbs = 2 ^ k := by rw [Int.natAbs_pow]; rfl
  rw [e] at h1
  have h2 : Builtin.Int.intBits ((2 : Int) ^ k) ≤ k + 1 := intBits_le (by rw [e, Nat.pow_succ]; have := Nat.pow_pos (n := k) (show 0 < 2 by decide); omega)
  have h3 : k < Builtin.Int.intBits ((2 : Int) ^ k) := (Nat.pow_lt_pow_iff_right (by decide)).mp h1
  omega
/-! ## rules -/
section
variable {X : Cx}
theorem ip_or : PIp X .BitOr (rI0 fun i j => .int (Builtin.bitOr i j)) := fun pins s σ H x y v u Q I rx ry h => iop_or pins s σ H x y v u Q I rx ry h
theorem ip_xor : PIp X .BitXor (rI0 fun i j => .int (Builtin.bitXor i j)) := fun pins s σ H x y v u Q I rx ry h => iop_xor pins s σ H x y v u Q I rx ry h
/-- xs[i] read, ahead of xs[i] op= e -/
def gGetL (K : PySem.W.Frag) : V → V → Hp → VK → Prop := fun o i H Q => ∃ p xs k v, o = .ref p ∧ i = .int k ∧ SqL K H p xs ∧ 0 ≤ k ∧ xs[k.toNat]? = some v ∧ Q v H
theorem get_listP : PGet X (gGetL X.K) := by
  intro pins s σ H o i ov iv Q I ro ri h
  obtain ⟨p, xs, k, v, rfl, rfl, hs, h0, hv, q⟩ := h
  cases ro
  obtain ⟨t, rfl⟩ := ri
  obtain ⟨its, r, pl, hz⟩ := I.list hs
  obtain ⟨u, hu, ru⟩ := r.get hv
  have hl := r.length
  have hk : k.toNat < xs.length := (List.getElem?_eq_some_iff.mp hv).1
  have hn := line63
  exact wpAny_getItem_list pl.isList h0 (by omega) (by simpa using hu) ⟨v, H, I, ru, q⟩
/-- a thing that is in no place of a tuple of data -/
def rNotInT (K : PySem.W.Frag) : R2 := fun x y H Q => ∃ d ds, Dp K H x d ∧ Dp K H y (.tuple ds) ∧ SeqAt.shaped d = true ∧ SeqAt.shaped (.list ds) = true ∧ SeqAt.shaped (.tuple ds) = true ∧ Q (.bl (!ds.any fun z => PyData.eqv z d)) H
def rInT (K : PySem.W.Frag) : R2 := fun x y H Q => ∃ d ds, Dp K H x d ∧ Dp K H y (.tuple ds) ∧ SeqAt.shaped d = true ∧ SeqAt.shaped (.list ds) = true ∧ SeqAt.shaped (.tuple ds) = true ∧ Q (.bl (ds.any fun z => PyData.eqv z d)) H
theorem op_inT (hu : X.A.units + 65 < cLine) : OpR X (compareOp .In) (rInT X.K) := by
  intro pins s σ H x y v u Q I rx ry ⟨d, ds, hd, he, sd, sl, se, q⟩
  obtain ⟨as, r1⟩ := Dp.reads I d x v hd rx
  obtain ⟨bs, r2⟩ := Dp.reads I (.tuple ds) y u he ry
  exact SeqAt.in_tuple_reads r2 r1 (by have := SeqAt.canLay_of_shaped sl; exact this) (SeqAt.canLay_of_shaped sd) (room_in_shaped sd hu) ⟨.bl _, H, I, rfl, q⟩
theorem op_notInT (hu : X.A.units + 65 < cLine) : OpR X (compareOp .NotIn) (rNotInT X.K) := by
  intro pins s σ H x y v u Q I rx ry ⟨d, ds, hd, he, sd, sl, se, q⟩
  obtain ⟨as, r1⟩ := Dp.reads I d x v hd rx
  obtain ⟨bs, r2⟩ := Dp.reads I (.tuple ds) y u he ry
  exact SeqAt.notIn_tuple_reads r2 r1 (by have := SeqAt.canLay_of_shaped sl; exact this) (SeqAt.canLay_of_shaped sd) (room_in_shaped sd hu) ⟨.bl _, H, I, rfl, q⟩
end
end Bs

namespace Bs
open PySem PySem.Spec PyProof.Rows L2 HT
/-! ## t[::-1], t a tuple -/
theorem fm_congr {α β : Type} {f g : α → Option β} : ∀ {l : List α}, (∀ x ∈ l, f x = g x) → l.filterMap f = l.filterMap g
  | [], _ => rfl
  | a :: l, h => by rw [List.filterMap_cons, List.filterMap_cons, h a (by simp), fm_congr fun x hx => h x (by simp [hx])]
theorem rev_all {α : Type} (xs : Array α) : (List.range xs.size).filterMap (fun m : Nat => xs[(((xs.size : Int) - 1) + (m : Int) * -1).toNat]?) = xs.toList.reverse := by
  rw [← PySem.W.krv_all xs, ← List.filterMap_reverse, ← PySem.W.krv_range, List.filterMap_map]
  refine fm_congr fun m hm => ?_
  have := List.mem_range.mp hm
  show _ = xs[xs.size - 1 - m]?
  congr 1
  omega
section
variable {prog : Program} {w : World} {A : Around} {E : Value → Shared → Prop} {s : Shared}
theorem sliceApplied_rev {sl : Addr} {tk : Tok} {n : Nat} {Q : Int × Int × Nat → Shared → Prop} (hs : s.heap.IsSliceOf sl .none .none (.int (-1) tk))
    (h : Q ((n : Int) - 1, -1, n) s) : wpAny (model prog w) A (Builtin.Slice.sliceApplied (.ref sl) (pure (n : Int))) Q E s := by
  obtain ⟨os, hos, hcs, hds⟩ := id hs
  unfold Builtin.Slice.sliceApplied Builtin.Slice.sliceFields
  refine wpAny_bind (wpAny_bind (wpAny_field hos hds (x := .none) rfl (wpAny_bind (wpAny_field hos hds (x := .none) rfl (wpAny_bind (wpAny_field hos hds (x := .int (-1) tk) rfl (wpAny_pure ?_)))))))
  refine wpAny_bind (slicePart_ (.int (-1) tk) ?_)
  show wpAny _ _ (if ((-1 : Int) == 0) = true then _ else _) _ _ s
  rw [if_neg (by decide)]
  refine wpAny_bind (slicePart_none (wpAny_bind (slicePart_none (wpAny_bind (wpAny_pure ?_)))))
  show wpAny _ _ (pure ((n : Int) - 1, (-1 : Int), Builtin.Slice.slicePlaces ((n : Int) - 1) (-1) (-1))) _ _ s
  have e : Builtin.Slice.slicePlaces ((n : Int) - 1) (-1) (-1) = n := by
    show (if (-1 : Int) > 0 then _ else if (n : Int) - 1 > -1 then ((n : Int) - 1 - -1 - 1) / - -1 + 1 else 0).toNat = n
    rw [if_neg (by decide)]
    by_cases h : (n : Int) - 1 > -1
    · rw [if_pos h, show (- -1 : Int) = 1 by decide, Int.ediv_one]; omega
    · rw [if_neg h]; omega
  rw [e]
  exact wpAny_pure h
theorem getItem_tuple_rev {t sl : Addr} {items : Array Value} {tk : Tok} {Q : Value → Shared → Prop} (ht : IsTup s.heap t items) (hs : s.heap.IsSliceOf sl .none .none (.int (-1) tk))
    (h : Q (.ref s.heap.objs.size) { s with heap := s.heap.push { cls := .type "tuple", data := .seq items.toList.reverse.toArray } })
    (hsz : items.size ≤ sizeLine) : wpAny (model prog w) A (getItem (.ref t) (.ref sl)) Q E s := by
  have hok : sizeOk (.seq items.toList.reverse.toArray) := by
    show items.toList.reverse.toArray.size ≤ sizeLine
    rw [List.size_toArray, List.length_reverse, Array.length_toList]
    exact hsz
  obtain ⟨os, hos, hcs, hds⟩ := id hs
  have hTs : s.TypeIs (.ref sl) "slice" := ⟨os, hos, hcs⟩
  unfold getItem
  try with_reducible refine wpAny_holding ?_
  first | refine wpAny_bind (wpAny_pure ?_) | skip
  refine wpAny_bind (wpAny_sequenceKey ht.typeIs (by decide) ?_)
  refine wpAny_bind (wpAny_callSpecial?_slot (name := Str.ofString "__getitem__") ht.typeIs PyProof.Rows.slot_tuple_getitem
    (wpAny_call_entry PyProof.Rows.slot_tuple_getitem ht.typeIs entry_tuple_getitem ?_ (args_tuple_getitem _ _)))
  show wpAny _ _ (Builtin.Tuple.tupleItemsOf (.ref t) >>= _) _ _ s
  refine wpAny_bind (tupleItemsOf_ ht ?_)
  refine wpAny_bind (wpAny_typeOf hTs ?_)
  rw [if_pos (by decide)]
  refine wpAny_bind (sliceApplied_rev hs ?_)
  have hno : ¬ ((((items.size : Int) - 1) == 0 && (-1 : Int) == 1 && items.size == items.size) = true) := by
    intro q
    rw [Bool.and_eq_true, Bool.and_eq_true] at q
    exact absurd q.1.2 (by decide)
  show wpAny _ _ (if (((items.size : Int) - 1) == 0 && (-1 : Int) == 1 && items.size == items.size) = true then _ else _) _ _ s
  rw [if_neg hno, rev_all]
  first
    | exact wpAny_bind (m := Builtin.Tuple.tupleExact _) (wpAny_newObj_type (wpAny_pure ⟨_, rfl, wpAny_pure h⟩) hok)
    | exact wpAny_bind (m := Builtin.Tuple.tupleExact _) (wpAny_newObj_type (wpAny_bind (wpAny_pure (wpAny_pure ⟨_, rfl, wpAny_pure h⟩))) hok)
    | exact wpAny_bind (wpAny_bind (m := Builtin.Tuple.tupleExact _) (wpAny_newObj_type (wpAny_pure (wpAny_pure ⟨_, rfl, wpAny_pure h⟩)) hok))
    | exact wpAny_bind (wpAny_bind (m := Builtin.Tuple.tupleExact _) (wpAny_newObj_type (wpAny_pure ⟨_, rfl, wpAny_pure h⟩) hok))
end
def tRevT (K : PySem.W.Frag) (te : TE) : TE := fun σ H Q => te σ H fun x H1 => ∃ a xs, x = .ref a ∧ SqT K H1 a xs ∧ ∀ p, H1 p = none → Q (.ref p) (upd H1 p (.tup xs.reverse))
theorem pe_revT {X : Cx} {e : Expr} {te : TE} {k : Nat} {p1 p2 p3 pos : Pos} (he : PE X e te) : PE X (.Subscript e (.Slice none none (some (.UnaryOp .USub (.Constant (.int 1) k p1) p2)) p3) pos) (tRevT X.K te) := by
  refine ⟨fun pins s σ H Q I h => ?_⟩
  refine Subscript_ (thn (he.run pins s σ H _ I h) fun v s1 ⟨x, H1, I1, r1, q1⟩ => ?_)
  obtain ⟨a, xs, ex, hx, q⟩ := q1
  subst ex
  cases r1
  have hst : PO X (some (.UnaryOp .USub (.Constant (.int 1) k p1) p2)) (tPart (tUn (rU fun i => .int (-i)) (tC (.int 1)))) := po_some (pe_un un_neg pe_int)
  refine wpAny_Slice (thn (po_none.run pins s1 σ H1 (fun o H2 => o = none ∧ H2 = H1) I1 ⟨rfl, rfl⟩) fun vl s2 ⟨l, H2, I2, pl, el, e2⟩ => ?_)
  subst el e2
  refine thn (po_none.run pins s2 σ H2 (fun o H3 => o = none ∧ H3 = H2) I2 ⟨rfl, rfl⟩) fun vu s3 ⟨u, H3, I3, pu, eu, e3⟩ => ?_
  subst eu e3
  refine thn (hst.run pins s3 σ H3 (fun o H4 => o = some (-1) ∧ H4 = H3) I3 ⟨1, rfl, -1, rfl, rfl, rfl⟩) fun vs s4 ⟨o, H4, I4, ps, eo, e4⟩ => ?_
  subst eo e4
  cases pl
  cases pu
  obtain ⟨tk, ev⟩ : ∃ tk, vs = .int (-1) tk := by
    cases ps with
    | int i t => exact ⟨t, rfl⟩
  subst ev
  have I5 : Inv X pins σ H4 { s4 with heap := s4.heap.push { cls := .type "slice", data := .fields #[.none, .none, .int (-1) tk] } } := I4.kept (t' := s4.toks) fun b ob q => Heap.get?_push_of_some _ q
  obtain ⟨its, r, ht, hz⟩ := I5.tuple hx
  have hlen := r.length
  show wpAny (model X.prog X.w) X.A (subscriptTail e (.Slice none none (some (.UnaryOp .USub (.Constant (.int 1) k p1) p2)) p3) (.ref a) (.ref s4.heap.objs.size)) (EP X pins σ Q) X.xe { s4 with heap := s4.heap.push { cls := .type "slice", data := .fields #[.none, .none, .int (-1) tk] } }
  refine tail_any (ops := [.ref a, .ref s4.heap.objs.size]) ht.typeIs (PyProof.Rows.slot_tuple_getitem.lookup) ?_ (by with_unfolding_all rfl)
  refine getItem_tuple_rev ht (Heap.IsSliceOf.new _ .none .none (.int (-1) tk)) ?_ (by rw [List.size_toArray]; omega)
  refine ⟨.ref _, _, I5.laid (t' := s4.toks) (o := .tup xs.reverse) (fun b ob q => Heap.get?_push_of_some _ q) (Nat.le_refl _) ?_, rfl, q _ (I5.hok.fresh (Nat.le_refl _))⟩
  exact ⟨by rw [List.length_reverse]; exact hz, _, r.reverse, ⟨_, Heap.get?_push_size _ rfl, rfl, _, rfl⟩⟩
/-! ## things of any kind -/
/-- the type of a thing, as far as isinstance asks for it -/
def Typ (K : PySem.W.Frag) (H : Hp) (v : V) (c : String) (b : Bool) : Prop := ∃ t, TyX K H v t ∧ PySem.W.kitOne K t (.type c) = some b
/-- an int, a flag, or neither -/
inductive Item (K : PySem.W.Frag) (H : Hp) : V → Prop where
  | int (i : Int) : Item K H (.int i)
  | bl (b : Bool) : Item K H (.bl b)
  | els {v : V} (h : Typ K H v "int" false) (h1 : ∀ i, v ≠ .int i) : Item K H v
def isI : V → Bool
  | .int _ => true
  | _ => false
def inI (a b : Int) : V → Bool
  | .int i => decide (a ≤ i ∧ i ≤ b)
  | _ => false
theorem TyX.same {K : PySem.W.Frag} {H H' : Hp} {v : V} {t : Value} (hk : ∀ a xs, H a = some (.tup xs) → H' a = some (.tup xs)) (h : TyX K H v t) (hl : ∀ a xs, v = .ref a → H a = some (.lst xs) → ∃ ys, H' a = some (.lst ys)) (ho : ∀ a o, v = .ref a → H a = some o → isTupO (some o) = false → (∀ xs, o ≠ .lst xs) → H' a = some o) : TyX K H' v t := by
  cases h with
  | base b =>
    cases b with
    | non => exact .base .non
    | bl x => exact .base (.bl x)
    | int x => exact .base (.int x)
    | str x => exact .base (.str x)
    | flt x => exact .base (.flt x)
    | @lst a xs e => obtain ⟨ys, h⟩ := hl a xs rfl e; exact .base (.lst h)
    | @frz a o xs e => exact .base (.frz (ho a _ rfl e rfl (fun _ => HO.noConfusion)))
    | @tup a xs e => exact .base (.tup (hk _ _ e))
    | @dK a kvs e => exact .base (.dK (ho a _ rfl e rfl (fun _ => HO.noConfusion)))
    | @dT a kvs e => exact .base (.dT (ho a _ rfl e rfl (fun _ => HO.noConfusion)))
    | @ins a C dx fs e cl ha hn htk hm => exact .base (.ins (ho a _ rfl e rfl (fun _ => HO.noConfusion)) cl ha hn htk hm)
  | byt b => exact .byt b
  | @set a S n e => exact .set (ho a _ rfl e rfl (fun _ => HO.noConfusion))
  | kList e c => exact .kList e c
  | kTuple e c => exact .kTuple e c
  | kDict e c => exact .kDict e c
  | @fTuple a o xs e => exact .fTuple (ho a _ rfl e rfl (fun _ => HO.noConfusion))
  | @fDict a o kvs e => exact .fDict (ho a _ rfl e rfl (fun _ => HO.noConfusion))
theorem TyX.ext {K : PySem.W.Frag} {H H' : Hp} {v : V} {t : Value} (h : TyX K H v t) (e : Same H H') : TyX K H' v t :=
  TyX.same (fun a xs q => e _ _ q) h (fun a xs _ q => ⟨xs, e _ _ q⟩) (fun a o _ q _ _ => e _ _ q)
theorem TyX.exT {K : PySem.W.Frag} {H H' : Hp} {T : Addr} {l l' : List V} {v : V} {t : Value} (h : TyX K H v t) (e : ExT T H H') (hT : H T = some (.lst l)) (hT' : H' T = some (.lst l')) : TyX K H' v t :=
  TyX.same (fun a xs q => e.tk hT _ _ q) h (fun a xs _ q => by
    by_cases c : a = T
    · exact ⟨l', by rw [c]; exact hT'⟩
    · exact ⟨xs, e _ _ c q⟩) (fun a o _ q _ n => e _ _ (fun c => by rw [c, hT] at q; exact n l (Option.some.inj q).symm) q)
theorem Typ.ext {K : PySem.W.Frag} {H H' : Hp} {v : V} {c : String} {b : Bool} (h : Typ K H v c b) (e : Same H H') : Typ K H' v c b := let ⟨t, h1, h2⟩ := h; ⟨t, TyX.ext h1 e, h2⟩
theorem Typ.exT {K : PySem.W.Frag} {H H' : Hp} {T : Addr} {l l' : List V} {v : V} {c : String} {b : Bool} (h : Typ K H v c b) (e : ExT T H H') (hT : H T = some (.lst l)) (hT' : H' T = some (.lst l')) : Typ K H' v c b := let ⟨t, h1, h2⟩ := h; ⟨t, TyX.exT h1 e hT hT', h2⟩
theorem Item.ext {K : PySem.W.Frag} {H H' : Hp} {v : V} (h : Item K H v) (e : Same H H') : Item K H' v := by
  cases h with
  | int i => exact .int i
  | bl b => exact .bl b
  | els h h1 => exact .els (h.ext e) h1
theorem Item.exT {K : PySem.W.Frag} {H H' : Hp} {T : Addr} {l l' : List V} {v : V} (h : Item K H v) (e : ExT T H H') (hT : H T = some (.lst l)) (hT' : H' T = some (.lst l')) : Item K H' v := by
  cases h with
  | int i => exact .int i
  | bl b => exact .bl b
  | els h h1 => exact .els (h.exT e hT hT') h1
/-- a tuple of items, or no tuple -/
inductive Thing (K : PySem.W.Frag) (H : Hp) : V → Prop where
  | tup {a : Addr} {xs : List V} (h : H a = some (.tup xs)) (h1 : ∀ x ∈ xs, Item K H x) (h2 : xs.length ≤ 100000) : Thing K H (.ref a)
  | els {v : V} (h : Typ K H v "tuple" false) (h1 : ∀ a xs, v = .ref a → H a ≠ some (.tup xs)) : Thing K H v
theorem Thing.ext {K : PySem.W.Frag} {H H' : Hp} {v : V} (h : Thing K H v) (e : Same H H') (hv : ∀ a, v = .ref a → H a ≠ none) : Thing K H' v := by
  cases h with
  | tup h h1 h2 => exact .tup (e _ _ h) (fun x hx => (h1 x hx).ext e) h2
  | els h h1 =>
    refine .els (h.ext e) fun a xs ea q => ?_
    cases c : H a with
    | none => exact hv a ea c
    | some o =>
      rw [e _ _ c] at q
      cases q
      exact h1 a xs ea c
theorem Thing.exT {K : PySem.W.Frag} {H H' : Hp} {T : Addr} {l l' : List V} {v : V} (h : Thing K H v) (e : ExT T H H') (hT : H T = some (.lst l)) (hT' : H' T = some (.lst l')) (hv : ∀ a, v = .ref a → H a ≠ none) : Thing K H' v := by
  cases h with
  | tup h h1 h2 => exact .tup (e.tk hT _ _ h) (fun x hx => (h1 x hx).exT e hT hT') h2
  | els h h1 =>
    refine .els (h.exT e hT hT') fun a xs ea q => ?_
    by_cases ca : a = T
    · rw [ca, hT'] at q; cases q
    · cases c : H a with
      | none => exact hv a ea c
      | some o =>
        rw [e _ _ ca c] at q
        cases q
        exact h1 a xs ea c
theorem typ_tup {K : PySem.W.Frag} {H : Hp} {a : Addr} {xs : List V} {c : String} {b : Bool} (h : H a = some (.tup xs)) (hb : kitB "tuple" c = some b) : Typ K H (.ref a) c b := ⟨_, .base (.tup h), kit_ty hb⟩
theorem typ_lst {K : PySem.W.Frag} {H : Hp} {a : Addr} {xs : List V} {c : String} {b : Bool} (h : H a = some (.lst xs)) (hb : kitB "list" c = some b) : Typ K H (.ref a) c b := ⟨_, .base (.lst h), kit_ty hb⟩
theorem typ_dK {K : PySem.W.Frag} {H : Hp} {a : Addr} {xs : List (L2.Key × V)} {c : String} {b : Bool} (h : H a = some (.dK xs)) (hb : kitB "dict" c = some b) : Typ K H (.ref a) c b := ⟨_, .base (.dK h), kit_ty hb⟩
theorem typ_non {K : PySem.W.Frag} {H : Hp} {c : String} {b : Bool} (hb : kitB "NoneType" c = some b) : Typ K H .non c b := ⟨_, .base .non, kit_ty hb⟩
theorem typ_str {K : PySem.W.Frag} {H : Hp} {c : String} {x : Str} {b : Bool} (hb : kitB "str" c = some b) : Typ K H (.str x) c b := ⟨_, .base (.str x), kit_ty hb⟩
theorem typ_int {K : PySem.W.Frag} {H : Hp} {c : String} {x : Int} {b : Bool} (hb : kitB "int" c = some b) : Typ K H (.int x) c b := ⟨_, .base (.int x), kit_ty hb⟩
theorem typ_bl {K : PySem.W.Frag} {H : Hp} {c : String} {x : Bool} {b : Bool} (hb : kitB "bool" c = some b) : Typ K H (.bl x) c b := ⟨_, .base (.bl x), kit_ty hb⟩
theorem Item.non {K : PySem.W.Frag} {H : Hp} : Item K H .non := .els (typ_non (by decide +kernel)) (fun _ => V.noConfusion)
theorem Item.str {K : PySem.W.Frag} {H : Hp} (x : Str) : Item K H (.str x) := .els (typ_str (by decide +kernel)) (fun _ => V.noConfusion)
theorem Item.tup {K : PySem.W.Frag} {H : Hp} {a : Addr} {xs : List V} (h : H a = some (.tup xs)) : Item K H (.ref a) := .els (typ_tup h (by decide +kernel)) (fun _ => V.noConfusion)
theorem Item.lst {K : PySem.W.Frag} {H : Hp} {a : Addr} {xs : List V} (h : H a = some (.lst xs)) : Item K H (.ref a) := .els (typ_lst h (by decide +kernel)) (fun _ => V.noConfusion)
theorem Item.dK {K : PySem.W.Frag} {H : Hp} {a : Addr} {xs : List (L2.Key × V)} (h : H a = some (.dK xs)) : Item K H (.ref a) := .els (typ_dK h (by decide +kernel)) (fun _ => V.noConfusion)
theorem Thing.non {K : PySem.W.Frag} {H : Hp} : Thing K H .non := .els (typ_non (by decide +kernel)) (fun _ _ => V.noConfusion)
theorem Thing.str {K : PySem.W.Frag} {H : Hp} (x : Str) : Thing K H (.str x) := .els (typ_str (by decide +kernel)) (fun _ _ => V.noConfusion)
theorem Thing.int {K : PySem.W.Frag} {H : Hp} (x : Int) : Thing K H (.int x) := .els (typ_int (by decide +kernel)) (fun _ _ => V.noConfusion)
theorem Thing.bl {K : PySem.W.Frag} {H : Hp} (x : Bool) : Thing K H (.bl x) := .els (typ_bl (by decide +kernel)) (fun _ _ => V.noConfusion)
theorem Thing.lst {K : PySem.W.Frag} {H : Hp} {a : Addr} {xs : List V} (h : H a = some (.lst xs)) : Thing K H (.ref a) := .els (typ_lst h (by decide +kernel)) (fun b ys e q => by cases e; rw [h] at q; cases q)
theorem Thing.dK {K : PySem.W.Frag} {H : Hp} {a : Addr} {xs : List (L2.Key × V)} (h : H a = some (.dK xs)) : Thing K H (.ref a) := .els (typ_dK h (by decide +kernel)) (fun b ys e q => by cases e; rw [h] at q; cases q)
/-- what isinstance asks of a class of one's own -/
structure ClsTy (K : PySem.W.Frag) (C : Addr) : Prop where
  int : PySem.W.kitOne K (.ref C) (.type "int") = some false
  tup : PySem.W.kitOne K (.ref C) (.type "tuple") = some false
end Bs

namespace Bs
open PySem PySem.Spec PyProof.Rows L2
/-! ## an own error whose __init__ stores nothing -/
section
variable {X : Cx}
theorem mk_end00 {pins : List (Addr × Obj)} {σ : L2.St} {H1 H2 : Hp} {hp hp2 h2 : Heap} {g1 g2 : Array GenState} {d1 d2 : Drawn} {t1 t2 : Nat} {os1 os2 : OsState} {a C : Addr} (I1 : Inv X pins σ H1 ⟨hp, g1, d1, t1, os1⟩)
    (ha : hp.objs.size ≤ a) (k : ∀ b o, hp.get? b = some o → hp2.get? b = some o) (un : Un (frs X.stack) [] (upd H1 a (exo a C none)) H2 hp2 h2) (hok : HOk X.prog X.w H2 h2) (ho : os2 = os1) (hb : AllBare g2)
    (ea : H2 a = some (exo a C none)) :
    ∃ (t0 : Addr) (G : Heap), Inv X pins σ (del H2 a) ⟨G, g2, d2, t2, os2⟩ ∧ (∀ b o, G.get? b = some o → h2.get? b = some o) ∧ G.get? a = none ∧
      h2.get? a = some ({ cls := .ref C, dict := none, data := .fields #[.ref t0, .none, .none, .none, .bool false, .none] } : Obj) ∧ (del H2 a) a = none := by
  obtain ⟨t0, hoe⟩ := exo_at hok ea
  have hn : H1 a = none := I1.hok.fresh ha
  obtain ⟨G, g1', g2'⟩ := restrict h2 fun b => decide (b ≠ a)
  have gk : ∀ b, b ≠ a → G.get? b = h2.get? b := fun b hb => g1' b (decide_eq_true hb)
  have ge : G.get? a = none := g2' a (by simp)
  have nha : ∀ {b : Addr} {o : Obj}, hp.get? b = some o → b ≠ a := fun {b o} z => Nat.ne_of_lt (Nat.lt_of_lt_of_le (Heap.lt_size z) ha)
  have up : ∀ {b : Addr}, b ≠ a → H1 b = none → upd H1 a (exo a C none) b = none := fun {b} hb n => by rw [upd_ne hb]; exact n
  have U : Un (frs X.stack) [] H1 (del H2 a) hp G := {
    keep := fun b o z n hf hx => by
      rw [gk b (nha z)]
      exact un.keep b o (k b o z) (up (nha z) n) hf hx
    slot := fun b o z n hf hx => by
      rw [gk b (nha z)]
      exact un.slot b o (k b o z) (up (nha z) n) hf hx
    free := fun b o z n hx => by
      rw [del_ne (nha z)]
      exact un.free b o (k b o z) (up (nha z) n) hx
    there := fun b o z hx => by
      rw [gk b (nha z)]
      exact un.there b o (k b o z) hx
    tups := fun b xs z => by
      rw [del_ne (ne_of_none z hn)]
      exact un.tups b xs (by rw [upd_ne (ne_of_none z hn)]; exact z)
    frzs := fun b o v z => by
      rw [del_ne (ne_of_none z hn)]
      exact un.frzs b o v (by rw [upd_ne (ne_of_none z hn)]; exact z)
    tbls := fun b ps z => by
      rw [del_ne (ne_of_none z hn)]
      exact un.tbls b ps (by rw [upd_ne (ne_of_none z hn)]; exact z) }
  have hok3 : HOk X.prog X.w (del H2 a) G := fun b o z => by
    have hba : b ≠ a := fun e => by
      rw [e, del_same] at z
      cases z
    rw [del_ne hba] at z
    have noa : ∀ {c : Addr}, H2 c = some (.own b) → c ≠ a := fun {c} hc => at_ne ea hc exo_own
    exact (hok b o z).stay (fun c v hc y => by
        have hca : c ≠ a := by
          rcases hc with hc | hc
          · rw [hc]
            exact hba
          · exact noa hc
        rw [gk c hca]
        exact y)
      (fun c hc => by rw [del_ne (noa hc)]; exact hc) (fun c xs hc => by rw [del_ne (at_ne ea hc exo_tup)]; exact hc)
  have J : Inv X pins σ (del H2 a) ⟨G, g2, d2, t2, os2⟩ := I1.call' (ch := []) ho U hok3 hb (fun b z => absurd z (by simp))
  refine ⟨t0, G, J, fun b o z => ?_, ge, hoe, del_same⟩
  by_cases hba : b = a
  · rw [hba, ge] at z
    cases z
  · exact (gk b hba).symm.trans z
/-- C(), C's own __init__ keeping sp -/
def tMkO0 (C : Addr) (sp : Sp) : L2.St → Hp → XK → Prop := fun σ H1 Q => ∀ a, H1 a = none → sp [.ref a] (upd H1 a (exo a C none))
  (fun v H2 => v = .non ∧ H2 a = some (exo a C none) ∧ Q (.ref C) none (del H2 a)) (fun _ _ _ => False)
theorem pmk_oex0 {CX : CXT} {x : Str} {C fI : Addr} {k : Nat} {fd : FuncData} {ps : List Str} {sp : Sp} {p pos : Pos} (T : OexC X.K C) (iC : PySem.W.findIn X.K (.ref C) "__init__" = some (some (.ref fI))) (tI : PySem.W.typeIn X.K (.ref fI) = some (.type "function"))
    (F1 : FnOk X.prog X.w X.K X.mg X.base CX k fI fd ps sp) (hr : Room (k + 1) X.A) (hb : Binds X.K fd ps []) (hx : Passes CX X (fun _ _ _ => False)) (hg : Gl X x) (hm : X.mg x = some (.ref C))
    (hdb : (x == ("__debug__" : Str)) = false := by decide) :
    PMk X (.Call (.Name x p) [] [] pos) (tMkO0 C sp) := by
  intro pins s σ H1 Q I1 q1
  obtain ⟨nm, q, N, bs, bm, sn, sub, ab, col, dd, k0, k1, k2, k3, k5, hC, hbm⟩ := T.cls
  refine wpAny_Call_Name_kw (ld_glob I1 hg hm ?_ hdb)
  refine PySem.W.callWith_K0 I1.kIn T.kC ?_
  show wpAny _ _ (call (.ref C) []) _ _ _
  obtain ⟨hp, g, dr, tk, os⟩ := s
  have hsz : hp.objs.size ≤ hp.objs.size + 1 := Nat.le_succ _
  have hn : H1 (hp.objs.size + 1) = none := I1.hok.fresh hsz
  have hq := q1 (hp.objs.size + 1) hn
  have kk : ∀ b o, hp.get? b = some o → ((hp.push (PySem.W.kdv_tup [])).push (PySem.HandSPX.excO C hp.objs.size)).get? b = some o := fun b o e => Heap.get?_push_of_some _ (Heap.get?_push_of_some _ e)
  have hget : ((hp.push (PySem.W.kdv_tup [])).push (PySem.HandSPX.excO C hp.objs.size)).get? (hp.objs.size + 1) = some (PySem.HandSPX.excO C hp.objs.size) := by heap_get
  have I2 : Inv X pins σ (upd H1 (hp.objs.size + 1) (exo (hp.objs.size + 1) C none)) ⟨(hp.push (PySem.W.kdv_tup [])).push (PySem.HandSPX.excO C hp.objs.size), g, dr, tk, os⟩ :=
    I1.laid (t' := tk) (a := hp.objs.size + 1) (o := exo (hp.objs.size + 1) C none) (h' := (hp.push (PySem.W.kdv_tup [])).push (PySem.HandSPX.excO C hp.objs.size)) kk hsz (exo_ok hget)
  have r2 : Vals [V.ref (hp.objs.size + 1)] [Value.ref (hp.objs.size + 1)] := .cons rfl .nil
  have hl : ([Value.ref (hp.objs.size + 1)] ++ ([] : List Value)).length = ps.length := by
    have e := r2.length
    rw [F1.len _ _ _ _ hq] at e
    simpa using e.symm
  have hb2 := hb _ [Value.ref (hp.objs.size + 1)] I2.kIn hl
  rw [List.append_nil] at hb2
  refine wpAny_call (PySem.HandSPX.call_own F.excBase_ValueError (fun Y => PySem.HandSPX.refsVE_contains Y bm hbm) (I1.kIn _ _ hC) (PySem.W.looks_findIn I1.kIn iC) (fun self => PySem.W.bind_fn I1.kIn self tI) (by show 0 ≤ sizeLine; exact Nat.zero_le _)
    (codeAny_mono (F1.run _ X.stack _ _ ⟨[Value.ref (hp.objs.size + 1)], []⟩ [Value.ref (hp.objs.size + 1)] _ _ (fun _ _ _ => False) (hr.make C [] []) (I2.env0.make C [] []) hb2 r2 hq) fun r s' hq' => ?_))
  cases r with
  | error er => exact hx pins σ _ _ er s' I2 hq'
  | ok fl =>
    cases fl with
    | ret u =>
      obtain ⟨v, H2, os2, bare2, un2, hok2, rv, ev, ea, q2⟩ := hq'
      subst ev
      obtain ⟨h2, g2, d2, t2, os'⟩ := s'
      obtain ⟨t0, G, J, kG, ge, hoe, na⟩ := mk_end00 (d2 := d2) (t2 := t2) I1 hsz kk un2 hok2 os2 bare2 ea
      exact ⟨rv, hp.objs.size + 1, _, _, ⟨G, g2, d2, t2, os'⟩, _, .ref C, none, rfl, J, kG, ge, hoe, ⟨rfl, rfl⟩, rfl, rfl, na, rfl, bare2, raises_own T.exC T.tyC, q2⟩
    | next => exact False.elim hq'
    | brk => exact False.elim hq'
    | cont => exact False.elim hq'
end

section
variable {prog : Program} {w : World} {A : Around} {E : Value → Shared → Prop} {s : Shared} {K : PySem.W.Frag} {x D : Addr} {ox : Obj} {od : Option Obj}
theorem findObj_dataD {C : Addr} {name : Str} {a g : Value} (hc : (PySem.W.clsIn K C).isSome = true) (ha : PySem.W.findIn K (.ref C) name = some (some a)) (hg : PySem.W.specialIn K a "__get__" = some (some g)) (ht : PySem.W.takesIn K a = some true) : PySem.W.findObj K C od name = some (.bind g a) := by
  obtain ⟨cd, hc⟩ := Option.isSome_iff_exists.mp hc
  unfold PySem.W.findObj
  rw [hc, Option.bind_some, ha, Option.bind_some]
  simp [hg, ht]
theorem class_of_exc (T : ExcC K D) (X : K.In s.heap) (I : PySem.W.InstAt s.heap x ox D od) {Q : Option Value → Shared → Prop} (h : Q (some (.ref D)) { s with toks := s.toks + 1 }) : wpAny (model prog w) A (getAttr? (.ref x) "__class__") Q E s := by
  have hf : PySem.W.findObj K D od "__class__" = some (.bind (.builtin "getset_descriptor.__get__") (.builtin "object.__class__")) := findObj_dataD (by obtain ⟨cd, hc, _⟩ := PySem.W.any_some T.hd; rw [hc]; rfl) T.ha T.hn T.ht
  obtain ⟨hp, g, d, t, os⟩ := s
  have L0 := I.type (M := model prog w)
  have L1 := PySem.W.looks_findIn (M := model prog w) X T.hg
  have L2' := PySem.W.looks_findIn (M := model prog w) X T.hk
  have L3 := PySem.W.looks_find (M := model prog w) X I hf
  have sub : PySem.W.Looks (model prog w) hp (isInstance (.ref x) (.type "BaseException")) true := L0.andThen (PySem.W.looks_subIn X T.hs)
  have hx0 : (false && onTheHeap (Value.builtin "BaseException.__getattribute__")) = false := rfl
  have hx2 : (Value.builtin "BaseException.__getattribute__" == Value.builtin "object.__getattribute__") = false := by decide +kernel
  have hx1 : (onTheHeap (Value.ref D) && Value.builtin "BaseException.__getattribute__" == Value.builtin "object.__getattribute__") = false := by rw [hx2]; rfl
  unfold getAttr? getAttrBy? getAttrBy
  refine wpAny_bind (wpAny_mkText (wpAny_bind (wpAny_attempt (wpAny_holding (wpAny_bind (L0.at (wpAny_bind (L1.at ?_))))))))
  show wpAny _ _ (if (onTheHeap (Value.ref D) && Value.builtin "BaseException.__getattribute__" == Value.builtin "object.__getattribute__") = true then _ else _) _ _ _
  rw [hx1, if_neg Bool.false_ne_true]
  unfold getAttrByItsOwn hookBefore
  refine wpAny_bind ?_
  rw [if_pos (show onTheHeap (Value.ref D) = true from rfl)]
  refine L2'.at ?_
  refine wpAny_bind (wpAny_attempt (wpAny_holding ?_))
  unfold callGetattribute
  rw [hx0, if_neg Bool.false_ne_true]
  unfold boundAndCalled
  rw [PySem.F.excAttr_ValueError.ga.bind (.ref x)]
  refine wpAny_bind (wpAny_pure ?_)
  show wpAny _ _ (call (.builtin "BaseException.__getattribute__") [.ref x, .str "__class__" t]) _ _ _
  refine wpAny_call (codeAny_call_builtin PySem.F.excAttr_ValueError.ga.plain PySem.F.entry_bexc_ga ?_)
  refine @PySem.W.check_slot (model prog w) _ _ ⟨hp, g, d, t + 1, os⟩ "BaseException.__getattribute__" "BaseException" "__getattribute__" (.ref x) [.str "__class__" t] [] _ (by decide +kernel) (by decide +kernel) sub (PySem.F.args_bexc_ga (.ref x) (.str "__class__" t)) ?_
  unfold Builtin.«object.__getattribute__»
  refine wpAny_bind (wpAny_of_eq (a := ((Value.ref x : Value), [Value.str "__class__" t])) (by first | rfl | (simp only [slotArgs]; rfl)) ?_)
  refine wpAny_bind (wpAny_pure (wpAny_bind (L0.at (wpAny_bind (L3.at ?_)))))
  show wpAny _ _ (holding [Value.builtin "object.__class__"] (call (.builtin "getset_descriptor.__get__") [.builtin "object.__class__", .ref x, .ref D]) >>= ret) _ _ _
  refine wpAny_bind (wpAny_holding (wpAny_call (PySem.W.class_get (s := ⟨hp, g, d, t + 1, os⟩) (ox := ox) (od := od) X I T.hm ?_)))
  refine wpAny_pure ?_
  show wpAny _ _ (handedOut (.ref D)) _ _ _
  rw [PySem.W.handedOut_of (v := .ref D) rfl]
  first
    | exact wpAny_pure (wpAny_pure h)
    | exact wpAny_pure h
    | exact wpAny_pure (wpAny_bind (wpAny_pure (wpAny_pure h)))
theorem kitx_excD (T : ExcC K D) : PySem.W.KitX K (.ref x) (.ref D) (fun h => PySem.W.InstAt h x ox D od) where
  ty := fun _ _ _ I => I.type
  it := fun M h X _ => by
    obtain ⟨cdD, hcD, _⟩ := PySem.W.any_some T.hd
    unfold PySem.W.clsIn at hcD
    split at hcD
    · rename_i c' d' cd' sl' ho
      intro A' Q' E' s' k q
      unfold isType loadHead
      exact wpAny_bind (AutoSeq1.wpAny_loadPart' (k _ _ (X _ _ ho)) (wpAny_pure q))
    · cases hcD
  ne := (PySem.W.handS_kitx_exc (x := x) (ox := ox) T.hg T.hk T.hs T.hd T.ha T.hn T.ht T.hm).ne
  ca := fun X I k => class_of_exc T X I k
end
/-- isinstance(e, c), e the exception that the suite holds, of any own class, with a dict or without -/
def rIsEg (K : PySem.W.Frag) (cls : Value) (d : Option Addr) (a : Addr) : List V → Hp → VK → Prop := fun xs H Q => ∃ (D : Addr) (c : V) (cv : Value) (b : Bool), cls = .ref D ∧ ExcC K D ∧ (d = none ∨ ∃ dd fs, d = some dd ∧ H dd = some (.xd fs)) ∧ xs = [.ref a, c] ∧ (∀ u, RelV c u → u = cv) ∧ PySem.W.kitOne K (.ref D) cv = some b ∧ Q (.bl b) H
theorem call_isEg {X : Cx} {a : Addr} {oe : Obj} {cls : Value} {d : Option Addr} {pn : List (Addr × Obj)} (hz : Zc cls d oe) (hf : ∃ vs, oe.data = .fields vs) : CallR (X.suite a ((a, oe) :: pn)) (.builtin "isinstance") (rIsEg X.K cls d a) := by
  intro pins s σ H xs us Q I r h
  obtain ⟨D, c, cv, b, rfl, T, hd, rfl, hcv, e, q⟩ := h
  cases r with
  | cons rx rr =>
    cases rr with
    | cons rt rr =>
      cases rr
      cases rx
      have ec := hcv _ rt
      subst ec
      obtain ⟨hget, _⟩ := I.pin (a, oe) (List.mem_append.mpr (.inl List.mem_cons_self))
      obtain ⟨vs, hv⟩ := hf
      have J : ∃ od, PySem.W.InstAt s.heap a oe D od := by
        rcases hd with rfl | ⟨dd, fs, rfl, hdd⟩
        · exact ⟨none, hget, hz.1, by unfold PySem.W.notCls; rw [hv] <;> rfl, by rw [hz.2]; trivial⟩
        · obtain ⟨mA, hns, hr⟩ := (show ObjOk X.prog X.w H s.heap dd (.xd fs) from I.hok dd _ hdd)
          obtain ⟨od, ho, hl⟩ := lookIn_ns hns
          exact ⟨some od, hget, hz.1, by unfold PySem.W.notCls; rw [hv] <;> rfl, by rw [hz.2]; exact ho⟩
      obtain ⟨od, J⟩ := J
      exact PySem.W.kia_one (kitx_excD T) I.kIn J e (fun z => nomatch z) fun tk => ⟨.bl b, H, I.kept (t' := tk) fun _ _ z => z, rfl, q⟩
/-! ## making an object whose __init__ may raise -/
def tMakeS (C : Addr) (sp : Sp) (E : L2.St → XK) (t : TA) : TE := fun σ H Q => t σ H fun vs H1 => ∀ x dx, H1 x = none → H1 dx = none → dx ≠ x → sp (.ref x :: vs) (upd (upd H1 dx (.own x)) x (.ins C dx [])) (fun v H2 => v = .non ∧ Q (.ref x) H2) (E σ)
section
variable {X : Cx} {CX : CXT} {k : Nat} {f C : Addr} {fd : FuncData} {ps : List Str} {sp : Sp} {E : L2.St → XK} {x : Str} {p pos : Pos} {e : Expr} {es : List Expr} {t : TA}
theorem run_makeS {pins : List (Addr × Obj)} {σ : L2.St} {H : Hp} {s : Shared} {Q : VK} {us : List Value} {vs : List V} (M : Mk X.K C f) (F : FnOk X.prog X.w X.K X.mg X.base CX k f fd ps sp) (hr : Room (k + 1) X.A) (hb : Binds X.K fd ps [])
    (hx : PassesAt CX X σ (E σ)) (I : Inv X pins σ H s) (r : Vals vs us)
    (h : ∀ x dx, H x = none → H dx = none → dx ≠ x → sp (.ref x :: vs) (upd (upd H dx (.own x)) x (.ins C dx [])) (fun v H2 => v = .non ∧ Q (.ref x) H2) (E σ)) :
    wpAny (model X.prog X.w) X.A (call (.ref C) us) (EP X pins σ Q) X.xe s := by
  have hq := h (s.heap.objs.size + 1) s.heap.objs.size (I.hok.fresh (Nat.le_succ _)) (I.hok.fresh (Nat.le_refl _)) (Nat.ne_of_lt (Nat.lt_succ_self _))
  have I2 := Inv.made (C := C) I
  have r2 : Vals (V.ref (s.heap.objs.size + 1) :: vs) (Value.ref (s.heap.objs.size + 1) :: us) := .cons rfl r
  have hl : ((Value.ref (s.heap.objs.size + 1) :: us) ++ ([] : List Value)).length = ps.length := by
    have e := r2.length
    rw [F.len _ _ _ _ hq] at e
    rw [List.append_nil]
    exact e.symm
  have hb2 := hb _ (Value.ref (s.heap.objs.size + 1) :: us) I2.kIn hl
  rw [List.append_nil] at hb2
  refine wpAny_call (make_map (f := f) I.kIn M.makes M.init (beq_iff_eq.mp M.fn) (codeAny_mono (F.run _ X.stack _ _ ⟨Value.ref (s.heap.objs.size + 1) :: us, []⟩ (Value.ref (s.heap.objs.size + 1) :: us) _ _ (E σ) (hr.make C us [])
    (I2.env0.make C us []) hb2 r2 hq) fun r s' hq' => ?_))
  cases r with
  | error e => exact hx pins _ _ e s' I2 hq'
  | ok fl =>
    cases fl with
    | ret u =>
      obtain ⟨v, H', I3, rv, ev, q3⟩ := I2.after hq'
      subst ev
      exact ⟨rv, ⟨V.ref (s.heap.objs.size + 1), H', I3, rfl, q3⟩⟩
    | next => exact False.elim hq'
    | brk => exact False.elim hq'
    | cont => exact False.elim hq'
theorem pe_makeS (M : Mk X.K C f) (F : FnOk X.prog X.w X.K X.mg X.base CX k f fd ps sp) (hr : Room (k + 1) X.A) (hm : X.mg x = some (.ref C)) (hb : Binds X.K fd ps []) (hx : ∀ σ, PassesAt CX X σ (E σ))
    (ha : PA X (e :: es) t) (hg : Gl X x := by rfl) (hdb : (x == ("__debug__" : Str)) = false := by decide) (he : starEach (e :: es) X.env = (false, eval e X.env) :: starEach es X.env := by rfl) (hpl : (backTo pos (starEach es X.env)).any (·.1) = false := by rfl) :
    PE X (.Call (.Name x p) (e :: es) [] pos) (tMakeS C sp E t) := by
  refine ⟨fun pins s σ H Q I h => ?_⟩
  refine wpAny_Call_Name_kw (ld_glob I hg hm ?_ hdb)
  refine PySem.W.callWith_K (h₀ := X.base) I.ok.mod.kin M.kp (thn (ha.run pos pins s σ H _ I h) fun us s1 ⟨vs, H1, I1, r, q⟩ => ⟨I1.kIn, ?_⟩) he hpl
  exact run_makeS M F hr hb (hx σ) I1 r q
end
end Bs

namespace Bs
open PySem PySem.Spec L2
def top (i : Nat) : Stmt := PySem.Challenge.pw_silencers_k01_webs_judged.main.body.getD i (.Pass ⟨0, 0, 0, 0⟩)
structure Txt (K : PySem.W.Frag) (mg : Str → Option Value) (C : Addr) : Prop where
  cl : Cls K C
  nSize : NoAttr K C "size"
  nTies : NoAttr K C "ties"
  mg_Web : mg "Web" = some (.ref C)
  mg_MOST_PARTS : ∃ t, mg "MOST_PARTS" = some (.int 24 t)
  xc : PySem.W.findIn K (.ref C) "__class__" = some (some (.builtin "object.__class__"))
  xg : PySem.W.specialIn K (.builtin "object.__class__") "__get__" = some (some (.builtin "getset_descriptor.__get__"))
  xt : PySem.W.takesIn K (.builtin "object.__class__") = some true
  xm : PySem.W.mroIn K C (.type "object") = some true
section
variable {P : Program} {w : World} {K : PySem.W.Frag} {mg : Str → Option Value} {base : Heap} {C : Addr}
def sp_is_integer : Sp := fun vs H Q _ => ∃ i, vs = [.int i] ∧ Q (.bl true) H
abbrev s_is_integer : Stmt := (top 4)
theorem sc_is_integer : FnScope ["thing"] ["thing"] (defScope s_is_integer) := ⟨rfl, rfl, rfl, by decide +kernel, rfl, by decide +kernel, by decide +kernel⟩

theorem ok_is_integer {f : Addr} {fd : FuncData} (F : Fun K "is_integer" "is_integer" s_is_integer f fd) (hm : mg "is_integer" = some (.ref f)) (B : Bl mg) : Cal P w K mg base 1 "is_integer" ["thing"] sp_is_integer := by
  refine ⟨f, fd, F.ok sc_is_integer (fun vs H Q E h => ?_) (fun cdv A outer s H vs Q E hr h => ?_), hm, F.kp, F.binds (ps := ["thing"]) fun _ _ _ _ _ _ us hl => match us, hl with | [_], _ => rfl⟩
  · obtain ⟨i, rfl, _⟩ := h; rfl
  · obtain ⟨i, rfl, k⟩ := h
    refine ⟨_, (pss_one (ps_ret (pe_and (pe_callB call_isi (by rfl) B.isinstance (by decide +kernel) (pa_cons (pv 0) (pa_cons (pe_bltn (v := .ty "int") (by rfl) B.int_ (by decide +kernel) rfl) pa_nil))) (pe_one (pe_not (pe_callB call_isi (by rfl) B.isinstance (by decide +kernel) (pa_cons (pv 0) (pa_cons (pe_bltn (v := .ty "bool") (by rfl) B.bool_ (by decide +kernel) rfl) pa_nil)))))))), ?_⟩
    refine ⟨_, rfl, _, _, _, _, true, rfl, .ty "int", .base (.int i), kit_ty (by decide +kernel), true, rfl, iteT ?_⟩
    refine ⟨_, rfl, _, _, _, _, false, rfl, .ty "bool", .base (.int i), kit_ty (by decide +kernel), false, rfl, ?_⟩
    exact k
def sp_is_number : Sp := fun vs H Q _ => ∃ i a b, vs = [.int i, .int a, .int b] ∧ Q (.bl (decide (a ≤ i ∧ i ≤ b))) H
abbrev s_is_number : Stmt := (top 5)
theorem sc_is_number : FnScope ["thing", "least", "most"] ["thing", "least", "most"] (defScope s_is_number) := ⟨rfl, rfl, rfl, by decide +kernel, rfl, by decide +kernel, by decide +kernel⟩

theorem ok_is_number {f : Addr} {fd : FuncData} (F : Fun K "is_number" "is_number" s_is_number f fd) (hm : mg "is_number" = some (.ref f)) (B : Bl mg) (c_is_integer : Cal P w K mg base 1 "is_integer" ["thing"] sp_is_integer) : Cal P w K mg base 2 "is_number" ["thing", "least", "most"] sp_is_number := by
  refine ⟨f, fd, F.ok sc_is_number (fun vs H Q E h => ?_) (fun cdv A outer s H vs Q E hr h => ?_), hm, F.kp, F.binds (ps := ["thing", "least", "most"]) fun _ _ _ _ _ _ us hl => match us, hl with | [_, _, _], _ => rfl⟩
  · obtain ⟨i, a, b, rfl, _⟩ := h; rfl
  · obtain ⟨i, a, b, rfl, k⟩ := h
    refine ⟨_, (pss_one (ps_ret (pe_and (pe_cal c_is_integer (hr.mono (by first | decide | omega)) (pa_cons (pv 0) pa_nil)) (pe_one (pe_chain op_le op_le (pv 1) (pv 0) (pv 2)))))), ?_⟩
    refine ⟨_, rfl, i, rfl, true, rfl, iteT ?_⟩
    refine ⟨_, rfl, _, rfl, _, _, rfl, rfl, _, rfl, ?_⟩
    by_cases h1 : a ≤ i
    · rw [if_pos (decide_eq_true h1)]
      refine ⟨_, rfl, _, _, rfl, rfl, ?_⟩
      have e : decide (a ≤ i ∧ i ≤ b) = decide (i ≤ b) := by simp [h1]
      rw [e] at k
      exact k
    · rw [if_neg (by simpa using h1)]
      have e : decide (a ≤ i ∧ i ≤ b) = false := by simp [h1]
      rw [e] at k
      exact k
/-- a web at a: its size and its ties -/
structure WebAt (C : Addr) (H : Hp) (a : Addr) (n : Int) (t : Addr) (ps : List (Int × Int)) : Prop where
  ins : ∃ dx fs, H a = some (.ins C dx fs) ∧ fs.lookup ("size" : Str) = some (.int n) ∧ fs.lookup ("ties" : Str) = some (.ref t)
  ties : ∃ xs, H t = some (.tup xs) ∧ Pairs H xs ps
theorem WebAt.same {C : Addr} {H H' : Hp} {a t : Addr} {n : Int} {ps : List (Int × Int)} (h : WebAt C H a n t ps) (e : Same H H') : WebAt C H' a n t ps := by
  obtain ⟨⟨dx, fs, h1, h2⟩, xs, h3, h4⟩ := h
  exact ⟨⟨dx, fs, e _ _ h1, h2⟩, xs, e _ _ h3, h4.tk e.tk⟩
theorem WebAt.exT {C T : Addr} {H H' : Hp} {a t : Addr} {n : Int} {ps : List (Int × Int)} {l : List V} (h : WebAt C H a n t ps) (e : ExT T H H') (hT : H T = some (.lst l)) : WebAt C H' a n t ps := by
  obtain ⟨⟨dx, fs, h1, h2⟩, xs, h3, h4⟩ := h
  exact ⟨⟨dx, fs, e _ _ (ne_of h1 hT (by intro z; cases z)) h1, h2⟩, xs, e.tk hT _ _ h3, h4.tk (e.tk hT)⟩
def sp_is_tie : Sp := fun vs H Q _ => ∃ (n : Int) (a : Addr) (p : Int × Int), vs = [.int n, .ref a] ∧ H a = some (.tup [.int p.1, .int p.2]) ∧ Q (.bl (decide (0 ≤ p.1 ∧ p.1 < p.2 ∧ p.2 < n))) H
abbrev s_is_tie : Stmt := (top 9)
theorem sc_is_tie : FnScope ["size", "thing", "a", "b"] ["size", "thing"] (defScope s_is_tie) := ⟨rfl, rfl, rfl, by decide +kernel, rfl, by decide +kernel, by decide +kernel⟩

theorem ok_is_tie {f : Addr} {fd : FuncData} (F : Fun K "is_tie" "is_tie" s_is_tie f fd) (hm : mg "is_tie" = some (.ref f)) (B : Bl mg) (c_is_number : Cal P w K mg base 2 "is_number" ["thing", "least", "most"] sp_is_number) : Cal P w K mg base 3 "is_tie" ["size", "thing"] sp_is_tie := by
  refine ⟨f, fd, F.ok sc_is_tie (fun vs H Q E h => ?_) (fun cdv A outer s H vs Q E hr h => ?_), hm, F.kp, F.binds (ps := ["size", "thing"]) fun _ _ _ _ _ _ us hl => match us, hl with | [_, _], _ => rfl⟩
  · obtain ⟨n, a, p, rfl, _⟩ := h; rfl
  · obtain ⟨n, a, p, rfl, ha, k⟩ := h
    refine ⟨_, (pss_cons (ps_if (PW.pt (pw_or (pt_not (pt_val (pe_callB call_isi (by rfl) B.isinstance (by decide +kernel) (pa_cons (pv 1) (pa_cons (pe_bltn (v := .ty "tuple") (by rfl) B.tuple_ (by decide +kernel) rfl) pa_nil))))) (pw_or1 (pt_cmpR op_ne (pe_callB call_len_seq (by rfl) B.len (by decide +kernel) (pa_cons (pv 1) pa_nil)) pe_int (nomark _))))) (pss_one (ps_ret pe_bl)) pss_nil)
 (pss_cons (ps_asg (pv 1) (pg_tup (by rfl) (pgs_cons (pg_name (i := 2) sc_is_tie.nd rfl (by first | exact Or.inl rfl | exact Or.inr rfl)) (pgs_cons (pg_name (i := 3) sc_is_tie.nd rfl (by first | exact Or.inl rfl | exact Or.inr rfl)) pgs_nil))))
 (pss_one (ps_ret (pe_and (pe_cal c_is_number (hr.mono (by first | decide | omega)) (pa_cons (pv 2) (pa_cons pe_int (pa_cons (pe_op op_sub (pv 0) pe_int) pa_nil)))) (pe_one (pe_cal c_is_number (hr.mono (by first | decide | omega)) (pa_cons (pv 3) (pa_cons (pe_op op_add (pv 2) pe_int) (pa_cons (pe_op op_sub (pv 0) pe_int) pa_nil)))))))))), ?_⟩
    refine ⟨_, rfl, _, _, _, _, true, rfl, .ty "tuple", .base (.tup ha), kit_ty (by decide +kernel), true, rfl, iteF ?_⟩
    refine ⟨_, rfl, a, _, rfl, .inr (SqT.of ha), rfl, _, rfl, iteNS rfl ?_⟩
    refine ⟨_, rfl, _, _, rfl, SqT.of ha, rfl, _, _, rfl, _, _, rfl, rfl, ?_⟩
    refine ⟨_, rfl, _, rfl, _, _, rfl, rfl, p.1, 0, n - 1, rfl, _, rfl, ?_⟩
    by_cases h1 : 0 ≤ p.1 ∧ p.1 ≤ n - 1
    · rw [if_pos (decide_eq_true h1)]
      refine ⟨_, rfl, _, rfl, _, _, rfl, rfl, _, rfl, _, _, rfl, rfl, p.2, p.1 + 1, n - 1, rfl, ?_⟩
      have e : decide (0 ≤ p.1 ∧ p.1 < p.2 ∧ p.2 < n) = decide (p.1 + 1 ≤ p.2 ∧ p.2 ≤ n - 1) := by
        by_cases h2 : p.1 + 1 ≤ p.2 ∧ p.2 ≤ n - 1
        · rw [decide_eq_true h2]; exact decide_eq_true (by omega)
        · rw [decide_eq_false h2]; exact decide_eq_false (by omega)
      rw [e] at k
      exact k
    · rw [if_neg (by simpa using h1)]
      have e : decide (0 ≤ p.1 ∧ p.1 < p.2 ∧ p.2 < n) = false := decide_eq_false (by omega)
      rw [e] at k
      exact k
/-- ties as they should be -/
structure Good (n : Int) (ps : List (Int × Int)) : Prop where
  ok : ∀ p ∈ ps, 0 ≤ p.1 ∧ p.1 < p.2 ∧ p.2 < n
  up : ps.Pairwise lt2
theorem Good.le {n : Int} {ps : List (Int × Int)} (g : Good n ps) {i : Nat} {p q : Int × Int} (h1 : ps[i]? = some p) (h2 : ps[i + 1]? = some q) : lt2 p q := by
  obtain ⟨a1, e1⟩ := List.getElem?_eq_some_iff.mp h1
  obtain ⟨a2, e2⟩ := List.getElem?_eq_some_iff.mp h2
  rw [← e1, ← e2]
  exact List.pairwise_iff_getElem.mp g.up i (i + 1) a1 a2 (Nat.lt_succ_self i)
def sp_wrong_tie : Sp := fun vs H Q _ => ∃ n t xs ps, vs = [.int n, .ref t] ∧ H t = some (.tup xs) ∧ Pairs H xs ps ∧ Good n ps ∧ ∀ H', Same H H' → Q .non H'
abbrev s_wrong_tie : Stmt := (top 10)
theorem sc_wrong_tie : FnScope ["size", "ties", "last", "at", "pair"] ["size", "ties"] (defScope s_wrong_tie) := ⟨rfl, rfl, rfl, by decide +kernel, rfl, by decide +kernel, by decide +kernel⟩

theorem lexLe_no {p q : Int × Int} (h : lt2 p q) : Ob.lexAt (fun j => decide ([q.1, q.2].getD j 0 = [p.1, p.2].getD j 0)) (fun j => decide ([q.1, q.2].getD j 0 ≤ [p.1, p.2].getD j 0)) (decide ([q.1, q.2].length ≤ [p.1, p.2].length)) 0 (min [q.1, q.2].length [p.1, p.2].length) = false := by
  show (if decide (q.1 = p.1) = true then (if decide (q.2 = p.2) = true then true else decide (q.2 ≤ p.2)) else decide (q.1 ≤ p.1)) = false
  unfold lt2 at h
  rcases h with h | ⟨h1, h2⟩
  · rw [if_neg (by simp; omega)]
    exact decide_eq_false (by omega)
  · rw [if_pos (by simp; omega), if_neg (by simp; omega)]
    exact decide_eq_false (by omega)
theorem ok_wrong_tie {f : Addr} {fd : FuncData} (F : Fun K "wrong_tie" "wrong_tie" s_wrong_tie f fd) (hm : mg "wrong_tie" = some (.ref f)) (B : Bl mg) (c_is_tie : Cal P w K mg base 3 "is_tie" ["size", "thing"] sp_is_tie) : Cal P w K mg base 4 "wrong_tie" ["size", "ties"] sp_wrong_tie := by
  refine ⟨f, fd, F.ok sc_wrong_tie (fun vs H Q E h => ?_) (fun cdv A outer s H vs Q E hr h => ?_), hm, F.kp, F.binds (ps := ["size", "ties"]) fun _ _ _ _ _ _ us hl => match us, hl with | [_, _], _ => rfl⟩
  · obtain ⟨n, t, xs, ps, rfl, _⟩ := h; rfl
  · obtain ⟨n, t, xs, ps, rfl, ht, hp, G, k⟩ := h
    refine ⟨_, (pss_cons (ps_set (i := 2) sc_wrong_tie.nd rfl (by first | exact Or.inl rfl | exact Or.inr rfl) (pe_tup pa_nil))
 (pss_cons (ps_for PassesOwn.never rfl (pi_enumT (by rfl) B.enumerate (pa_cons (pv 1) pa_nil)) (pg_tup (by rfl) (pgs_cons (pg_name (i := 3) sc_wrong_tie.nd rfl (by first | exact Or.inl rfl | exact Or.inr rfl)) (pgs_cons (pg_name (i := 4) sc_wrong_tie.nd rfl (by first | exact Or.inl rfl | exact Or.inr rfl)) pgs_nil)))
  (pss_cons (ps_if (PW.pt (pw_or (pt_not (pt_val (pe_cal c_is_tie (hr.mono (by first | decide | omega)) (pa_cons (pv 0) (pa_cons (pv 4) pa_nil))))) (pw_or1 (pt_cmpR (op_leT hr.units0) (pv 4) (pv 2) (nomark _))))) (pss_one (ps_ret (pv 3))) pss_nil)
 (pss_one (ps_set (i := 2) sc_wrong_tie.nd rfl (by first | exact Or.inl rfl | exact Or.inr rfl) (pv 4)))))
 (pss_one (ps_ret pe_non)))), ?_⟩
    refine ⟨Nat.zero_le _, fun z hz => ?_⟩
    refine ⟨_, rfl, t, xs, rfl, SqT.of ((Same.new hz) _ _ ht), for_it (walk_enumT (K := K) (a := t) (xs := xs)) (fun i σ H' => Same H H' ∧ ∃ (u v : Option V) (l : Addr) (ms : List Int), σ = [some (.int n), some (.ref t), some (.ref l), u, v] ∧ H' l = some (.tup (ms.map V.int)) ∧ (i = 0 → ms = []) ∧ ∀ j q, i = j + 1 → ps[j]? = some q → ms = [q.1, q.2])
      ⟨Same.new hz, none, none, z, [], rfl, upd_same, fun _ => rfl, fun j q e _ => by omega⟩ (fun i σ H' _ p => SqT.of (p.1 _ _ ht)) ?_ ?_⟩
    · rintro i y σ H1 H2 hi ⟨e1, u, v, l, ms, rfl, hl, m0, m1⟩ ⟨A1, y1, y2, rfl, hA, rfl, hy1, hy2⟩
      cases hy1
      obtain ⟨q, hq, a, rfl, hqa⟩ := Paired.get hp hy2
      have e2 : Same H1 (upd H1 A1 (.tup [.int (i : Nat), .ref a])) := Same.new hA
      have hqa2 := e2 _ _ (e1 _ _ hqa)
      refine ⟨A1, _, rfl, SqT.of upd_same, rfl, _, _, rfl, _, _, rfl, rfl, ?_⟩
      refine ⟨_, rfl, _, rfl, n, a, q, rfl, hqa2, _, rfl, ?_⟩
      rw [decide_eq_true (G.ok q (List.mem_of_getElem? hq))]
      refine iteF ?_
      refine ⟨_, rfl, _, rfl, a, l, [q.1, q.2], ms, rfl, rfl, SqT.of hqa2, SqT.of (e2 _ _ hl), ?_⟩
      have no : Ob.lexAt (fun j => decide ([q.1, q.2].getD j 0 = ms.getD j 0)) (fun j => decide ([q.1, q.2].getD j 0 ≤ ms.getD j 0)) (decide ([q.1, q.2].length ≤ ms.length)) 0 (min [q.1, q.2].length ms.length) = false := by
        cases i with
        | zero => rw [m0 rfl]; rfl
        | succ j =>
          have hj : j < ps.length := by
            have := (List.getElem?_eq_some_iff.mp hq).1
            omega
          rw [m1 j ps[j] rfl (List.getElem?_eq_getElem hj)]
          exact lexLe_no (G.le (List.getElem?_eq_getElem hj) hq)
      rw [no]
      refine ⟨_, rfl, iteF ?_⟩
      refine ⟨_, rfl, e1.trans e2, _, _, a, [q.1, q.2], rfl, hqa2, fun e => by omega, fun j q' e h' => ?_⟩
      have : j = i := by omega
      subst this
      rw [hq] at h'
      cases h'
      rfl
    · rintro σ H' ⟨e1, _⟩
      exact k _ e1
end
open PySem PySem.Spec L2
/-! ## ties as data -/
def pD (p : Int × Int) : PyData := .tuple [.int p.1, .int p.2]
theorem pD_lay (z : Int × Int) : (pD z).canLay0 = true := by simp [pD, PyData.canLay0, PyData.canLayAll0]
theorem pD_depth (z : Int × Int) : (pD z).depth = 1 := by simp [pD, PyData.depth, PyData.depthAll]
theorem pDs_lay : ∀ zs : List (Int × Int), PyData.canLayAll0 (zs.map pD) = true
  | [] => by simp [PyData.canLayAll0]
  | z :: zs => by simp [PyData.canLayAll0, pD_lay z, pDs_lay zs]
theorem pDs_depth : ∀ zs : List (Int × Int), PyData.depthAll (zs.map pD) ≤ 1
  | [] => by simp [PyData.depthAll]
  | z :: zs => by
    have h1 := pDs_depth zs
    have h2 := pD_depth z
    simp only [List.map_cons, PyData.depthAll]
    omega
theorem pD_shaped (z : Int × Int) : SeqAt.shaped (pD z) = true := by
  have h := pD_depth z
  show ((pD z).canLay0 && decide ((pD z).depth ≤ 64)) = true
  rw [Bool.and_eq_true]
  exact ⟨pD_lay z, decide_eq_true (by omega)⟩
theorem pDs_shaped (zs : List (Int × Int)) : SeqAt.shaped (.tuple (zs.map pD)) = true := by
  have h1 := pDs_depth zs
  have h2 : PyData.depth (.tuple (zs.map pD)) ≤ 64 := by
    simp only [PyData.depth]
    omega
  show (PyData.canLay0 (.tuple (zs.map pD)) && decide (PyData.depth (.tuple (zs.map pD)) ≤ 64)) = true
  rw [Bool.and_eq_true]
  exact ⟨by simp only [PyData.canLay0]; exact pDs_lay zs, decide_eq_true h2⟩
theorem pDs_shapedL (zs : List (Int × Int)) : SeqAt.shaped (.list (zs.map pD)) = true := by
  have h1 := pDs_depth zs
  have h2 : PyData.depth (.list (zs.map pD)) ≤ 64 := by
    simp only [PyData.depth]
    omega
  show (PyData.canLay0 (.list (zs.map pD)) && decide (PyData.depth (.list (zs.map pD)) ≤ 64)) = true
  rw [Bool.and_eq_true]
  exact ⟨by simp only [PyData.canLay0]; exact pDs_lay zs, decide_eq_true h2⟩
theorem pD_eqv (z w : Int × Int) : PyData.eqv (pD z) (pD w) = decide (z = w) := by
  obtain ⟨a, b⟩ := z
  obtain ⟨a', b'⟩ := w
  have e : PyData.eqv (pD (a, b)) (pD (a', b')) = ((a == a') && ((b == b') && true)) := by simp only [pD, PyData.eqv, PyData.eqvAll]
  rw [e]
  by_cases h : ((a, b) : Int × Int) = (a', b')
  · cases h; simp
  · rw [decide_eq_false h]
    by_cases h1 : a = a'
    · have q : (b == b') = false := beq_eq_false_iff_ne.mpr (fun h2 => h (by rw [h1, h2]))
      rw [q]; simp
    · have q : (a == a') = false := beq_eq_false_iff_ne.mpr h1
      rw [q]; simp
theorem pDs_eqv : ∀ ps qs : List (Int × Int), PyData.eqvAll (ps.map pD) (qs.map pD) = decide (ps = qs)
  | [], [] => by simp [PyData.eqvAll]
  | [], q :: qs => by simp [PyData.eqvAll]
  | p :: ps, [] => by simp [PyData.eqvAll]
  | p :: ps, q :: qs => by
    rw [List.map_cons, List.map_cons]
    simp only [PyData.eqvAll]
    rw [pD_eqv, pDs_eqv ps qs]
    by_cases h1 : p = q
    · by_cases h2 : ps = qs <;> simp [h1, h2]
    · simp [h1]
theorem pDt_eqv (ps qs : List (Int × Int)) : PyData.eqv (.tuple (ps.map pD)) (.tuple (qs.map pD)) = decide (ps = qs) := by
  simp only [PyData.eqv]
  exact pDs_eqv ps qs
section
variable {K : PySem.W.Frag} {H : Hp}
theorem dp_pair {v : V} {p : Int × Int} (h : PairAt H v p) : Dp K H v (pD p) := by
  obtain ⟨a, rfl, h2⟩ := h
  exact .tup (SqT.of h2) (.cons (.int _) (.cons (.int _) .nil))
theorem dp_pairs : ∀ {xs : List V} {ps : List (Int × Int)}, Pairs H xs ps → DpAll K H xs (ps.map pD)
  | _, _, .nil => .nil
  | _, _, .cons r t => .cons (dp_pair r) (dp_pairs t)
theorem dp_ties {t : Addr} {xs : List V} {ps : List (Int × Int)} (h : H t = some (.tup xs)) (hp : Pairs H xs ps) : Dp K H (.ref t) (.tuple (ps.map pD)) := .tup (SqT.of h) (dp_pairs hp)
theorem dp_list {t : Addr} {xs : List V} {ps : List (Int × Int)} (h : H t = some (.lst xs)) (hp : Pairs H xs ps) : Dp K H (.ref t) (.list (ps.map pD)) := .lst (SqL.of h) (dp_pairs hp)
end
/-! ## lists in order -/
theorem lt2_irr {p : Int × Int} : ¬ lt2 p p := by unfold lt2; omega
theorem lt2_trans {p q r : Int × Int} (h1 : lt2 p q) (h2 : lt2 q r) : lt2 p r := by unfold lt2 at *; omega
theorem lt2_of {p q : Int × Int} (h : le2 p q) (n : p ≠ q) : lt2 p q := by
  unfold le2 at h; unfold lt2
  rcases h with h | ⟨h1, h2⟩
  · exact .inl h
  · refine .inr ⟨h1, ?_⟩
    have : p.2 ≠ q.2 := fun e => n (Prod.ext h1 e)
    omega
theorem up_of {ps : List (Int × Int)} (h : ps.Pairwise le2) (n : ps.Nodup) : ps.Pairwise lt2 := by
  induction ps with
  | nil => exact .nil
  | cons p ps ih =>
    obtain ⟨h1, h2⟩ := List.pairwise_cons.mp h
    obtain ⟨n1, n2⟩ := List.nodup_cons.mp n
    refine List.pairwise_cons.mpr ⟨fun q hq => lt2_of (h1 q hq) (fun e => n1 (e ▸ hq)), ih h2 n2⟩
theorem up_ext : ∀ {ps qs : List (Int × Int)}, ps.Pairwise lt2 → qs.Pairwise lt2 → (∀ p, p ∈ ps ↔ p ∈ qs) → ps = qs
  | [], [], _, _, _ => rfl
  | [], q :: qs, _, _, h => by have := (h q).mpr (by simp); simp at this
  | p :: ps, [], _, _, h => by have := (h p).mp (by simp); simp at this
  | p :: ps, q :: qs, hp, hq, h => by
    obtain ⟨p1, p2⟩ := List.pairwise_cons.mp hp
    obtain ⟨q1, q2⟩ := List.pairwise_cons.mp hq
    have e : p = q := by
      rcases List.mem_cons.mp ((h p).mp (by simp)) with e | e
      · exact e
      · rcases List.mem_cons.mp ((h q).mpr (by simp)) with e' | e'
        · exact e'.symm
        · exact absurd (lt2_trans (q1 p e) (p1 q e')) lt2_irr
    subst e
    have : ps = qs := up_ext p2 q2 fun r => by
      constructor
      · intro hr
        rcases List.mem_cons.mp ((h r).mp (by simp [hr])) with e | e
        · subst e; exact absurd (p1 r hr) lt2_irr
        · exact e
      · intro hr
        rcases List.mem_cons.mp ((h r).mpr (by simp [hr])) with e | e
        · subst e; exact absurd (q1 r hr) lt2_irr
        · exact e
    rw [this]
theorem up_nodup {ps : List (Int × Int)} (h : ps.Pairwise lt2) : ps.Nodup := List.Pairwise.imp (fun {a b} (q : lt2 a b) => show a ≠ b from fun e => by subst e; exact lt2_irr q) h
def norm (a b : Int) : Int × Int := (if b < a then b else a, if b > a then b else a)
theorem norm_id {p : Int × Int} (h : p.1 < p.2) : norm p.1 p.2 = p := by
  unfold norm
  rw [if_neg (by omega), if_pos h]
section
variable {P : Program} {w : World} {K : PySem.W.Frag} {mg : Str → Option Value} {base : Heap} {C : Addr}
/-! ## Web -/
def wf (n : Int) (t : Addr) : List (Str × V) := putF "ties" (.ref t) (putF "size" (.int n) [])
theorem ts_ : ¬ (("ties" : Str) = "size") := by decide +kernel
theorem st_ : ¬ (("size" : Str) = "ties") := by decide +kernel
theorem wf_size (n : Int) (t : Addr) : (wf n t).lookup ("size" : Str) = some (.int n) := by
  unfold wf
  rw [lookup_putF, if_neg st_, lookup_putF, if_pos rfl]
theorem wf_ties (n : Int) (t : Addr) : (wf n t).lookup ("ties" : Str) = some (.ref t) := by
  unfold wf
  rw [lookup_putF, if_pos rfl]
theorem wf_len (n : Int) (t : Addr) : (wf n t).length = 2 := by
  show (if ("size" : Str) = "ties" then [(("size" : Str), V.ref t)] else (("size" : Str), V.int n) :: putF "ties" (V.ref t) []).length = 2
  rw [if_neg st_]
  rfl
def sp_Web_init (C : Addr) : Sp := fun vs H Q _ => ∃ x dx n t xs ps, vs = [.ref x, .int n, .ref t] ∧ H x = some (.ins C dx []) ∧ 1 ≤ n ∧ n ≤ 24 ∧ H t = some (.tup xs) ∧ Pairs H xs ps ∧ Good n ps ∧ ∀ H', ExT x H H' → H' x = some (.ins C dx (wf n t)) → Q .non H'
abbrev s_Web_init : Stmt := (inClass (top 8) 0)
theorem sc_Web_init : FnScope ["self", "size", "ties", "wrong"] ["self", "size", "ties"] (defScope s_Web_init) := ⟨rfl, rfl, rfl, by decide +kernel, rfl, by decide +kernel, by decide +kernel⟩

theorem ok_Web_init {f : Addr} {fd : FuncData} (F : Fun K "__init__" "Web.__init__" s_Web_init f fd) (B : Bl mg) (T : Txt K mg C) (c_is_number : Cal P w K mg base 2 "is_number" ["thing", "least", "most"] sp_is_number) (c_wrong_tie : Cal P w K mg base 4 "wrong_tie" ["size", "ties"] sp_wrong_tie) : FnOk P w K mg base CX0 5 f fd ["self", "size", "ties"] (sp_Web_init C) := by
  refine F.ok sc_Web_init (fun vs H Q E h => ?_) (fun cdv A outer s H vs Q E hr h => ?_)
  · obtain ⟨x, dx, n, t, xs, ps, rfl, _⟩ := h; rfl
  · obtain ⟨x, dx, n, t, xs, ps, rfl, hx, n1, n2, ht, hp, G, k⟩ := h
    obtain ⟨t24, h24⟩ := T.mg_MOST_PARTS
    refine ⟨_, (pss_cons (ps_if (pt_not (pt_val (pe_cal c_is_number (hr.mono (by first | decide | omega)) (pa_cons (pv 1) (pa_cons pe_int (pa_cons (pe_glob (v := .int 24) (by rfl) h24 ⟨_, rfl⟩) pa_nil)))))) (pss_one ps_never) pss_nil)
 (pss_cons (ps_if (pt_not (pt_val (pe_callB call_isi (by rfl) B.isinstance (by decide +kernel) (pa_cons (pv 2) (pa_cons (pe_bltn (v := .ty "tuple") (by rfl) B.tuple_ (by decide +kernel) rfl) pa_nil))))) (pss_one ps_never) pss_nil)
 (pss_cons (ps_set (i := 3) sc_Web_init.nd rfl (by first | exact Or.inl rfl | exact Or.inr rfl) (pe_cal c_wrong_tie (hr.mono (by first | decide | omega)) (pa_cons (pv 1) (pa_cons (pv 2) pa_nil))))
 (pss_cons (ps_if (pt_cmpR op_notN (pv 3) pe_non (nomark _)) (pss_one ps_never) pss_nil)
 (pss_cons (ps_fld (pv 0) (pv 1) rfl)
 (pss_one (ps_fld (pv 0) (pv 2) rfl))))))), ?_⟩
    refine ⟨_, rfl, n, 1, 24, rfl, _, rfl, ?_⟩
    rw [decide_eq_true (⟨n1, n2⟩ : 1 ≤ n ∧ n ≤ 24)]
    refine iteF ?_
    refine ⟨_, rfl, _, _, _, _, true, rfl, .ty "tuple", .base (.tup ht), kit_ty (by decide +kernel), true, rfl, iteF ?_⟩
    refine ⟨_, rfl, _, rfl, n, t, xs, ps, rfl, ht, hp, G, fun H1 e1 => ?_⟩
    refine ⟨_, rfl, rfl, _, rfl, iteF ?_⟩
    refine ⟨_, rfl, _, rfl, x, C, dx, [], rfl, e1 _ _ hx, T.cl, T.nSize, (by decide), ?_⟩
    refine ⟨_, rfl, _, rfl, x, C, dx, _, rfl, upd_same, T.cl, T.nTies, (by show 1 < 1000; decide), ?_⟩
    exact k _ (e1.exT.upd.upd) upd_same
/-- Web(size, ties) -/
theorem make_web {H : Hp} {n : Int} {t : Addr} {xs : List V} {ps : List (Int × Int)} {Q : Addr → Hp → Prop} (n1 : 1 ≤ n) (n2 : n ≤ 24) (ht : H t = some (.tup xs)) (hp : Pairs H xs ps) (G : Good n ps)
    (k : ∀ x H', Same H H' → H x = none → WebAt C H' x n t ps → (∃ dx, H' x = some (.ins C dx (wf n t))) → Q x H') :
    ∀ x dx, H x = none → H dx = none → dx ≠ x → sp_Web_init C (.ref x :: ([.int n, .ref t] ++ [])) (upd (upd H dx (.own x)) x (.ins C dx [])) (fun v H2 => v = .non ∧ Q x H2) E0 := by
  intro x dx nx nd ne
  have s0 : Same H (upd (upd H dx (.own x)) x (.ins C dx [])) := fun b o e => by
    rw [upd_ne (ne_of_none e nx), upd_ne (ne_of_none e nd)]
    exact e
  refine ⟨x, dx, n, t, xs, ps, rfl, upd_same, n1, n2, s0 _ _ ht, hp.tk s0.tk, G, fun H' e' h' => ⟨rfl, ?_⟩⟩
  have s1 : Same H H' := fun b o e => e' _ _ (ne_of_none e nx) (s0 _ _ e)
  exact k x H' s1 nx ⟨⟨dx, _, h', wf_size n t, wf_ties n t⟩, xs, s1 _ _ ht, hp.tk s1.tk⟩ ⟨dx, h'⟩
def sp_Web_eq (C : Addr) : Sp := fun vs H Q _ => ∃ a b n m t u ps qs, vs = [.ref a, .ref b] ∧ WebAt C H a n t ps ∧ WebAt C H b m u qs ∧ Q (.bl (decide (n = m ∧ ps = qs))) H
theorem kit_own {C : Addr} : PySem.W.kitOne K (.ref C) (.ref C) = some true := by
  unfold PySem.W.kitOne
  simp
abbrev s_Web_eq : Stmt := (inClass (top 8) 1)
theorem sc_Web_eq : FnScope ["self", "other"] ["self", "other"] (defScope s_Web_eq) := ⟨rfl, rfl, rfl, by decide +kernel, rfl, by decide +kernel, by decide +kernel⟩

theorem ok_Web_eq {f : Addr} {fd : FuncData} (F : Fun K "__eq__" "Web.__eq__" s_Web_eq f fd) (B : Bl mg) (T : Txt K mg C) : FnOk P w K mg base CX0 1 f fd ["self", "other"] (sp_Web_eq C) := by
  refine F.ok sc_Web_eq (fun vs H Q E h => ?_) (fun cdv A outer s H vs Q E hr h => ?_)
  · obtain ⟨a, b, n, m, t, u, ps, qs, rfl, _⟩ := h; rfl
  · obtain ⟨a, b, n, m, t, u, ps, qs, rfl, ⟨⟨dx, fs, h1, h2, h3⟩, xs, h4, h5⟩, ⟨⟨dy, gs, g1, g2, g3⟩, ys, g4, g5⟩, k⟩ := h
    refine ⟨_, (pss_one (ps_ret (pe_and (pe_callB call_isi (by rfl) B.isinstance (by decide +kernel) (pa_cons (pv 1) (pa_cons (pe_globR T.mg_Web) pa_nil))) (pe_and (pe_cmpR op_eq (pe_fld (pv 0) rfl) (pe_fld (pv 1) rfl) (nomark _)) (pe_one (pe_cmpR (op_eqD hr.units) (pe_fld (pv 0) rfl) (pe_fld (pv 1) rfl) (nomark _))))))), ?_⟩
    refine ⟨_, rfl, _, _, _, _, true, rfl, .own C, .base (.ins g1 T.cl T.xc T.xg T.xt T.xm), kit_own, true, rfl, iteT ?_⟩
    refine ⟨_, rfl, a, C, dx, fs, _, rfl, h1, T.cl, T.nSize, h2, _, rfl, b, C, dy, gs, _, rfl, g1, T.cl, T.nSize, g2, rfl, _, rfl, ?_⟩
    by_cases e : n = m
    · rw [if_pos (decide_eq_true (by rw [e]))]
      refine ⟨_, rfl, a, C, dx, fs, _, rfl, h1, T.cl, T.nTies, h3, _, rfl, b, C, dy, gs, _, rfl, g1, T.cl, T.nTies, g3, _, _, dp_ties h4 h5, dp_ties g4 g5, pDs_shaped ps, pDs_shaped qs, ?_⟩
      rw [pDt_eqv]
      have e2 : decide (n = m ∧ ps = qs) = decide (ps = qs) := by simp [e]
      rw [e2] at k
      exact k
    · rw [if_neg (by simpa using e)]
      have e2 : decide (n = m ∧ ps = qs) = false := decide_eq_false fun q => e q.1
      rw [e2] at k
      exact k
end
open PySem PySem.Spec L2
theorem paired_map {α β γ : Type} {F : α → γ → Prop} {g : β → γ} : ∀ {l : List α} {m : List β}, Paired (fun v a => F v (g a)) l m → Paired F l (m.map g)
  | _, _, .nil => .nil
  | _, _, .cons r t => .cons r (paired_map t)
theorem paired_eq {α : Type} {g : α → V} : ∀ {l : List V} {m : List α}, Paired (fun v a => v = g a) l m → l = m.map g
  | _, _, .nil => rfl
  | _, _, .cons r t => by rw [r, paired_eq t]; rfl
theorem filter_yes {α : Type} (l : List α) : l.filter (fun _ => true) = l := List.filter_eq_self.mpr fun _ _ => rfl
theorem paired_at {α : Type} {F : V → α → Prop} {xs : List V} {as : List α} {i : Nat} {x : V} {a : α} (h : Paired F xs as) (hx : xs[i]? = some x) (ha : as[i]? = some a) : F x a := by
  obtain ⟨b, hb, q⟩ := Paired.get h hx
  rw [ha] at hb
  cases hb
  exact q
section
variable {P : Program} {w : World} {K : PySem.W.Frag} {mg : Str → Option Value} {base : Heap} {C : Addr}
theorem inV_pair (k a b : Int) : inV (.int k) [.int a, .int b] = (a == k || b == k) := by
  simp [inV, eqV]
theorem norm_lt {a b : Int} (h : a ≠ b) : (norm a b).1 < (norm a b).2 := by
  unfold norm
  by_cases h1 : b < a
  · rw [if_pos h1, if_neg (by omega)]; exact h1
  · rw [if_neg h1, if_pos (by omega)]; show a < b; omega
theorem norm_in {a b n : Int} (h : a ≠ b) (a1 : 0 ≤ a) (a2 : a < n) (b1 : 0 ≤ b) (b2 : b < n) : 0 ≤ (norm a b).1 ∧ (norm a b).1 < (norm a b).2 ∧ (norm a b).2 < n := by
  unfold norm
  by_cases h1 : b < a
  · rw [if_pos h1, if_neg (by omega)]; exact ⟨b1, h1, a2⟩
  · rw [if_neg h1, if_pos (by omega)]; exact ⟨a1, by show a < b; omega, b2⟩
theorem map_norm {n : Int} {ps : List (Int × Int)} (h : ∀ p ∈ ps, p.1 < p.2) : (ps.map fun p => norm p.1 p.2) = ps := by
  induction ps with
  | nil => rfl
  | cons p ps ih => rw [List.map_cons, norm_id (h p (by simp)), ih fun q hq => h q (by simp [hq])]
theorem good_of {n : Int} {qs rs : List (Int × Int)} (hp : qs.Perm rs) (hl : qs.Pairwise le2) (hn : rs.Nodup) (ok : ∀ p ∈ rs, 0 ≤ p.1 ∧ p.1 < p.2 ∧ p.2 < n) : Good n qs :=
  ⟨fun p h => ok p (hp.mem_iff.mp h), up_of hl (hp.nodup_iff.mpr hn)⟩
end
open PySem PySem.Spec L2
theorem fm0 {a m : Int} (h : 0 < m) : 0 ≤ a.fmod m ∧ a.fmod m < m := by
  rw [Int.fmod_eq_emod_of_nonneg _ (Int.le_of_lt h)]
  exact ⟨Int.emod_nonneg _ (by omega), Int.emod_lt_of_pos _ h⟩
theorem on_if {c : Prop} [Decidable c] {A B : Hp → Prop} {H : Hp} (h1 : c → A H) (h2 : ¬ c → B H) : (fun (b : Bool) (H1 : Hp) => if b = true then A H1 else B H1) (decide c) H := by
  by_cases h : c
  · show (if decide c = true then A H else B H)
    rw [if_pos (decide_eq_true h)]; exact h1 h
  · show (if decide c = true then A H else B H)
    rw [if_neg (by simpa using h)]; exact h2 h
theorem on_ifN {c : Prop} [Decidable c] {A B : Hp → Prop} {H : Hp} (h1 : ¬ c → A H) (h2 : c → B H) : (fun (b : Bool) (H1 : Hp) => if b = true then A H1 else B H1) (!decide c) H := by
  by_cases h : c
  · show (if (!decide c) = true then A H else B H)
    rw [if_neg (by simpa using h)]; exact h2 h
  · show (if (!decide c) = true then A H else B H)
    rw [if_pos (by simpa using h)]; exact h1 h
section
variable {P : Program} {w : World} {K : PySem.W.Frag} {mg : Str → Option Value} {base : Heap} {C : Addr}
def sp_tape (K : PySem.W.Frag) : Sp := fun vs H Q _ => ∃ (a : Addr) (ns : List Int), vs = [.ref a] ∧ SqL K H a (ns.map V.int) ∧ ∀ T L H', Same H H' → H T = none → H L = none → Tp H' T L → Q (.ref T) H'
abbrev s__law_tape : Stmt := (top 12)
theorem sc__law_tape : FnScope ["script"] ["script"] (defScope s__law_tape) := ⟨rfl, rfl, rfl, by decide +kernel, rfl, by decide +kernel, by decide +kernel⟩

theorem ok_law_tape {f : Addr} {fd : FuncData} (F : Fun K "_law_tape" "_law_tape" s__law_tape f fd) (hm : mg "_law_tape" = some (.ref f)) (B : Bl mg) : Cal P w K mg base 1 "_law_tape" ["script"] (sp_tape K) := by
  refine ⟨f, fd, F.ok sc__law_tape (fun vs H Q E h => ?_) (fun cdv A outer s H vs Q E hr h => ?_), hm, F.kp, F.binds (ps := ["script"]) fun _ _ _ _ _ _ us hl => match us, hl with | [_], _ => rfl⟩
  · obtain ⟨a, ns, rfl, _⟩ := h; rfl
  · obtain ⟨a, ns, rfl, hS, k⟩ := h
    refine ⟨_, (pss_one (ps_ret (pe_lst (pa_cons (pe_callTy call_list_of (by rfl) B.list_ (by decide +kernel) (pa_cons (pv 0) pa_nil)) (pa_cons pe_int (pa_cons pe_int (pa_cons pe_int (pa_cons pe_int pa_nil)))))))), ?_⟩
    refine ⟨_, rfl, a, _, rfl, .inl hS, fun l hl => ?_⟩
    refine ⟨by show 5 ≤ sizeLine; decide, fun T hT => ?_⟩
    have e := (L2.Same.new (o := .lst (ns.map V.int)) hl).new' (o := .lst [.ref l, .int 0, .int 0, .int 1, .int 0]) hT
    have ne : l ≠ T := fun q => by rw [← q, upd_same] at hT; cases hT
    exact k T l _ e (L2.Same.free (L2.Same.new hl) hT) hl ⟨⟨ns, 0, 0, 1, 0⟩, upd_same, by rw [upd_ne ne, upd_same], ne, (by show (0 : Int) ≤ 0; decide), (by show (0 : Int) ≤ 1; decide), (by show (1 : Int) < 2147483648; decide)⟩
abbrev s__law_pick : Stmt := (top 13)
theorem sc__law_pick : FnScope ["tape", "many", "digit", "cell", "mixed"] ["tape", "many"] (defScope s__law_pick) := ⟨rfl, rfl, rfl, by decide +kernel, rfl, by decide +kernel, by decide +kernel⟩

theorem ok_law_pick {f : Addr} {fd : FuncData} (F : Fun K "_law_pick" "_law_pick" s__law_pick f fd) (hm : mg "_law_pick" = some (.ref f)) (B : Bl mg) : Cal P w K mg base 1 "_law_pick" ["tape", "many"] spPick := by
  refine ⟨f, fd, F.ok sc__law_pick (fun vs H Q E h => ?_) (fun cdv A outer s H vs Q E hr h => ?_), hm, F.kp, F.binds (ps := ["tape", "many"]) fun _ _ _ _ _ _ us hl => match us, hl with | [_, _], _ => rfl⟩
  · obtain ⟨T, l, m, rfl, _⟩ := h; rfl
  · obtain ⟨T, l, m, rfl, m1, m2, ⟨⟨ns, i1, i2, i3, i4⟩, hT, hl, ne, p1, p3, p4⟩, k⟩ := h
    dsimp only at hT hl ne p1 p3 p4
    have m0 : m ≠ 0 := by omega
    have mN : m.natAbs < 1073741824 := by omega
    refine ⟨_, (pss_cons (ps_if (pt_cmpR op_gt (pe_ix ix_list (pv 0) pe_int (fun _ _ => rfl)) pe_int (nomark _)) (pss_cons (ps_set (i := 2) sc__law_pick.nd rfl (by first | exact Or.inl rfl | exact Or.inr rfl) (pe_op op_modN (pe_callTy call_int1 (by rfl) B.int_ (by decide +kernel) (pa_cons (pe_ix ix_list (pv 0) pe_int (fun _ _ => rfl)) pa_nil)) (pv 1)))
 (pss_cons (ps_asg (pe_op op_fdivN (pe_ix ix_list (pv 0) pe_int (fun _ _ => rfl)) (pv 1)) (pg_sub (pv 0) pe_int set_list))
 (pss_one (ps_ret (pv 2))))) pss_nil)
 (pss_cons (ps_asg (pe_op op_add (pe_ix ix_list (pv 0) pe_int (fun _ _ => rfl)) pe_int) (pg_sub (pv 0) pe_int set_list))
 (pss_cons (ps_set (i := 3) sc__law_pick.nd rfl (by first | exact Or.inl rfl | exact Or.inr rfl) pe_int)
 (Evl.pss_cut (ps_if (pt_cmpR op_lt (pe_ix ix_list (pv 0) pe_int (fun _ _ => rfl)) (pe_callB call_len_seq (by rfl) B.len (by decide +kernel) (pa_cons (pe_ix ix_list (pv 0) pe_int (fun _ _ => rfl)) pa_nil)) (nomark _)) (pss_cons (ps_set (i := 3) sc__law_pick.nd rfl (by first | exact Or.inl rfl | exact Or.inr rfl) (pe_ix ix_list (pe_ix ix_list (pv 0) pe_int (fun _ _ => rfl)) (pe_ix ix_list (pv 0) pe_int (fun _ _ => rfl)) (fun _ _ => rfl)))
 (pss_one (ps_asg (pe_op op_add (pe_ix ix_list (pv 0) pe_int (fun _ _ => rfl)) pe_int) (pg_sub (pv 0) pe_int set_list)))) pss_nil)
 (pss_cons (ps_if (pt_cmpR op_ge (pv 3) (pe_op op_pow pe_int pe_int) (nomark _)) (pss_cons (ps_asg (pe_op op_fdivN (pv 3) (pv 1)) (pg_sub (pv 0) pe_int set_list))
 (pss_one (ps_ret (pe_op op_modN (pe_callTy call_int1 (by rfl) B.int_ (by decide +kernel) (pa_cons (pv 3) pa_nil)) (pv 1))))) pss_nil)
 (pss_cons (ps_set (i := 4) sc__law_pick.nd rfl (by first | exact Or.inl rfl | exact Or.inr rfl) (pe_op op_modN (pe_callTy call_int1 (by rfl) B.int_ (by decide +kernel) (pa_cons (pe_op op_add (pe_op op_add (pe_op op_mul (pe_ix ix_list (pv 0) pe_int (fun _ _ => rfl)) pe_int) (pe_op op_modN (pe_callTy call_int1 (by rfl) B.int_ (by decide +kernel) (pa_cons (pv 3) pa_nil)) pe_int)) (pe_op op_mul (pe_ix ix_list (pv 0) pe_int (fun _ _ => rfl)) pe_int)) pa_nil)) pe_int))
 (pss_cons (ps_set (i := 4) sc__law_pick.nd rfl (by first | exact Or.inl rfl | exact Or.inr rfl) (pe_op op_modN (pe_callTy call_int1 (by rfl) B.int_ (by decide +kernel) (pa_cons (pe_op op_mul (pv 4) (pe_op op_add (pe_op op_fdivN (pv 4) pe_int) pe_int)) pa_nil)) pe_int))
 (pss_cons (ps_asg (pv 4) (pg_sub (pv 0) pe_int set_list))
 (pss_one (ps_ret (pe_op op_modN (pe_callTy call_int1 (by rfl) B.int_ (by decide +kernel) (pa_cons (pe_op op_fdivN (pv 4) pe_int) pa_nil)) (pv 1)))))))))))), ?_⟩
    refine ⟨_, rfl, T, _, 2, _, rfl, rfl, SqL.of hT, rfl, _, _, rfl, rfl, _, rfl, ?_⟩
    refine on_if (fun c => ?_) (fun c => ?_)
    · refine ⟨_, rfl, T, _, 2, _, rfl, rfl, SqL.of hT, rfl, .inl ⟨_, rfl, ?_⟩⟩
      refine ⟨_, rfl, _, _, rfl, rfl, m0, ?_⟩
      refine ⟨_, rfl, T, _, 2, _, rfl, rfl, SqL.of hT, rfl, _, rfl, _, _, rfl, rfl, ⟨m0, mN⟩, ?_⟩
      refine ⟨_, rfl, T, _, 2, 2, rfl, rfl, hT, rfl, ?_⟩
      refine ⟨_, rfl, k _ _ (fm0 m1).1 (fm0 m1).2 ExT.rfl'.upd ⟨⟨ns, i1, i2.fdiv m, i3, i4⟩, upd_same, by rw [upd_ne ne]; exact hl, ne, p1, p3, p4⟩⟩
    · refine ⟨_, rfl, T, _, 4, _, rfl, rfl, SqL.of hT, rfl, _, _, rfl, rfl, ?_⟩
      refine ⟨_, rfl, T, _, 4, 4, rfl, rfl, hT, rfl, ?_⟩
      have e1 : ExT T H (upd H T (.lst ([.ref l, .int i1, .int i2, .int i3, .int i4].set 4 (.int (i4 + 1))))) := ExT.rfl'.upd
      generalize hH1 : upd H T (.lst ([.ref l, .int i1, .int i2, .int i3, .int i4].set 4 (.int (i4 + 1)))) = H1 at e1 ⊢
      have hT1 : H1 T = some (.lst [.ref l, .int i1, .int i2, .int i3, .int (i4 + 1)]) := by rw [← hH1]; exact upd_same
      have hl1 := e1 _ _ ne hl
      refine ⟨fun σ H' => ∃ (cc i1' : Int), σ = [some (.ref T), some (.int m), none, some (.int cc), none] ∧ ExT T H H' ∧ H' T = some (.lst [.ref l, .int i1', .int i2, .int i3, .int (i4 + 1)]) ∧ 0 ≤ i1', ?_, ?_⟩
      · refine ⟨_, rfl, T, _, 1, _, rfl, rfl, SqL.of hT1, rfl, _, rfl, T, _, 0, _, rfl, rfl, SqL.of hT1, rfl, l, _, rfl, .inl (SqL.of hl1), _, _, rfl, rfl, _, rfl, ?_⟩
        refine on_if (fun c2 => ?_) (fun c2 => ?_)
        · rw [List.length_map] at c2
          have hc : ns[i1.toNat]? = some ns[i1.toNat] := List.getElem?_eq_getElem (by omega)
          refine ⟨_, rfl, T, _, 0, _, rfl, rfl, SqL.of hT1, rfl, _, rfl, T, _, 1, _, rfl, rfl, SqL.of hT1, rfl, l, _, i1, .int ns[i1.toNat], rfl, rfl, SqL.of hl1, at_of (j := i1.toNat) (by omega) (by rw [List.getElem?_map, hc]; rfl), ?_⟩
          refine ⟨_, rfl, T, _, 1, _, rfl, rfl, SqL.of hT1, rfl, _, _, rfl, rfl, ?_⟩
          refine ⟨_, rfl, T, _, 1, 1, rfl, rfl, hT1, rfl, ?_⟩
          exact ⟨_, _, rfl, e1.upd, upd_same, by omega⟩
        · exact ⟨_, _, rfl, e1, hT1, p1⟩
      · rintro σ H2 ⟨cc, i1', rfl, e2, hT2, q1⟩
        have hl2 := e2 _ _ ne hl
        refine ⟨_, rfl, _, _, rfl, rfl, ⟨by decide, by decide, by decide⟩, _, _, rfl, rfl, _, rfl, ?_⟩
        refine on_if (fun c3 => ?_) (fun c3 => ?_)
        · refine ⟨_, rfl, _, rfl, _, _, rfl, rfl, ⟨m0, mN⟩, ?_⟩
          refine ⟨_, rfl, T, _, 2, 2, rfl, rfl, hT2, rfl, ?_⟩
          refine ⟨_, rfl, .inl ⟨_, rfl, _, rfl, _, _, rfl, rfl, m0, k _ _ (fm0 m1).1 (fm0 m1).2 e2.upd ⟨⟨ns, i1', cc.fdiv m, i3, i4 + 1⟩, upd_same, by rw [upd_ne ne]; exact hl2, ne, q1, p3, p4⟩⟩⟩
        · refine ⟨_, rfl, T, _, 3, _, rfl, rfl, SqL.of hT2, rfl, _, _, rfl, rfl, .inr ⟨by decide, by decide⟩, ?_⟩
          refine ⟨_, rfl, .inl ⟨_, rfl, _, _, rfl, rfl, (by show (2147483629 : Int) ≠ 0; decide), _, _, rfl, rfl, ?_⟩⟩
          refine ⟨_, rfl, T, _, 4, _, rfl, rfl, SqL.of hT2, rfl, _, _, rfl, rfl, .inr ⟨by decide, by decide⟩, _, _, rfl, rfl, .inl ⟨_, rfl, _, _, rfl, rfl, (by show (2147483647 : Int) ≠ 0; decide), ?_⟩⟩
          dsimp only
          generalize hm1 : (i3 * 48271 + cc.fmod 2147483629 + (i4 + 1) * 69621).fmod 2147483647 = mx
          have b1 : 0 ≤ mx ∧ mx < 2147483647 := by rw [← hm1]; exact fm0 (by decide)
          refine ⟨_, rfl, _, rfl, _, _, rfl, rfl, ⟨by decide, by decide⟩, _, _, rfl, rfl, _, _, rfl, rfl, .inl ⟨by omega, by omega⟩, .inl ⟨_, rfl, _, _, rfl, rfl, (by show (2147483399 : Int) ≠ 0; decide), ?_⟩⟩
          dsimp only
          generalize hm2 : (mx * (mx.fdiv 1009 + 40692)).fmod 2147483399 = my
          have b2 : 0 ≤ my ∧ my < 2147483399 := by rw [← hm2]; exact fm0 (by decide)
          refine ⟨_, rfl, _, rfl, T, _, 3, 3, rfl, rfl, hT2, rfl, ?_⟩
          refine ⟨_, rfl, _, _, rfl, rfl, ⟨by decide, by decide⟩, .inl ⟨_, rfl, _, rfl, _, _, rfl, rfl, m0, ?_⟩⟩
          exact k _ _ (fm0 m1).1 (fm0 m1).2 e2.upd ⟨⟨ns, i1', i2, my, i4 + 1⟩, upd_same, by rw [upd_ne ne]; exact hl2, ne, q1, b2.1, (by show my < 2147483648; omega)⟩
end
open PySem PySem.Spec L2
/-! ## the law's own likeness: the same data on both sides -/
def flat1 : V → Bool
  | .non => true
  | .bl _ => true
  | .int _ => true
  | .str _ => true
  | _ => false
def SameV : Nat → Hp → V → V → Prop
  | 0, _, v, u => v = u ∧ flat1 v = true
  | k + 1, H, v, u => SameV k H v u ∨ (∃ a b xs ys, v = .ref a ∧ u = .ref b ∧ ((H a = some (.tup xs) ∧ H b = some (.tup ys)) ∨ (H a = some (.lst xs) ∧ H b = some (.lst ys))) ∧ xs.length ≤ 100000 ∧ Paired (SameV k H) xs ys)
theorem SameV.same : ∀ {k : Nat} {H H' : Hp} {v u : V}, SameV k H v u → Same H H' → SameV k H' v u
  | 0, _, _, _, _, h, _ => h
  | k + 1, H, H', v, u, h, e => by
    rcases h with h | ⟨a, b, xs, ys, rfl, rfl, h, hl, hp⟩
    · exact .inl (SameV.same h e)
    · refine .inr ⟨a, b, xs, ys, rfl, rfl, ?_, hl, Paired.imp' hp fun _ _ q => SameV.same q e⟩
      rcases h with ⟨h1, h2⟩ | ⟨h1, h2⟩
      · exact .inl ⟨e _ _ h1, e _ _ h2⟩
      · exact .inr ⟨e _ _ h1, e _ _ h2⟩
theorem SameV.up {k : Nat} {H : Hp} {v u : V} (h : SameV k H v u) : SameV (k + 1) H v u := .inl h
theorem paired_ints {k : Nat} {H : Hp} : ∀ (l : List Int), Paired (SameV k H) (l.map V.int) (l.map V.int) := by
  intro l
  have z : ∀ (k : Nat) (i : Int), SameV k H (.int i) (.int i) := by
    intro k i
    induction k with
    | zero => exact ⟨rfl, rfl⟩
    | succ k ih => exact .inl ih
  induction l with
  | nil => exact .nil
  | cons i l ih => exact .cons (z k i) ih
theorem same_int (k : Nat) (H : Hp) (i : Int) : SameV k H (.int i) (.int i) := by
  induction k with
  | zero => exact ⟨rfl, rfl⟩
  | succ k ih => exact .inl ih
theorem same_pairs {k : Nat} {H : Hp} : ∀ {xs ys : List V} {ps : List (Int × Int)}, Pairs H xs ps → Pairs H ys ps → Paired (SameV (k + 1) H) xs ys
  | _, _, _, .nil, .nil => .nil
  | _, _, _, .cons r t, .cons r' t' => by
    refine .cons ?_ (same_pairs t t')
    obtain ⟨a, rfl, ha⟩ := r
    obtain ⟨b, rfl, hb⟩ := r'
    exact .inr ⟨a, b, _, _, rfl, rfl, .inl ⟨ha, hb⟩, (by show 2 ≤ 100000; decide), .cons (same_int _ _ _) (.cons (same_int _ _ _) .nil)⟩
def spSame (k : Nat) : Sp := fun vs H Q _ => ∃ v u, vs = [v, u] ∧ SameV k H v u ∧ ∀ H', Same H H' → Q (.bl true) H'
theorem bl_all : ∀ {l : List V} {m : List (V × V)}, Paired (fun v _ => v = .bl true) l m → l = (m.map fun _ => true).map V.bl
  | _, _, .nil => rfl
  | _, _, .cons r t => by rw [r, bl_all t]; rfl
theorem zip_get {α β : Type} {xs : List α} {ys : List β} {i : Nat} {p : α × β} (h : (xs.zip ys)[i]? = some p) : xs[i]? = some p.1 ∧ ys[i]? = some p.2 := by
  rw [List.getElem?_zip_eq_some] at h
  exact h
section
variable {P : Program} {w : World} {K : PySem.W.Frag} {mg : Str → Option Value} {base : Heap} {C : Addr}
abbrev s__law_is_integer : Stmt := (top 14)
theorem sc__law_is_integer : FnScope ["thing"] ["thing"] (defScope s__law_is_integer) := ⟨rfl, rfl, rfl, by decide +kernel, rfl, by decide +kernel, by decide +kernel⟩

theorem ok_law_is_integer {f : Addr} {fd : FuncData} (F : Fun K "_law_is_integer" "_law_is_integer" s__law_is_integer f fd) (hm : mg "_law_is_integer" = some (.ref f)) (B : Bl mg) : Cal P w K mg base 1 "_law_is_integer" ["thing"] sp_is_integer := by
  refine ⟨f, fd, F.ok sc__law_is_integer (fun vs H Q E h => ?_) (fun cdv A outer s H vs Q E hr h => ?_), hm, F.kp, F.binds (ps := ["thing"]) fun _ _ _ _ _ _ us hl => match us, hl with | [_], _ => rfl⟩
  · obtain ⟨i, rfl, _⟩ := h; rfl
  · obtain ⟨i, rfl, k⟩ := h
    refine ⟨_, (pss_one (ps_ret (pe_and (pe_callB call_isi (by rfl) B.isinstance (by decide +kernel) (pa_cons (pv 0) (pa_cons (pe_bltn (v := .ty "int") (by rfl) B.int_ (by decide +kernel) rfl) pa_nil))) (pe_one (pe_not (pe_callB call_isi (by rfl) B.isinstance (by decide +kernel) (pa_cons (pv 0) (pa_cons (pe_bltn (v := .ty "bool") (by rfl) B.bool_ (by decide +kernel) rfl) pa_nil)))))))), ?_⟩
    refine ⟨_, rfl, _, _, _, _, true, rfl, .ty "int", .base (.int i), kit_ty (by decide +kernel), true, rfl, iteT ?_⟩
    refine ⟨_, rfl, _, _, _, _, false, rfl, .ty "bool", .base (.int i), kit_ty (by decide +kernel), false, rfl, ?_⟩
    exact k
theorem ka2 {t a b : String} {x y : Bool} (h1 : kitB t a = some x) (h2 : kitB t b = some y) : PySem.W.kitAny K (.type t) [.type a, .type b] = some (x || y) :=
  kitAny_cons (kit_ty h1) (fun e => by subst e; exact kitAny_cons (kit_ty h2) (fun e => by subst e; exact kitAny_nil) (fun e => by subst e; rfl)) (fun e => by subst e; rfl)
theorem tyx_flat {H : Hp} {v : V} (h : flat1 v = true) : ∃ t : String, TyX K H v (.type t) ∧ PySem.W.kitAny K (.type t) [.type "list", .type "tuple"] = some false := by
  cases v with
  | non => exact ⟨_, .base .non, ka2 (x := false) (y := false) (by decide +kernel) (by decide +kernel)⟩
  | bl b => exact ⟨_, .base (.bl b), ka2 (x := false) (y := false) (by decide +kernel) (by decide +kernel)⟩
  | int i => exact ⟨_, .base (.int i), ka2 (x := false) (y := false) (by decide +kernel) (by decide +kernel)⟩
  | str z => exact ⟨_, .base (.str z), ka2 (x := false) (y := false) (by decide +kernel) (by decide +kernel)⟩
  | _ => cases h
abbrev s__law_same : Stmt := (top 16)
theorem sc__law_same : FnScope ["told", "due", "one", "other"] ["told", "due"] (defScope s__law_same) := ⟨rfl, rfl, rfl, by decide +kernel, rfl, by decide +kernel, by decide +kernel⟩

theorem fn_law_same0 {f : Addr} {fd : FuncData} (F : Fun K "_law_same" "_law_same" s__law_same f fd) (B : Bl mg) (c__law_is_integer : Cal P w K mg base 1 "_law_is_integer" ["thing"] sp_is_integer) : FnOk P w K mg base CX0 2 f fd ["told", "due"] (spSame 0) := by
  refine F.ok sc__law_same (fun vs H Q E h => ?_) (fun cdv A outer s H vs Q E hr h => ?_)
  · obtain ⟨v, u, rfl, _⟩ := h; rfl
  · obtain ⟨v, u, rfl, ⟨rfl, fl⟩, k⟩ := h
    obtain ⟨ty, h1, h2⟩ := tyx_flat (K := K) (H := H) fl
    refine ⟨_, (pss_cons (ps_if (pt_val (pe_callB call_isiT (by rfl) B.isinstance (by decide +kernel) (pa_cons (pv 1) (pa_cons (pe_tup (pa_cons (pe_bltn (v := .ty "list") (by rfl) B.list_ (by decide +kernel) rfl) (pa_cons (pe_bltn (v := .ty "tuple") (by rfl) B.tuple_ (by decide +kernel) rfl) pa_nil))) pa_nil)))) pss_never pss_nil)
 (pss_cons (ps_if (pt_cmpR op_isN (pv 1) pe_non (nomark _)) (pss_one (ps_ret (pe_cmpR op_isN (pv 0) pe_non (nomark _)))) pss_nil)
 (pss_cons (ps_if (pt_val (pe_callB call_isi (by rfl) B.isinstance (by decide +kernel) (pa_cons (pv 1) (pa_cons (pe_bltn (v := .ty "bool") (by rfl) B.bool_ (by decide +kernel) rfl) pa_nil)))) (pss_one (ps_ret (pe_and (pe_callB call_isi (by rfl) B.isinstance (by decide +kernel) (pa_cons (pv 0) (pa_cons (pe_bltn (v := .ty "bool") (by rfl) B.bool_ (by decide +kernel) rfl) pa_nil))) (pe_one (pe_cmpR op_eq (pv 0) (pv 1) (nomark _)))))) pss_nil)
 (pss_cons (ps_if (pt_val (pe_callB call_isi (by rfl) B.isinstance (by decide +kernel) (pa_cons (pv 1) (pa_cons (pe_bltn (v := .ty "str") (by rfl) B.str_ (by decide +kernel) rfl) pa_nil)))) (pss_one (ps_ret (pe_and (pe_callB call_isi (by rfl) B.isinstance (by decide +kernel) (pa_cons (pv 0) (pa_cons (pe_bltn (v := .ty "str") (by rfl) B.str_ (by decide +kernel) rfl) pa_nil))) (pe_one (pe_cmpR op_eq (pv 0) (pv 1) (nomark _)))))) pss_nil)
 (pss_one (ps_ret (pe_and (pe_cal c__law_is_integer (hr.mono (by first | decide | omega)) (pa_cons (pv 0) pa_nil)) (pe_one (pe_cmpR op_eq (pv 0) (pv 1) (nomark _)))))))))), ?_⟩
    refine ⟨_, rfl, (by show 2 ≤ sizeLine; decide), fun p hp => ?_⟩
    have ep := L2.Same.new (o := .tup [.ty "list", .ty "tuple"]) hp
    obtain ⟨ty, h1, h2⟩ := tyx_flat (K := K) (H := upd H p (.tup [.ty "list", .ty "tuple"])) fl
    refine ⟨_, p, _, _, _, false, rfl, upd_same, .cons (.ty "list") (.cons (.ty "tuple") .nil), h1, h2, false, rfl, iteF ?_⟩
    cases v with
    | non => exact ⟨_, rfl, rfl, _, rfl, iteT ⟨_, rfl, rfl, k _ ep⟩⟩
    | bl b =>
      refine ⟨_, rfl, rfl, _, rfl, iteF ?_⟩
      refine ⟨_, rfl, _, _, _, _, true, rfl, .ty "bool", .base (.bl b), kit_ty (by decide +kernel), true, rfl, iteT ?_⟩
      refine ⟨_, rfl, _, _, _, _, true, rfl, .ty "bool", .base (.bl b), kit_ty (by decide +kernel), true, rfl, iteT ?_⟩
      refine ⟨_, rfl, _, rfl, rfl, ?_⟩
      rw [decide_eq_true rfl]
      exact k _ ep
    | int i =>
      refine ⟨_, rfl, rfl, _, rfl, iteF ?_⟩
      refine ⟨_, rfl, _, _, _, _, false, rfl, .ty "bool", .base (.int i), kit_ty (by decide +kernel), false, rfl, iteF ?_⟩
      refine ⟨_, rfl, _, _, _, _, false, rfl, .ty "str", .base (.int i), kit_ty (by decide +kernel), false, rfl, iteF ?_⟩
      refine ⟨_, rfl, i, rfl, true, rfl, iteT ?_⟩
      refine ⟨_, rfl, _, rfl, rfl, ?_⟩
      rw [decide_eq_true rfl]
      exact k _ ep
    | str z =>
      refine ⟨_, rfl, rfl, _, rfl, iteF ?_⟩
      refine ⟨_, rfl, _, _, _, _, false, rfl, .ty "bool", .base (.str z), kit_ty (by decide +kernel), false, rfl, iteF ?_⟩
      refine ⟨_, rfl, _, _, _, _, true, rfl, .ty "str", .base (.str z), kit_ty (by decide +kernel), true, rfl, iteT ?_⟩
      refine ⟨_, rfl, _, _, _, _, true, rfl, .ty "str", .base (.str z), kit_ty (by decide +kernel), true, rfl, iteT ?_⟩
      refine ⟨_, rfl, _, rfl, rfl, ?_⟩
      rw [decide_eq_true rfl]
      exact k _ ep
    | _ => cases fl
end
open PySem PySem.Spec L2
theorem _root_.L2.FnOk.or {P : Program} {w : World} {K : PySem.W.Frag} {mg : Str → Option Value} {base : Heap} {CX : CXT} {k : Nat} {f : Addr} {fd : FuncData} {ps : List Str} {sp sp' : Sp} (F : FnOk P w K mg base CX k f fd ps sp) (F' : FnOk P w K mg base CX k f fd ps sp') :
    FnOk P w K mg base CX k f fd ps (fun vs H Q E => sp vs H Q E ∨ sp' vs H Q E) :=
  ⟨fun vs H Q E q => q.elim (F.len vs H Q E) (F'.len vs H Q E), fun A outer s H args us vs Q E hr he hb hv hs => hs.elim (F.run A outer s H args us vs Q E hr he hb hv) (F'.run A outer s H args us vs Q E hr he hb hv)⟩
section
variable {P : Program} {w : World} {K : PySem.W.Frag} {mg : Str → Option Value} {base : Heap} {C : Addr}
def spSameR (k : Nat) : Sp := fun vs H Q _ => ∃ a b xs ys, vs = [.ref a, .ref b] ∧ ((H a = some (.tup xs) ∧ H b = some (.tup ys)) ∨ (H a = some (.lst xs) ∧ H b = some (.lst ys))) ∧ xs.length ≤ 100000 ∧ Paired (SameV k H) xs ys ∧ ∀ H', Same H H' → Q (.bl true) H'
theorem fn_law_sameR (k : Nat) {f : Addr} {fd : FuncData} (F : Fun K "_law_same" "_law_same" s__law_same f fd) (B : Bl mg) (c__law_is_integer : Cal P w K mg base 1 "_law_is_integer" ["thing"] sp_is_integer)
    (c__law_same : Cal P w K mg base (k + 2) "_law_same" ["told", "due"] (spSame k)) : FnOk P w K mg base CX0 (k + 3) f fd ["told", "due"] (spSameR k) := by
  refine F.ok sc__law_same (fun vs H Q E h => ?_) (fun cdv A outer s H vs Q E hr h => ?_)
  · obtain ⟨a, b, xs, ys, rfl, _⟩ := h; rfl
  · obtain ⟨a, b, xs, ys, rfl, hab, hlen, hp, k0⟩ := h
    have hzl : (xs.zip ys).length = xs.length := by rw [List.length_zip, Paired.len hp, Nat.min_self]
    refine ⟨_, (pss_cons (ps_if (pt_val (pe_callB call_isiT (by rfl) B.isinstance (by decide +kernel) (pa_cons (pv 1) (pa_cons (pe_tup (pa_cons (pe_bltn (v := .ty "list") (by rfl) B.list_ (by decide +kernel) rfl) (pa_cons (pe_bltn (v := .ty "tuple") (by rfl) B.tuple_ (by decide +kernel) rfl) pa_nil))) pa_nil)))) (pss_cons (ps_if (PW.pt (pw_or (pt_cmpR op_ne (pe_callB call_isi (by rfl) B.isinstance (by decide +kernel) (pa_cons (pv 0) (pa_cons (pe_bltn (v := .ty "list") (by rfl) B.list_ (by decide +kernel) rfl) pa_nil))) (pe_callB call_isi (by rfl) B.isinstance (by decide +kernel) (pa_cons (pv 1) (pa_cons (pe_bltn (v := .ty "list") (by rfl) B.list_ (by decide +kernel) rfl) pa_nil))) (nomark _)) (pw_or1 (pt_not (pt_val (pe_callB call_isiT (by rfl) B.isinstance (by decide +kernel) (pa_cons (pv 0) (pa_cons (pe_tup (pa_cons (pe_bltn (v := .ty "list") (by rfl) B.list_ (by decide +kernel) rfl) (pa_cons (pe_bltn (v := .ty "tuple") (by rfl) B.tuple_ (by decide +kernel) rfl) pa_nil))) pa_nil)))))))) (pss_one (ps_ret pe_bl)) pss_nil)
 (pss_cons (ps_if (pt_cmpR op_ne (pe_callB call_len_seq (by rfl) B.len (by decide +kernel) (pa_cons (pv 0) pa_nil)) (pe_callB call_len_seq (by rfl) B.len (by decide +kernel) (pa_cons (pv 1) pa_nil)) (nomark _)) (pss_one (ps_ret pe_bl)) pss_nil)
 (pss_one (ps_ret (pe_callB (cr_all rfl) (by rfl) B.all (by decide +kernel) (pa_cons (pe_lc (own := [("one", 2), ("other", 3)]) (g := (gTup K 2 (gCons (gName 2) (gCons (gName 3) gNil)))) (by rfl) sc__law_same.nd (RZ.pi_zipA (by rfl) B.zip (pa_cons (pv 0) (pa_cons (pv 1) pa_nil))) (blkOk_by (own := [("one", 2), ("other", 3)]) (N := ["told", "due", "one", "other"]) (sc := defScope s__law_same) (by decide +kernel)) (fun _ _ _ _ _ => (pg_tup (by rfl) (pgs_cons (pg_name (i := 2) sc__law_same.nd rfl (by first | exact Or.inl rfl | exact Or.inr rfl)) (pgs_cons (pg_name (i := 3) sc__law_same.nd rfl (by first | exact Or.inl rfl | exact Or.inr rfl)) pgs_nil)))) (fun _ _ _ _ _ => pts_nil) (fun _ _ _ _ _ => (pe_cal c__law_same (hr.mono (by first | decide | omega)) (pa_cons (pv 2) (pa_cons (pv 3) pa_nil))))) pa_nil)))))) pss_nil)
 (pss_cons (ps_if (pt_cmpR op_isN (pv 1) pe_non (nomark _)) (pss_one (ps_ret (pe_cmpR op_isN (pv 0) pe_non (nomark _)))) pss_nil)
 (pss_cons (ps_if (pt_val (pe_callB call_isi (by rfl) B.isinstance (by decide +kernel) (pa_cons (pv 1) (pa_cons (pe_bltn (v := .ty "bool") (by rfl) B.bool_ (by decide +kernel) rfl) pa_nil)))) (pss_one (ps_ret (pe_and (pe_callB call_isi (by rfl) B.isinstance (by decide +kernel) (pa_cons (pv 0) (pa_cons (pe_bltn (v := .ty "bool") (by rfl) B.bool_ (by decide +kernel) rfl) pa_nil))) (pe_one (pe_cmpR op_eq (pv 0) (pv 1) (nomark _)))))) pss_nil)
 (pss_cons (ps_if (pt_val (pe_callB call_isi (by rfl) B.isinstance (by decide +kernel) (pa_cons (pv 1) (pa_cons (pe_bltn (v := .ty "str") (by rfl) B.str_ (by decide +kernel) rfl) pa_nil)))) (pss_one (ps_ret (pe_and (pe_callB call_isi (by rfl) B.isinstance (by decide +kernel) (pa_cons (pv 0) (pa_cons (pe_bltn (v := .ty "str") (by rfl) B.str_ (by decide +kernel) rfl) pa_nil))) (pe_one (pe_cmpR op_eq (pv 0) (pv 1) (nomark _)))))) pss_nil)
 (pss_one (ps_ret (pe_and (pe_cal c__law_is_integer (hr.mono (by first | decide | omega)) (pa_cons (pv 0) pa_nil)) (pe_one (pe_cmpR op_eq (pv 0) (pv 1) (nomark _)))))))))), ?_⟩
    refine ⟨_, rfl, (by show 2 ≤ sizeLine; decide), fun p hp1 => ?_⟩
    have e1 := L2.Same.new (o := .tup [.ty "list", .ty "tuple"]) hp1
    generalize hH1 : upd H p (.tup [.ty "list", .ty "tuple"]) = H1 at e1 ⊢
    have hp1 : H1 p = some (.tup [.ty "list", .ty "tuple"]) := by rw [← hH1]; exact upd_same
    rcases hab with ⟨ha, hb⟩ | ⟨ha, hb⟩
    · have ha1 := e1 _ _ ha
      have hb1 := e1 _ _ hb
      refine ⟨_, p, _, _, _, true, rfl, hp1, .cons (.ty "list") (.cons (.ty "tuple") .nil), .base (.tup hb1), ka2 (x := false) (y := true) (by decide +kernel) (by decide +kernel), true, rfl, iteT ?_⟩
      refine ⟨_, rfl, _, _, _, _, false, rfl, .ty "list", .base (.tup ha1), kit_ty (by decide +kernel), _, rfl, _, _, _, _, false, rfl, .ty "list", .base (.tup hb1), kit_ty (by decide +kernel), rfl, _, rfl, iteNS rfl ?_⟩
      refine ⟨_, rfl, (by show 2 ≤ sizeLine; decide), fun q hq => ?_⟩
      have e2 := e1.new' (o := .tup [.ty "list", .ty "tuple"]) hq
      have e12 := L2.Same.new (o := .tup [.ty "list", .ty "tuple"]) hq
      generalize hH2 : upd H1 q (.tup [.ty "list", .ty "tuple"]) = H2 at e2 e12 ⊢
      have hq2 : H2 q = some (.tup [.ty "list", .ty "tuple"]) := by rw [← hH2]; exact upd_same
      have ha2 := e2 _ _ ha
      have hb2 := e2 _ _ hb
      refine ⟨_, q, _, _, _, true, rfl, hq2, .cons (.ty "list") (.cons (.ty "tuple") .nil), .base (.tup ha2), ka2 (x := false) (y := true) (by decide +kernel) (by decide +kernel), true, rfl, iteF ?_⟩
      refine ⟨_, rfl, a, _, rfl, .inr (SqT.of ha2), _, rfl, b, _, rfl, .inr (SqT.of hb2), rfl, _, rfl, ?_⟩
      refine on_ifN (fun c => absurd (by rw [Paired.len hp]) c) (fun _ => ?_)
      refine ⟨_, rfl, _, rfl, a, b, xs, ys, rfl, .inr ⟨SqT.of ha2, SqT.of hb2, fun D hD => lc_data (walk_zipT (K := K) (n := xs.length) (by rw [Paired.len hp, Nat.min_self])) (xs.zip ys) hzl (fun _ => true) (fun _ v _ => v = .bl true) (fun _ _ _ _ _ q => q) hD (fun H' e => ⟨SqT.of (e _ _ ha2), SqT.of (e _ _ hb2)⟩) (by rw [hzl]; exact Nat.lt_of_le_of_lt hlen (by decide)) ?_ (fun _ _ _ _ _ y => ypair_same y) ?_⟩⟩
      · rintro i ⟨x, y⟩ v H3 H4 Ny Nn hpi e3 ⟨T, x', y', rfl, hT, rfl, hx, hy⟩ kE kN
        obtain ⟨hx0, hy0⟩ := zip_get hpi
        have sv := ((paired_at hp hx hy).same e2).same e3
        have eT := L2.Same.new (o := .tup [x', y']) hT
        refine ⟨T, _, rfl, SqT.of upd_same, rfl, _, _, rfl, _, _, rfl, rfl, rfl, yes_if ?_⟩
        exact ⟨_, rfl, _, rfl, x', y', rfl, sv.same eT, fun H5 e5 => kE _ _ rfl e5 rfl⟩
      · intro zs H3 e3 hzs hpr
        have ez := bl_all hpr
        refine ⟨D, _, rfl, by rw [← ez]; exact SqL.of hzs, ?_⟩
        have : (((xs.zip ys).filter fun _ => true).map fun _ => true).all id = true := by simp
        rw [this]
        exact k0 _ (e2.trans e3)
    · have ha1 := e1 _ _ ha
      have hb1 := e1 _ _ hb
      refine ⟨_, p, _, _, _, true, rfl, hp1, .cons (.ty "list") (.cons (.ty "tuple") .nil), .base (.lst hb1), ka2 (x := true) (y := false) (by decide +kernel) (by decide +kernel), true, rfl, iteT ?_⟩
      refine ⟨_, rfl, _, _, _, _, true, rfl, .ty "list", .base (.lst ha1), kit_ty (by decide +kernel), _, rfl, _, _, _, _, true, rfl, .ty "list", .base (.lst hb1), kit_ty (by decide +kernel), rfl, _, rfl, iteNS rfl ?_⟩
      refine ⟨_, rfl, (by show 2 ≤ sizeLine; decide), fun q hq => ?_⟩
      have e2 := e1.new' (o := .tup [.ty "list", .ty "tuple"]) hq
      generalize hH2 : upd H1 q (.tup [.ty "list", .ty "tuple"]) = H2 at e2 ⊢
      have hq2 : H2 q = some (.tup [.ty "list", .ty "tuple"]) := by rw [← hH2]; exact upd_same
      have ha2 := e2 _ _ ha
      have hb2 := e2 _ _ hb
      refine ⟨_, q, _, _, _, true, rfl, hq2, .cons (.ty "list") (.cons (.ty "tuple") .nil), .base (.lst ha2), ka2 (x := true) (y := false) (by decide +kernel) (by decide +kernel), true, rfl, iteF ?_⟩
      refine ⟨_, rfl, a, _, rfl, .inl (SqL.of ha2), _, rfl, b, _, rfl, .inl (SqL.of hb2), rfl, _, rfl, ?_⟩
      refine on_ifN (fun c => absurd (by rw [Paired.len hp]) c) (fun _ => ?_)
      refine ⟨_, rfl, _, rfl, a, b, xs, ys, rfl, .inl ⟨SqL.of ha2, SqL.of hb2, fun D hD => lc_data (walk_zip (K := K) (n := xs.length) (by rw [Paired.len hp, Nat.min_self])) (xs.zip ys) hzl (fun _ => true) (fun _ v _ => v = .bl true) (fun _ _ _ _ _ q => q) hD (fun H' e => ⟨SqL.of (e _ _ ha2), SqL.of (e _ _ hb2)⟩) (by rw [hzl]; exact Nat.lt_of_le_of_lt hlen (by decide)) ?_ (fun _ _ _ _ _ y => ypair_same y) ?_⟩⟩
      · rintro i ⟨x, y⟩ v H3 H4 Ny Nn hpi e3 ⟨T, x', y', rfl, hT, rfl, hx, hy⟩ kE kN
        have sv := ((paired_at hp hx hy).same e2).same e3
        have eT := L2.Same.new (o := .tup [x', y']) hT
        refine ⟨T, _, rfl, SqT.of upd_same, rfl, _, _, rfl, _, _, rfl, rfl, rfl, yes_if ?_⟩
        exact ⟨_, rfl, _, rfl, x', y', rfl, sv.same eT, fun H5 e5 => kE _ _ rfl e5 rfl⟩
      · intro zs H3 e3 hzs hpr
        have ez := bl_all hpr
        refine ⟨D, _, rfl, by rw [← ez]; exact SqL.of hzs, ?_⟩
        have : (((xs.zip ys).filter fun _ => true).map fun _ => true).all id = true := by simp
        rw [this]
        exact k0 _ (e2.trans e3)
theorem ok_law_same {f : Addr} {fd : FuncData} (F : Fun K "_law_same" "_law_same" s__law_same f fd) (hm : mg "_law_same" = some (.ref f)) (B : Bl mg) (c__law_is_integer : Cal P w K mg base 1 "_law_is_integer" ["thing"] sp_is_integer) :
    ∀ k, FnOk P w K mg base CX0 (k + 2) f fd ["told", "due"] (spSame k)
  | 0 => fn_law_same0 F B c__law_is_integer
  | k + 1 => by
    have F0 := ok_law_same F hm B c__law_is_integer k
    have c0 : Cal P w K mg base (k + 2) "_law_same" ["told", "due"] (spSame k) := ⟨f, fd, F0, hm, F.kp, F.binds (ps := ["told", "due"]) fun _ _ _ _ _ _ us hl => match us, hl with | [_, _], _ => rfl⟩
    have FR := fn_law_sameR k F B c__law_is_integer c0
    refine ((F0.mono (Nat.le_succ _)).or FR).imp fun vs H Q E h => ?_
    obtain ⟨v, u, rfl, h, q⟩ := h
    rcases h with h | ⟨a, b, xs, ys, rfl, rfl, h⟩
    · exact .inl ⟨v, u, rfl, h, q⟩
    · exact .inr ⟨a, b, xs, ys, rfl, h.1, h.2.1, h.2.2, q⟩
end
open PySem PySem.Spec L2
theorem seq_ix {r : Int} {n : Nat} (h0 : 0 ≤ r) (h1 : r < n) : seqIndex? r n = some r.toNat := by
  unfold seqIndex?
  simp [show ¬ r < 0 by omega, h0, h1]
theorem cons_erase {α : Type} : ∀ {l : List α} {i : Nat} (h : i < l.length), (l[i] :: l.eraseIdx i).Perm l
  | [], _, h => by simp at h
  | a :: l, 0, _ => .refl _
  | a :: l, i + 1, h => by
    have h' : i < l.length := by simpa using h
    exact (List.Perm.swap a l[i] _).trans ((cons_erase h').cons a)
theorem perm_sorted : ∀ {l m : List Int}, l.Perm m → l.Pairwise (· ≤ ·) → m.Pairwise (· < ·) → l = m := by
  intro l m hp hl hm
  have hm' : m.Pairwise (· ≤ ·) := hm.imp fun {a b} h => Int.le_of_lt h
  have key : ∀ {l m : List Int}, l.Perm m → l.Pairwise (· ≤ ·) → m.Pairwise (· ≤ ·) → l = m := by
    intro l
    induction l with
    | nil => intro m hp _ _; exact (List.nil_perm.mp hp).symm
    | cons a l ih =>
      intro m hp hl hm
      cases m with
      | nil => exact absurd hp.length_eq (by simp)
      | cons b m =>
        obtain ⟨l1, l2⟩ := List.pairwise_cons.mp hl
        obtain ⟨m1, m2⟩ := List.pairwise_cons.mp hm
        have e : a = b := by
          have h1 : a ∈ b :: m := hp.mem_iff.mp (by simp)
          have h2 : b ∈ a :: l := hp.mem_iff.mpr (by simp)
          rcases List.mem_cons.mp h1 with h1 | h1
          · exact h1
          · rcases List.mem_cons.mp h2 with h2 | h2
            · exact h2.symm
            · have := l1 b h2; have := m1 a h1; omega
        subst e
        rw [ih (List.Perm.cons_inv hp) l2 m2]
  exact key hp hl hm'
section
variable {P : Program} {w : World} {K : PySem.W.Frag} {mg : Str → Option Value} {base : Heap} {C : Addr}
def sp_mixed : Sp := fun vs H Q _ => ∃ T L l xs, vs = [.ref T, .ref l] ∧ Tp H T L ∧ H l = some (.lst xs) ∧ l ≠ T ∧ xs.length ≤ 1000 ∧ ∀ p ys H', ExT T H H' → Tp H' T L → H p = none → H' p = some (.lst ys) → ys.Perm xs → Q (.ref p) H'
abbrev s__law_mixed : Stmt := (top 19)
theorem sc__law_mixed : FnScope ["tape", "things", "left", "found", "turn"] ["tape", "things"] (defScope s__law_mixed) := ⟨rfl, rfl, rfl, by decide +kernel, rfl, by decide +kernel, by decide +kernel⟩

theorem ok_law_mixed {f : Addr} {fd : FuncData} (F : Fun K "_law_mixed" "_law_mixed" s__law_mixed f fd) (hm : mg "_law_mixed" = some (.ref f)) (B : Bl mg) (c__law_pick : Cal P w K mg base 1 "_law_pick" ["tape", "many"] spPick) : Cal P w K mg base 2 "_law_mixed" ["tape", "things"] sp_mixed := by
  refine ⟨f, fd, F.ok sc__law_mixed (fun vs H Q E h => ?_) (fun cdv A outer s H vs Q E hr h => ?_), hm, F.kp, F.binds (ps := ["tape", "things"]) fun _ _ _ _ _ _ us hl => match us, hl with | [_, _], _ => rfl⟩
  · obtain ⟨T, L, l, xs, rfl, _⟩ := h; rfl
  · obtain ⟨T, L, l, xs, rfl, hT, hl, lT, hlen, k⟩ := h
    refine ⟨_, (pss_cons (ps_set (i := 2) sc__law_mixed.nd rfl (by first | exact Or.inl rfl | exact Or.inr rfl) (pe_callTy call_list_of (by rfl) B.list_ (by decide +kernel) (pa_cons (pv 1) pa_nil)))
 (pss_cons (ps_set (i := 3) sc__law_mixed.nd rfl (by first | exact Or.inl rfl | exact Or.inr rfl) (pe_lst pa_nil))
 (pss_cons (ps_for PassesOwn.never rfl (pi_range1 (by rfl) B.range (pa_cons (pe_callB call_len_seq (by rfl) B.len (by decide +kernel) (pa_cons (pv 1) pa_nil)) pa_nil)) (pg_name (i := 4) sc__law_mixed.nd rfl (by first | exact Or.inl rfl | exact Or.inr rfl))
  (pss_one (ps_expr (pe_bm PySem.F.plainAttrs_list PySem.F.slot_list_append PySem.F.type_list_append mt_append (pv 3) (pa_cons (pe_bm PySem.F.plainAttrs_list PySem.F.slot_list_pop PySem.F.type_list_pop mt_popAt (pv 2) (pa_cons (pe_cal c__law_pick (hr.mono (by first | decide | omega)) (pa_cons (pv 0) (pa_cons (pe_callB call_len_seq (by rfl) B.len (by decide +kernel) (pa_cons (pv 2) pa_nil)) pa_nil))) pa_nil)) pa_nil)))))
 (pss_one (ps_ret (pv 3)))))), ?_⟩
    refine ⟨_, rfl, l, xs, rfl, .inl (SqL.of hl), fun lf hlf => ?_⟩
    refine ⟨Nat.zero_le _, fun fo hfo => ?_⟩
    have nlf := hT.neT hlf
    have nlf2 := hT.neL hlf
    have e1 := L2.Same.new (o := .lst xs) hlf
    have hfo0 := L2.Same.free e1 hfo
    have nfo := hT.neT hfo0
    have nfo2 := hT.neL hfo0
    have nff : lf ≠ fo := fun q => by rw [← q, upd_same] at hfo; cases hfo
    have e2 := e1.new' (o := .lst []) hfo
    have hl2 := e2 _ _ hl
    have hT2 := hT.ext e2
    generalize hH2 : upd (upd H lf (.lst xs)) fo (.lst []) = H2 at e2 hl2 hT2 ⊢
    have hlf2 : H2 lf = some (.lst xs) := by rw [← hH2, upd_ne nff]; exact upd_same
    have hfo2 : H2 fo = some (.lst []) := by rw [← hH2]; exact upd_same
    refine ⟨_, rfl, l, _, rfl, .inl (SqL.of hl2), _, rfl, by omega, by omega, for_range (lo := 0) (n := (xs.length : Int).toNat) (fun i σ H' => ∃ (v : Option V) (zs ws : List V), σ = [some (.ref T), some (.ref l), some (.ref lf), some (.ref fo), v] ∧ ExT T H H' ∧ Tp H' T L ∧ H' lf = some (.lst zs) ∧ H' fo = some (.lst ws) ∧ zs.length + i = xs.length ∧ (ws ++ zs).Perm xs)
      ⟨none, xs, [], rfl, e2.exT, hT2, hlf2, hfo2, rfl, .refl _⟩ ?_ ?_⟩
    · rintro i σ H3 hi ⟨v, zs, ws, rfl, e3, hT3, h1, h2, hn, hp⟩
      have zl : 0 < zs.length := by omega
      refine ⟨_, rfl, .inl ⟨rfl, _, SqL.of h2⟩, _, rfl, .inl ⟨rfl, _, SqL.of h1⟩, _, rfl, _, rfl, lf, _, rfl, .inl (SqL.of h1), T, L, _, rfl, by omega, by omega, hT3, fun r H4 r0 r1 e4 hT4 => ?_⟩
      have h14 := e4 _ _ nlf h1
      have h24 := e4 _ _ nfo h2
      have hr' : r.toNat < zs.length := by omega
      have hz : zs[r.toNat]? = some zs[r.toNat] := List.getElem?_eq_getElem hr'
      refine ⟨lf, zs, r, r.toNat, _, rfl, rfl, h14, by omega, by omega, seq_ix r0 r1, hz, ?_⟩
      have h25 : (upd H4 lf (.lst (zs.eraseIdx r.toNat))) fo = some (.lst ws) := by rw [upd_ne nff.symm]; exact h24
      have hws : ws.length ≤ 1000 := by
        have := hp.length_eq
        rw [List.length_append] at this
        omega
      refine ⟨fo, ws, _, rfl, rfl, h25, Nat.lt_of_le_of_lt hws (by decide), ?_⟩
      refine ⟨_, zs.eraseIdx r.toNat, ws ++ [zs[r.toNat]], rfl, ?_, ?_, ?_, upd_same, ?_, ?_⟩
      · exact ((e3.trans e4).mut hlf).mut hfo0
      · exact (hT4.upd nlf nlf2).upd nfo nfo2
      · rw [upd_ne nff]; exact upd_same
      · rw [List.length_eraseIdx_of_lt hr']; omega
      · refine List.Perm.trans ?_ hp
        rw [List.append_assoc]
        refine List.Perm.append_left ws ?_
        exact cons_erase hr'
    · rintro σ H3 ⟨v, zs, ws, rfl, e3, hT3, h1, h2, hn, hp⟩
      have z0 : zs = [] := List.eq_nil_of_length_eq_zero (by omega)
      subst z0
      rw [List.append_nil] at hp
      exact ⟨_, rfl, k fo ws H3 e3 hT3 hfo0 h2 hp⟩
end
open PySem PySem.Spec L2
theorem onb {c : Prop} [Decidable c] {A B : Prop} (h1 : c → A) (h2 : ¬ c → B) : if decide c = true then A else B := on_if (A := fun _ => A) (B := fun _ => B) (H := fun _ => none) h1 h2
theorem onbN {c : Prop} [Decidable c] {A B : Prop} (h1 : ¬ c → A) (h2 : c → B) : if (!decide c) = true then A else B := on_ifN (A := fun _ => A) (B := fun _ => B) (H := fun _ => none) h1 h2
def unI : V → Int
  | .int i => i
  | _ => 0
theorem ints_of : ∀ {ys : List V} {ns : List Int}, ys.Perm (ns.map V.int) → ys = (ys.map unI).map V.int ∧ (ys.map unI).Perm ns := by
  intro ys ns hp
  have h1 : ∀ y ∈ ys, V.int (unI y) = y := fun y hy => by
    obtain ⟨i, _, rfl⟩ := List.mem_map.mp (hp.mem_iff.mp hy)
    rfl
  refine ⟨?_, ?_⟩
  · rw [List.map_map]
    have : ys.map (V.int ∘ unI) = ys.map id := List.map_congr_left fun y hy => h1 y hy
    rw [this, List.map_id]
  · have h2 := hp.map unI
    rw [List.map_map] at h2
    have : ns.map (unI ∘ V.int) = ns.map id := List.map_congr_left fun y hy => rfl
    rw [this, List.map_id] at h2
    exact h2
/-- names: the numbers below n in some order -/
structure Names (n : Int) (ns : List Int) : Prop where
  len : (ns.length : Int) = n
  nd : ns.Nodup
  ok : ∀ x ∈ ns, 0 ≤ x ∧ x < n
theorem names_of {n : Int} {ns : List Int} (h0 : 0 ≤ n) (h : ns.Perm ((List.range (n - 0).toNat).map fun i => (0 : Int) + (i : Nat))) : Names n ns := by
  refine ⟨?_, ?_, fun x hx => ?_⟩
  · have := h.length_eq
    rw [List.length_map, List.length_range] at this
    omega
  · refine h.nodup_iff.mpr ?_
    refine List.pairwise_map.mpr (List.nodup_range.imp fun {a b} h e => h (by omega))
  · obtain ⟨i, hi, rfl⟩ := List.mem_map.mp (h.mem_iff.mp hx)
    have := List.mem_range.mp hi
    omega
theorem Names.at_ {n : Int} {ns : List Int} (N : Names n ns) {i : Nat} (h : (i : Int) < n) : ns[i]? = some (ns.getD i 0) ∧ 0 ≤ ns.getD i 0 ∧ ns.getD i 0 < n := by
  have hi : i < ns.length := by have := N.len; omega
  have e : ns[i]? = some ns[i] := List.getElem?_eq_getElem hi
  have e2 : ns.getD i 0 = ns[i] := by rw [List.getD_eq_getElem?_getD, e]; rfl
  rw [e2]
  exact ⟨e, N.ok _ (List.getElem_mem hi)⟩
theorem Names.inj {n : Int} {ns : List Int} (N : Names n ns) {i j : Nat} (hi : (i : Int) < n) (hj : (j : Int) < n) (e : ns.getD i 0 = ns.getD j 0) : i = j := by
  have h1 := (N.at_ hi).1
  have h2 := (N.at_ hj).1
  rw [e] at h1
  obtain ⟨a1, b1⟩ := List.getElem?_eq_some_iff.mp h1
  obtain ⟨a2, b2⟩ := List.getElem?_eq_some_iff.mp h2
  exact (List.getElem_inj N.nd).mp (b1.trans b2.symm)
theorem norm_eq {a b c d : Int} (hab : a ≠ b) (hcd : c ≠ d) (h : norm a b = norm c d) : (a = c ∧ b = d) ∨ (a = d ∧ b = c) := by
  unfold norm at h
  have h1 := congrArg Prod.fst h
  have h2 := congrArg Prod.snd h
  dsimp only at h1 h2
  by_cases x : b < a
  · rw [if_pos x, if_neg (show ¬ b > a by omega)] at *
    by_cases y : d < c
    · rw [if_pos y, if_neg (show ¬ d > c by omega)] at *; omega
    · rw [if_neg y, if_pos (show d > c by omega)] at *; omega
  · rw [if_neg x, if_pos (show b > a by omega)] at *
    by_cases y : d < c
    · rw [if_pos y, if_neg (show ¬ d > c by omega)] at *; omega
    · rw [if_neg y, if_pos (show d > c by omega)] at *; omega
/-- the ties so far: of the pairs of numbers ahead of (i, j) -/
structure Ps (ns : List Int) (i j : Nat) (ps : List (Int × Int)) : Prop where
  nd : ps.Nodup
  of : ∀ p ∈ ps, ∃ a b : Nat, b < a ∧ (a < i ∨ (a = i ∧ b < j)) ∧ p = norm (ns.getD a 0) (ns.getD b 0)
theorem Ps.zero {ns : List Int} : Ps ns 0 0 [] := ⟨.nil, fun p h => by simp at h⟩
theorem Ps.next {ns : List Int} {i : Nat} {ps : List (Int × Int)} (h : Ps ns i i ps) : Ps ns (i + 1) 0 ps :=
  ⟨h.nd, fun p hp => let ⟨a, b, h1, h2, h3⟩ := h.of p hp; ⟨a, b, h1, by omega, h3⟩⟩
theorem Ps.skip {ns : List Int} {i j : Nat} {ps : List (Int × Int)} (h : Ps ns i j ps) : Ps ns i (j + 1) ps :=
  ⟨h.nd, fun p hp => let ⟨a, b, h1, h2, h3⟩ := h.of p hp; ⟨a, b, h1, by omega, h3⟩⟩
theorem Ps.put {n : Int} {ns : List Int} (N : Names n ns) {i j : Nat} {ps : List (Int × Int)} (hi : (i : Int) < n) (hj : j < i) (h : Ps ns i j ps) : Ps ns i (j + 1) (ps ++ [norm (ns.getD i 0) (ns.getD j 0)]) := by
  refine ⟨List.nodup_append.mpr ⟨h.nd, by simp, fun q hq r hr e => ?_⟩, fun p hp => ?_⟩
  · simp at hr
    subst hr; subst e
    obtain ⟨a, b, h1, h2, h3⟩ := h.of _ hq
    have ne1 : ns.getD i 0 ≠ ns.getD j 0 := fun e => by have := N.inj hi (by omega) e; omega
    have ne2 : ns.getD a 0 ≠ ns.getD b 0 := fun e => by have := N.inj (i := a) (j := b) (by omega) (by omega) e; omega
    rcases norm_eq ne1 ne2 h3 with ⟨e1, e2⟩ | ⟨e1, e2⟩
    · have := N.inj hi (by omega) e1
      have := N.inj (i := j) (j := b) (by omega) (by omega) e2
      omega
    · have := N.inj hi (by omega) e1
      have := N.inj (i := j) (j := a) (by omega) (by omega) e2
      omega
  · rcases List.mem_append.mp hp with hp | hp
    · obtain ⟨a, b, h1, h2, h3⟩ := h.of p hp
      exact ⟨a, b, h1, by omega, h3⟩
    · simp at hp
      exact ⟨i, j, hj, by omega, hp⟩
theorem Ps.good {n : Int} {ns : List Int} (N : Names n ns) {ps qs : List (Int × Int)} {k : Nat} (hk : (k : Int) = n) (h : Ps ns k 0 ps) (hp : qs.Perm ps) (hl : qs.Pairwise le2) : Good n qs := by
  refine good_of hp hl h.nd fun p hp' => ?_
  obtain ⟨a, b, h1, h2, rfl⟩ := h.of p hp'
  have ha := N.at_ (i := a) (by omega)
  have hb := N.at_ (i := b) (by omega)
  exact norm_in (fun e => by have := N.inj (i := a) (j := b) (by omega) (by omega) e; omega) ha.2.1 ha.2.2 hb.2.1 hb.2.2
section
variable {P : Program} {w : World} {K : PySem.W.Frag} {mg : Str → Option Value} {base : Heap} {C : Addr}
def sp_web : Sp := fun vs H Q _ => ∃ T L m, vs = [.ref T, .int m] ∧ Tp H T L ∧ 1 ≤ m ∧ m ≤ 24 ∧ ∀ p t n xs ps H', ExT T H H' → Tp H' T L → H p = none → H' p = some (.tup [.int n, .ref t]) → H t = none → H' t = some (.tup xs) → Pairs H' xs ps → 1 ≤ n → n ≤ m → Good n ps → Q (.ref p) H'
abbrev s__law_web : Stmt := (top 20)
theorem sc__law_web : FnScope ["tape", "most", "size", "style", "names", "found", "one", "other", "take"] ["tape", "most"] (defScope s__law_web) := ⟨rfl, rfl, rfl, by decide +kernel, rfl, by decide +kernel, by decide +kernel⟩

theorem ok_law_web {f : Addr} {fd : FuncData} (F : Fun K "_law_web" "_law_web" s__law_web f fd) (hm : mg "_law_web" = some (.ref f)) (B : Bl mg) (c__law_pick : Cal P w K mg base 1 "_law_pick" ["tape", "many"] spPick) (c__law_mixed : Cal P w K mg base 2 "_law_mixed" ["tape", "things"] sp_mixed) : Cal P w K mg base 3 "_law_web" ["tape", "most"] sp_web := by
  refine ⟨f, fd, F.ok sc__law_web (fun vs H Q E h => ?_) (fun cdv A outer s H vs Q E hr h => ?_), hm, F.kp, F.binds (ps := ["tape", "most"]) fun _ _ _ _ _ _ us hl => match us, hl with | [_, _], _ => rfl⟩
  · obtain ⟨T, L, m, rfl, _⟩ := h; rfl
  · obtain ⟨T, L, m, rfl, hT, m1, m2, k⟩ := h
    refine ⟨_, (pss_cons (ps_set (i := 2) sc__law_web.nd rfl (by first | exact Or.inl rfl | exact Or.inr rfl) (pe_op op_add pe_int (pe_cal c__law_pick (hr.mono (by first | decide | omega)) (pa_cons (pv 0) (pa_cons (pv 1) pa_nil)))))
 (pss_cons (ps_set (i := 3) sc__law_web.nd rfl (by first | exact Or.inl rfl | exact Or.inr rfl) (pe_cal c__law_pick (hr.mono (by first | decide | omega)) (pa_cons (pv 0) (pa_cons pe_int pa_nil))))
 (pss_cons (ps_set (i := 4) sc__law_web.nd rfl (by first | exact Or.inl rfl | exact Or.inr rfl) (pe_cal c__law_mixed (hr.mono (by first | decide | omega)) (pa_cons (pv 0) (pa_cons (pe_listRg (by rfl) (by rfl) B.list_ (prg_1 (by rfl) B.range (pv 2))) pa_nil))))
 (pss_cons (ps_set (i := 5) sc__law_web.nd rfl (by first | exact Or.inl rfl | exact Or.inr rfl) (pe_lst pa_nil))
 (pss_cons (ps_for PassesOwn.never rfl (pi_range1 (by rfl) B.range (pa_cons (pv 2) pa_nil)) (pg_name (i := 6) sc__law_web.nd rfl (by first | exact Or.inl rfl | exact Or.inr rfl))
  (pss_one (ps_for PassesOwn.never rfl (pi_range1 (by rfl) B.range (pa_cons (pv 6) pa_nil)) (pg_name (i := 7) sc__law_web.nd rfl (by first | exact Or.inl rfl | exact Or.inr rfl))
  (pss_cons (ps_set (i := 8) sc__law_web.nd rfl (by first | exact Or.inl rfl | exact Or.inr rfl) (pe_cmpR op_lt (pe_cal c__law_pick (hr.mono (by first | decide | omega)) (pa_cons (pv 0) (pa_cons pe_int pa_nil))) (pe_op op_sub (pv 3) pe_int) (nomark _)))
 (Evl.pss_cut (ps_if (pt_cmpR op_eq (pv 3) pe_int (nomark _)) (pss_one (ps_set (i := 8) sc__law_web.nd rfl (by first | exact Or.inl rfl | exact Or.inr rfl) (pe_or (pe_cmpR op_eq (pe_op op_add (pv 7) pe_int) (pv 6) (nomark _)) (pe_one (pe_and (pe_cmpR op_eq (pv 7) pe_int (nomark _)) (pe_one (pe_cmpR op_eq (pv 6) (pe_op op_sub (pv 2) pe_int) (nomark _)))))))) pss_nil)
 (Evl.pss_cut (ps_if (pt_cmpR op_eq (pv 3) pe_int (nomark _)) (pss_one (ps_set (i := 8) sc__law_web.nd rfl (by first | exact Or.inl rfl | exact Or.inr rfl) (pe_cmpR op_eq (pe_callTy call_int1 (by rfl) B.int_ (by decide +kernel) (pa_cons (pe_op op_fdivN (pv 6) pe_int) pa_nil)) (pe_callTy call_int1 (by rfl) B.int_ (by decide +kernel) (pa_cons (pe_op op_fdivN (pv 7) pe_int) pa_nil)) (nomark _)))) pss_nil)
 (Evl.pss_cut (ps_if (pt_cmpR op_eq (pv 3) pe_int (nomark _)) (pss_one (ps_set (i := 8) sc__law_web.nd rfl (by first | exact Or.inl rfl | exact Or.inr rfl) (pe_and (pe_cmpR op_ne (pe_op op_modN (pe_callTy call_int1 (by rfl) B.int_ (by decide +kernel) (pa_cons (pv 6) pa_nil)) pe_int) (pe_op op_modN (pe_callTy call_int1 (by rfl) B.int_ (by decide +kernel) (pa_cons (pv 7) pa_nil)) pe_int) (nomark _)) (pe_one (pe_cmpR op_gt (pe_cal c__law_pick (hr.mono (by first | decide | omega)) (pa_cons (pv 0) (pa_cons pe_int pa_nil))) pe_int (nomark _)))))) pss_nil)
 (pss_one (ps_if (pt_val (pv 8)) (pss_one (ps_expr (pe_bm PySem.F.plainAttrs_list PySem.F.slot_list_append PySem.F.type_list_append mt_append (pv 5) (pa_cons (pe_tup (pa_cons (pe_callB (call_min2 rfl) (by rfl) B.min (by decide +kernel) (pa_cons (pe_ix ix_list (pv 4) (pv 6) (fun _ _ => rfl)) (pa_cons (pe_ix ix_list (pv 4) (pv 7) (fun _ _ => rfl)) pa_nil))) (pa_cons (pe_callB (call_max2 rfl) (by rfl) B.max (by decide +kernel) (pa_cons (pe_ix ix_list (pv 4) (pv 6) (fun _ _ => rfl)) (pa_cons (pe_ix ix_list (pv 4) (pv 7) (fun _ _ => rfl)) pa_nil))) pa_nil))) pa_nil)))) pss_nil)))))))))
 (pss_one (ps_ret (pe_tup (pa_cons (pv 2) (pa_cons (pe_callTy call_tuple_of (by rfl) B.tuple_ (by decide +kernel) (pa_cons (pe_callB cr_sortedPO (by rfl) B.sorted (by decide +kernel) (pa_cons (pv 5) pa_nil)) pa_nil)) pa_nil)))))))))), ?_⟩
    refine ⟨_, rfl, _, rfl, T, L, m, rfl, by omega, by omega, hT, fun r H1 r0 r1 e1 hT1 => ?_⟩
    refine ⟨_, _, rfl, rfl, ?_⟩
    have s1 : 1 ≤ 1 + r := by omega
    have s2 : 1 + r ≤ m := by omega
    dsimp only
    generalize 1 + r = n at s1 s2 ⊢
    refine ⟨_, rfl, T, L, 7, rfl, by decide, by decide, hT1, fun st H2 _ _ e2 hT2 => ?_⟩
    have e12 := e1.trans e2
    refine ⟨_, rfl, _, rfl, n, rfl, RgOk.of_le (by decide) (by omega) (by decide) (by omega), fun q hq => ?_⟩
    have e13 := e12.new (o := .lst (rgV 0 n)) hq
    have hT3 := hT2.ext (L2.Same.new (o := .lst (rgV 0 n)) hq)
    refine ⟨T, L, q, _, rfl, hT3, upd_same, hT2.neT hq, (by rw [rgV_length]; omega), fun nm ys H4 e4 hT4 nnm hnm hperm => ?_⟩
    have hperm2 : ys.Perm (((List.range (n - 0).toNat).map fun i => (0 : Int) + (i : Nat)).map V.int) := by
      rw [List.map_map]; exact hperm
    obtain ⟨ey, hns⟩ := ints_of hperm2
    generalize ys.map unI = ns at ey hns
    subst ey
    have N : Names n ns := names_of (by omega) hns
    have e14 := e13.trans e4
    have hqT := hT2.neT hq
    have nmT : nm ≠ T := hT3.neT nnm
    have nnm0 : H nm = none := ExT.free e13 nmT nnm
    refine ⟨Nat.zero_le _, fun fo hfo => ?_⟩
    have foT := hT4.neT hfo
    have foL := hT4.neL hfo
    have hfo0 : H fo = none := ExT.free e14 foT hfo
    have fnm : fo ≠ nm := fun q => by rw [q, hnm] at hfo; cases hfo
    refine ⟨_, rfl, _, rfl, by omega, by omega, for_range (lo := 0) (n := n.toNat) (fun i σ H' => ∃ (v6 v7 v8 : Option V) (ys : List V) (ps : List (Int × Int)), σ = [some (.ref T), some (.int m), some (.int n), some (.int st), some (.ref nm), some (.ref fo), v6, v7, v8] ∧ ExT T H H' ∧ Tp H' T L ∧ H' nm = some (.lst (ns.map V.int)) ∧ H' fo = some (.lst ys) ∧ Pairs H' ys ps ∧ Ps ns i 0 ps ∧ ys.length ≤ 100 * i)
      ⟨none, none, none, [], [], rfl, e14.new hfo, hT4.ext (L2.Same.new hfo), by rw [upd_ne fnm.symm]; exact hnm, upd_same, .nil, .zero, by simp⟩ ?_ ?_⟩
    · rintro i σ H5 hi ⟨v6, v7, v8, ys, ps, rfl, e5, hT5, hnm5, hfo5, hp5, P5, l5⟩
      have hin : (i : Int) < n := by omega
      refine ⟨_, rfl, _, rfl, by omega, by omega, for_range (lo := 0) (n := ((0 : Int) + (i : Nat)).toNat) (fun j σ H' => ∃ (v7 v8 : Option V) (ys : List V) (ps : List (Int × Int)), σ = [some (.ref T), some (.int m), some (.int n), some (.int st), some (.ref nm), some (.ref fo), some (.int (0 + (i : Nat))), v7, v8] ∧ ExT T H H' ∧ Tp H' T L ∧ H' nm = some (.lst (ns.map V.int)) ∧ H' fo = some (.lst ys) ∧ Pairs H' ys ps ∧ Ps ns i j ps ∧ ys.length ≤ 100 * i + j)
        ⟨v7, v8, ys, ps, rfl, e5, hT5, hnm5, hfo5, hp5, P5, l5⟩ ?_ ?_⟩
      · rintro j σ H6 hj ⟨v7, v8, ys, ps, rfl, e6, hT6, hnm6, hfo6, hp6, P6, l6⟩
        have hji : j < i := by omega
        refine ⟨_, rfl, T, L, 6, rfl, by decide, by decide, hT6, fun r H7 _ _ e7 hT7 => ?_⟩
        refine ⟨_, rfl, _, _, rfl, rfl, _, _, rfl, rfl, ?_⟩
        have t7 := hT6.tk e7
        have X7 : ExT T H H7 ∧ Tp H7 T L ∧ H7 nm = some (.lst (ns.map V.int)) ∧ H7 fo = some (.lst ys) ∧ Pairs H7 ys ps := ⟨e6.trans e7, hT7, e7 _ _ nmT hnm6, e7 _ _ foT hfo6, hp6.tk t7⟩
        dsimp only
        generalize decide (r < st - 2) = b0
        -- if style == 0
        refine ⟨fun σ' H' => ∃ b, σ' = [some (.ref T), some (.int m), some (.int n), some (.int st), some (.ref nm), some (.ref fo), some (.int (0 + (i : Nat))), some (.int (0 + (j : Nat))), some (.bl b)] ∧ ExT T H H' ∧ Tp H' T L ∧ H' nm = some (.lst (ns.map V.int)) ∧ H' fo = some (.lst ys) ∧ Pairs H' ys ps, ?_, ?_⟩
        · refine ⟨_, rfl, rfl, _, rfl, on_if (fun _ => ?_) (fun _ => ⟨b0, rfl, X7⟩)⟩
          refine ⟨_, rfl, _, _, rfl, rfl, _, rfl, rfl, _, rfl, onb (fun _ => ⟨_, rfl, X7⟩) (fun _ => ?_)⟩
          refine ⟨_, rfl, rfl, _, rfl, onb (fun _ => ?_) (fun _ => ⟨_, rfl, X7⟩)⟩
          exact ⟨_, rfl, _, rfl, _, _, rfl, rfl, rfl, _, rfl, X7⟩
        rintro σ' H8 ⟨b1, rfl, X8⟩
        -- if style == 1
        refine ⟨fun σ' H' => ∃ b, σ' = [some (.ref T), some (.int m), some (.int n), some (.int st), some (.ref nm), some (.ref fo), some (.int (0 + (i : Nat))), some (.int (0 + (j : Nat))), some (.bl b)] ∧ ExT T H H' ∧ Tp H' T L ∧ H' nm = some (.lst (ns.map V.int)) ∧ H' fo = some (.lst ys) ∧ Pairs H' ys ps, ?_, ?_⟩
        · refine ⟨_, rfl, rfl, _, rfl, on_if (fun _ => ?_) (fun _ => ⟨b1, rfl, X8⟩)⟩
          refine ⟨_, rfl, _, _, rfl, rfl, ⟨by decide, by decide⟩, .inl ⟨_, rfl, ?_⟩⟩
          refine ⟨_, rfl, _, _, rfl, rfl, ⟨by decide, by decide⟩, .inl ⟨_, rfl, rfl, _, rfl, X8⟩⟩
        rintro σ' H9 ⟨b2, rfl, X9⟩
        -- if style == 2
        refine ⟨fun σ' H' => ∃ b, σ' = [some (.ref T), some (.int m), some (.int n), some (.int st), some (.ref nm), some (.ref fo), some (.int (0 + (i : Nat))), some (.int (0 + (j : Nat))), some (.bl b)] ∧ ExT T H H' ∧ Tp H' T L ∧ H' nm = some (.lst (ns.map V.int)) ∧ H' fo = some (.lst ys) ∧ Pairs H' ys ps, ?_, ?_⟩
        · refine ⟨_, rfl, rfl, _, rfl, on_if (fun _ => ?_) (fun _ => ⟨b2, rfl, X9⟩)⟩
          refine ⟨_, rfl, .inl ⟨_, rfl, _, _, rfl, rfl, (by show (2 : Int) ≠ 0; decide), ?_⟩⟩
          refine ⟨_, rfl, .inl ⟨_, rfl, _, _, rfl, rfl, (by show (2 : Int) ≠ 0; decide), rfl, _, rfl, onbN (fun _ => ?_) (fun _ => ⟨_, rfl, X9⟩)⟩⟩
          obtain ⟨a1, a2, a3, a4, a5⟩ := X9
          refine ⟨_, rfl, T, L, 3, rfl, by decide, by decide, a2, fun r3 H10 _ _ e10 hT10 => ?_⟩
          exact ⟨_, _, rfl, rfl, _, rfl, a1.trans e10, hT10, e10 _ _ nmT a3, e10 _ _ foT a4, a5.tk (a2.tk e10)⟩
        rintro σ' H11 ⟨b3, rfl, a1, a2, a3, a4, a5⟩
        have hi' := N.at_ (i := i) hin
        have hj' := N.at_ (i := j) (by omega)
        have ix : ∀ c : Nat, (c : Int) < n → atI (ns.map V.int) (0 + (c : Int)) = some (.int (ns.getD c 0)) := fun c hc => at_of (j := c) (by omega) (by rw [List.getElem?_map, (N.at_ hc).1]; rfl)
        have ixi := ix i hin
        have ixj := ix j (by omega)
        have hyl : ys.length < 100000 := by omega
        refine ⟨_, rfl, b3, rfl, ?_⟩
        cases b3 with
        | true =>
          refine iteT ?_
          refine ⟨_, rfl, .inl ⟨rfl, _, SqL.of a4⟩, ?_⟩
          refine ⟨_, rfl, _, rfl, nm, _, _, _, rfl, rfl, SqL.of a3, ixi, _, rfl, _, rfl, nm, _, _, _, rfl, rfl, SqL.of a3, ixj, _, _, rfl, ?_⟩
          refine ⟨_, rfl, _, rfl, nm, _, _, _, rfl, rfl, SqL.of a3, ixi, _, rfl, _, rfl, nm, _, _, _, rfl, rfl, SqL.of a3, ixj, _, _, rfl, ?_⟩
          refine ⟨(by show 2 ≤ sizeLine; decide), fun c hc => ?_⟩
          have ec := L2.Same.new (o := .tup [.int (if ns.getD j 0 < ns.getD i 0 then ns.getD j 0 else ns.getD i 0), .int (if ns.getD j 0 > ns.getD i 0 then ns.getD j 0 else ns.getD i 0)]) hc
          refine ⟨fo, ys, _, rfl, rfl, ec _ _ a4, Nat.lt_of_lt_of_le hyl (by decide), ?_⟩
          have cf : c ≠ fo := fun q => by rw [q, a4] at hc; cases hc
          refine ⟨_, _, ys ++ [.ref c], ps ++ [norm (ns.getD i 0) (ns.getD j 0)], rfl, ?_, ?_, ?_, upd_same, ?_, P6.put N hin hji, ?_⟩
          · exact (a1.trans ec.exT).mut hfo0
          · exact (a2.ext ec).upd foT foL
          · rw [upd_ne fnm.symm]; exact ec _ _ a3
          · refine Paired.app ((a5.tk ec.tk).tk (tk_lst (ec _ _ a4))) (.cons ⟨c, rfl, ?_⟩ .nil)
            rw [upd_ne cf]; exact upd_same
          · rw [List.length_append, List.length_singleton]; omega
        | false => exact iteF ⟨_, _, ys, ps, rfl, a1, a2, a3, a4, a5, P6.skip, by omega⟩
      · rintro σ H6 ⟨v7, v8, ys, ps, rfl, e6, hT6, hnm6, hfo6, hp6, P6, l6⟩
        have ei : ((0 : Int) + (i : Nat)).toNat = i := by omega
        rw [ei] at P6 l6
        exact ⟨_, _, _, ys, ps, rfl, e6, hT6, hnm6, hfo6, hp6, P6.next, by omega⟩
    · rintro σ H5 ⟨v6, v7, v8, ys, ps, rfl, e5, hT5, hnm5, hfo5, hp5, P5, l5⟩
      refine ⟨_, rfl, _, rfl, fo, ys, pairOf H5, rfl, SqL.of hfo5, pairs_mem hp5, fun zs q s1' s2' hq => ?_⟩
      obtain ⟨qs, hz, hperm', hle⟩ := sorted_post hp5 s1' s2'
      have eq := L2.Same.new (o := .lst zs) hq
      refine ⟨q, _, rfl, .inl ⟨SqL.of upd_same, fun t ht => ?_⟩⟩
      have et := eq.new' (o := .tup zs) ht
      refine ⟨(by show 2 ≤ sizeLine; decide), fun z hz' => ?_⟩
      have ez := et.new' (o := .tup [.int n, .ref t]) hz'
      have ht5 : H5 t = none := L2.Same.free eq ht
      have hz5 : H5 z = none := L2.Same.free et hz'
      exact k z t n zs qs _ (e5.trans ez.exT) (hT5.ext ez) (ExT.free e5 (hT5.neT hz5) hz5) upd_same (ExT.free e5 (hT5.neT ht5) ht5) ((L2.Same.new hz') _ _ upd_same) (hz.tk ez.tk) s1 s2 (P5.good N (by omega) hperm' hle)
end
open PySem PySem.Spec L2
theorem units65 {k : Nat} {A : Around} (r : Room k A) : A.units + 65 < cLine := by have := r.un; omega
def tIfC (t : TT) (x y : V) : TE := fun σ H Q => t σ H fun c H1 => Q (if c = true then x else y) H1
theorem pe_ifC {X : Cx} {c a b : Expr} {pos : Pos} {t : TT} {x y : V} (hc : PT X c t) (ha : PE X a (tC x)) (hb : PE X b (tC y)) : PE X (.IfExp c a b pos) (tIfC t x y) := by
  have h := pe_ifExp (pos := pos) hc ha hb
  have e : tIf t (tC x) (tC y) = tIfC t x y := by
    funext σ H Q
    show t σ H (fun c H1 => if c = true then Q x H1 else Q y H1) = t σ H (fun c H1 => Q (if c = true then x else y) H1)
    have : (fun (c : Bool) (H1 : Hp) => if c = true then Q x H1 else Q y H1) = (fun c H1 => Q (if c = true then x else y) H1) := by
      funext c H1
      cases c <;> simp
    rw [this]
  rw [← e]
  exact h
/-- how many ties there can be -/
theorem up_len : ∀ {l : List Int} {lo hi : Int}, l.Pairwise (· < ·) → (∀ x ∈ l, lo ≤ x ∧ x < hi) → (l.length : Int) ≤ hi - lo ∨ l = []
  | [], _, _, _, _ => .inr rfl
  | x :: l, lo, hi, h, hb => by
    obtain ⟨h1, h2⟩ := List.pairwise_cons.mp h
    have hx := hb x (by simp)
    rcases up_len (lo := x + 1) (hi := hi) h2 (fun y hy => ⟨by have := h1 y hy; omega, (hb y (by simp [hy])).2⟩) with ih | ih
    · left; rw [List.length_cons]; omega
    · subst ih; left; simp; omega
theorem Good.len {n : Int} {ps : List (Int × Int)} (G : Good n ps) (hn : n ≤ 24) : ps.length ≤ 1000 := by
  have h1 : (ps.map fun p => 24 * p.1 + p.2).Pairwise (· < ·) := by
    refine List.pairwise_map.mpr ?_
    have : ps.Pairwise fun p q => lt2 p q ∧ (p ∈ ps ∧ q ∈ ps) := List.Pairwise.imp_of_mem (fun {p q} hp hq h => ⟨h, hp, hq⟩) G.up
    refine this.imp fun {p q} ⟨h, hp, hq⟩ => ?_
    have a := G.ok p hp
    have b := G.ok q hq
    unfold lt2 at h
    omega
  rcases up_len (lo := 0) (hi := 1000) h1 (fun x hx => by
    obtain ⟨p, hp, rfl⟩ := List.mem_map.mp hx
    have a := G.ok p hp
    omega) with h | h
  · rw [List.length_map] at h; omega
  · have := congrArg List.length h
    rw [List.length_map] at this
    simp at this
    simp [this]
theorem norm_comm {a b : Int} (h : a ≠ b) : norm a b = norm b a := by
  unfold norm
  by_cases h1 : b < a
  · rw [if_pos h1, if_neg (by omega), if_neg (by omega), if_pos (by omega)]
  · rw [if_neg h1, if_pos (by omega), if_pos (by omega), if_neg (by omega)]
theorem inV_ints (k : Int) : ∀ l : List Int, inV (.int k) (l.map V.int) = decide (k ∈ l)
  | [] => by simp [inV]
  | a :: l => by
    have ih := inV_ints k l
    unfold inV at ih ⊢
    rw [List.map_cons, List.any_cons, ih]
    by_cases h1 : a = k
    · subst h1; simp [eqV]
    · have : ¬ k = a := fun e => h1 e.symm
      by_cases h2 : k ∈ l <;> simp [eqV, h1, this, h2]
theorem any_pairs (p : Int × Int) : ∀ l : List (Int × Int), ((l.map pD).any fun z => PyData.eqv z (pD p)) = decide (p ∈ l)
  | [] => by simp
  | a :: l => by
    rw [List.map_cons, List.any_cons, any_pairs p l, pD_eqv]
    by_cases h1 : a = p
    · subst h1; simp
    · have : ¬ p = a := fun e => h1 e.symm
      by_cases h2 : p ∈ l <;> simp [h1, this, h2]
theorem flat_ints : ∀ l : List Int, (l.map V.int).all flatV = true
  | [] => rfl
  | a :: l => by rw [List.map_cons, List.all_cons, flat_ints l]; rfl
/-- another part, some parts on -/
theorem other_ne {o r n : Int} (h1 : 0 ≤ o) (h2 : o < n) (h3 : 0 ≤ r) (h4 : r < n - 1) : 0 ≤ (o + 1 + r).fmod n ∧ (o + 1 + r).fmod n < n ∧ o ≠ (o + 1 + r).fmod n := by
  rw [Int.fmod_eq_emod_of_nonneg _ (by omega)]
  by_cases h : o + 1 + r < n
  · rw [Int.emod_eq_of_lt (by omega) h]; omega
  · have e : (o + 1 + r) % n = (o + 1 + r - n) % n := by
      have := Int.sub_emod_right (o + 1 + r) n
      exact this.symm
    rw [e, Int.emod_eq_of_lt (by omega) (by omega)]; omega
section
variable {P : Program} {w : World} {K : PySem.W.Frag} {mg : Str → Option Value} {base : Heap} {C : Addr}
theorem same_ties {H : Hp} {t u : Addr} {xs ys : List V} {ps : List (Int × Int)} (ht : H t = some (.tup xs)) (hp : Pairs H xs ps) (hu : H u = some (.tup ys)) (hq : Pairs H ys ps) (hl : ps.length ≤ 100000) : SameV 2 H (.ref t) (.ref u) :=
  .inr ⟨t, u, xs, ys, rfl, rfl, .inl ⟨ht, hu⟩, by rw [Paired.len hp]; exact hl, same_pairs (k := 0) hp hq⟩
/-- (size, ties) twice -/
theorem same_web {H : Hp} {p q t u : Addr} {n : Int} {xs ys : List V} {ps : List (Int × Int)} (hp' : H p = some (.tup [.int n, .ref t])) (hq' : H q = some (.tup [.int n, .ref u])) (ht : H t = some (.tup xs)) (hp : Pairs H xs ps) (hu : H u = some (.tup ys)) (hq : Pairs H ys ps) (hl : ps.length ≤ 100000) : SameV 3 H (.ref p) (.ref q) :=
  .inr ⟨p, q, _, _, rfl, rfl, .inl ⟨hp', hq'⟩, (by show 2 ≤ 100000; decide), .cons (same_int _ _ _) (.cons (same_ties ht hp hu hq hl) .nil)⟩
theorem same_lots {H : Hp} {p q : Addr} {l : List Int} (hp : H p = some (.tup (l.map V.int))) (hq : H q = some (.tup (l.map V.int))) (hl : l.length ≤ 100000) : SameV 3 H (.ref p) (.ref q) :=
  .inl (.inl (.inr ⟨p, q, _, _, rfl, rfl, .inl ⟨hp, hq⟩, by rw [List.length_map]; exact hl, paired_ints l⟩))
end
theorem take_snoc {α : Type} {l : List α} {i : Nat} {x : α} (h : l[i]? = some x) : l.take (i + 1) = l.take i ++ [x] := by
  rw [List.take_succ, h]; rfl
open PySem PySem.Spec L2
theorem dec_iff {p a : Prop} [Decidable p] [Decidable a] (h : p ↔ a) : decide p = decide a := by
  by_cases ha : a <;> simp [h, ha]
section
variable {P : Program} {w : World} {K : PySem.W.Frag} {mg : Str → Option Value} {base : Heap} {C : Addr}
end
open PySem PySem.Spec L2
/-! ## lots -/
structure Lot (n : Int) (l : List Int) : Prop where
  up : l.Pairwise (· < ·)
  ok : ∀ x ∈ l, 0 ≤ x ∧ x < n
theorem lot_len {n : Int} {l : List Int} (h : Lot n l) (h0 : 0 ≤ n) : (l.length : Int) ≤ n := by
  have key : ∀ {l : List Int} {lo hi : Int}, l.Pairwise (· < ·) → (∀ x ∈ l, lo ≤ x ∧ x < hi) → lo ≤ hi → (l.length : Int) ≤ hi - lo := by
    intro l
    induction l with
    | nil => intro lo hi _ _ h; simp; omega
    | cons x l ih =>
      intro lo hi h hb hle
      obtain ⟨h1, h2⟩ := List.pairwise_cons.mp h
      have hx := hb x (by simp)
      have := ih (lo := x + 1) (hi := hi) h2 (fun y hy => ⟨by have := h1 y hy; omega, (hb y (by simp [hy])).2⟩) (by omega)
      rw [List.length_cons]; omega
  have := key h.up h.ok h0
  omega
theorem map_get {l : List Int} {i : Nat} {v : V} (h : (l.map V.int)[i]? = some v) : ∃ x, l[i]? = some x ∧ v = .int x := by
  rw [List.getElem?_map] at h
  cases e : l[i]? with
  | none => rw [e] at h; cases h
  | some x => rw [e] at h; exact ⟨x, rfl, (Option.some.inj h).symm⟩
section
variable {P : Program} {w : World} {K : PySem.W.Frag} {mg : Str → Option Value} {base : Heap} {C : Addr}
end
section
variable {P : Program} {w : World} {K : PySem.W.Frag} {mg : Str → Option Value} {base : Heap} {C : Addr}
open PySem PySem.Spec L2
/-! ## lots as data -/
/-! ## what a call changes -/
section
variable {P : Program} {w : World} {K : PySem.W.Frag} {mg : Str → Option Value} {base : Heap} {C : Addr}
/-! ## the law's own defs -/
def sp_any : Sp := fun vs H Q _ => ∃ T L l xs, vs = [.ref T, .ref l] ∧ Tp H T L ∧ H l = some (.lst xs) ∧ l ≠ T ∧ 0 < xs.length ∧ xs.length ≤ 1000 ∧ ∀ (i : Nat) v H', ExT T H H' → Tp H' T L → xs[i]? = some v → Q v H'
abbrev s__law_any : Stmt := (top 18)
theorem sc__law_any : FnScope ["tape", "things"] ["tape", "things"] (defScope s__law_any) := ⟨rfl, rfl, rfl, by decide +kernel, rfl, by decide +kernel, by decide +kernel⟩

theorem ok_law_any {f : Addr} {fd : FuncData} (F : Fun K "_law_any" "_law_any" s__law_any f fd) (hm : mg "_law_any" = some (.ref f)) (B : Bl mg) (c__law_pick : Cal P w K mg base 1 "_law_pick" ["tape", "many"] spPick) : Cal P w K mg base 2 "_law_any" ["tape", "things"] sp_any := by
  refine ⟨f, fd, F.ok sc__law_any (fun vs H Q E h => ?_) (fun cdv A outer s H vs Q E hr h => ?_), hm, F.kp, F.binds (ps := ["tape", "things"]) fun _ _ _ _ _ _ us hl => match us, hl with | [_, _], _ => rfl⟩
  · obtain ⟨T, L, l, xs, rfl, _⟩ := h; rfl
  · obtain ⟨T, L, l, xs, rfl, hT, hl, lT, h0, h1, k⟩ := h
    refine ⟨_, (pss_one (ps_ret (pe_ix ix_list (pv 1) (pe_cal c__law_pick (hr.mono (by first | decide | omega)) (pa_cons (pv 0) (pa_cons (pe_callB call_len_seq (by rfl) B.len (by decide +kernel) (pa_cons (pv 1) pa_nil)) pa_nil))) (fun _ _ => rfl)))), ?_⟩
    refine ⟨_, rfl, _, rfl, _, rfl, l, xs, rfl, .inl (SqL.of hl), T, L, _, rfl, by omega, by omega, hT, fun r H1 r0 r1 e1 hT1 => ?_⟩
    have hr' : r.toNat < xs.length := by omega
    exact ⟨l, xs, r, xs[r.toNat], rfl, rfl, SqL.of (e1 _ _ lT hl), at_of (j := r.toNat) (by omega) (List.getElem?_eq_getElem hr'), k r.toNat _ _ e1 hT1 (List.getElem?_eq_getElem hr')⟩
end

end
section
variable {P : Program} {w : World} {K : PySem.W.Frag} {mg : Str → Option Value} {base : Heap} {C : Addr}
theorem PI.or {X : Cx} {tg l : Expr} {i1 i2 : TI} (a : PI X tg l i1) (b : PI X tg l i2) : PI X tg l (fun σ H R => i1 σ H R ∨ i2 σ H R) :=
  ⟨fun pins s σ H R I h => h.elim (a.run pins s σ H R I) (b.run pins s σ H R I)⟩
theorem isI_els {v : V} (h : ∀ i, v ≠ .int i) : isI v = false := by
  cases v with
  | int i => exact absurd rfl (h i)
  | _ => rfl
theorem inI_els {v : V} {a b : Int} (h : isI v = false) : inI a b v = false := by
  cases v with
  | int i => cases h
  | _ => rfl
theorem inI_ex {v : V} {a b : Int} (h : inI a b v = true) : ∃ i, v = .int i ∧ a ≤ i ∧ i ≤ b := by
  cases v with
  | int i => exact ⟨i, rfl, by simpa [inI] using h⟩
  | _ => cases h
/-- a lot of n parts -/
def LotV (H : Hp) (n : Int) (v : V) : Prop := ∃ t l, v = .ref t ∧ H t = some (.tup (l.map V.int)) ∧ Lot n l
def sp_isI (K : PySem.W.Frag) : Sp := fun vs H Q _ => ∃ v, vs = [v] ∧ Item K H v ∧ Q (.bl (isI v)) H
theorem ok_is_integerA {f : Addr} {fd : FuncData} (F : Fun K "is_integer" "is_integer" s_is_integer f fd) (hm : mg "is_integer" = some (.ref f)) (B : Bl mg) : Cal P w K mg base 1 "is_integer" ["thing"] (sp_isI K) := by
  refine ⟨f, fd, F.ok sc_is_integer (fun vs H Q E h => ?_) (fun cdv A outer s H vs Q E hr h => ?_), hm, F.kp, F.binds (ps := ["thing"]) fun _ _ _ _ _ _ us hl => match us, hl with | [_], _ => rfl⟩
  · obtain ⟨v, rfl, _⟩ := h; rfl
  · obtain ⟨v, rfl, iv, k⟩ := h
    refine ⟨_, (pss_one (ps_ret (pe_and (pe_callB call_isi (by rfl) B.isinstance (by decide +kernel) (pa_cons (pv 0) (pa_cons (pe_bltn (v := .ty "int") (by rfl) B.int_ (by decide +kernel) rfl) pa_nil))) (pe_one (pe_not (pe_callB call_isi (by rfl) B.isinstance (by decide +kernel) (pa_cons (pv 0) (pa_cons (pe_bltn (v := .ty "bool") (by rfl) B.bool_ (by decide +kernel) rfl) pa_nil)))))))), ?_⟩
    cases iv with
    | int i =>
      refine ⟨_, rfl, _, _, _, _, true, rfl, .ty "int", .base (.int i), kit_ty (by decide +kernel), true, rfl, iteT ?_⟩
      refine ⟨_, rfl, _, _, _, _, false, rfl, .ty "bool", .base (.int i), kit_ty (by decide +kernel), false, rfl, ?_⟩
      exact k
    | bl b =>
      refine ⟨_, rfl, _, _, _, _, true, rfl, .ty "int", .base (.bl b), kit_ty (by decide +kernel), true, rfl, iteT ?_⟩
      refine ⟨_, rfl, _, _, _, _, true, rfl, .ty "bool", .base (.bl b), kit_ty (by decide +kernel), true, rfl, ?_⟩
      exact k
    | els h h1 =>
      obtain ⟨t, ty, hk⟩ := h
      rw [isI_els h1] at k
      exact ⟨_, rfl, _, _, _, _, false, rfl, .ty "int", ty, hk, false, rfl, iteF k⟩
theorem ok_law_is_integerA {f : Addr} {fd : FuncData} (F : Fun K "_law_is_integer" "_law_is_integer" s__law_is_integer f fd) (hm : mg "_law_is_integer" = some (.ref f)) (B : Bl mg) : Cal P w K mg base 1 "_law_is_integer" ["thing"] (sp_isI K) := by
  refine ⟨f, fd, F.ok sc__law_is_integer (fun vs H Q E h => ?_) (fun cdv A outer s H vs Q E hr h => ?_), hm, F.kp, F.binds (ps := ["thing"]) fun _ _ _ _ _ _ us hl => match us, hl with | [_], _ => rfl⟩
  · obtain ⟨v, rfl, _⟩ := h; rfl
  · obtain ⟨v, rfl, iv, k⟩ := h
    refine ⟨_, (pss_one (ps_ret (pe_and (pe_callB call_isi (by rfl) B.isinstance (by decide +kernel) (pa_cons (pv 0) (pa_cons (pe_bltn (v := .ty "int") (by rfl) B.int_ (by decide +kernel) rfl) pa_nil))) (pe_one (pe_not (pe_callB call_isi (by rfl) B.isinstance (by decide +kernel) (pa_cons (pv 0) (pa_cons (pe_bltn (v := .ty "bool") (by rfl) B.bool_ (by decide +kernel) rfl) pa_nil)))))))), ?_⟩
    cases iv with
    | int i =>
      refine ⟨_, rfl, _, _, _, _, true, rfl, .ty "int", .base (.int i), kit_ty (by decide +kernel), true, rfl, iteT ?_⟩
      refine ⟨_, rfl, _, _, _, _, false, rfl, .ty "bool", .base (.int i), kit_ty (by decide +kernel), false, rfl, ?_⟩
      exact k
    | bl b =>
      refine ⟨_, rfl, _, _, _, _, true, rfl, .ty "int", .base (.bl b), kit_ty (by decide +kernel), true, rfl, iteT ?_⟩
      refine ⟨_, rfl, _, _, _, _, true, rfl, .ty "bool", .base (.bl b), kit_ty (by decide +kernel), true, rfl, ?_⟩
      exact k
    | els h h1 =>
      obtain ⟨t, ty, hk⟩ := h
      rw [isI_els h1] at k
      exact ⟨_, rfl, _, _, _, _, false, rfl, .ty "int", ty, hk, false, rfl, iteF k⟩
def sp_inI (K : PySem.W.Frag) : Sp := fun vs H Q _ => ∃ v a b, vs = [v, .int a, .int b] ∧ Item K H v ∧ Q (.bl (inI a b v)) H
theorem ok_is_numberA {f : Addr} {fd : FuncData} (F : Fun K "is_number" "is_number" s_is_number f fd) (hm : mg "is_number" = some (.ref f)) (B : Bl mg) (c_is_integer : Cal P w K mg base 1 "is_integer" ["thing"] (sp_isI K)) : Cal P w K mg base 2 "is_number" ["thing", "least", "most"] (sp_inI K) := by
  refine ⟨f, fd, F.ok sc_is_number (fun vs H Q E h => ?_) (fun cdv A outer s H vs Q E hr h => ?_), hm, F.kp, F.binds (ps := ["thing", "least", "most"]) fun _ _ _ _ _ _ us hl => match us, hl with | [_, _, _], _ => rfl⟩
  · obtain ⟨v, a, b, rfl, _⟩ := h; rfl
  · obtain ⟨v, a, b, rfl, iv, k⟩ := h
    refine ⟨_, (pss_one (ps_ret (pe_and (pe_cal c_is_integer (hr.mono (by first | decide | omega)) (pa_cons (pv 0) pa_nil)) (pe_one (pe_chain op_le op_le (pv 1) (pv 0) (pv 2)))))), ?_⟩
    refine ⟨_, rfl, v, rfl, iv, isI v, rfl, ?_⟩
    cases c : isI v with
    | false =>
      rw [inI_els c] at k
      exact iteF k
    | true =>
      obtain ⟨i, rfl⟩ : ∃ i, v = .int i := by cases v <;> first | exact ⟨_, rfl⟩ | cases c
      refine iteT ?_
      refine ⟨_, rfl, _, rfl, _, _, rfl, rfl, _, rfl, ?_⟩
      by_cases h1 : a ≤ i
      · rw [if_pos (decide_eq_true h1)]
        refine ⟨_, rfl, _, _, rfl, rfl, ?_⟩
        have e : inI a b (.int i) = decide (i ≤ b) := by simp [inI, h1]
        rw [e] at k
        exact k
      · rw [if_neg (by simpa using h1)]
        have e : inI a b (.int i) = false := by simp [inI, h1]
        rw [e] at k
        exact k
theorem lot_snoc {n : Int} {l : List Int} {y : Int} (h : Lot n l) (h0 : 0 ≤ y) (h1 : y < n) (h2 : ∀ x ∈ l, x < y) : Lot n (l ++ [y]) := by
  refine ⟨List.pairwise_append.mpr ⟨h.up, by simp, fun x hx z hz => ?_⟩, fun x hx => ?_⟩
  · simp at hz; subst hz; exact h2 x hx
  · rcases List.mem_append.mp hx with hx | hx
    · exact h.ok x hx
    · simp at hx; subst hx; exact ⟨h0, h1⟩
end
section
variable {P : Program} {w : World} {K : PySem.W.Frag} {mg : Str → Option Value} {base : Heap} {C : Addr}
theorem chain_up {l : List Int} (h : ∀ i, i + 1 < l.length → l.getD i 0 < l.getD (i + 1) 0) : l.Pairwise (· < ·) := by
  induction l with
  | nil => exact .nil
  | cons a l ih =>
    have ih' := ih fun i hi => by
      have := h (i + 1) (by simp; omega)
      simpa using this
    refine List.pairwise_cons.mpr ⟨fun b hb => ?_, ih'⟩
    cases l with
    | nil => simp at hb
    | cons c l =>
      have h0 : a < c := by
        have := h 0 (by simp)
        simpa using this
      rcases List.mem_cons.mp hb with e | hb
      · omega
      · have := (List.pairwise_cons.mp ih').1 b hb
        omega
theorem up_chain {l : List Int} (h : l.Pairwise (· < ·)) (i : Nat) (hi : i + 1 < l.length) : l.getD i 0 < l.getD (i + 1) 0 := by
  have h1 := List.pairwise_iff_getElem.mp h i (i + 1) (by omega) hi (Nat.lt_succ_self i)
  rw [List.getD_eq_getElem?_getD, List.getD_eq_getElem?_getD, List.getElem?_eq_getElem (by omega), List.getElem?_eq_getElem hi]
  exact h1
theorem intsV_of : ∀ {xs : List V} {a b : Int}, (xs.map (inI a b)).all id = true → ∃ l : List Int, xs = l.map V.int ∧ ∀ x ∈ l, a ≤ x ∧ x ≤ b
  | [], _, _, _ => ⟨[], rfl, by simp⟩
  | x :: xs, a, b, h => by
    rw [List.map_cons, List.all_cons, Bool.and_eq_true] at h
    obtain ⟨i, rfl, h1, h2⟩ := inI_ex h.1
    obtain ⟨l, rfl, h3⟩ := intsV_of (xs := xs) h.2
    refine ⟨i :: l, rfl, fun x hx => ?_⟩
    rcases List.mem_cons.mp hx with e | hx
    · subst e; exact ⟨h1, h2⟩
    · exact h3 x hx
theorem ints_no {l : List Int} {a b : Int} (h : ∀ x ∈ l, a ≤ x ∧ x ≤ b) : ((l.map V.int).map (inI a b)).all id = true := by
  induction l with
  | nil => rfl
  | cons x l ih =>
    rw [List.map_cons, List.map_cons, List.all_cons, ih fun y hy => h y (by simp [hy])]
    have := h x (by simp)
    simp [inI, this]
theorem ints_inj {l l' : List Int} (h : l.map V.int = l'.map V.int) : l = l' := List.map_inj_right (fun a b h => V.int.inj h) |>.mp h
theorem tup_inj {H : Hp} {t : Addr} {xs ys : List V} (h : H t = some (.tup xs)) (h' : H t = some (.tup ys)) : xs = ys := by
  rw [h] at h'
  injection h' with h'
  injection h' with h'
def sp_lis_lot (K : PySem.W.Frag) : Sp := fun vs H Q _ => ∃ n v, vs = [.int n, v] ∧ Thing K H v ∧ ∀ b H', Same H H' → (b = true ↔ LotV H n v) → Q (.bl b) H'
abbrev s__law_is_lot : Stmt := (top 15)
theorem sc__law_is_lot : FnScope ["size", "thing", "part", "at"] ["size", "thing"] (defScope s__law_is_lot) := ⟨rfl, rfl, rfl, by decide +kernel, rfl, by decide +kernel, by decide +kernel⟩

theorem ok_law_is_lot {f : Addr} {fd : FuncData} (F : Fun K "_law_is_lot" "_law_is_lot" s__law_is_lot f fd) (hm : mg "_law_is_lot" = some (.ref f)) (B : Bl mg) (c__law_is_integer : Cal P w K mg base 1 "_law_is_integer" ["thing"] (sp_isI K)) : Cal P w K mg base 2 "_law_is_lot" ["size", "thing"] (sp_lis_lot K) := by
  refine ⟨f, fd, F.ok sc__law_is_lot (fun vs H Q E h => ?_) (fun cdv A outer s H vs Q E hr h => ?_), hm, F.kp, F.binds (ps := ["size", "thing"]) fun _ _ _ _ _ _ us hl => match us, hl with | [_, _], _ => rfl⟩
  · obtain ⟨n, v, rfl, _⟩ := h; rfl
  · obtain ⟨n, v, rfl, tv, k⟩ := h
    refine ⟨_, (pss_cons (ps_if (PW.pt (pw_or (pt_not (pt_val (pe_callB call_isi (by rfl) B.isinstance (by decide +kernel) (pa_cons (pv 1) (pa_cons (pe_bltn (v := .ty "tuple") (by rfl) B.tuple_ (by decide +kernel) rfl) pa_nil))))) (pw_or1 (pt_not (pt_val (pe_callB (cr_all rfl) (by rfl) B.all (by decide +kernel) (pa_cons (pe_lc (own := [("part", 2)]) (by rfl) sc__law_is_lot.nd (pi_tup (pv 1)) (blkOk_by (own := [("part", 2)]) (N := ["size", "thing", "part", "at"]) (sc := defScope s__law_is_lot) (by decide +kernel)) (fun _ _ _ _ _ => (pg_name (i := 2) sc__law_is_lot.nd rfl (by first | exact Or.inl rfl | exact Or.inr rfl))) (fun _ _ _ _ _ => pts_nil) (fun _ _ _ _ _ => (pe_and (pe_cal c__law_is_integer (hr.mono (by first | decide | omega)) (pa_cons (pv 2) pa_nil)) (pe_one (pe_chain op_le op_lt pe_int (pv 2) (pv 0)))))) pa_nil))))))) (pss_one (ps_ret pe_bl)) pss_nil)
 (pss_one (ps_ret (pe_callB (cr_all rfl) (by rfl) B.all (by decide +kernel) (pa_cons (pe_lc (own := [("at", 3)]) (te := (tOp _ (tOp (rIxT K) _ _) (tOp (rIxT K) _ _))) (by rfl) sc__law_is_lot.nd (pi_range2 (by rfl) B.range (pa_cons pe_int (pa_cons (pe_callB call_len_seq (by rfl) B.len (by decide +kernel) (pa_cons (pv 1) pa_nil)) pa_nil))) (blkOk_by (own := [("at", 3)]) (N := ["size", "thing", "part", "at"]) (sc := defScope s__law_is_lot) (by decide +kernel)) (fun _ _ _ _ _ => (pg_name (i := 3) sc__law_is_lot.nd rfl (by first | exact Or.inl rfl | exact Or.inr rfl))) (fun _ _ _ _ _ => pts_nil) (fun _ _ _ _ _ => (pe_cmpR op_lt (pe_ix ix_tup (pv 1) (pe_op op_sub (pv 3) pe_int) (fun _ _ => rfl)) (pe_ix ix_tup (pv 1) (pv 3) (fun _ _ => rfl)) (nomark _)))) pa_nil))))), ?_⟩
    cases tv with
    | els h h1 =>
      obtain ⟨t, ty, hk⟩ := h
      refine ⟨_, rfl, _, _, _, _, false, rfl, .ty "tuple", ty, hk, false, rfl, iteT (iteT ?_)⟩
      refine k false H (L2.Same.refl H) ⟨fun e => (by cases e), fun ⟨t', l, e, q, _⟩ => absurd q (h1 _ _ e)⟩
    | @tup t xs ht hi hz =>
      refine ⟨_, rfl, _, _, _, _, true, rfl, .ty "tuple", .base (.tup ht), kit_ty (by decide +kernel), true, rfl, iteF ?_⟩
      refine ⟨_, rfl, t, rfl, ⟨_, SqT.of ht⟩, fun D hD => lc_data walk_tup xs rfl (fun _ => true) (fun _ v x => v = .bl (inI 0 (n - 1) x)) (fun _ _ _ _ _ q => q) hD (fun H' e => SqT.of (e _ _ ht)) (Nat.lt_of_le_of_lt hz (by decide)) ?_ (fun _ _ _ _ _ y => yat_same y) ?_⟩
      · rintro i x v H3 H4 Ny Nn hxi e3 ⟨rfl, hv⟩ kE kN
        rw [hxi] at hv
        cases hv
        have iv := (hi x (List.mem_of_getElem? hxi)).ext e3
        refine ⟨rfl, yes_if ?_⟩
        refine ⟨_, rfl, x, rfl, iv, isI x, rfl, ?_⟩
        cases c : isI x with
        | false => exact iteF (kE _ _ rfl (L2.Same.refl _) (by rw [inI_els c]))
        | true =>
          obtain ⟨j, rfl⟩ : ∃ j, x = .int j := by cases x <;> first | exact ⟨_, rfl⟩ | cases c
          refine iteT ?_
          refine ⟨_, rfl, _, _, rfl, rfl, _, rfl, ?_⟩
          by_cases h1 : 0 ≤ j
          · rw [if_pos (decide_eq_true h1)]
            refine ⟨_, rfl, _, _, rfl, rfl, kE _ _ rfl (L2.Same.refl _) ?_⟩
            show V.bl (decide (j < n)) = V.bl (decide (0 ≤ j ∧ j ≤ n - 1))
            congr 1
            exact dec_iff ⟨fun h => ⟨h1, by omega⟩, fun h => by omega⟩
          · rw [if_neg (by simpa using h1)]
            refine kE _ _ rfl (L2.Same.refl _) ?_
            show V.bl false = V.bl (decide (0 ≤ j ∧ j ≤ n - 1))
            rw [decide_eq_false (fun h => h1 h.1)]
      · intro ys H3 e3 hys hpr
        have ey := paired_eq (g := fun x : V => V.bl (inI 0 (n - 1) x)) hpr
        rw [filter_yes] at ey
        have ey2 : ys = (xs.map (inI 0 (n - 1))).map V.bl := by rw [ey, List.map_map]; rfl
        subst ey2
        refine ⟨D, _, rfl, SqL.of hys, _, rfl, ?_⟩
        cases c : (xs.map (inI 0 (n - 1))).all id with
        | false =>
          refine iteT ?_
          refine k false _ e3 ⟨fun e => (by cases e), fun ⟨t', l, e, q, lt⟩ => ?_⟩
          cases e
          have := tup_inj ht q
          subst this
          rw [ints_no fun x hx => by have := lt.ok x hx; omega] at c
          cases c
        | true =>
          refine iteF ?_
          obtain ⟨l, rfl, hl⟩ := intsV_of c
          have ht3 := e3 _ _ ht
          have hlen : l.length ≤ 100000 := by rw [List.length_map] at hz; exact hz
          have hL : ((l.map V.int).length : Int) = (l.length : Int) := by rw [List.length_map]
          refine ⟨_, rfl, t, _, rfl, .inr (SqT.of ht3), 1, _, rfl, ⟨by decide, by decide, by omega, by omega⟩, fun D2 hD2 => lc_data (walk_range (lo := 1) (n := (((l.map V.int).length : Int) - 1).toNat)) (List.range (l.length - 1)) (by rw [List.length_range, hL]; omega) (fun _ => true) (fun _ v i => v = .bl (decide (l.getD i 0 < l.getD (i + 1) 0))) (fun _ _ _ _ _ q => q) hD2 (fun _ _ => trivial) (by rw [List.length_range]; exact Nat.lt_of_le_of_lt (show l.length - 1 ≤ 100000 by omega) (by decide)) ?_ (fun _ _ _ _ _ y => by rw [y.1]; exact L2.Same.refl _) ?_⟩
          · rintro i a v H4 H5 Ny Nn hai e4 ⟨rfl, rfl⟩ kE kN
            have hi1 : i < l.length - 1 := by have := (List.getElem?_eq_some_iff.mp hai).1; rw [List.length_range] at this; exact this
            have ea : a = i := by
              rw [List.getElem?_range hi1] at hai
              exact (Option.some.inj hai).symm
            subst ea
            have ht4 := e4 _ _ ht3
            have g1 : (l.map V.int)[a]? = some (.int (l.getD a 0)) := by
              rw [List.getElem?_map, List.getD_eq_getElem?_getD, List.getElem?_eq_getElem (show a < l.length by omega)]; rfl
            have g2 : (l.map V.int)[a + 1]? = some (.int (l.getD (a + 1) 0)) := by
              rw [List.getElem?_map, List.getD_eq_getElem?_getD, List.getElem?_eq_getElem (show a + 1 < l.length by omega)]; rfl
            refine ⟨rfl, yes_if ?_⟩
            refine ⟨_, rfl, _, rfl, _, _, rfl, rfl, t, _, _, _, rfl, rfl, SqT.of ht4, at_of (j := a) (by omega) g1, ?_⟩
            refine ⟨_, rfl, _, rfl, t, _, _, _, rfl, rfl, SqT.of ht4, at_of (j := a + 1) (by omega) g2, ?_⟩
            exact ⟨_, _, rfl, rfl, kE _ _ rfl (L2.Same.refl _) rfl⟩
          · intro zs H6 e6 hzs hpr2
            have ez := paired_eq (g := fun i : Nat => V.bl (decide (l.getD i 0 < l.getD (i + 1) 0))) hpr2
            rw [filter_yes] at ez
            have ez2 : zs = ((List.range (l.length - 1)).map fun i => decide (l.getD i 0 < l.getD (i + 1) 0)).map V.bl := by rw [ez, List.map_map]; rfl
            subst ez2
            refine ⟨D2, _, rfl, SqL.of hzs, k _ _ (e3.trans e6) ?_⟩
            rw [List.all_map, List.all_eq_true]
            constructor
            · intro h
              refine ⟨t, l, rfl, ht, chain_up fun i hi => ?_, fun x hx => by have := hl x hx; omega⟩
              have := h i (List.mem_range.mpr (by omega))
              simpa using this
            · rintro ⟨t', l', e, q, lt⟩ i hi
              cases e
              have := ints_inj (tup_inj ht q)
              subst this
              have := up_chain lt.up i (by have := List.mem_range.mp hi; omega)
              simpa using this
end
section
variable {P : Program} {w : World} {K : PySem.W.Frag} {mg : Str → Option Value} {base : Heap} {C : Addr}
theorem Item.tape {K : PySem.W.Frag} {H H' : Hp} {T L : Addr} {v : V} (h : Item K H v) (hT : Tp H T L) (hT' : Tp H' T L) (e : ExT T H H') : Item K H' v := by
  obtain ⟨l, h1⟩ := hT.lst
  obtain ⟨l', h2⟩ := hT'.lst
  exact h.exT e h1 h2
theorem Thing.tape {K : PySem.W.Frag} {H H' : Hp} {T L : Addr} {v : V} (h : Thing K H v) (hT : Tp H T L) (hT' : Tp H' T L) (e : ExT T H H') (hv : ∀ a, v = .ref a → H a ≠ none) : Thing K H' v := by
  obtain ⟨l, h1⟩ := hT.lst
  obtain ⟨l', h2⟩ := hT'.lst
  exact h.exT e h1 h2 hv
def sp_deep (K : PySem.W.Frag) : Sp := fun vs H Q _ => vs = [] ∧ ∀ p q H', Same H H' → H p = none → H' p = some (.tup [.ref q]) → Item K H' (.ref q) → Q (.ref p) H'
abbrev s__law_deep : Stmt := (top 17)
theorem sc__law_deep : FnScope ["thing", "turn"] [] (defScope s__law_deep) := ⟨rfl, rfl, rfl, by decide +kernel, rfl, by decide +kernel, by decide +kernel⟩

theorem ok_law_deep {f : Addr} {fd : FuncData} (F : Fun K "_law_deep" "_law_deep" s__law_deep f fd) (hm : mg "_law_deep" = some (.ref f)) (B : Bl mg) : Cal P w K mg base 1 "_law_deep" [] (sp_deep K) := by
  refine ⟨f, fd, F.ok sc__law_deep (fun vs H Q E h => ?_) (fun cdv A outer s H vs Q E hr h => ?_), hm, F.kp, F.binds (ps := []) fun _ _ _ _ _ _ us hl => match us, hl with | [], _ => rfl⟩
  · obtain ⟨rfl, _⟩ := h; rfl
  · obtain ⟨rfl, k⟩ := h
    refine ⟨_, (pss_cons (ps_set (i := 0) sc__law_deep.nd rfl (by first | exact Or.inl rfl | exact Or.inr rfl) (pe_tup (pa_cons pe_non pa_nil)))
 (pss_cons (ps_for PassesOwn.never rfl (pi_range1 (by rfl) B.range (pa_cons pe_int pa_nil)) (pg_name (i := 1) sc__law_deep.nd rfl (by first | exact Or.inl rfl | exact Or.inr rfl))
  (pss_one (ps_set (i := 0) sc__law_deep.nd rfl (by first | exact Or.inl rfl | exact Or.inr rfl) (pe_ifExp (pt_cmpR op_lt (pv 1) pe_int (nomark _)) (pe_lst (pa_cons (pv 0) pa_nil)) (pe_tup (pa_cons (pv 0) pa_nil))))))
 (pss_one (ps_ret (pv 0))))), ?_⟩
    refine ⟨(by show 1 ≤ sizeLine; decide), fun p0 hp0 => ?_⟩
    refine ⟨32, rfl, by decide, by decide, for_range (lo := 0) (n := 32) (fun i σ H' => Same H H' ∧ ∃ (p : Addr) (v : Option V), σ = [some (.ref p), v] ∧ H p = none ∧ (∃ xs, H' p = some (.lst xs) ∨ H' p = some (.tup xs)) ∧ (17 ≤ i → ∃ q, H' p = some (.tup [.ref q]) ∧ Item K H' (.ref q)))
      ⟨L2.Same.new hp0, p0, none, rfl, hp0, ⟨_, .inr upd_same⟩, fun h => by omega⟩ ?_ ?_⟩
    · rintro i σ H1 hi ⟨e1, p, u, rfl, hp, ⟨xs, hx⟩, _⟩
      have ip : Item K H1 (.ref p) := hx.elim (fun h => .lst h) (fun h => .tup h)
      refine ⟨_, rfl, _, _, rfl, rfl, _, rfl, ?_⟩
      show (if decide ((0 : Int) + (i : Nat) < 16) = true then _ else _)
      refine onb (fun c => ?_) (fun c => ?_)
      · refine ⟨_, rfl, (by show 1 ≤ sizeLine; decide), fun z hz => ?_⟩
        exact ⟨e1.new' hz, z, _, rfl, L2.Same.free e1 hz, ⟨_, .inl upd_same⟩, fun h => by omega⟩
      · refine ⟨_, rfl, (by show 1 ≤ sizeLine; decide), fun z hz => ?_⟩
        exact ⟨e1.new' hz, z, _, rfl, L2.Same.free e1 hz, ⟨_, .inr upd_same⟩, fun _ => ⟨p, upd_same, ip.ext (L2.Same.new hz)⟩⟩
    · rintro σ H1 ⟨e1, p, u, rfl, hp, _, h⟩
      obtain ⟨q, h1, h2⟩ := h (by decide)
      exact ⟨_, rfl, k p q H1 e1 hp h1 h2⟩
def sp_odd (K : PySem.W.Frag) : Sp := fun vs H Q _ => ∃ T L n th, vs = [.ref T, .int n, th] ∧ Tp H T L ∧ Item K H th ∧ ∀ v H', ExT T H H' → Tp H' T L → Item K H' v → Q v H'
abbrev s__law_odd : Stmt := (top 21)
theorem sc__law_odd : FnScope ["tape", "size", "thing", "things"] ["tape", "size", "thing"] (defScope s__law_odd) := ⟨rfl, rfl, rfl, by decide +kernel, rfl, by decide +kernel, by decide +kernel⟩

theorem ok_law_odd {f : Addr} {fd : FuncData} (F : Fun K "_law_odd" "_law_odd" s__law_odd f fd) (hm : mg "_law_odd" = some (.ref f)) (B : Bl mg) (c__law_deep : Cal P w K mg base 1 "_law_deep" [] (sp_deep K)) (c__law_any : Cal P w K mg base 2 "_law_any" ["tape", "things"] sp_any) : Cal P w K mg base 3 "_law_odd" ["tape", "size", "thing"] (sp_odd K) := by
  refine ⟨f, fd, F.ok sc__law_odd (fun vs H Q E h => ?_) (fun cdv A outer s H vs Q E hr h => ?_), hm, F.kp, F.binds (ps := ["tape", "size", "thing"]) fun _ _ _ _ _ _ us hl => match us, hl with | [_, _, _], _ => rfl⟩
  · obtain ⟨T, L, n, th, rfl, _⟩ := h; rfl
  · obtain ⟨T, L, n, th, rfl, hT, it, k⟩ := h
    refine ⟨_, (pss_cons (ps_set (i := 3) sc__law_odd.nd rfl (by first | exact Or.inl rfl | exact Or.inr rfl) (pe_lst (pa_cons (pv 1) (pa_cons (pe_un un_neg pe_int) (pa_cons pe_bl (pa_cons pe_bl (pa_cons pe_non (pa_cons pe_str (pa_cons pe_str (pa_cons (pe_tup (pa_cons pe_int pa_nil)) (pa_cons (pe_lst (pa_cons pe_int pa_nil)) (pa_cons pe_dnewK (pa_cons (pe_op op_pow pe_int pe_int) (pa_cons (pe_cal0 c__law_deep (hr.mono (by first | decide | omega))) (pa_cons (pv 2) (pa_cons pe_int pa_nil))))))))))))))))
 (pss_one (ps_ret (pe_cal c__law_any (hr.mono (by first | decide | omega)) (pa_cons (pv 0) (pa_cons (pv 3) pa_nil)))))), ?_⟩
    refine ⟨_, rfl, _, rfl, (by show 1 ≤ sizeLine; decide), fun p1 hp1 => ⟨(by show 1 ≤ sizeLine; decide), fun p2 hp2 p3 hp3 => ?_⟩⟩
    have e1 := L2.Same.new (o := .tup [.int 0]) hp1
    have e2 := L2.Same.new (o := .lst [.int 0]) hp2
    have e3 := L2.Same.new (o := .dK []) hp3
    refine ⟨_, _, rfl, rfl, ⟨by decide, by decide, by decide⟩, rfl, fun p4 q4 H4 e4 np4 hp4 iq => ?_⟩
    refine ⟨_, rfl, (by show 14 ≤ sizeLine; decide), fun D hD => ?_⟩
    have e5 := L2.Same.new (o := .lst [.int n, .int (-1), .bl true, .bl false, .non, .str "0", .str "", .ref p1, .ref p2, .ref p3, .int (10 ^ 59), .ref p4, th, .int 0]) hD
    have e45 := e4.trans e5
    have e05 := ((e1.trans e2).trans e3).trans e45
    have hT5 := hT.ext e05
    refine ⟨_, rfl, _, rfl, T, L, D, _, rfl, hT5, upd_same, (hT.ext (((e1.trans e2).trans e3).trans e4)).neT hD, (by show 0 < 14; decide), (by show 14 ≤ 1000; decide), fun i v H6 e6 hT6 hv => ?_⟩
    refine k v H6 (e05.exT.trans e6) hT6 (Item.tape ?_ hT5 hT6 e6)
    match i, hv with
    | 0, hv => cases hv; exact .int _
    | 1, hv => cases hv; exact .int _
    | 2, hv => cases hv; exact .bl _
    | 3, hv => cases hv; exact .bl _
    | 4, hv => cases hv; exact .non
    | 5, hv => cases hv; exact .str _
    | 6, hv => cases hv; exact .str _
    | 7, hv => cases hv; exact .tup ((e2.trans (e3.trans e45)) _ _ upd_same)
    | 8, hv => cases hv; exact .lst ((e3.trans e45) _ _ upd_same)
    | 9, hv => cases hv; exact .dK (e45 _ _ upd_same)
    | 10, hv => cases hv; exact .int _
    | 11, hv => cases hv; exact .tup (e5 _ _ hp4)
    | 12, hv => cases hv; exact it.ext e05
    | 13, hv => cases hv; exact .int _
    | i + 14, hv => simp at hv
end
section
variable {P : Program} {w : World} {K : PySem.W.Frag} {mg : Str → Option Value} {base : Heap} {C : Addr}
/-- a thing that is there -/
def ThE (K : PySem.W.Frag) (H : Hp) (v : V) : Prop := Thing K H v ∧ ∀ a, v = .ref a → H a ≠ none
theorem ThE.tup {K : PySem.W.Frag} {H : Hp} {a : Addr} {xs : List V} (h : H a = some (.tup xs)) (h1 : ∀ x ∈ xs, Item K H x) (h2 : xs.length ≤ 100000) : ThE K H (.ref a) := ⟨.tup h h1 h2, fun b e => by cases e; rw [h]; exact Option.some_ne_none _⟩
theorem ThE.lst {K : PySem.W.Frag} {H : Hp} {a : Addr} {xs : List V} (h : H a = some (.lst xs)) : ThE K H (.ref a) := ⟨.lst h, fun b e => by cases e; rw [h]; exact Option.some_ne_none _⟩
theorem ThE.dK {K : PySem.W.Frag} {H : Hp} {a : Addr} {xs : List (L2.Key × V)} (h : H a = some (.dK xs)) : ThE K H (.ref a) := ⟨.dK h, fun b e => by cases e; rw [h]; exact Option.some_ne_none _⟩
theorem ThE.non {K : PySem.W.Frag} {H : Hp} : ThE K H .non := ⟨.non, fun _ => V.noConfusion⟩
theorem ThE.str {K : PySem.W.Frag} {H : Hp} (x : Str) : ThE K H (.str x) := ⟨.str x, fun _ => V.noConfusion⟩
theorem ThE.int {K : PySem.W.Frag} {H : Hp} (x : Int) : ThE K H (.int x) := ⟨.int x, fun _ => V.noConfusion⟩
theorem ThE.ext {K : PySem.W.Frag} {H H' : Hp} {v : V} (h : ThE K H v) (e : Same H H') : ThE K H' v := ⟨h.1.ext e h.2, fun a ea q => by
  cases c : H a with
  | none => exact h.2 a ea c
  | some o => rw [e _ _ c] at q; cases q⟩
theorem ThE.tape {K : PySem.W.Frag} {H H' : Hp} {T L : Addr} {v : V} (h : ThE K H v) (hT : Tp H T L) (hT' : Tp H' T L) (e : ExT T H H') : ThE K H' v := ⟨h.1.tape hT hT' e h.2, fun a ea q => by
  by_cases ca : a = T
  · obtain ⟨l, hl⟩ := hT'.lst
    rw [ca, hl] at q; cases q
  · cases c : H a with
    | none => exact h.2 a ea c
    | some o => rw [e _ _ ca c] at q; cases q⟩
theorem cut_mem {xs : List V} {lo hi : Option Int} {x : V} (h : x ∈ cutV xs lo hi) : x ∈ xs := List.mem_of_mem_drop (List.mem_of_mem_take h)
theorem cut_whole {xs : List V} {lo hi : Option Int} (h : HT.sIx xs.length 0 lo = 0 ∧ HT.sIx xs.length xs.length hi = xs.length) : cutV xs lo hi = xs := by
  unfold cutV
  rw [h.1, h.2, List.drop_zero, Nat.sub_zero, List.take_length]
theorem sl_any {K : PySem.W.Frag} {H : Hp} {a : Addr} {xs : List V} {lo hi : Option Int} {Q : VK} (ha : H a = some (.tup xs)) (k : ∀ b H', Same H H' → H' b = some (.tup (cutV xs lo hi)) → Q (.ref b) H') : rSlA K (.ref a) lo hi H Q :=
  ⟨a, xs, rfl, SqT.of ha, fun h => k a H (L2.Same.refl H) (by rw [cut_whole h]; exact ha), fun _ p hp => k p _ (L2.Same.new hp) upd_same⟩
theorem sl_from {K : PySem.W.Frag} {σ : L2.St} {H : Hp} {a : Addr} {xs : List V} {lo : Option Int} {Q : VK} (ha : H a = some (.tup xs)) (k : ∀ b H', Same H H' → H' b = some (.tup (cutV xs lo none)) → Q (.ref b) H') : tNoPart σ H (fun u H3 => rSlA K (.ref a) lo u H3 Q) := sl_any ha k
theorem cat_any {K : PySem.W.Frag} {H : Hp} {a b : Addr} {xs ys : List V} {Q : VK} (ha : H a = some (.tup xs)) (hb : H b = some (.tup ys)) (hl : xs.length + ys.length ≤ sizeLine) (k : ∀ c H', Same H H' → H' c = some (.tup (xs ++ ys)) → Q (.ref c) H') : rCatA K (.ref a) (.ref b) H Q :=
  ⟨a, b, xs, ys, rfl, rfl, SqT.of ha, SqT.of hb, hl, fun h => k b H (L2.Same.refl H) (by rw [h]; exact hb), fun _ h => k a H (L2.Same.refl H) (by rw [h, List.append_nil]; exact ha), fun _ _ p hp => k p _ (L2.Same.new hp) upd_same⟩
end
end Bs

namespace Bs
open PySem PySem.Spec L2
section
variable {P : Program} {w : World} {K : PySem.W.Frag} {mg : Str → Option Value} {base : Heap} {C CB : Addr}
def sp_bad_init (K : PySem.W.Frag) : Sp := fun vs H Q _ => ∃ (a CB : Addr) (y : V), vs = [.ref a, y] ∧ OexC K CB ∧ PySem.W.findIn K (.ref CB) "part" = some none ∧ H a = some (exo a CB none) ∧ ∀ dx, H dx = none → dx ≠ a → Q .non (upd (upd H dx (exd dx [(("part" : Str), y)])) a (exo a CB (some dx)))
abbrev s_BadWeb_init : Stmt := (inClass (top 2) 0)
theorem sc_BadWeb_init : FnScope ["self", "part"] ["self", "part"] (defScope s_BadWeb_init) := ⟨rfl, rfl, rfl, by decide +kernel, rfl, by decide +kernel, by decide +kernel⟩

theorem ok_BadWeb_init {f : Addr} {fd : FuncData} (F : Fun K "__init__" "BadWeb.__init__" s_BadWeb_init f fd) (B : Bl mg) : FnOk P w K mg base CX0 1 f fd ["self", "part"] (sp_bad_init K) := by
  refine F.ok sc_BadWeb_init (fun vs H Q E h => ?_) (fun cdv A outer s H vs Q E hr h => ?_)
  · obtain ⟨a, CB, y, rfl, _⟩ := h; rfl
  · obtain ⟨a, CB, y, rfl, T, hno, ha, k⟩ := h
    refine ⟨_, (pss_one (ps_ost (pv 0) (pv 1))), ?_⟩
    exact ⟨_, rfl, _, rfl, a, CB, rfl, T, hno, .inl ⟨ha, fun dx h1 h2 => k dx h1 h2⟩⟩
/-- BadWeb(y): what is raised -/
theorem bad_read {H : Hp} {y : V} {Q : XK} (T : OexC K CB) (hno : PySem.W.findIn K (.ref CB) "part" = some none) (h : ∀ d H', Same H H' → H d = none → H' d = some (.xd [(("part" : Str), y)]) → Q (.ref CB) (some d) H') :
    ∀ a, H a = none → sp_bad_init K [.ref a, y] (upd H a (exo a CB none)) (fun v H2 => v = .non ∧ ∃ (d : Addr) (fs : List (Str × V)), H2 a = some (exo a CB (some d)) ∧ H2 d = some (exd d fs) ∧ H d = none ∧ Q (.ref CB) (some d) (upd (del H2 a) d (.xd fs))) (fun _ _ _ => False) := by
  intro a ha
  refine ⟨a, CB, y, rfl, T, hno, upd_same, fun dx hdx hne => ⟨rfl, dx, _, upd_same, by rw [upd_ne hne]; exact upd_same, ?_, ?_⟩⟩
  · rw [upd_ne hne] at hdx; exact hdx
  · rw [upd_ne hne] at hdx
    refine h dx _ (fun b o hb => ?_) hdx upd_same
    have hba : b ≠ a := ne_of_none hb ha
    have hbd : b ≠ dx := ne_of_none hb hdx
    rw [upd_ne hbd, del_ne hba, upd_ne hba, upd_ne hbd, upd_ne hba]
    exact hb
/-- a tie of n parts -/
def TieV (H : Hp) (n : Int) (v : V) (p : Int × Int) : Prop := PairAt H v p ∧ 0 ≤ p.1 ∧ p.1 < p.2 ∧ p.2 < n
def sp_is_tieA (K : PySem.W.Frag) : Sp := fun vs H Q _ => ∃ (n : Int) (v : V), vs = [.int n, v] ∧ Thing K H v ∧ ∀ b, (b = true ↔ ∃ p, TieV H n v p) → Q (.bl b) H
theorem ok_is_tieA {f : Addr} {fd : FuncData} (F : Fun K "is_tie" "is_tie" s_is_tie f fd) (hm : mg "is_tie" = some (.ref f)) (B : Bl mg) (c_is_number : Cal P w K mg base 2 "is_number" ["thing", "least", "most"] (sp_inI K)) : Cal P w K mg base 3 "is_tie" ["size", "thing"] (sp_is_tieA K) := by
  refine ⟨f, fd, F.ok sc_is_tie (fun vs H Q E h => ?_) (fun cdv A outer s H vs Q E hr h => ?_), hm, F.kp, F.binds (ps := ["size", "thing"]) fun _ _ _ _ _ _ us hl => match us, hl with | [_, _], _ => rfl⟩
  · obtain ⟨n, v, rfl, _⟩ := h; rfl
  · obtain ⟨n, v, rfl, tv, k⟩ := h
    refine ⟨_, (pss_cons (ps_if (PW.pt (pw_or (pt_not (pt_val (pe_callB call_isi (by rfl) B.isinstance (by decide +kernel) (pa_cons (pv 1) (pa_cons (pe_bltn (v := .ty "tuple") (by rfl) B.tuple_ (by decide +kernel) rfl) pa_nil))))) (pw_or1 (pt_cmpR op_ne (pe_callB call_len_seq (by rfl) B.len (by decide +kernel) (pa_cons (pv 1) pa_nil)) pe_int (nomark _))))) (pss_one (ps_ret pe_bl)) pss_nil)
 (pss_cons (ps_asg (pv 1) (pg_tup (by rfl) (pgs_cons (pg_name (i := 2) sc_is_tie.nd rfl (by first | exact Or.inl rfl | exact Or.inr rfl)) (pgs_cons (pg_name (i := 3) sc_is_tie.nd rfl (by first | exact Or.inl rfl | exact Or.inr rfl)) pgs_nil))))
 (pss_one (ps_ret (pe_and (pe_cal c_is_number (hr.mono (by first | decide | omega)) (pa_cons (pv 2) (pa_cons pe_int (pa_cons (pe_op op_sub (pv 0) pe_int) pa_nil)))) (pe_one (pe_cal c_is_number (hr.mono (by first | decide | omega)) (pa_cons (pv 3) (pa_cons (pe_op op_add (pv 2) pe_int) (pa_cons (pe_op op_sub (pv 0) pe_int) pa_nil)))))))))), ?_⟩
    cases tv with
    | els h h1 =>
      obtain ⟨t, ty, hk⟩ := h
      refine ⟨_, rfl, _, _, _, _, false, rfl, .ty "tuple", ty, hk, false, rfl, iteT (iteT ?_)⟩
      exact k false ⟨fun e => (by cases e), fun ⟨p, ⟨a, e, q⟩, _⟩ => absurd q (h1 _ _ e)⟩
    | @tup t xs ht hi hz =>
      refine ⟨_, rfl, _, _, _, _, true, rfl, .ty "tuple", .base (.tup ht), kit_ty (by decide +kernel), true, rfl, iteF ?_⟩
      refine ⟨_, rfl, t, _, rfl, .inr (SqT.of ht), rfl, _, rfl, ?_⟩
      by_cases c : xs.length = 2
      · obtain ⟨x, y, rfl⟩ : ∃ x y, xs = [x, y] := match xs, c with | [x, y], _ => ⟨x, y, rfl⟩
        refine iteNS rfl ?_
        have ix := hi x (by simp)
        have iy := hi y (by simp)
        refine ⟨_, rfl, _, _, rfl, SqT.of ht, rfl, _, _, rfl, _, _, rfl, rfl, ?_⟩
        refine ⟨_, rfl, _, rfl, _, _, rfl, rfl, x, 0, n - 1, rfl, ix, _, rfl, ?_⟩
        cases c1 : inI 0 (n - 1) x with
        | false =>
          refine iteF (k false ⟨fun e => (by cases e), fun ⟨p, ⟨a, e, q⟩, h0, h1, h2⟩ => ?_⟩)
          cases e
          rw [ht] at q
          cases q
          have : decide (0 ≤ p.1 ∧ p.1 ≤ n - 1) = false := c1
          exact absurd ⟨h0, by omega⟩ (of_decide_eq_false this)
        | true =>
          obtain ⟨i, rfl, i0, i1⟩ := inI_ex c1
          refine iteT ?_
          refine ⟨_, rfl, _, rfl, _, _, rfl, rfl, _, rfl, _, _, rfl, rfl, y, i + 1, n - 1, rfl, iy, k _ ?_⟩
          constructor
          · intro h
            obtain ⟨j, rfl, j0, j1⟩ := inI_ex h
            exact ⟨(i, j), ⟨t, rfl, ht⟩, i0, by show i < j; omega, by show j < n; omega⟩
          · rintro ⟨p, ⟨a, e, q⟩, h0, h1, h2⟩
            cases e
            rw [ht] at q
            cases q
            exact decide_eq_true (by omega)
      · refine onbN (fun _ => ?_) (fun e => absurd (by injection e with e; omega) c)
        refine k false ⟨fun e => (by cases e), fun ⟨p, ⟨a, e, q⟩, _⟩ => ?_⟩
        cases e
        rw [ht] at q
        cases q
        exact absurd rfl c
theorem lexLe_yes {p q : Int × Int} (h : ¬ lt2 p q) : Ob.lexAt (fun j => decide ([q.1, q.2].getD j 0 = [p.1, p.2].getD j 0)) (fun j => decide ([q.1, q.2].getD j 0 ≤ [p.1, p.2].getD j 0)) (decide ([q.1, q.2].length ≤ [p.1, p.2].length)) 0 (min [q.1, q.2].length [p.1, p.2].length) = true := by
  show (if decide (q.1 = p.1) = true then (if decide (q.2 = p.2) = true then true else decide (q.2 ≤ p.2)) else decide (q.1 ≤ p.1)) = true
  unfold lt2 at h
  by_cases c : q.1 = p.1
  · rw [if_pos (decide_eq_true c)]
    by_cases d : q.2 = p.2
    · rw [if_pos (decide_eq_true d)]
    · rw [if_neg (by simpa using d)]
      exact decide_eq_true (by omega)
  · rw [if_neg (by simpa using c)]
    exact decide_eq_true (by omega)
theorem pairs_snoc {H : Hp} {xs : List V} {ps : List (Int × Int)} {i : Nat} {x : V} {p : Int × Int} (h : Pairs H (xs.take i) ps) (hx : xs[i]? = some x) (hp : PairAt H x p) : Pairs H (xs.take (i + 1)) (ps ++ [p]) := by
  rw [take_snoc hx]
  exact Paired.app h (.cons hp .nil)
theorem pairs_uniq {H : Hp} : ∀ {xs : List V} {ps qs : List (Int × Int)}, Pairs H xs ps → Pairs H xs qs → ps = qs
  | _, _, _, .nil, .nil => rfl
  | _, _, _, .cons r t, .cons r' t' => by rw [r.inj r', pairs_uniq t t']
theorem pairs_last {H : Hp} {xs : List V} {ps qs : List (Int × Int)} {i : Nat} {x : V} (h : Pairs H (xs.take i) ps) (hx : xs[i]? = some x) (hq : Pairs H (xs.take (i + 1)) qs) : ∃ p, PairAt H x p ∧ qs = ps ++ [p] := by
  have hi : i < xs.length := (List.getElem?_eq_some_iff.mp hx).1
  have hx2 : (xs.take (i + 1))[i]? = some x := by rw [List.getElem?_take, if_pos (Nat.lt_succ_self i)]; exact hx
  obtain ⟨p, h1, h2⟩ := Paired.get hq hx2
  exact ⟨p, h2, pairs_uniq hq (pairs_snoc h hx h2)⟩
theorem good_snoc {n : Int} {ps : List (Int × Int)} {p : Int × Int} (G : Good n ps) (h : 0 ≤ p.1 ∧ p.1 < p.2 ∧ p.2 < n) (hl : ∀ q ∈ ps, lt2 q p) : Good n (ps ++ [p]) :=
  ⟨fun q hq => by
    rcases List.mem_append.mp hq with hq | hq
    · exact G.ok q hq
    · simp at hq; subst hq; exact h, List.pairwise_append.mpr ⟨G.up, by simp, fun a ha b hb => by simp at hb; subst hb; exact hl a ha⟩⟩
theorem good_init {n : Int} {ps : List (Int × Int)} {p : Int × Int} (G : Good n (ps ++ [p])) : (0 ≤ p.1 ∧ p.1 < p.2 ∧ p.2 < n) ∧ ∀ q ∈ ps, lt2 q p :=
  ⟨G.ok p (by simp), fun q hq => (List.pairwise_append.mp G.up).2.2 q hq p (by simp)⟩
/-- the first so many are ties in order -/
def Okay (H : Hp) (n : Int) (xs : List V) (i : Nat) : Prop := ∃ ps, Pairs H (xs.take i) ps ∧ Good n ps
def sp_wrong_tieA (K : PySem.W.Frag) : Sp := fun vs H Q _ => ∃ (n : Int) (t : Addr) (xs : List V), vs = [.int n, .ref t] ∧ H t = some (.tup xs) ∧ (∀ x ∈ xs, ThE K H x) ∧
  (∀ (i : Nat) H', Same H H' → i < xs.length → Okay H n xs i → ¬ Okay H n xs (i + 1) → Q (.int i) H') ∧ (∀ H', Same H H' → Okay H n xs xs.length → Q .non H')
theorem ok_wrong_tieA {f : Addr} {fd : FuncData} (F : Fun K "wrong_tie" "wrong_tie" s_wrong_tie f fd) (hm : mg "wrong_tie" = some (.ref f)) (B : Bl mg) (c_is_tie : Cal P w K mg base 3 "is_tie" ["size", "thing"] (sp_is_tieA K)) : Cal P w K mg base 4 "wrong_tie" ["size", "ties"] (sp_wrong_tieA K) := by
  refine ⟨f, fd, F.ok sc_wrong_tie (fun vs H Q E h => ?_) (fun cdv A outer s H vs Q E hr h => ?_), hm, F.kp, F.binds (ps := ["size", "ties"]) fun _ _ _ _ _ _ us hl => match us, hl with | [_, _], _ => rfl⟩
  · obtain ⟨n, t, xs, rfl, _⟩ := h; rfl
  · obtain ⟨n, t, xs, rfl, ht, hth, kI, kN⟩ := h
    refine ⟨_, (pss_cons (ps_set (i := 2) sc_wrong_tie.nd rfl (by first | exact Or.inl rfl | exact Or.inr rfl) (pe_tup pa_nil))
 (pss_cons (ps_for PassesOwn.never rfl (pi_enumT (by rfl) B.enumerate (pa_cons (pv 1) pa_nil)) (pg_tup (by rfl) (pgs_cons (pg_name (i := 3) sc_wrong_tie.nd rfl (by first | exact Or.inl rfl | exact Or.inr rfl)) (pgs_cons (pg_name (i := 4) sc_wrong_tie.nd rfl (by first | exact Or.inl rfl | exact Or.inr rfl)) pgs_nil)))
  (pss_cons (ps_if (PW.pt (pw_or (pt_not (pt_val (pe_cal c_is_tie (hr.mono (by first | decide | omega)) (pa_cons (pv 0) (pa_cons (pv 4) pa_nil))))) (pw_or1 (pt_cmpR (op_leT hr.units0) (pv 4) (pv 2) (nomark _))))) (pss_one (ps_ret (pv 3))) pss_nil)
 (pss_one (ps_set (i := 2) sc_wrong_tie.nd rfl (by first | exact Or.inl rfl | exact Or.inr rfl) (pv 4)))))
 (pss_one (ps_ret pe_non)))), ?_⟩
    refine ⟨Nat.zero_le _, fun z hz => ?_⟩
    refine ⟨_, rfl, t, xs, rfl, SqT.of ((L2.Same.new hz) _ _ ht), for_it (walk_enumT (K := K) (a := t) (xs := xs)) (fun i σ H' => Same H H' ∧ ∃ (u v : Option V) (l : Addr) (ms : List Int) (ps : List (Int × Int)), σ = [some (.int n), some (.ref t), some (.ref l), u, v] ∧ H' l = some (.tup (ms.map V.int)) ∧ Pairs H (xs.take i) ps ∧ Good n ps ∧ ((ps = [] ∧ ms = []) ∨ ∃ qs q, ps = qs ++ [q] ∧ ms = [q.1, q.2]))
      ⟨L2.Same.new hz, none, none, z, [], [], rfl, upd_same, .nil, ⟨fun p h => by simp at h, .nil⟩, .inl ⟨rfl, rfl⟩⟩ (fun i σ H' _ p => SqT.of (p.1 _ _ ht)) ?_ ?_⟩
    · rintro i y σ H1 H2 hi ⟨e1, u, v, l, ms, ps, rfl, hl, hps, G, hlast⟩ ⟨A1, y1, y2, rfl, hA, rfl, hy1, hy2⟩
      cases hy1
      have e2 : Same H1 (upd H1 A1 (.tup [.int (i : Nat), y2])) := L2.Same.new hA
      have e12 := e1.trans e2
      have hlt : i < xs.length := (List.getElem?_eq_some_iff.mp hy2).1
      have th2 := (hth y2 (List.mem_of_getElem? hy2)).ext e12
      have okI : Okay H n xs i := ⟨ps, hps, G⟩
      refine ⟨A1, _, rfl, SqT.of upd_same, rfl, _, _, rfl, _, _, rfl, rfl, ?_⟩
      refine ⟨_, rfl, _, rfl, n, y2, rfl, th2.1, fun b hb => ⟨b, rfl, ?_⟩⟩
      have back : ∀ p, PairAt H y2 p → PairAt (upd H1 A1 (.tup [.int (i : Nat), y2])) y2 p := fun p h => h.tk e12.tk
      have forth : ∀ p, PairAt (upd H1 A1 (.tup [.int (i : Nat), y2])) y2 p → PairAt H y2 p := fun p h => by
        obtain ⟨a, rfl, h2⟩ := h
        cases c : H a with
        | none => exact absurd c ((hth _ (List.mem_of_getElem? hy2)).2 a rfl)
        | some o => rw [e12 _ _ c] at h2; cases h2; exact ⟨a, rfl, c⟩
      cases b with
      | false =>
        refine iteT (iteT ?_)
        refine ⟨_, rfl, kI i _ e12 hlt okI ?_⟩
        rintro ⟨qs, hqs, Gq⟩
        obtain ⟨p, hp, rfl⟩ := pairs_last hps hy2 hqs
        have := hb.mpr ⟨p, back p hp, (good_init Gq).1⟩
        cases this
      | true =>
        obtain ⟨p, hp2, hp0⟩ := hb.mp rfl
        have hp := forth p hp2
        obtain ⟨a, rfl, ha⟩ := hp
        refine iteF ?_
        refine ⟨_, rfl, _, rfl, a, l, [p.1, p.2], ms, rfl, rfl, SqT.of (e12 _ _ ha), SqT.of (e2 _ _ hl), ?_⟩
        have go : (∀ q ∈ ps, lt2 q p) → (Same H (upd H1 A1 (.tup [.int (i : Nat), .ref a])) ∧ ∃ (u v : Option V) (l : Addr) (ms : List Int) (ps : List (Int × Int)), [some (.int n), some (.ref t), some (.ref a), some (.int (i : Nat)), some (.ref a)] = [some (.int n), some (.ref t), some (.ref l), u, v] ∧ (upd H1 A1 (.tup [.int (i : Nat), .ref a])) l = some (.tup (ms.map V.int)) ∧ Pairs H (xs.take (i + 1)) ps ∧ Good n ps ∧ ((ps = [] ∧ ms = []) ∨ ∃ qs q, ps = qs ++ [q] ∧ ms = [q.1, q.2])) := fun hl =>
          ⟨e12, _, _, a, [p.1, p.2], ps ++ [p], rfl, e12 _ _ ha, pairs_snoc hps hy2 ⟨a, rfl, ha⟩, good_snoc G hp0 hl, .inr ⟨ps, p, rfl, rfl⟩⟩
        rcases hlast with ⟨rfl, rfl⟩ | ⟨qs, q, rfl, rfl⟩
        · refine ⟨_, rfl, iteF ⟨_, rfl, go (by simp)⟩⟩
        · by_cases c : lt2 q p
          · rw [lexLe_no c]
            refine ⟨_, rfl, iteF ⟨_, rfl, go fun r hr => ?_⟩⟩
            rcases List.mem_append.mp hr with hr | hr
            · exact lt2_trans ((List.pairwise_append.mp G.up).2.2 r hr q (by simp)) c
            · simp at hr; subst hr; exact c
          · rw [lexLe_yes c]
            refine ⟨_, rfl, iteT ⟨_, rfl, kI i _ e12 hlt okI ?_⟩⟩
            rintro ⟨rs, hrs, Gr⟩
            obtain ⟨p', hp', rfl⟩ := pairs_last hps hy2 hrs
            have : p' = p := hp'.inj ⟨a, rfl, ha⟩
            subst this
            exact c ((good_init Gr).2 q (by simp))
    · rintro σ H' ⟨e1, u, v, l, ms, ps, rfl, _, hps, G, _⟩
      exact kN _ e1 ⟨ps, hps, G⟩
end
end Bs

namespace Bs
open PySem PySem.Spec L2
/-- what is known of BadWeb -/
structure BadT (P : Program) (w : World) (K : PySem.W.Frag) (mg : Str → Option Value) (base : Heap) (CB fI : Addr) (fd : FuncData) : Prop where
  T : OexC K CB
  no : PySem.W.findIn K (.ref CB) "part" = some none
  g : mg "BadWeb" = some (.ref CB)
  iC : PySem.W.findIn K (.ref CB) "__init__" = some (some (.ref fI))
  tI : PySem.W.typeIn K (.ref fI) = some (.type "function")
  F1 : FnOk P w K mg base CX0 1 fI fd ["self", "part"] (sp_bad_init K)
  hb : Binds K fd ["self", "part"] []
/-- a tuple of things, or no tuple -/
inductive ThT (K : PySem.W.Frag) (H : Hp) : V → Prop where
  | tup {a : Addr} {xs : List V} (h : H a = some (.tup xs)) (h1 : ∀ x ∈ xs, ThE K H x) (h2 : xs.length ≤ 100000) : ThT K H (.ref a)
  | els {v : V} (h : Typ K H v "tuple" false) (h1 : ∀ a xs, v = .ref a → H a ≠ some (.tup xs)) : ThT K H v
/-- what is wrong of a size and ties -/
def BadIs (H : Hp) (sv tv y : V) : Prop :=
  (inI 1 24 sv = false ∧ y = .str "size") ∨ (inI 1 24 sv = true ∧ (∀ a xs, tv = .ref a → H a ≠ some (.tup xs)) ∧ y = .str "ties") ∨
  ∃ (n : Int) (t : Addr) (xs : List V) (i : Nat), sv = .int n ∧ 1 ≤ n ∧ n ≤ 24 ∧ tv = .ref t ∧ H t = some (.tup xs) ∧ i < xs.length ∧ Okay H n xs i ∧ ¬ Okay H n xs (i + 1) ∧ y = .int i
def WebIs (H : Hp) (sv tv : V) : Prop := ∃ (n : Int) (t : Addr) (xs : List V), sv = .int n ∧ 1 ≤ n ∧ n ≤ 24 ∧ tv = .ref t ∧ H t = some (.tup xs) ∧ Okay H n xs xs.length
section
variable {P : Program} {w : World} {K : PySem.W.Frag} {mg : Str → Option Value} {base : Heap} {C CB : Addr}
def wfV (s t : V) : List (Str × V) := putF "ties" t (putF "size" s [])
def sp_Web_initX (K : PySem.W.Frag) (C CB : Addr) : Sp := fun vs H Q E => ∃ (x dx : Addr) (sv tv : V), vs = [.ref x, sv, tv] ∧ H x = some (.ins C dx []) ∧ Item K H sv ∧ ThT K H tv ∧
  (∀ y d H', BadIs H sv tv y → Same H H' → H d = none → H' d = some (.xd [(("part" : Str), y)]) → E (.ref CB) (some d) H') ∧
  (WebIs H sv tv → ∀ H', ExT x H H' → H' x = some (.ins C dx (wfV sv tv)) → Q .non H')
theorem okay_same {K : PySem.W.Frag} {H H' : Hp} {n : Int} {xs : List V} {i : Nat} (e : Same H H') (h : Okay H n xs i) : Okay H' n xs i := let ⟨ps, h1, h2⟩ := h; ⟨ps, h1.tk e.tk, h2⟩
theorem ok_Web_initX {f fI : Addr} {fd fdI : FuncData} (F : Fun K "__init__" "Web.__init__" s_Web_init f fd) (B : Bl mg) (T : Txt K mg C) (BT : BadT P w K mg base CB fI fdI) (c_is_number : Cal P w K mg base 2 "is_number" ["thing", "least", "most"] (sp_inI K)) (c_wrong_tie : Cal P w K mg base 4 "wrong_tie" ["size", "ties"] (sp_wrong_tieA K)) : FnOk P w K mg base (L2.CX P w) 5 f fd ["self", "size", "ties"] (sp_Web_initX K C CB) := by
  refine F.okX sc_Web_init (fun vs H Q E h => ?_) (fun cdv A outer s H vs Q E hr h => ?_)
  · obtain ⟨x, dx, sv, tv, rfl, _⟩ := h; rfl
  · obtain ⟨x, dx, sv, tv, rfl, hx, iS, tT, kE, kQ⟩ := h
    obtain ⟨t24, h24⟩ := T.mg_MOST_PARTS
    refine ⟨_, (pss_cons (ps_if (pt_not (pt_val (pe_cal c_is_number (hr.mono (by first | decide | omega)) (pa_cons (pv 1) (pa_cons pe_int (pa_cons (pe_glob (v := .int 24) (by rfl) h24 ⟨_, rfl⟩) pa_nil)))))) (pss_one (ps_raise rfl (takes_of rfl rfl rfl rfl) (pmk_oex (dvs := []) BT.T BT.iC BT.tI BT.F1 (hr.mono (by decide)) BT.hb .nil pass0 (by rfl) BT.g (pa_cons pe_str pa_nil)))) pss_nil)
 (pss_cons (ps_if (pt_not (pt_val (pe_callB call_isi (by rfl) B.isinstance (by decide +kernel) (pa_cons (pv 2) (pa_cons (pe_bltn (v := .ty "tuple") (by rfl) B.tuple_ (by decide +kernel) rfl) pa_nil))))) (pss_one (ps_raise rfl (takes_of rfl rfl rfl rfl) (pmk_oex (dvs := []) BT.T BT.iC BT.tI BT.F1 (hr.mono (by decide)) BT.hb .nil pass0 (by rfl) BT.g (pa_cons pe_str pa_nil)))) pss_nil)
 (pss_cons (ps_set (i := 3) sc_Web_init.nd rfl (by first | exact Or.inl rfl | exact Or.inr rfl) (pe_cal c_wrong_tie (hr.mono (by first | decide | omega)) (pa_cons (pv 1) (pa_cons (pv 2) pa_nil))))
 (pss_cons (ps_if (pt_cmpR op_notN (pv 3) pe_non (nomark _)) (pss_one (ps_raise rfl (takes_of rfl rfl rfl rfl) (pmk_oex (dvs := []) BT.T BT.iC BT.tI BT.F1 (hr.mono (by decide)) BT.hb .nil pass0 (by rfl) BT.g (pa_cons (pv 3) pa_nil)))) pss_nil)
 (pss_cons (ps_fld (pv 0) (pv 1) rfl)
 (pss_one (ps_fld (pv 0) (pv 2) rfl))))))), ?_⟩
    refine ⟨_, rfl, sv, 1, 24, rfl, iS, _, rfl, ?_⟩
    cases c : inI 1 24 sv with
    | false =>
      refine iteT ?_
      exact ⟨by decide, bad_read BT.T BT.no fun d H' e h0 h1 => kE _ d H' (.inl ⟨c, rfl⟩) e h0 h1⟩
    | true =>
      obtain ⟨n, rfl, n1, n2⟩ := inI_ex c
      refine iteF ?_
      cases tT with
      | els h h1 =>
        obtain ⟨t, ty, hk⟩ := h
        refine ⟨_, rfl, _, _, _, _, false, rfl, .ty "tuple", ty, hk, false, rfl, iteT ?_⟩
        exact ⟨by decide, bad_read BT.T BT.no fun d H' e h0 h2 => kE _ d H' (.inr (.inl ⟨c, h1, rfl⟩)) e h0 h2⟩
      | @tup t xs ht hth hlen =>
        refine ⟨_, rfl, _, _, _, _, true, rfl, .ty "tuple", .base (.tup ht), kit_ty (by decide +kernel), true, rfl, iteF ?_⟩
        refine ⟨_, rfl, _, rfl, n, t, xs, rfl, ht, hth, fun i H1 e1 hi ok nok => ?_, fun H1 e1 ok => ?_⟩
        · refine ⟨_, rfl, rfl, _, rfl, iteT ?_⟩
          refine ⟨_, rfl, (by show 1 ≤ 1000; decide), bad_read BT.T BT.no fun d H' e h0 h1 => kE _ d H' (.inr (.inr ⟨n, t, xs, i, rfl, n1, n2, rfl, ht, hi, ok, nok, rfl⟩)) (e1.trans e) (L2.Same.free e1 h0) h1⟩
        · refine ⟨_, rfl, rfl, _, rfl, iteF ?_⟩
          refine ⟨_, rfl, _, rfl, x, C, dx, [], rfl, e1 _ _ hx, T.cl, T.nSize, (by decide), ?_⟩
          refine ⟨_, rfl, _, rfl, x, C, dx, _, rfl, upd_same, T.cl, T.nTies, (by show 1 < 1000; decide), ?_⟩
          exact kQ ⟨n, t, xs, rfl, n1, n2, rfl, ht, ok⟩ _ (e1.exT.upd.upd) upd_same
end
end Bs

namespace Bs
open PySem PySem.Spec L2
section
variable {P : Program} {w : World} {K : PySem.W.Frag} {mg : Str → Option Value} {base : Heap} {C CB CW : Addr}
def sp_told (K : PySem.W.Frag) : Sp := fun vs H Q _ => ∃ (sv tv : V), vs = [sv, tv] ∧ Item K H sv ∧ ThT K H tv ∧ (∀ a, tv = .ref a → H a ≠ none) ∧
  (∀ y p H', BadIs H sv tv y → Same H H' → H' p = some (.tup [.str "bad", y]) → Q (.ref p) H') ∧
  (WebIs H sv tv → ∀ p H', Same H H' → H' p = some (.tup [.str "web", sv, tv]) → Q (.ref p) H')
theorem ThT.ext {H H' : Hp} {v : V} (h : ThT K H v) (e : Same H H') (hv : ∀ a, v = .ref a → H a ≠ none) : ThT K H' v := by
  cases h with
  | tup h h1 h2 => exact .tup (e _ _ h) (fun x hx => (h1 x hx).ext e) h2
  | els h h1 =>
    refine .els (h.ext e) fun a xs ea q => ?_
    cases c : H a with
    | none => exact hv a ea c
    | some o => rw [e _ _ c] at q; cases q; exact h1 a xs ea c
theorem pair_back {H H' : Hp} {v : V} {p : Int × Int} (t : ThE K H v) (e : Same H H') (h : PairAt H' v p) : PairAt H v p := by
  obtain ⟨a, rfl, h2⟩ := h
  cases c : H a with
  | none => exact absurd c (t.2 a rfl)
  | some o => rw [e _ _ c] at h2; cases h2; exact ⟨a, rfl, c⟩
theorem pairs_back {H H' : Hp} (e : Same H H') : ∀ {xs : List V} {ps : List (Int × Int)}, (∀ x ∈ xs, ThE K H x) → Pairs H' xs ps → Pairs H xs ps
  | _, _, _, .nil => .nil
  | _, _, t, .cons r q => .cons (pair_back (t _ (by simp)) e r) (pairs_back e (fun x hx => t x (by simp [hx])) q)
theorem okay_back {H H' : Hp} {n : Int} {xs : List V} {i : Nat} (e : Same H H') (t : ∀ x ∈ xs, ThE K H x) (h : Okay H' n xs i) : Okay H n xs i := by
  obtain ⟨ps, h1, h2⟩ := h
  exact ⟨ps, pairs_back (K := K) e (fun x hx => t x (List.mem_of_mem_take hx)) h1, h2⟩
theorem tup_back {H H' : Hp} {t : Addr} {xs : List V} (e : Same H H') (hv : H t ≠ none) (h : H' t = some (.tup xs)) : H t = some (.tup xs) := by
  cases c : H t with
  | none => exact absurd c hv
  | some o => rw [e _ _ c] at h; exact h
theorem elems {H : Hp} {t : Addr} {xs : List V} (tT : ThT K H (.ref t)) (h : H t = some (.tup xs)) : ∀ x ∈ xs, ThE K H x := by
  cases tT with
  | tup h' h1 _ => rw [h] at h'; cases h'; exact h1
  | els _ h1 => exact absurd h (h1 _ _ rfl)
theorem bad_back {H H' : Hp} {sv tv y : V} (tT : ThT K H tv) (hv : ∀ a, tv = .ref a → H a ≠ none) (e : Same H H') (h : BadIs H' sv tv y) : BadIs H sv tv y := by
  rcases h with ⟨h1, h2⟩ | ⟨h1, h2, h3⟩ | ⟨n, t, xs, i, rfl, n1, n2, rfl, ht, hi, ok, nok, rfl⟩
  · exact .inl ⟨h1, h2⟩
  · exact .inr (.inl ⟨h1, fun a xs ea q => h2 a xs ea (e _ _ q), h3⟩)
  · have ht0 := tup_back e (hv t rfl) ht
    exact .inr (.inr ⟨n, t, xs, i, rfl, n1, n2, rfl, ht0, hi, okay_back e (elems tT ht0) ok, fun h => nok (okay_same (K := K) e h), rfl⟩)
theorem web_back {H H' : Hp} {sv tv : V} (tT : ThT K H tv) (hv : ∀ a, tv = .ref a → H a ≠ none) (e : Same H H') (h : WebIs H' sv tv) : WebIs H sv tv := by
  obtain ⟨n, t, xs, rfl, n1, n2, rfl, ht, ok⟩ := h
  have ht0 := tup_back e (hv t rfl) ht
  exact ⟨n, t, xs, rfl, n1, n2, rfl, ht0, okay_back e (elems tT ht0) ok⟩
theorem wfV_size (s t : V) : (wfV s t).lookup ("size" : Str) = some s := by
  unfold wfV
  rw [lookup_putF, if_neg st_, lookup_putF, if_pos rfl]
theorem wfV_ties (s t : V) : (wfV s t).lookup ("ties" : Str) = some t := by
  unfold wfV
  rw [lookup_putF, if_pos rfl]
abbrev s__law_told : Stmt := (top 24)
theorem sc__law_told : FnScope ["size", "ties", "found", "made", "error"] ["size", "ties"] (defScope s__law_told) := ⟨rfl, rfl, rfl, by decide +kernel, rfl, by decide +kernel, by decide +kernel⟩

theorem ok_law_told {f fW fI : Addr} {fd fdW fdI : FuncData} (F : Fun K "_law_told" "_law_told" s__law_told f fd) (hm : mg "_law_told" = some (.ref f)) (B : Bl mg) (T : Txt K mg C) (BT : BadT P w K mg base CB fI fdI) (M : Mk K C fW) (FW : FnOk P w K mg base (L2.CX P w) 5 fW fdW ["self", "size", "ties"] (sp_Web_initX K C CB)) (bW : Binds K fdW ["self", "size", "ties"] [])
    (hW : mg "WebError" = some (.ref CW)) (XF : XfC K CB) (EC : ExcC K CB) (ex : PySem.W.exmOne K (.ref CB) (.ref CB) = some true) (kw : PySem.W.kitOne K (.ref CB) (.ref CW) = some true) : Cal P w K mg base 7 "_law_told" ["size", "ties"] (sp_told K) := by
  refine ⟨f, fd, F.ok sc__law_told (fun vs H Q E h => ?_) (fun cdv A outer s H vs Q E hr h => ?_), hm, F.kp, F.binds (ps := ["size", "ties"]) fun _ _ _ _ _ _ us hl => match us, hl with | [_, _], _ => rfl⟩
  · obtain ⟨sv, tv, rfl, _⟩ := h; rfl
  · obtain ⟨sv, tv, rfl, iS, tT, hv, kB, kW⟩ := h
    refine ⟨_, (pss_cons (ps_set (i := 2) sc__law_told.nd rfl (by first | exact Or.inl rfl | exact Or.inr rfl) (pe_tup (pa_cons pe_str pa_nil)))
 (pss_cons (ps_try_as (i := 4) (tb := fun W => tSeq (tAsg (tMakeS C (sp_Web_initX K C CB) (WE W) (tCons (tVar 0) (tCons (tVar 1) tNil))) (gName 3)) (tAsg (tTup (tCons (tC (.str "web")) (tCons (tFld K (tVar 3) "size") (tCons (tFld K (tVar 3) "ties") tNil)))) (gName 2)))
  (ts := fun a cls d => tAsg (tIf (tB (tCB (rIsEg K cls d a) (tCons (tVar 4) (tCons (tC (.ref CW)) tNil)))) (tTup (tCons (tC (.str "bad")) (tCons (tXf a cls d CB "part" (tVar 4)) tNil))) (tTup (tCons (tC (.str "other")) tNil))) (gName 2)) (Wout := fun _ _ _ _ => False) rfl rfl sc__law_told.nd rfl rfl ⟨rfl, by decide, Or.inl BT.g⟩ takes0
  (fun W pn xe tk _ => pss_cons (ps_set (i := 3) sc__law_told.nd rfl (Or.inl rfl) (by exact (pe_makeS M FW (hr.mono (by decide)) T.mg_Web bW (fun σ => passAt tk σ) (by exact (pa_cons (pv 0) (pa_cons (pv 1) pa_nil)))))) (pss_one (ps_set (i := 2) sc__law_told.nd rfl (Or.inl rfl) (by exact (pe_tup (pa_cons pe_str (pa_cons (pe_fld (pv 3) rfl) (pa_cons (pe_fld (pv 3) rfl) pa_nil))))))))
  (fun a oe cls d pn hz hf => pss_one (ps_set (i := 2) sc__law_told.nd rfl (Or.inl rfl) (by exact (pe_ifExp (pt_val (pe_callB (call_isEg hz hf) (by rfl) B.isinstance (by decide +kernel) (pa_cons (pv 4) (pa_cons (pe_globR hW) pa_nil)))) (pe_tup (pa_cons pe_str (pa_cons (pe_xf XF BT.no hz hf (pv 4)) pa_nil))) (pe_tup (pa_cons pe_str pa_nil)))))))
 (pss_one (ps_ret (pv 2))))), ?_⟩
    refine ⟨(by show 1 ≤ sizeLine; decide), fun p0 hp0 => ?_⟩
    have e0 := L2.Same.new (o := .tup [.str "other"]) hp0
    refine ⟨_, rfl, _, rfl, fun x dx nx nd ne => ?_⟩
    have s0 : Same H (upd (upd (upd H p0 (.tup [.str "other"])) dx (.own x)) x (.ins C dx [])) := (e0.new' nd).trans (L2.Same.new (by rw [upd_ne (Ne.symm ne)]; exact nx))
    refine ⟨x, dx, sv, tv, rfl, upd_same, iS.ext s0, tT.ext s0 hv, fun y d H' hb e hd hx => ?_, fun hw H' e hx => ⟨rfl, ?_⟩⟩
    · have eS : Same H H' := s0.trans e
      refine ⟨true, ex, fun _ a ha => ?_, fun q => Bool.noConfusion q⟩
      refine ⟨_, rfl, CB, .ref CW, .ref CW, true, rfl, EC, .inr ⟨d, _, rfl, hx⟩, rfl, fun u hu => hu, kw, _, rfl, iteT ?_⟩
      refine ⟨_, rfl, rfl, rfl, d, _, y, rfl, hx, by simp [List.lookup], (by show 2 ≤ sizeLine; decide), fun p hp => ?_⟩
      refine ⟨_, rfl, kB y p _ (bad_back tT hv s0 hb) (eS.new' hp) upd_same⟩
    · have nxH : H x = none := L2.Same.free e0 nx
      have eS : Same H H' := fun b o hb => e _ _ (ne_of_none hb nxH) (s0 _ _ hb)
      refine ⟨_, rfl, x, C, dx, _, _, rfl, hx, T.cl, T.nSize, wfV_size sv tv, _, rfl, x, C, dx, _, _, rfl, hx, T.cl, T.nTies, wfV_ties sv tv, (by show 3 ≤ sizeLine; decide), fun p hp => ?_⟩
      exact ⟨_, rfl, kW (web_back tT hv s0 hw) p _ (eS.new' hp) upd_same⟩
end
end Bs

namespace Bs
open PySem PySem.Spec L2
theorem ThE.bl {K : PySem.W.Frag} {H : Hp} (x : Bool) : ThE K H (.bl x) := ⟨.bl x, fun _ => V.noConfusion⟩
noncomputable instance (p q : Int × Int) : Decidable (lt2 p q) := by unfold lt2; infer_instance
section
variable {P : Program} {w : World} {K : PySem.W.Frag} {mg : Str → Option Value} {base : Heap} {C CB CW : Addr}
def sp_oddE (K : PySem.W.Frag) : Sp := fun vs H Q _ => ∃ T L n th, vs = [.ref T, .int n, th] ∧ Tp H T L ∧ (Item K H th ∧ ThE K H th) ∧ ∀ v H', ExT T H H' → Tp H' T L → Item K H' v → ThE K H' v → Q v H'
theorem ok_law_oddE {f : Addr} {fd : FuncData} (F : Fun K "_law_odd" "_law_odd" s__law_odd f fd) (hm : mg "_law_odd" = some (.ref f)) (B : Bl mg) (c__law_deep : Cal P w K mg base 1 "_law_deep" [] (sp_deep K)) (c__law_any : Cal P w K mg base 2 "_law_any" ["tape", "things"] sp_any) : Cal P w K mg base 3 "_law_odd" ["tape", "size", "thing"] (sp_oddE K) := by
  refine ⟨f, fd, F.ok sc__law_odd (fun vs H Q E h => ?_) (fun cdv A outer s H vs Q E hr h => ?_), hm, F.kp, F.binds (ps := ["tape", "size", "thing"]) fun _ _ _ _ _ _ us hl => match us, hl with | [_, _, _], _ => rfl⟩
  · obtain ⟨T, L, n, th, rfl, _⟩ := h; rfl
  · obtain ⟨T, L, n, th, rfl, hT, it, k⟩ := h
    refine ⟨_, (pss_cons (ps_set (i := 3) sc__law_odd.nd rfl (by first | exact Or.inl rfl | exact Or.inr rfl) (pe_lst (pa_cons (pv 1) (pa_cons (pe_un un_neg pe_int) (pa_cons pe_bl (pa_cons pe_bl (pa_cons pe_non (pa_cons pe_str (pa_cons pe_str (pa_cons (pe_tup (pa_cons pe_int pa_nil)) (pa_cons (pe_lst (pa_cons pe_int pa_nil)) (pa_cons pe_dnewK (pa_cons (pe_op op_pow pe_int pe_int) (pa_cons (pe_cal0 c__law_deep (hr.mono (by first | decide | omega))) (pa_cons (pv 2) (pa_cons pe_int pa_nil))))))))))))))))
 (pss_one (ps_ret (pe_cal c__law_any (hr.mono (by first | decide | omega)) (pa_cons (pv 0) (pa_cons (pv 3) pa_nil)))))), ?_⟩
    refine ⟨_, rfl, _, rfl, (by show 1 ≤ sizeLine; decide), fun p1 hp1 => ⟨(by show 1 ≤ sizeLine; decide), fun p2 hp2 p3 hp3 => ?_⟩⟩
    have e1 := L2.Same.new (o := .tup [.int 0]) hp1
    have e2 := L2.Same.new (o := .lst [.int 0]) hp2
    have e3 := L2.Same.new (o := .dK []) hp3
    refine ⟨_, _, rfl, rfl, ⟨by decide, by decide, by decide⟩, rfl, fun p4 q4 H4 e4 np4 hp4 iq => ?_⟩
    refine ⟨_, rfl, (by show 14 ≤ sizeLine; decide), fun D hD => ?_⟩
    have e5 := L2.Same.new (o := .lst [.int n, .int (-1), .bl true, .bl false, .non, .str "0", .str "", .ref p1, .ref p2, .ref p3, .int (10 ^ 59), .ref p4, th, .int 0]) hD
    have e45 := e4.trans e5
    have e05 := ((e1.trans e2).trans e3).trans e45
    have hT5 := hT.ext e05
    refine ⟨_, rfl, _, rfl, T, L, D, _, rfl, hT5, upd_same, (hT.ext (((e1.trans e2).trans e3).trans e4)).neT hD, (by show 0 < 14; decide), (by show 14 ≤ 1000; decide), fun i v H6 e6 hT6 hv => ?_⟩
    have both : ∀ {u : V}, (Item K _ u ∧ ThE K _ u) → Q u H6 := fun {u} hu => k u H6 (e05.exT.trans e6) hT6 (Item.tape hu.1 hT5 hT6 e6) (ThE.tape hu.2 hT5 hT6 e6)
    match i, hv with
    | 0, hv => cases hv; exact both ⟨.int _, .int _⟩
    | 1, hv => cases hv; exact both ⟨.int _, .int _⟩
    | 2, hv => cases hv; exact both ⟨.bl _, .bl _⟩
    | 3, hv => cases hv; exact both ⟨.bl _, .bl _⟩
    | 4, hv => cases hv; exact both ⟨.non, .non⟩
    | 5, hv => cases hv; exact both ⟨.str _, .str _⟩
    | 6, hv => cases hv; exact both ⟨.str _, .str _⟩
    | 7, hv => cases hv; exact both ⟨.tup ((e2.trans (e3.trans e45)) _ _ upd_same), .tup ((e2.trans (e3.trans e45)) _ _ upd_same) (fun x hx => by simp at hx; subst hx; exact .int _) (by show 1 ≤ 100000; decide)⟩
    | 8, hv => cases hv; exact both ⟨.lst ((e3.trans e45) _ _ upd_same), .lst ((e3.trans e45) _ _ upd_same)⟩
    | 9, hv => cases hv; exact both ⟨.dK (e45 _ _ upd_same), .dK (e45 _ _ upd_same)⟩
    | 10, hv => cases hv; exact both ⟨.int _, .int _⟩
    | 11, hv => cases hv; exact both ⟨.tup (e5 _ _ hp4), .tup (e5 _ _ hp4) (fun x hx => by simp at hx; subst hx; exact iq.ext e5) (by show 1 ≤ 100000; decide)⟩
    | 12, hv => cases hv; exact both ⟨it.1.ext e05, it.2.ext e05⟩
    | 13, hv => cases hv; exact both ⟨.int _, .int _⟩
    | i + 14, hv => simp at hv

def sp_fault (K : PySem.W.Frag) : Sp := fun vs H Q _ => ∃ (sv tv : V), vs = [sv, tv] ∧ Item K H sv ∧ ThT K H tv ∧ (∀ a, tv = .ref a → H a ≠ none) ∧
  (∀ y H', BadIs H sv tv y → Same H H' → Q y H') ∧ (WebIs H sv tv → ∀ H', Same H H' → Q .non H')
theorem lotV_tie {H : Hp} {n : Int} {a : Addr} {x y : V} (h : H a = some (.tup [x, y])) : LotV H n (.ref a) ↔ ∃ p, TieV H n (.ref a) p := by
  constructor
  · rintro ⟨t, l, e, q, lt⟩
    cases e
    have := tup_inj h q
    match l, this with
    | [i, j], hh =>
      injection hh with h1 h2
      injection h2 with h2 h3
      subst h1 h2
      have h0 := lt.ok i (by simp)
      have h9 := lt.ok j (by simp)
      have hp := (List.pairwise_cons.mp lt.up).1 j (by simp)
      exact ⟨(i, j), ⟨a, rfl, h⟩, h0.1, hp, h9.2⟩
  · rintro ⟨p, ⟨b, e, q⟩, h0, h1, h2⟩
    cases e
    refine ⟨a, [p.1, p.2], rfl, q, ?_, ?_⟩
    · exact List.pairwise_cons.mpr ⟨fun z hz => by simp at hz; subst hz; exact h1, by simp⟩
    · intro z hz
      simp at hz
      rcases hz with rfl | rfl <;> omega
abbrev s__law_fault : Stmt := (top 22)
theorem sc__law_fault : FnScope ["size", "ties", "at", "item"] ["size", "ties"] (defScope s__law_fault) := ⟨rfl, rfl, rfl, by decide +kernel, rfl, by decide +kernel, by decide +kernel⟩

theorem ok_law_fault {f : Addr} {fd : FuncData} (F : Fun K "_law_fault" "_law_fault" s__law_fault f fd) (hm : mg "_law_fault" = some (.ref f)) (B : Bl mg) (c__law_is_integer : Cal P w K mg base 1 "_law_is_integer" ["thing"] (sp_isI K)) (c__law_is_lot : Cal P w K mg base 2 "_law_is_lot" ["size", "thing"] (sp_lis_lot K)) : Cal P w K mg base 3 "_law_fault" ["size", "ties"] (sp_fault K) := by
  refine ⟨f, fd, F.ok sc__law_fault (fun vs H Q E h => ?_) (fun cdv A outer s H vs Q E hr h => ?_), hm, F.kp, F.binds (ps := ["size", "ties"]) fun _ _ _ _ _ _ us hl => match us, hl with | [_, _], _ => rfl⟩
  · obtain ⟨sv, tv, rfl, _⟩ := h; rfl
  · obtain ⟨sv, tv, rfl, iS, tT, hv, kB, kW⟩ := h
    refine ⟨_, (pss_cons (ps_if (PW.pt (pw_or (pt_not (pt_val (pe_cal c__law_is_integer (hr.mono (by first | decide | omega)) (pa_cons (pv 0) pa_nil)))) (pw_or1 (pt_not (pt_chain op_le op_le pe_int (pv 0) pe_int))))) (pss_one (ps_ret pe_str)) pss_nil)
 (pss_cons (ps_if (pt_not (pt_val (pe_callB call_isi (by rfl) B.isinstance (by decide +kernel) (pa_cons (pv 1) (pa_cons (pe_bltn (v := .ty "tuple") (by rfl) B.tuple_ (by decide +kernel) rfl) pa_nil))))) (pss_one (ps_ret pe_str)) pss_nil)
 (pss_cons (ps_for PassesOwn.never rfl (pi_range1 (by rfl) B.range (pa_cons (pe_callB call_len_seq (by rfl) B.len (by decide +kernel) (pa_cons (pv 1) pa_nil)) pa_nil)) (pg_name (i := 2) sc__law_fault.nd rfl (by first | exact Or.inl rfl | exact Or.inr rfl))
  (pss_cons (ps_set (i := 3) sc__law_fault.nd rfl (by first | exact Or.inl rfl | exact Or.inr rfl) (pe_ix ix_tup (pv 1) (pv 2) (fun _ _ => rfl)))
 (pss_cons (ps_if (PW.pt (pw_or (pt_not (pt_val (pe_callB call_isi (by rfl) B.isinstance (by decide +kernel) (pa_cons (pv 3) (pa_cons (pe_bltn (v := .ty "tuple") (by rfl) B.tuple_ (by decide +kernel) rfl) pa_nil))))) (pw_or (pt_cmpR op_ne (pe_callB call_len_seq (by rfl) B.len (by decide +kernel) (pa_cons (pv 3) pa_nil)) pe_int (nomark _)) (pw_or1 (pt_not (pt_val (pe_cal c__law_is_lot (hr.mono (by first | decide | omega)) (pa_cons (pv 0) (pa_cons (pv 3) pa_nil))))))))) (pss_one (ps_ret (pv 2))) pss_nil)
 (pss_one (ps_if (PW.pt (pw_and (pt_cmpR op_gt (pv 2) pe_int (nomark _)) (pw_and1 (pt_not (pt_cmpR (op_ltT hr.units0) (pe_ix ix_tup (pv 1) (pe_op op_sub (pv 2) pe_int) (fun _ _ => rfl)) (pv 3) (nomark _)))))) (pss_one (ps_ret (pv 2))) pss_nil)))))
 (pss_one (ps_ret pe_non))))), ?_⟩
    refine ⟨_, rfl, sv, rfl, iS, isI sv, rfl, ?_⟩
    cases c : isI sv with
    | false => exact iteT (iteT (kB _ H (.inl ⟨inI_els c, rfl⟩) (L2.Same.refl H)))
    | true =>
      obtain ⟨n, rfl⟩ : ∃ n, sv = .int n := by cases sv <;> first | exact ⟨_, rfl⟩ | cases c
      refine iteF ?_
      refine ⟨_, rfl, _, _, rfl, rfl, _, rfl, ?_⟩
      by_cases h1 : (1 : Int) ≤ n
      · rw [if_pos (decide_eq_true h1)]
        refine ⟨_, _, rfl, rfl, _, rfl, ?_⟩
        show (if (!decide (n ≤ 24)) = true then _ else _)
        refine onbN (fun h2 => kB _ H (.inl ⟨decide_eq_false (fun h => h2 h.2), rfl⟩) (L2.Same.refl H)) (fun h2 => ?_)
        have c24 : inI 1 24 (.int n) = true := decide_eq_true ⟨h1, h2⟩
        cases tT with
        | els h hn =>
          obtain ⟨t, ty, hk⟩ := h
          exact ⟨_, rfl, _, _, _, _, false, rfl, .ty "tuple", ty, hk, false, rfl, iteT (kB _ H (.inr (.inl ⟨c24, hn, rfl⟩)) (L2.Same.refl H))⟩
        | @tup t xs ht hth hlen =>
          refine ⟨_, rfl, _, _, _, _, true, rfl, .ty "tuple", .base (.tup ht), kit_ty (by decide +kernel), true, rfl, iteF ?_⟩
          refine ⟨_, rfl, t, _, rfl, .inr (SqT.of ht), _, rfl, by omega, by omega, for_range (lo := 0) (n := ((xs.length : Nat) : Int).toNat) (fun i σ H' => Same H H' ∧ Okay H n xs i ∧ ∃ v2 v3 : Option V, σ = [some (.int n), some (.ref t), v2, v3])
            ⟨L2.Same.refl H, ⟨[], .nil, ⟨fun p h => by simp at h, .nil⟩⟩, none, none, rfl⟩ ?_ ?_⟩
          · rintro i σ H1 hi ⟨e1, ok, v2, v3, rfl⟩
            have hi' : i < xs.length := by omega
            have hx : xs[i]? = some xs[i] := List.getElem?_eq_getElem hi'
            refine ⟨_, rfl, _, rfl, t, xs, _, _, rfl, rfl, SqT.of (e1 _ _ ht), at_of (j := i) (by omega) hx, ?_⟩
            have hmem := List.mem_of_getElem? hx
            generalize xs[i] = x at hx hmem ⊢
            have th0 := hth x hmem
            have th := th0.ext e1
            have e0i : (0 : Int) + (i : Nat) = (i : Nat) := Int.zero_add _
            have bad : ∀ H', Same H H' → ¬ Okay H n xs (i + 1) → Q (.int (0 + (i : Nat))) H' := fun H' e nok => by
              rw [e0i]
              exact kB _ H' (.inr (.inr ⟨n, t, xs, i, rfl, h1, h2, rfl, ht, hi', ok, nok, rfl⟩)) e
            obtain ⟨ps, hps, G⟩ := id ok
            have noT : (¬ ∃ p, TieV H n x p) → ¬ Okay H n xs (i + 1) := fun h => by
              rintro ⟨qs, hqs, Gq⟩
              obtain ⟨p, hp, rfl⟩ := pairs_last hps hx hqs
              exact h ⟨p, hp, (good_init Gq).1⟩
            have noT1 : (¬ ∃ p, TieV H1 n x p) → ¬ ∃ p, TieV H n x p := fun h ⟨p, h3, h4⟩ => h ⟨p, h3.tk e1.tk, h4⟩
            have thT := th.1
            cases thT with
            | els hh hn =>
              obtain ⟨ty0, ty, hk⟩ := hh
              exact ⟨_, rfl, _, _, _, _, false, rfl, .ty "tuple", ty, hk, false, rfl, iteT (iteT ⟨_, rfl, bad H1 e1 (noT (noT1 fun ⟨p, ⟨a, e, q⟩, _⟩ => hn _ _ e q))⟩)⟩
            | @tup a ys ha hys hyl =>
              refine ⟨_, rfl, _, _, _, _, true, rfl, .ty "tuple", .base (.tup ha), kit_ty (by decide +kernel), true, rfl, iteF ?_⟩
              refine ⟨_, rfl, a, _, rfl, .inr (SqT.of ha), rfl, _, rfl, ?_⟩
              by_cases c2 : ys.length = 2
              · refine iteNS (by rw [c2]; rfl) ?_
                obtain ⟨y, z, rfl⟩ : ∃ y z, ys = [y, z] := match ys, c2 with | [y, z], _ => ⟨y, z, rfl⟩
                refine ⟨_, rfl, _, rfl, n, .ref a, rfl, .tup ha hys hyl, fun b H2 e2 hb => ⟨b, rfl, ?_⟩⟩
                have e12 := e1.trans e2
                rw [lotV_tie ha] at hb
                cases b with
                | false => exact iteT ⟨_, rfl, bad H2 e12 (noT (noT1 fun h => by have := hb.mpr h; cases this))⟩
                | true =>
                  refine iteF ?_
                  obtain ⟨p, hpa, p0, p1, p2⟩ := hb.mp rfl
                  have hp : PairAt H (.ref a) p := pair_back th0 e1 hpa
                  have plen : ps.length = i := by have := Paired.len hps; rw [List.length_take] at this; omega
                  have good : (∀ q ∈ ps, lt2 q p) → Okay H n xs (i + 1) := fun h => ⟨ps ++ [p], pairs_snoc hps hx hp, good_snoc G ⟨p0, p1, p2⟩ h⟩
                  refine ⟨_, rfl, _, _, rfl, rfl, _, rfl, ?_⟩
                  by_cases ci : 0 < i
                  · rw [decide_eq_true (show (0 : Int) + (i : Nat) > 0 by omega)]
                    refine iteT ?_
                    obtain ⟨j, rfl⟩ : ∃ j, i = j + 1 := ⟨i - 1, by omega⟩
                    have hxj : xs[j]? = some xs[j] := List.getElem?_eq_getElem (by omega)
                    obtain ⟨q, hq1, hq2⟩ := Paired.get hps (show (xs.take (j + 1))[j]? = some xs[j] by rw [List.getElem?_take, if_pos (Nat.lt_succ_self j)]; exact hxj)
                    obtain ⟨a', ea', hq3⟩ := id hq2
                    refine ⟨_, rfl, _, rfl, _, _, rfl, rfl, t, xs, _, _, rfl, rfl, SqT.of (e12 _ _ ht), at_of (j := j) (by omega) hxj, ?_⟩
                    rw [ea']
                    obtain ⟨a2, ea2, hp3⟩ := id hpa
                    cases ea2
                    refine ⟨_, rfl, a', a, [q.1, q.2], [p.1, p.2], rfl, rfl, SqT.of (e12 _ _ hq3), SqT.of (e2 _ _ hp3), _, rfl, ?_⟩
                    have elx : HT.lexLt [q.1, q.2] [p.1, p.2] = decide (lt2 q p) := by
                      show (if q.1 = p.1 then (if q.2 = p.2 then false else decide (q.2 < p.2)) else decide (q.1 < p.1)) = _
                      unfold lt2
                      by_cases x1 : q.1 = p.1
                      · rw [if_pos x1]
                        by_cases x2 : q.2 = p.2
                        · rw [if_pos x2]; exact (decide_eq_false (by omega)).symm
                        · rw [if_neg x2]; exact decide_eq_decide.mpr (by omega)
                      · rw [if_neg x1]; exact decide_eq_decide.mpr (by omega)
                    rw [elx]
                    have hall : lt2 q p → ∀ r ∈ ps, lt2 r p := fun hl r hr => by
                      obtain ⟨m, hm, rfl⟩ := List.mem_iff_getElem.mp hr
                      have hj : j < ps.length := by omega
                      have eq : ps[j] = q := (List.getElem?_eq_some_iff.mp hq1).2
                      by_cases em : m = j
                      · subst em; rw [eq]; exact hl
                      · have := List.pairwise_iff_getElem.mp G.up m j hm hj (by omega)
                        rw [eq] at this
                        exact lt2_trans this hl
                    show (if (!decide (lt2 q p)) = true then _ else _)
                    refine onbN (fun hl => ⟨_, rfl, bad H2 e12 ?_⟩) (fun hl => ⟨e12, good (hall hl), _, _, rfl⟩)
                    rintro ⟨rs, hrs, Gr⟩
                    obtain ⟨p', hp', rfl⟩ := pairs_last hps hx hrs
                    have : p' = p := hp'.inj hp
                    subst this
                    exact hl ((good_init Gr).2 q (List.mem_of_getElem? hq1))
                  · rw [decide_eq_false (show ¬ (0 : Int) + (i : Nat) > 0 by omega)]
                    have : ps = [] := List.length_eq_zero_iff.mp (by omega)
                    subst this
                    exact iteF (iteF ⟨e12, good (by simp), _, _, rfl⟩)
              · have : (!decide (V.int (ys.length : Int) = V.int 2)) = true := by simp; intro e; injection e with e; omega
                rw [this]
                exact iteT (iteT ⟨_, rfl, bad H1 e1 (noT (noT1 fun ⟨p, ⟨a', e, q⟩, _⟩ => by cases e; rw [ha] at q; cases q; exact c2 rfl))⟩)
          · rintro σ H1 ⟨e1, ok, v2, v3, rfl⟩
            rw [Int.toNat_natCast] at ok
            exact kW ⟨n, t, xs, rfl, h1, h2, rfl, ht, ok⟩ H1 e1
      · rw [if_neg (by simpa using h1)]
        exact ⟨_, rfl, iteT (kB _ H (.inl ⟨decide_eq_false (fun h => h1 h.1), rfl⟩) (L2.Same.refl H))⟩
end
end Bs

namespace Bs
open PySem PySem.Spec L2
section
variable {P : Program} {w : World} {K : PySem.W.Frag} {mg : Str → Option Value} {base : Heap} {C CB CW : Addr}
def sp_deepE (K : PySem.W.Frag) : Sp := fun vs H Q _ => vs = [] ∧ ∀ p q H', Same H H' → H p = none → H' p = some (.tup [.ref q]) → Item K H' (.ref q) → ThE K H' (.ref q) → Q (.ref p) H'
theorem ok_law_deepE {f : Addr} {fd : FuncData} (F : Fun K "_law_deep" "_law_deep" s__law_deep f fd) (hm : mg "_law_deep" = some (.ref f)) (B : Bl mg) : Cal P w K mg base 1 "_law_deep" [] (sp_deepE K) := by
  refine ⟨f, fd, F.ok sc__law_deep (fun vs H Q E h => ?_) (fun cdv A outer s H vs Q E hr h => ?_), hm, F.kp, F.binds (ps := []) fun _ _ _ _ _ _ us hl => match us, hl with | [], _ => rfl⟩
  · obtain ⟨rfl, _⟩ := h; rfl
  · obtain ⟨rfl, k⟩ := h
    refine ⟨_, (pss_cons (ps_set (i := 0) sc__law_deep.nd rfl (by first | exact Or.inl rfl | exact Or.inr rfl) (pe_tup (pa_cons pe_non pa_nil)))
 (pss_cons (ps_for PassesOwn.never rfl (pi_range1 (by rfl) B.range (pa_cons pe_int pa_nil)) (pg_name (i := 1) sc__law_deep.nd rfl (by first | exact Or.inl rfl | exact Or.inr rfl))
  (pss_one (ps_set (i := 0) sc__law_deep.nd rfl (by first | exact Or.inl rfl | exact Or.inr rfl) (pe_ifExp (pt_cmpR op_lt (pv 1) pe_int (nomark _)) (pe_lst (pa_cons (pv 0) pa_nil)) (pe_tup (pa_cons (pv 0) pa_nil))))))
 (pss_one (ps_ret (pv 0))))), ?_⟩
    refine ⟨(by show 1 ≤ sizeLine; decide), fun p0 hp0 => ?_⟩
    refine ⟨32, rfl, by decide, by decide, for_range (lo := 0) (n := 32) (fun i σ H' => Same H H' ∧ ∃ (p : Addr) (v : Option V), σ = [some (.ref p), v] ∧ H p = none ∧ Item K H' (.ref p) ∧ ThE K H' (.ref p) ∧ (17 ≤ i → ∃ q, H' p = some (.tup [.ref q]) ∧ Item K H' (.ref q) ∧ ThE K H' (.ref q)))
      ⟨L2.Same.new hp0, p0, none, rfl, hp0, .tup upd_same, .tup upd_same (fun x hx => by simp at hx; subst hx; exact .non) (by show 1 ≤ 100000; decide), fun h => by omega⟩ ?_ ?_⟩
    · rintro i σ H1 hi ⟨e1, p, u, rfl, hp, ip, tp, _⟩
      refine ⟨_, rfl, _, _, rfl, rfl, _, rfl, ?_⟩
      show (if decide ((0 : Int) + (i : Nat) < 16) = true then _ else _)
      refine onb (fun c => ?_) (fun c => ?_)
      · refine ⟨_, rfl, (by show 1 ≤ sizeLine; decide), fun z hz => ?_⟩
        exact ⟨e1.new' hz, z, _, rfl, L2.Same.free e1 hz, .lst upd_same, .lst upd_same, fun h => by omega⟩
      · refine ⟨_, rfl, (by show 1 ≤ sizeLine; decide), fun z hz => ?_⟩
        exact ⟨e1.new' hz, z, _, rfl, L2.Same.free e1 hz, .tup upd_same, .tup upd_same (fun x hx => by simp at hx; subst hx; exact ip.ext (L2.Same.new hz)) (by show 1 ≤ 100000; decide), fun _ => ⟨p, upd_same, ip.ext (L2.Same.new hz), tp.ext (L2.Same.new hz)⟩⟩
    · rintro σ H1 ⟨e1, p, u, rfl, hp, _, _, h⟩
      obtain ⟨q, h1, h2, h3⟩ := h (by decide)
      exact ⟨_, rfl, k p q H1 e1 hp h1 h2 h3⟩
/-- things that are there, all of them -/
def TsE (K : PySem.W.Frag) (H : Hp) (xs : List V) : Prop := ∀ x ∈ xs, ThE K H x
theorem TsE.ext {H H' : Hp} {xs : List V} (h : TsE K H xs) (e : Same H H') : TsE K H' xs := fun x hx => (h x hx).ext e
theorem TsE.tape {H H' : Hp} {T L : Addr} {xs : List V} (h : TsE K H xs) (hT : Tp H T L) (hT' : Tp H' T L) (e : ExT T H H') : TsE K H' xs := fun x hx => (h x hx).tape hT hT' e
theorem TsE.cut {H : Hp} {xs : List V} (h : TsE K H xs) (lo hi : Option Int) : TsE K H (cutV xs lo hi) := fun x hx => h x (cut_mem hx)
theorem TsE.app {H : Hp} {xs ys : List V} (h : TsE K H xs) (h' : TsE K H ys) : TsE K H (xs ++ ys) := fun x hx => (List.mem_append.mp hx).elim (h x) (h' x)
theorem TsE.one {H : Hp} {x : V} (h : ThE K H x) : TsE K H [x] := fun y hy => by simp at hy; subst hy; exact h
theorem ThT.there {H : Hp} {a : Addr} {xs : List V} (h : H a = some (.tup xs)) (h1 : TsE K H xs) (h2 : xs.length ≤ 100000) : ThT K H (.ref a) ∧ ∀ b, V.ref a = .ref b → H b ≠ none := ⟨.tup h h1 h2, fun b e => by cases e; rw [h]; exact Option.some_ne_none _⟩
def sp_bentE (K : PySem.W.Frag) : Sp := fun vs H Q _ => ∃ (T L : Addr) (n : Int) (t : Addr) (us : List V) (th : V), vs = [.ref T, .int n, .ref t, th] ∧ Tp H T L ∧ H t = some (.tup us) ∧ us.length ≤ 1000 ∧ TsE K H us ∧ (∀ x ∈ us, ∃ p, PairAt H x p) ∧ (∀ x ∈ us, Item K H x) ∧ Item K H th ∧ ThE K H th ∧ (∀ a xs, th = .ref a → H a ≠ some (.tup xs)) ∧ Typ K H th "tuple" false ∧ ∀ v H', ExT T H H' → Tp H' T L → ThT K H' v → (∀ a, v = .ref a → H' a ≠ none) → Q v H'
abbrev s__law_bent : Stmt := (top 23)
theorem sc__law_bent : FnScope ["tape", "size", "ties", "thing", "at", "item", "odd", "items", "things"] ["tape", "size", "ties", "thing"] (defScope s__law_bent) := ⟨rfl, rfl, rfl, by decide +kernel, rfl, by decide +kernel, by decide +kernel⟩

theorem ok_law_bent {f : Addr} {fd : FuncData} (F : Fun K "_law_bent" "_law_bent" s__law_bent f fd) (hm : mg "_law_bent" = some (.ref f)) (B : Bl mg) (c__law_pick : Cal P w K mg base 1 "_law_pick" ["tape", "many"] spPick) (c__law_odd : Cal P w K mg base 3 "_law_odd" ["tape", "size", "thing"] (sp_oddE K)) (c__law_deep : Cal P w K mg base 1 "_law_deep" [] (sp_deepE K)) (c__law_any : Cal P w K mg base 2 "_law_any" ["tape", "things"] sp_any) : Cal P w K mg base 4 "_law_bent" ["tape", "size", "ties", "thing"] (sp_bentE K) := by
  refine ⟨f, fd, F.ok sc__law_bent (fun vs H Q E h => ?_) (fun cdv A outer s H vs Q E hr h => ?_), hm, F.kp, F.binds (ps := ["tape", "size", "ties", "thing"]) fun _ _ _ _ _ _ us hl => match us, hl with | [_, _, _, _], _ => rfl⟩
  · obtain ⟨T, L, n, t, l, th, rfl, _⟩ := h; rfl
  · obtain ⟨T, L, n, t, us, th, rfl, hT, ht, hl, hus, hps, hui, it, tt, tn, ty, k⟩ := h
    refine ⟨_, (pss_cons (ps_set (i := 4) sc__law_bent.nd rfl (by first | exact Or.inl rfl | exact Or.inr rfl) (pe_cal c__law_pick (hr.mono (by first | decide | omega)) (pa_cons (pv 0) (pa_cons (pe_op op_add (pe_callB call_len_seq (by rfl) B.len (by decide +kernel) (pa_cons (pv 2) pa_nil)) pe_int) pa_nil))))
 (Evl.pss_cut (ps_set (i := 5) sc__law_bent.nd rfl (by first | exact Or.inl rfl | exact Or.inr rfl) (pe_ifExp (pt_cmpR op_lt (pv 4) (pe_callB call_len_seq (by rfl) B.len (by decide +kernel) (pa_cons (pv 2) pa_nil)) (nomark _)) (pe_ix ix_tup (pv 2) (pv 4) (fun _ _ => rfl)) (pe_tup (pa_cons pe_int (pa_cons pe_int pa_nil)))))
 (pss_cons (ps_set (i := 6) sc__law_bent.nd rfl (by first | exact Or.inl rfl | exact Or.inr rfl) (pe_cal c__law_odd (hr.mono (by first | decide | omega)) (pa_cons (pv 0) (pa_cons (pv 1) (pa_cons (pv 3) pa_nil)))))
 (pss_cons (ps_set (i := 7) sc__law_bent.nd rfl (by first | exact Or.inl rfl | exact Or.inr rfl) (pe_lst (pa_cons (pe_revT (pv 5)) (pa_cons (pe_tup (pa_cons (pe_ix ix_tup (pv 5) pe_int (fun _ _ => rfl)) (pa_cons (pe_ix ix_tup (pv 5) pe_int (fun _ _ => rfl)) pa_nil))) (pa_cons (pe_tup (pa_cons (pe_ix ix_tup (pv 5) pe_int (fun _ _ => rfl)) (pa_cons (pv 1) pa_nil))) (pa_cons (pe_tup (pa_cons (pv 6) (pa_cons (pe_ix ix_tup (pv 5) pe_int (fun _ _ => rfl)) pa_nil))) (pa_cons (pe_tup (pa_cons (pe_ix ix_tup (pv 5) pe_int (fun _ _ => rfl)) (pa_cons (pv 6) pa_nil))) (pa_cons (pe_op op_catA (pv 5) (pe_tup (pa_cons pe_int pa_nil))) (pa_cons (pe_slice sl_tupA (pv 5) po_none (po_some pe_int)) pa_nil)))))))))
 (pss_cons (ps_set (i := 7) sc__law_bent.nd rfl (by first | exact Or.inl rfl | exact Or.inr rfl) (pe_op op_cat (pv 7) (pe_lst (pa_cons (pe_callTy call_list_of (by rfl) B.list_ (by decide +kernel) (pa_cons (pv 5) pa_nil)) (pa_cons (pv 6) (pa_cons (pe_tup (pa_cons (pv 5) pa_nil)) (pa_cons (pe_tup (pa_cons (pe_ix ix_tup (pv 5) pe_int (fun _ _ => rfl)) pa_nil)) (pa_cons (pe_tup pa_nil) pa_nil))))))))
 (pss_cons (ps_set (i := 8) sc__law_bent.nd rfl (by first | exact Or.inl rfl | exact Or.inr rfl) (pe_lst (pa_cons (pe_op op_catA (pe_op op_catA (pe_slice sl_tupA (pv 2) po_none (po_some (pv 4))) (pe_tup (pa_cons (pe_cal c__law_any (hr.mono (by first | decide | omega)) (pa_cons (pv 0) (pa_cons (pv 7) pa_nil))) pa_nil))) (pe_slice sl_tupA (pv 2) (po_some (pe_op op_add (pv 4) pe_int)) po_none)) (pa_cons (pe_op op_catA (pe_op op_catA (pe_slice sl_tupA (pv 2) po_none (po_some (pv 4))) (pe_tup (pa_cons (pv 5) pa_nil))) (pe_slice sl_tupA (pv 2) (po_some (pv 4)) po_none)) (pa_cons (pe_revT (pv 2)) pa_nil)))))
 (pss_cons (ps_set (i := 8) sc__law_bent.nd rfl (by first | exact Or.inl rfl | exact Or.inr rfl) (pe_op op_cat (pv 8) (pe_lst (pa_cons (pe_op op_catA (pe_op op_catA (pe_slice sl_tupA (pv 2) po_none (po_some (pv 4))) (pe_tup (pa_cons (pe_cal c__law_any (hr.mono (by first | decide | omega)) (pa_cons (pv 0) (pa_cons (pv 7) pa_nil))) pa_nil))) (pe_slice sl_tupA (pv 2) (po_some (pv 4)) po_none)) (pa_cons (pe_op op_catA (pe_slice sl_tupA (pv 2) po_none (po_some (pv 4))) (pe_slice sl_tupA (pv 2) (po_some (pe_op op_add (pv 4) pe_int)) po_none)) pa_nil)))))
 (pss_one (ps_ret (pe_cal c__law_any (hr.mono (by first | decide | omega)) (pa_cons (pv 0) (pa_cons (pe_op op_cat (pv 8) (pe_lst (pa_cons (pe_callTy call_list_of (by rfl) B.list_ (by decide +kernel) (pa_cons (pv 2) pa_nil)) (pa_cons pe_non (pa_cons pe_str (pa_cons pe_dnewK (pa_cons pe_int (pa_cons (pe_cal0 c__law_deep (hr.mono (by first | decide | omega))) (pa_cons (pv 3) (pa_cons (pe_tup (pa_cons (pv 2) pa_nil)) pa_nil)))))))))) pa_nil)))))))))))), ?_⟩
    refine ⟨_, rfl, _, rfl, t, _, rfl, .inr (SqT.of ht), _, _, rfl, rfl, T, L, _, rfl, ?_, ?_, hT, fun r H1 r0 r1 e1 hT1 => ?_⟩
    · omega
    · omega
    have ht1 := (hT.tk e1) _ _ ht
    refine ⟨fun σ H' => ∃ (a : Addr) (i j : Int), σ = [some (.ref T), some (.int n), some (.ref t), some th, some (.int r), some (.ref a), none, none, none] ∧ Same H1 H' ∧ H' a = some (.tup [.int i, .int j]), ?_, ?_⟩
    · refine ⟨_, rfl, _, rfl, t, _, rfl, .inr (SqT.of ht1), _, _, rfl, rfl, _, rfl, ?_⟩
      show (if decide (r < (us.length : Int)) = true then _ else _)
      refine onb (fun c => ?_) (fun c => ?_)
      · have hi : r.toNat < us.length := by omega
        have hx : us[r.toNat]? = some us[r.toNat] := List.getElem?_eq_getElem hi
        obtain ⟨p, b, eb, hb⟩ := hps _ (List.mem_of_getElem? hx)
        rw [eb] at hx
        refine ⟨_, rfl, _, rfl, t, us, _, _, rfl, rfl, SqT.of ht1, at_of (j := r.toNat) (by omega) hx, ?_⟩
        exact ⟨b, p.1, p.2, rfl, L2.Same.refl H1, (hT.tk e1) _ _ hb⟩
      · refine ⟨(by show 2 ≤ sizeLine; decide), fun b hb => ?_⟩
        exact ⟨b, 0, 1, rfl, L2.Same.new hb, upd_same⟩
    rintro σ H2 ⟨a, i, j, rfl, g2, ha⟩
    have it2 : Item K H2 th := (it.tape hT hT1 e1).ext g2
    have tt2 : ThE K H2 th := (tt.tape hT hT1 e1).ext g2
    refine ⟨_, rfl, _, rfl, _, rfl, T, L, n, th, rfl, hT1.ext g2, ⟨it2, tt2⟩, fun odd H3 e3 hT3 io to => ?_⟩
    have ha3 := (hT1.ext g2).tk e3 _ _ ha
    have ht3 := (hT1.ext g2).tk e3 _ _ (g2 _ _ ht1)
    have it3 : Item K H3 th := it2.tape (hT1.ext g2) hT3 e3
    have tt3 : ThE K H3 th := tt2.tape (hT1.ext g2) hT3 e3
    have us3 : TsE K H3 us := ((hus.tape hT hT1 e1).ext g2).tape (hT1.ext g2) hT3 e3
    have ui3 : ∀ x ∈ us, Item K H3 x := fun x hx => (((hui x hx).tape hT hT1 e1).ext g2).tape (hT1.ext g2) hT3 e3
    have ty3 : Typ K H3 th "tuple" false := by
      obtain ⟨l0, hl0⟩ := hT.lst
      obtain ⟨l1, hl1⟩ := hT1.lst
      obtain ⟨l2, hl2⟩ := (hT1.ext g2).lst
      obtain ⟨l3, hl3⟩ := hT3.lst
      exact ((ty.exT e1 hl0 hl1).ext g2).exT e3 hl2 hl3
    have E3 : ExT T H H3 := (e1.trans g2.exT).trans e3
    have tn3 : ∀ a xs, th = .ref a → H3 a ≠ some (.tup xs) := fun b xs eb q => by
      cases c : H b with
      | none => exact tt.2 b eb c
      | some o =>
        by_cases cb : b = T
        · obtain ⟨l3, hl3⟩ := hT3.lst
          rw [cb, hl3] at q; cases q
        · rw [E3 _ _ cb c] at q; cases q; exact tn b xs eb c
    have cl : ∀ lo hi, (cutV us lo hi).length ≤ 1000 := fun lo hi => Nat.le_trans (cutV_length _ _ _) hl
    have big : ∀ m : Nat, m ≤ 3000 → m ≤ sizeLine := fun m h => Nat.le_trans h (by decide)
    clear hps it2 tt2 hui hus ha ht1 g2 e3
    -- items
    refine ⟨_, rfl, a, _, rfl, SqT.of ha3, fun p1 hp1 => ?_⟩
    have q1 := L2.Same.new (o := .tup [V.int i, V.int j].reverse) hp1
    refine ⟨_, rfl, a, _, _, _, rfl, rfl, SqT.of (q1 _ _ ha3), rfl, _, rfl, a, _, _, _, rfl, rfl, SqT.of (q1 _ _ ha3), rfl, (by show 2 ≤ sizeLine; decide), fun p2 hp2 => ?_⟩
    have q2' := L2.Same.new (o := .tup [V.int i, V.int i]) hp2
    have q2 := q1.trans q2'
    refine ⟨_, rfl, a, _, _, _, rfl, rfl, SqT.of (q2 _ _ ha3), rfl, _, rfl, (by show 2 ≤ sizeLine; decide), fun p3 hp3 => ?_⟩
    have q3' := L2.Same.new (o := .tup [V.int i, V.int n]) hp3
    have q3 := q2.trans q3'
    refine ⟨_, rfl, _, rfl, a, _, _, _, rfl, rfl, SqT.of (q3 _ _ ha3), rfl, (by show 2 ≤ sizeLine; decide), fun p4 hp4 => ?_⟩
    have q4' := L2.Same.new (o := .tup [odd, V.int j]) hp4
    have q4 := q3.trans q4'
    refine ⟨_, rfl, a, _, _, _, rfl, rfl, SqT.of (q4 _ _ ha3), rfl, _, rfl, (by show 2 ≤ sizeLine; decide), fun p5 hp5 => ?_⟩
    have q5' := L2.Same.new (o := .tup [V.int i, odd]) hp5
    have q5 := q4.trans q5'
    refine ⟨_, rfl, (by show 1 ≤ sizeLine; decide), fun p6 hp6 => ?_⟩
    have q6' := L2.Same.new (o := .tup [V.int 0]) hp6
    refine cat_any (q6' _ _ (q5 _ _ ha3)) upd_same (by show 3 ≤ sizeLine; decide) fun p7 H4 q7' hp7 => ?_
    have q7'' := q6'.trans q7'
    have q7 := q5.trans q7''
    refine ⟨_, rfl, _, rfl, sl_any (q7 _ _ ha3) fun p8 H5 q8' hp8 => ?_⟩
    have q8 := q7.trans q8'
    refine ⟨(by show 7 ≤ sizeLine; decide), fun D hD => ?_⟩
    have q9' := L2.Same.new (o := .lst [V.ref p1, .ref p2, .ref p3, .ref p4, .ref p5, .ref p7, .ref p8]) hD
    have q9 := q8.trans q9'
    refine ⟨_, rfl, _, rfl, a, _, rfl, .inr (SqT.of (q9 _ _ ha3)), fun p9 hp9 => ?_⟩
    have q10' := L2.Same.new (o := .lst [V.int i, V.int j]) hp9
    have q10 := q9.trans q10'
    refine ⟨_, rfl, _, rfl, (by show 1 ≤ sizeLine; decide), fun p10 hp10 => ?_⟩
    have q11' := L2.Same.new (o := .tup [V.ref a]) hp10
    have q11 := q10.trans q11'
    refine ⟨_, rfl, a, _, _, _, rfl, rfl, SqT.of (q11 _ _ ha3), rfl, (by show 1 ≤ sizeLine; decide), fun p11 hp11 => ?_⟩
    have q12' := L2.Same.new (o := .tup [V.int i]) hp11
    have q12 := q11.trans q12'
    refine ⟨Nat.zero_le _, fun p12 hp12 => ?_⟩
    have q13' := L2.Same.new (o := .tup []) hp12
    have q13 := q12.trans q13'
    refine ⟨(by show 5 ≤ sizeLine; decide), fun D2 hD2 => ?_⟩
    have q14' := L2.Same.new (o := .lst [V.ref p9, odd, .ref p10, .ref p11, .ref p12]) hD2
    have q914 := ((((q10'.trans q11').trans q12').trans q13').trans q14')
    refine ⟨D, D2, _, _, rfl, rfl, q914 _ _ upd_same, upd_same, (by show 12 ≤ sizeLine; decide), fun g hg => ?_⟩
    have q15' := L2.Same.new (o := .lst ([V.ref p1, .ref p2, .ref p3, .ref p4, .ref p5, .ref p7, .ref p8] ++ [V.ref p9, odd, .ref p10, .ref p11, .ref p12])) hg
    have q15 := (q9.trans q914).trans q15'
    have gT : g ≠ T := (hT3.ext (q9.trans q914)).neT hg
    generalize hH6 : upd (upd (upd (upd (upd (upd (upd H5 D (.lst [V.ref p1, .ref p2, .ref p3, .ref p4, .ref p5, .ref p7, .ref p8])) p9 (.lst [V.int i, V.int j])) p10 (.tup [V.ref a])) p11 (.tup [V.int i])) p12 (.tup [])) D2 (.lst [V.ref p9, odd, .ref p10, .ref p11, .ref p12])) g (.lst ([V.ref p1, .ref p2, .ref p3, .ref p4, .ref p5, .ref p7, .ref p8] ++ [V.ref p9, odd, .ref p10, .ref p11, .ref p12])) = H6 at q15 q15' ⊢
    have hgl : H6 g = some (.lst ([V.ref p1, .ref p2, .ref p3, .ref p4, .ref p5, .ref p7, .ref p8] ++ [V.ref p9, odd, .ref p10, .ref p11, .ref p12])) := by rw [← hH6]; exact upd_same
    have itm : TsE K H6 ([V.ref p1, .ref p2, .ref p3, .ref p4, .ref p5, .ref p7, .ref p8] ++ [V.ref p9, odd, .ref p10, .ref p11, .ref p12]) := by
      have z1 : ∀ {H' : Hp} {b : Addr} {zs : List V}, Same H' H6 → H' b = some (.tup zs) → zs.length ≤ 3 → (∀ z ∈ zs, Item K H3 z) → Same H3 H' → ThE K H6 (.ref b) := fun sm hb hz hi s3 =>
        ThE.tup (sm _ _ hb) (fun z hzm => ((hi z hzm).ext s3).ext sm) (by omega)
      have it1 : Item K H3 odd := io
      have ii : ∀ (z : Int), Item K H3 (.int z) := fun z => .int z
      have r15 := q914.trans q15'
      refine TsE.app ?_ ?_
      · intro x hx
        simp only [List.mem_cons, List.not_mem_nil, or_false] at hx
        rcases hx with rfl | rfl | rfl | rfl | rfl | rfl | rfl
        · exact z1 ((q2'.trans (q3'.trans (q4'.trans (q5'.trans (q7''.trans (q8'.trans q9')))))).trans r15) upd_same (by show 2 ≤ 3; decide) (fun z hz => by simp at hz; rcases hz with rfl | rfl <;> exact ii _) q1
        · exact z1 ((q3'.trans (q4'.trans (q5'.trans (q7''.trans (q8'.trans q9'))))).trans r15) upd_same (by show 2 ≤ 3; decide) (fun z hz => by simp at hz; rcases hz with rfl | rfl <;> exact ii _) q2
        · exact z1 ((q4'.trans (q5'.trans (q7''.trans (q8'.trans q9')))).trans r15) upd_same (by show 2 ≤ 3; decide) (fun z hz => by simp at hz; rcases hz with rfl | rfl <;> exact ii _) q3
        · exact z1 ((q5'.trans (q7''.trans (q8'.trans q9'))).trans r15) upd_same (by show 2 ≤ 3; decide) (fun z hz => by simp at hz; rcases hz with rfl | rfl <;> first | exact it1 | exact ii _) q4
        · exact z1 ((q7''.trans (q8'.trans q9')).trans r15) upd_same (by show 2 ≤ 3; decide) (fun z hz => by simp at hz; rcases hz with rfl | rfl <;> first | exact it1 | exact ii _) q5
        · exact z1 ((q8'.trans q9').trans r15) hp7 (by show 3 ≤ 3; decide) (fun z hz => by simp at hz; rcases hz with rfl | rfl | rfl <;> exact ii _) q7
        · exact z1 (q9'.trans r15) hp8 (Nat.le_trans (cutV_length _ _ _) (by show 2 ≤ 3; decide)) (fun z hz => by have := cut_mem hz; simp at this; rcases this with rfl | rfl <;> exact ii _) q8
      · intro x hx
        simp only [List.mem_cons, List.not_mem_nil, or_false] at hx
        rcases hx with rfl | rfl | rfl | rfl | rfl
        · exact .lst (((q11'.trans (q12'.trans (q13'.trans q14'))).trans q15') _ _ upd_same)
        · exact to.ext q15
        · exact z1 ((q12'.trans (q13'.trans q14')).trans q15') upd_same (by show 1 ≤ 3; decide) (fun z hz => by simp at hz; subst hz; exact .tup ha3) q11
        · exact z1 ((q13'.trans q14').trans q15') upd_same (by show 1 ≤ 3; decide) (fun z hz => by simp at hz; subst hz; exact ii _) q12
        · exact z1 (q14'.trans q15') upd_same (by show 0 ≤ 3; decide) (fun z hz => by simp at hz) q13
    have hT6 := hT3.ext q15
    have ha6 := q15 _ _ ha3
    have ht6 := q15 _ _ ht3
    have us6 := us3.ext q15
    have iit : ∃ its : List V, its.length = 12 ∧ H6 g = some (.lst its) ∧ TsE K H6 its := ⟨_, rfl, hgl, itm⟩
    clear hH6 hgl itm q15' q1 q2 q2' q3 q3' q4 q4' q5 q5' q6' q7 q7' q7'' q8 q8' q9 q9' q10 q10' q11 q11' q12 q12' q13 q13' q14' q914 hp1 hp2 hp3 hp4 hp5 hp6 hp7 hp8 hp9 hp10 hp11 hp12 hD hD2 hg
    obtain ⟨its, l12, hg6, itm⟩ := iit
    -- ties[:at] + (_law_any(tape, items),) + ties[at + 1:]
    refine ⟨_, rfl, _, rfl, _, rfl, sl_any ht6 fun b1 H7 s7 hb1 => ?_⟩
    refine ⟨_, rfl, _, rfl, T, L, g, _, rfl, hT6.ext s7, s7 _ _ hg6, gT, by omega, by omega, fun i1 x1 H8 e8 hT8 hx1 => ?_⟩
    have x1E : ThE K H8 x1 := ((itm _ (List.mem_of_getElem? hx1)).ext s7).tape (hT6.ext s7) hT8 e8
    have tk8 := (hT6.ext s7).tk e8
    have hb18 := tk8 _ _ hb1
    have ha8 := tk8 _ _ (s7 _ _ ha6)
    have ht8 := tk8 _ _ (s7 _ _ ht6)
    have us8 : TsE K H8 us := (us6.ext s7).tape (hT6.ext s7) hT8 e8
    have ui8 : ∀ x ∈ us, Item K H8 x := fun x hx => (((ui3 x hx).ext q15).ext s7).tape (hT6.ext s7) hT8 e8
    have its8 : TsE K H8 its := (itm.ext s7).tape (hT6.ext s7) hT8 e8
    have hg8 : H8 g = some (.lst its) := e8 _ _ gT (s7 _ _ hg6)
    have E8 : ExT T H H8 := (E3.trans q15.exT).trans (s7.exT.trans e8)
    have it8 : Item K H8 th := ((it3.ext q15).ext s7).tape (hT6.ext s7) hT8 e8
    have tt8 : ThE K H8 th := ((tt3.ext q15).ext s7).tape (hT6.ext s7) hT8 e8
    refine ⟨(by show 1 ≤ sizeLine; decide), fun c1 hc1 => ?_⟩
    have r1' := L2.Same.new (o := .tup [x1]) hc1
    refine cat_any (r1' _ _ hb18) upd_same (big _ (by have := cl none (some r); show _ + 1 ≤ 3000; omega)) fun d1 H9 s9 hd1 => ?_
    replace s9 := r1'.trans s9
    refine ⟨_, rfl, _, rfl, _, _, rfl, rfl, _, rfl, sl_from (s9 _ _ ht8) fun b2 H10 s10 hb2 => ?_⟩
    refine cat_any (s10 _ _ hd1) hb2 (big _ (by have := cl none (some r); have := cl (some (r + 1)) none; rw [List.length_append]; show _ + 1 + _ ≤ 3000; omega)) fun t1 H11 s11 ht1 => ?_
    have z1 := (s9.trans s10).trans s11
    have T1 : TsE K H8 (cutV us none (some r) ++ [x1] ++ cutV us (some (r + 1)) none) := ((us8.cut _ _).app (TsE.one x1E)).app (us8.cut _ _)
    have L1 : (cutV us none (some r) ++ [x1] ++ cutV us (some (r + 1)) none).length ≤ 100000 := by
      have := cl none (some r); have := cl (some (r + 1)) none
      rw [List.length_append, List.length_append]; show _ + 1 + _ ≤ 100000; omega
    generalize cutV us none (some r) ++ [x1] ++ cutV us (some (r + 1)) none = X1 at ht1 T1 L1
    -- ties[:at] + (item,) + ties[at:]
    refine ⟨_, rfl, _, rfl, _, rfl, sl_any (z1 _ _ ht8) fun b3 H12 s12 hb3 => ?_⟩
    refine ⟨_, rfl, (by show 1 ≤ sizeLine; decide), fun c2 hc2 => ?_⟩
    have r2' := L2.Same.new (o := .tup [V.ref a]) hc2
    refine cat_any (r2' _ _ hb3) upd_same (big _ (by have := cl none (some r); show _ + 1 ≤ 3000; omega)) fun d2 H13 s13 hd2 => ?_
    replace s13 := (s12.trans r2').trans s13
    refine ⟨_, rfl, _, rfl, _, rfl, sl_from ((z1.trans s13) _ _ ht8) fun b4 H14 s14 hb4 => ?_⟩
    refine cat_any (s14 _ _ hd2) hb4 (big _ (by have := cl none (some r); have := cl (some r) none; rw [List.length_append]; show _ + 1 + _ ≤ 3000; omega)) fun t2 H15 s15 ht2 => ?_
    have z2 := (s13.trans s14).trans s15
    have aE : ThE K H8 (.ref a) := .tup ha8 (fun x hx => by simp at hx; rcases hx with rfl | rfl <;> exact .int _) (by show 2 ≤ 100000; decide)
    have T2 : TsE K H8 (cutV us none (some r) ++ [V.ref a] ++ cutV us (some r) none) := ((us8.cut _ _).app (TsE.one aE)).app (us8.cut _ _)
    have L2' : (cutV us none (some r) ++ [V.ref a] ++ cutV us (some r) none).length ≤ 100000 := by
      have := cl none (some r); have := cl (some r) none
      rw [List.length_append, List.length_append]; show _ + 1 + _ ≤ 100000; omega
    generalize cutV us none (some r) ++ [V.ref a] ++ cutV us (some r) none = X2 at ht2 T2 L2'
    -- ties[::-1]
    refine ⟨_, rfl, t, _, rfl, SqT.of ((z1.trans z2) _ _ ht8), fun t3 ht3' => ?_⟩
    have z3 := L2.Same.new (o := .tup us.reverse) ht3'
    refine ⟨(by show 3 ≤ sizeLine; decide), fun D hD => ?_⟩
    have z4 := L2.Same.new (o := .lst [V.ref t1, .ref t2, .ref t3]) hD
    -- things + [..]
    have zz := (z1.trans z2).trans (z3.trans z4)
    have hT8' := hT8.ext ((z1.trans z2).trans z3)
    have DT : D ≠ T := hT8'.neT hD
    generalize hH16 : upd (upd H15 t3 (.tup us.reverse)) D (.lst [V.ref t1, .ref t2, .ref t3]) = H16 at z4 zz ⊢
    have hD16 : H16 D = some (.lst [V.ref t1, .ref t2, .ref t3]) := by rw [← hH16]; exact upd_same
    have w1 : H16 t1 = some (.tup X1) := (z2.trans (z3.trans z4)) _ _ ht1
    have w2 : H16 t2 = some (.tup X2) := (z3.trans z4) _ _ ht2
    have w3 : H16 t3 = some (.tup us.reverse) := z4 _ _ upd_same
    have hT16 := hT8.ext zz
    clear hH16 z4 z3 z2 z1 s7 s9 s10 s11 s12 s13 s14 s15 r1' r2' hD ht3' ht1 ht2 hb1 hb2 hb3 hb4 hb18 hd1 hd2 hc1 hc2
    refine ⟨_, rfl, _, rfl, _, rfl, _, rfl, sl_any (zz _ _ ht8) fun b5 H17 s17 hb5 => ?_⟩
    have hT17 := hT16.ext s17
    refine ⟨_, rfl, _, rfl, T, L, g, _, rfl, hT17, s17 _ _ (zz _ _ hg8), gT, by omega, by omega, fun i2 x2 H18 e18 hT18 hx2 => ?_⟩
    have tk18 := hT17.tk e18
    have x2E : ThE K H18 x2 := (((its8 _ (List.mem_of_getElem? hx2)).ext zz).ext s17).tape hT17 hT18 e18
    have us18 : TsE K H18 us := ((us8.ext zz).ext s17).tape hT17 hT18 e18
    have ui18 : ∀ x ∈ us, Item K H18 x := fun x hx => (((ui8 x hx).ext zz).ext s17).tape hT17 hT18 e18
    have T1' : TsE K H18 X1 := ((T1.ext zz).ext s17).tape hT17 hT18 e18
    have T2' : TsE K H18 X2 := ((T2.ext zz).ext s17).tape hT17 hT18 e18
    have it18 : Item K H18 th := ((it8.ext zz).ext s17).tape hT17 hT18 e18
    have tt18 : ThE K H18 th := ((tt8.ext zz).ext s17).tape hT17 hT18 e18
    have E18 : ExT T H H18 := E8.trans (zz.exT.trans (s17.exT.trans e18))
    have ht18 := tk18 _ _ (s17 _ _ (zz _ _ ht8))
    replace w1 := tk18 _ _ (s17 _ _ w1)
    replace w2 := tk18 _ _ (s17 _ _ w2)
    replace w3 := tk18 _ _ (s17 _ _ w3)
    replace hb5 := tk18 _ _ hb5
    have hD18 : H18 D = some (.lst [V.ref t1, .ref t2, .ref t3]) := e18 _ _ DT (s17 _ _ hD16)
    clear T1 T2 its8 us8 x1E
    refine ⟨(by show 1 ≤ sizeLine; decide), fun c3 hc3 => ?_⟩
    have r3 := L2.Same.new (o := .tup [x2]) hc3
    refine cat_any (r3 _ _ hb5) upd_same (big _ (by have := cl none (some r); show _ + 1 ≤ 3000; omega)) fun d3 H19 s19 hd3 => ?_
    replace s19 := r3.trans s19
    refine ⟨_, rfl, _, rfl, _, rfl, sl_from (s19 _ _ ht18) fun b6 H20 s20 hb6 => ?_⟩
    refine cat_any (s20 _ _ hd3) hb6 (big _ (by have := cl none (some r); have := cl (some r) none; rw [List.length_append]; show _ + 1 + _ ≤ 3000; omega)) fun t4 H21 s21 ht4 => ?_
    have y1 := (s19.trans s20).trans s21
    have T4 : TsE K H18 (cutV us none (some r) ++ [x2] ++ cutV us (some r) none) := ((us18.cut _ _).app (TsE.one x2E)).app (us18.cut _ _)
    have L4 : (cutV us none (some r) ++ [x2] ++ cutV us (some r) none).length ≤ 100000 := by
      have := cl none (some r); have := cl (some r) none
      rw [List.length_append, List.length_append]; show _ + 1 + _ ≤ 100000; omega
    generalize cutV us none (some r) ++ [x2] ++ cutV us (some r) none = X4 at ht4 T4 L4
    refine ⟨_, rfl, _, rfl, _, rfl, sl_any (y1 _ _ ht18) fun b7 H22 s22 hb7 => ?_⟩
    refine ⟨_, rfl, _, rfl, _, _, rfl, rfl, _, rfl, sl_from ((y1.trans s22) _ _ ht18) fun b8 H23 s23 hb8 => ?_⟩
    refine cat_any (s23 _ _ hb7) hb8 (big _ (by have := cl none (some r); have := cl (some (r + 1)) none; omega)) fun t5 H24 s24 ht5 => ?_
    have y2 := (s22.trans s23).trans s24
    have T5 : TsE K H18 (cutV us none (some r) ++ cutV us (some (r + 1)) none) := (us18.cut _ _).app (us18.cut _ _)
    have L5 : (cutV us none (some r) ++ cutV us (some (r + 1)) none).length ≤ 100000 := by
      have := cl none (some r); have := cl (some (r + 1)) none
      rw [List.length_append]; omega
    generalize cutV us none (some r) ++ cutV us (some (r + 1)) none = X5 at ht5 T5 L5
    refine ⟨(by show 2 ≤ sizeLine; decide), fun D3 hD3 => ?_⟩
    have y3 := L2.Same.new (o := .lst [V.ref t4, .ref t5]) hD3
    have y13 := y1.trans (y2.trans y3)
    refine ⟨D, D3, _, _, rfl, rfl, y13 _ _ hD18, upd_same, (by show 5 ≤ sizeLine; decide), fun D4 hD4 => ?_⟩
    have y4 := L2.Same.new (o := .lst ([V.ref t1, .ref t2, .ref t3] ++ [V.ref t4, .ref t5])) hD4
    have y14 := y13.trans y4
    refine ⟨_, rfl, _, rfl, _, rfl, t, _, rfl, .inr (SqT.of (y14 _ _ ht18)), fun m1 hm1 => ?_⟩
    have k1 := L2.Same.new (o := .lst us) hm1
    refine fun m2 hm2 => ?_
    have k2 := L2.Same.new (o := .dK []) hm2
    refine ⟨rfl, fun m3 qq H25 k3 nm3 hm3 iq tq => ?_⟩
    refine ⟨_, rfl, _, rfl, (by show 1 ≤ sizeLine; decide), fun m4 hm4 => ?_⟩
    have k4 := L2.Same.new (o := .tup [V.ref t]) hm4
    refine ⟨(by show 8 ≤ sizeLine; decide), fun D5 hD5 => ?_⟩
    have k5 := L2.Same.new (o := .lst [V.ref m1, .non, .str "ties", .ref m2, .int 0, .ref m3, th, .ref m4]) hD5
    have k15 := k1.trans (k2.trans (k3.trans (k4.trans k5)))
    refine ⟨D4, D5, _, _, rfl, rfl, k15 _ _ upd_same, upd_same, (by show 13 ≤ sizeLine; decide), fun G hG => ?_⟩
    have k6 := L2.Same.new (o := .lst (([V.ref t1, .ref t2, .ref t3] ++ [V.ref t4, .ref t5]) ++ [V.ref m1, .non, .str "ties", .ref m2, .int 0, .ref m3, th, .ref m4])) hG
    have yk := (y14.trans k15).trans k6
    have hTF := hT18.ext yk
    refine ⟨T, L, G, _, rfl, hTF, upd_same, (hT18.ext (y14.trans k15)).neT hG, (by show 0 < 13; decide), (by show 13 ≤ 1000; decide), fun i3 v HZ eZ hTZ hv => ?_⟩
    have tkZ := hTF.tk eZ
    have E : ExT T H HZ := E18.trans (yk.exT.trans eZ)
    have usZ : TsE K HZ us := (us18.ext yk).tape hTF hTZ eZ
    have fin : ∀ {b : Addr} {xs : List V}, H18 b = some (.tup xs) → TsE K H18 xs → xs.length ≤ 100000 → Q (.ref b) HZ := fun hb hx hl => by
      obtain ⟨g1, g2⟩ := ThT.there (tkZ _ _ (yk _ _ hb)) ((hx.ext yk).tape hTF hTZ eZ) hl
      exact k _ HZ E hTZ g1 g2
    have finS : ∀ {H' : Hp} {b : Addr} {xs : List V}, Same H18 H' → Same H' _ → H' b = some (.tup xs) → TsE K H18 xs → xs.length ≤ 100000 → Q (.ref b) HZ := fun s1 s2 hb hx hl => by
      obtain ⟨g1, g2⟩ := ThT.there (tkZ _ _ (s2 _ _ hb)) (((hx.ext s1).ext s2).tape hTF hTZ eZ) hl
      exact k _ HZ E hTZ g1 g2
    have els : ∀ {u : V}, Typ K HZ u "tuple" false → (∀ b xs, u = .ref b → HZ b ≠ some (.tup xs)) → (∀ b, u = .ref b → HZ b ≠ none) → Q u HZ := fun h1 h2 h3 => k _ HZ E hTZ (.els h1 h2) h3
    match i3, hv with
    | 0, hv => cases hv; exact fin w1 T1' L1
    | 1, hv => cases hv; exact fin w2 T2' L2'
    | 2, hv => cases hv; exact fin w3 (fun x hx => us18 x (List.mem_reverse.mp hx)) (by rw [List.length_reverse]; omega)
    | 3, hv => cases hv; exact finS y1 ((y2.trans (y3.trans y4)).trans (k15.trans k6)) ht4 T4 L4
    | 4, hv => cases hv; exact finS (y1.trans y2) ((y3.trans y4).trans (k15.trans k6)) ht5 T5 L5
    | 5, hv =>
      cases hv
      have mT : m1 ≠ T := (hT18.ext y14).neT hm1
      have h0 : HZ m1 = some (.lst us) := eZ _ _ mT (((k2.trans (k3.trans (k4.trans k5))).trans k6) _ _ upd_same)
      exact els (typ_lst h0 (by decide +kernel)) (fun b xs e q => by cases e; rw [h0] at q; cases q) (fun b e q => by cases e; rw [h0] at q; cases q)
    | 6, hv => cases hv; exact els (typ_non (by decide +kernel)) (fun _ _ => V.noConfusion) (fun _ => V.noConfusion)
    | 7, hv => cases hv; exact els (typ_str (by decide +kernel)) (fun _ _ => V.noConfusion) (fun _ => V.noConfusion)
    | 8, hv =>
      cases hv
      have mT : m2 ≠ T := (hT18.ext (y14.trans k1)).neT hm2
      have h0 : HZ m2 = some (.dK []) := eZ _ _ mT (((k3.trans (k4.trans k5)).trans k6) _ _ upd_same)
      exact els (typ_dK h0 (by decide +kernel)) (fun b xs e q => by cases e; rw [h0] at q; cases q) (fun b e q => by cases e; rw [h0] at q; cases q)
    | 9, hv => cases hv; exact els (typ_int (by decide +kernel)) (fun _ _ => V.noConfusion) (fun _ => V.noConfusion)
    | 10, hv =>
      cases hv
      have s3 := (k4.trans k5).trans k6
      have e3' := hT18.ext (y14.trans (k1.trans (k2.trans k3)))
      obtain ⟨g1, g2⟩ := ThT.there (tkZ _ _ (s3 _ _ hm3)) (((TsE.one tq).ext s3).tape hTF hTZ eZ) (by show 1 ≤ 100000; decide)
      exact k _ HZ E hTZ g1 g2
    | 11, hv =>
      cases hv
      have ttZ : ThE K HZ th := (tt18.ext yk).tape hTF hTZ eZ
      refine els ?_ (fun b xs e q => ?_) ttZ.2
      · obtain ⟨l0, hl0⟩ := hT.lst
        obtain ⟨l1, hl1⟩ := hTZ.lst
        exact ty.exT E hl0 hl1
      · cases c : H b with
        | none => exact tt.2 b e c
        | some o =>
          by_cases cb : b = T
          · obtain ⟨l3, hl3⟩ := hTZ.lst
            rw [cb, hl3] at q; cases q
          · rw [E _ _ cb c] at q; cases q; exact tn b xs e c
    | 12, hv =>
      cases hv
      have tE : ThE K HZ (.ref t) := .tup (tkZ _ _ (yk _ _ ht18)) (fun x hx => ((ui18 x hx).ext yk).tape hTF hTZ eZ) (by omega)
      obtain ⟨g1, g2⟩ := ThT.there (tkZ _ _ ((k5.trans k6) _ _ upd_same)) (TsE.one tE) (by show 1 ≤ 100000; decide)
      exact k _ HZ E hTZ g1 g2
    | i + 13, hv => simp at hv
end
end Bs

namespace Bs
open PySem PySem.Spec L2
theorem good_front {n : Int} {ps : List (Int × Int)} {p : Int × Int} (G : Good n (ps ++ [p])) : Good n ps :=
  ⟨fun q hq => G.ok q (List.mem_append.mpr (.inl hq)), (List.pairwise_append.mp G.up).1⟩
theorem pairs_front {H : Hp} : ∀ {xs : List V} {x : V} {ps : List (Int × Int)}, Pairs H (xs ++ [x]) ps → ∃ qs p, ps = qs ++ [p] ∧ Pairs H xs qs
  | [], _, [p], _ => ⟨[], p, rfl, .nil⟩
  | [], _, [], h => by cases h
  | [], _, p :: q :: r, .cons _ t => by cases t
  | y :: ys, x, p :: ps, .cons r t => by
    obtain ⟨qs, p', rfl, h⟩ := pairs_front t
    exact ⟨p :: qs, p', rfl, .cons r h⟩
theorem okay_down {H : Hp} {n : Int} {xs : List V} {i : Nat} (h : Okay H n xs (i + 1)) : Okay H n xs i := by
  by_cases hi : i < xs.length
  · have hx : xs[i]? = some xs[i] := List.getElem?_eq_getElem hi
    obtain ⟨ps, h1, h2⟩ := h
    rw [take_snoc hx] at h1
    obtain ⟨qs, p, rfl, h3⟩ := pairs_front h1
    exact ⟨qs, h3, good_front h2⟩
  · obtain ⟨ps, h1, h2⟩ := h
    rw [List.take_of_length_le (by omega)] at h1
    exact ⟨ps, by rw [List.take_of_length_le (by omega)]; exact h1, h2⟩
theorem okay_le {H : Hp} {n : Int} {xs : List V} {i j : Nat} (h : Okay H n xs j) (hij : i ≤ j) : Okay H n xs i := by
  obtain ⟨d, rfl⟩ := Nat.exists_eq_add_of_le hij
  induction d with
  | zero => exact h
  | succ d ih => exact ih (okay_down h) (Nat.le_add_right _ _)
theorem bad_one {H : Hp} {sv tv y z : V} (h : BadIs H sv tv y) (h' : BadIs H sv tv z) : y = z := by
  rcases h with ⟨h1, rfl⟩ | ⟨h1, h2, rfl⟩ | ⟨n, t, xs, i, rfl, n1, n2, rfl, ht, hi, ok, nok, rfl⟩
  · rcases h' with ⟨_, rfl⟩ | ⟨h2, _⟩ | ⟨n, t, xs, i, rfl, n1, n2, _⟩
    · rfl
    · rw [h1] at h2; cases h2
    · exact absurd ⟨n1, n2⟩ (of_decide_eq_false h1)
  · rcases h' with ⟨h3, _⟩ | ⟨_, _, rfl⟩ | ⟨n, t, xs, i, rfl, n1, n2, rfl, ht, _⟩
    · rw [h1] at h3; cases h3
    · rfl
    · exact absurd ht (h2 _ _ rfl)
  · rcases h' with ⟨h3, _⟩ | ⟨_, h2, _⟩ | ⟨n', t', xs', j, e1, _, _, e2, ht', hj, ok', nok', rfl⟩
    · exact absurd ⟨n1, n2⟩ (of_decide_eq_false h3)
    · exact absurd ht (h2 _ _ rfl)
    · cases e1
      cases e2
      rw [ht] at ht'
      cases ht'
      have h1 : ¬ i < j := fun h => nok (okay_le ok' (by omega))
      have h2 : ¬ j < i := fun h => nok' (okay_le ok (by omega))
      have : i = j := by omega
      rw [this]
theorem bad_web {H : Hp} {sv tv y : V} (h : BadIs H sv tv y) (h' : WebIs H sv tv) : False := by
  obtain ⟨n, t, xs, rfl, n1, n2, rfl, ht, ok⟩ := h'
  rcases h with ⟨h1, _⟩ | ⟨_, h2, _⟩ | ⟨n', t', xs', i, e1, _, _, e2, ht', hi, _, nok, _⟩
  · exact absurd ⟨n1, n2⟩ (of_decide_eq_false h1)
  · exact absurd ht (h2 _ _ rfl)
  · cases e1
    cases e2
    rw [ht] at ht'
    cases ht'
    exact nok (okay_le ok hi)
theorem bad_flat {H : Hp} {sv tv y : V} (h : BadIs H sv tv y) : flat1 y = true := by
  rcases h with ⟨_, rfl⟩ | ⟨_, _, rfl⟩ | ⟨_, _, _, _, _, _, _, _, _, _, _, _, rfl⟩ <;> rfl
theorem bad_any {K : PySem.W.Frag} {H H' : Hp} {sv tv y : V} (tT : ThT K H tv) (hv : ∀ a, tv = .ref a → H a ≠ none) (e : Same H H') (h : BadIs H sv tv y) : BadIs H' sv tv y := by
  rcases h with ⟨h1, h2⟩ | ⟨h1, h2, h3⟩ | ⟨n, t, xs, i, rfl, n1, n2, rfl, ht, hi, ok, nok, rfl⟩
  · exact .inl ⟨h1, h2⟩
  · refine .inr (.inl ⟨h1, fun a xs ea q => ?_, h3⟩)
    cases c : H a with
    | none => exact hv a ea c
    | some o => rw [e _ _ c] at q; cases q; exact h2 a xs ea c
  · exact .inr (.inr ⟨n, t, xs, i, rfl, n1, n2, rfl, e _ _ ht, hi, okay_same (K := K) e ok, fun h => nok (okay_back e (elems tT ht) h), rfl⟩)
theorem web_any {K : PySem.W.Frag} {H H' : Hp} {sv tv : V} (e : Same H H') (h : WebIs H sv tv) : WebIs H' sv tv := by
  obtain ⟨n, t, xs, rfl, n1, n2, rfl, ht, ok⟩ := h
  exact ⟨n, t, xs, rfl, n1, n2, rfl, e _ _ ht, okay_same (K := K) e ok⟩
theorem wD_shaped (n : Int) (ps : List (Int × Int)) : SeqAt.shaped (.tuple [.str "web", .int n, .tuple (ps.map pD)]) = true := by
  have h0 := pDs_depth ps
  have h2 : PyData.depth (.tuple [.str "web", .int n, .tuple (ps.map pD)]) ≤ 64 := by
    simp only [PyData.depth, PyData.depthAll]
    omega
  show (PyData.canLay0 (.tuple [.str "web", .int n, .tuple (ps.map pD)]) && decide (PyData.depth (.tuple [.str "web", .int n, .tuple (ps.map pD)]) ≤ 64)) = true
  rw [Bool.and_eq_true]
  exact ⟨by simp [PyData.canLay0, PyData.canLayAll0, pDs_lay ps]; decide +kernel, decide_eq_true h2⟩
theorem wD_eqv (n : Int) (ps : List (Int × Int)) : PyData.eqv (.tuple [.str "web", .int n, .tuple (ps.map pD)]) (.tuple [.str "web", .int n, .tuple (ps.map pD)]) = true := by
  simp [PyData.eqv, PyData.eqvAll, pDs_eqv]
theorem bad_non {H : Hp} {sv tv y : V} (h : BadIs H sv tv y) : y ≠ .non := by
  rcases h with ⟨_, rfl⟩ | ⟨_, _, rfl⟩ | ⟨_, _, _, _, _, _, _, _, _, _, _, _, rfl⟩ <;> exact V.noConfusion
theorem web_item {K : PySem.W.Frag} {mg : Str → Option Value} {C x : Addr} {H : Hp} {n : Int} {u : Addr} {ps : List (Int × Int)} (T : Txt K mg C) (CT : ClsTy K C) (W : WebAt C H x n u ps) : Item K H (.ref x) ∧ ThE K H (.ref x) ∧ Typ K H (.ref x) "tuple" false ∧ (∀ a xs, V.ref x = .ref a → H a ≠ some (.tup xs)) := by
  obtain ⟨⟨dx, fs, h1, h2, h3⟩, _⟩ := W
  have ty : TyX K H (.ref x) (.ref C) := .base (.ins h1 T.cl T.xc T.xg T.xt T.xm)
  have nt : ∀ a xs, V.ref x = .ref a → H a ≠ some (.tup xs) := fun a ys e q => by cases e; rw [h1] at q; cases q
  exact ⟨.els ⟨_, ty, CT.int⟩ (fun _ => V.noConfusion), ⟨.els ⟨_, ty, CT.tup⟩ nt, fun a e q => by cases e; rw [h1] at q; cases q⟩, ⟨_, ty, CT.tup⟩, nt⟩
theorem pairs_all {H : Hp} : ∀ {xs : List V} {ps : List (Int × Int)}, Pairs H xs ps → ∀ x ∈ xs, ∃ p, PairAt H x p
  | _, _, .nil, x, hx => by simp at hx
  | _, _, .cons r t, x, hx => (List.mem_cons.mp hx).elim (fun e => ⟨_, e ▸ r⟩) (pairs_all t x)
theorem pair_tse {K : PySem.W.Frag} {H : Hp} {x : V} {p : Int × Int} (h : PairAt H x p) : ThE K H x ∧ Item K H x := by
  obtain ⟨a, rfl, h⟩ := h
  exact ⟨.tup h (fun y hy => by simp at hy; rcases hy with rfl | rfl <;> exact .int _) (by show 2 ≤ 100000; decide), .tup h⟩
theorem ThT.tape {K : PySem.W.Frag} {H H' : Hp} {T L : Addr} {v : V} (h : ThT K H v) (hT : Tp H T L) (hT' : Tp H' T L) (e : ExT T H H') (hv : ∀ a, v = .ref a → H a ≠ none) : ThT K H' v := by
  cases h with
  | tup h h1 h2 => exact .tup (hT.tk e _ _ h) (fun x hx => (h1 x hx).tape hT hT' e) h2
  | els h h1 =>
    obtain ⟨l, hl⟩ := hT.lst
    obtain ⟨l', hl'⟩ := hT'.lst
    refine .els (h.exT e hl hl') fun a xs ea q => ?_
    by_cases ca : a = T
    · rw [ca, hl'] at q; cases q
    · cases c : H a with
      | none => exact hv a ea c
      | some o => rw [e _ _ ca c] at q; cases q; exact h1 a xs ea c
theorem there_tape {H H' : Hp} {T L : Addr} {v : V} (hT' : Tp H' T L) (e : ExT T H H') (hv : ∀ a, v = .ref a → H a ≠ none) : ∀ a, v = .ref a → H' a ≠ none := fun a ea q => by
  by_cases ca : a = T
  · obtain ⟨l, hl⟩ := hT'.lst
    rw [ca, hl] at q; cases q
  · cases c : H a with
    | none => exact hv a ea c
    | some o => rw [e _ _ ca c] at q; cases q
theorem there_same {H H' : Hp} {v : V} (e : Same H H') (hv : ∀ a, v = .ref a → H a ≠ none) : ∀ a, v = .ref a → H' a ≠ none := fun a ea q => by
  cases c : H a with
  | none => exact hv a ea c
  | some o => rw [e _ _ c] at q; cases q
section
variable {P : Program} {w : World} {K : PySem.W.Frag} {mg : Str → Option Value} {base : Heap} {C CB CW : Addr}
def sp_law (K : PySem.W.Frag) : Sp := fun vs H Q _ => ∃ (a : Addr) (ns : List Int), vs = [.ref a] ∧ SqL K H a (ns.map V.int) ∧ ∀ H', Q (.bl true) H'
abbrev s_law : Stmt := (top 25)
theorem sc_law : FnScope ["script", "tape", "turn", "size", "ties", "thing", "change", "later", "other", "due", "told"] ["script"] (defScope s_law) := ⟨rfl, rfl, rfl, by decide +kernel, rfl, by decide +kernel, by decide +kernel⟩

theorem ok_law {f : Addr} {fd : FuncData} (F : Fun K "law" "law" s_law f fd) (B : Bl mg) (T : Txt K mg C) (CT : ClsTy K C) (m_Web : Mkc P w K mg base 5 C "Web" ["self", "size", "ties"] (sp_Web_init C))
    (c__law_tape : Cal P w K mg base 1 "_law_tape" ["script"] (sp_tape K)) (c__law_pick : Cal P w K mg base 1 "_law_pick" ["tape", "many"] spPick) (c__law_same : Cal P w K mg base 5 "_law_same" ["told", "due"] (spSame 3)) (c__law_any : Cal P w K mg base 2 "_law_any" ["tape", "things"] sp_any)
    (c__law_deep : Cal P w K mg base 1 "_law_deep" [] (sp_deepE K)) (c__law_web : Cal P w K mg base 3 "_law_web" ["tape", "most"] sp_web) (c__law_bent : Cal P w K mg base 4 "_law_bent" ["tape", "size", "ties", "thing"] (sp_bentE K)) (c__law_told : Cal P w K mg base 7 "_law_told" ["size", "ties"] (sp_told K)) (c__law_fault : Cal P w K mg base 3 "_law_fault" ["size", "ties"] (sp_fault K)) :
    FnOk P w K mg base CX0 8 f fd ["script"] (sp_law K) := by
  refine F.ok sc_law (fun vs H Q E h => ?_) (fun cdv A outer s H vs Q E hr h => ?_)
  · obtain ⟨a, ns, rfl, _⟩ := h; rfl
  · obtain ⟨a, ns, rfl, hS, k⟩ := h
    refine ⟨_, (pss_cons (ps_set (i := 1) sc_law.nd rfl (by first | exact Or.inl rfl | exact Or.inr rfl) (pe_cal c__law_tape (hr.mono (by first | decide | omega)) (pa_cons (pv 0) pa_nil)))
 (pss_cons (ps_for PassesOwn.never rfl (pi_range1 (by rfl) B.range (pa_cons pe_int pa_nil)) (pg_name (i := 2) sc_law.nd rfl (by first | exact Or.inl rfl | exact Or.inr rfl))
  (pss_cons (ps_asg (pe_cal c__law_web (hr.mono (by first | decide | omega)) (pa_cons (pv 1) (pa_cons (pe_ifC (pt_cmpR op_eq (pe_cal c__law_pick (hr.mono (by first | decide | omega)) (pa_cons (pv 1) (pa_cons pe_int pa_nil))) pe_int (nomark _)) pe_int pe_int) pa_nil))) (pg_tup (by rfl) (pgs_cons (pg_name (i := 3) sc_law.nd rfl (by first | exact Or.inl rfl | exact Or.inr rfl)) (pgs_cons (pg_name (i := 4) sc_law.nd rfl (by first | exact Or.inl rfl | exact Or.inr rfl)) pgs_nil))))
 (pss_cons (ps_if (pt_not (pt_val (pe_cal c__law_same (hr.mono (by first | decide | omega)) (pa_cons (pe_cal c__law_told (hr.mono (by first | decide | omega)) (pa_cons (pv 3) (pa_cons (pv 4) pa_nil))) (pa_cons (pe_tup (pa_cons pe_str (pa_cons (pv 3) (pa_cons (pv 4) pa_nil)))) pa_nil))))) (pss_one (ps_ret pe_bl)) pss_nil)
 (pss_cons (ps_set (i := 5) sc_law.nd rfl (by first | exact Or.inl rfl | exact Or.inr rfl) (pe_mkc m_Web (hr.mono (by first | decide | omega)) (pa_cons (pv 3) (pa_cons (pv 4) pa_nil))))
 (pss_one (ps_for PassesOwn.never rfl (pi_range1 (by rfl) B.range (pa_cons pe_int pa_nil)) (pg_name (i := 6) sc_law.nd rfl (by first | exact Or.inl rfl | exact Or.inr rfl))
  (pss_cons (ps_set (i := 7) sc_law.nd rfl (by first | exact Or.inl rfl | exact Or.inr rfl) (pe_cal c__law_bent (hr.mono (by first | decide | omega)) (pa_cons (pv 1) (pa_cons (pv 3) (pa_cons (pv 4) (pa_cons (pv 5) pa_nil))))))
 (pss_cons (ps_set (i := 8) sc_law.nd rfl (by first | exact Or.inl rfl | exact Or.inr rfl) (pv 3))
 (Evl.pss_cut (ps_if (pt_cmpR op_eq (pe_cal c__law_pick (hr.mono (by first | decide | omega)) (pa_cons (pv 1) (pa_cons pe_int pa_nil))) pe_int (nomark _)) (pss_one (ps_set (i := 8) sc_law.nd rfl (by first | exact Or.inl rfl | exact Or.inr rfl) (pe_cal c__law_any (hr.mono (by first | decide | omega)) (pa_cons (pv 1) (pa_cons (pe_lst (pa_cons pe_int (pa_cons (pe_un un_neg pe_int) (pa_cons pe_int (pa_cons pe_int (pa_cons (pe_op op_add (pv 3) pe_int) (pa_cons pe_non (pa_cons pe_bl (pa_cons pe_str (pa_cons pe_int (pa_cons (pe_tup (pa_cons pe_int pa_nil)) (pa_cons pe_dnewK (pa_cons (pe_cal0 c__law_deep (hr.mono (by first | decide | omega))) (pa_cons (pv 5) pa_nil)))))))))))))) pa_nil))))) pss_nil)
 (pss_cons (ps_set (i := 9) sc_law.nd rfl (by first | exact Or.inl rfl | exact Or.inr rfl) (pe_cal c__law_fault (hr.mono (by first | decide | omega)) (pa_cons (pv 8) (pa_cons (pv 7) pa_nil))))
 (pss_cons (ps_set (i := 10) sc_law.nd rfl (by first | exact Or.inl rfl | exact Or.inr rfl) (pe_cal c__law_told (hr.mono (by first | decide | omega)) (pa_cons (pv 8) (pa_cons (pv 7) pa_nil))))
 (pss_cons (ps_if (PW.pt (pw_and (pt_cmpR op_notN (pv 9) pe_non (nomark _)) (pw_and1 (pt_not (pt_val (pe_cal c__law_same (hr.mono (by first | decide | omega)) (pa_cons (pv 10) (pa_cons (pe_tup (pa_cons pe_str (pa_cons (pv 9) pa_nil))) pa_nil)))))))) (pss_one (ps_ret pe_bl)) pss_nil)
 (pss_one (ps_if (PW.pt (pw_and (pt_cmpR op_isN (pv 9) pe_non (nomark _)) (pw_and1 (pt_cmpR (op_neD hr.units) (pv 10) (pe_tup (pa_cons pe_str (pa_cons (pv 8) (pa_cons (pv 7) pa_nil)))) (nomark _))))) (pss_one (ps_ret pe_bl)) pss_nil))))))))))))))
 (pss_one (ps_ret pe_bl)))), ?_⟩
    refine ⟨_, rfl, a, ns, rfl, hS, fun TT L H1 e1 nT nL hT1 => ?_⟩
    refine ⟨4, rfl, by decide, by decide, for_range (lo := 0) (n := 4) (fun i σ H' => ∃ v2 v3 v4 v5 v6 v7 v8 v9 v10 : Option V, σ = [some (.ref a), some (.ref TT), v2, v3, v4, v5, v6, v7, v8, v9, v10] ∧ Tp H' TT L)
      ⟨none, none, none, none, none, none, none, none, none, rfl, hT1⟩ ?_ (fun σ H' _ => k H')⟩
    rintro i σ H2 hi ⟨v2, v3, v4, v5, v6, v7, v8, v9, v10, rfl, hT2⟩
    refine ⟨_, rfl, _, rfl, TT, L, 6, rfl, by decide, by decide, hT2, fun r H3 _ _ _ hT3 => ⟨rfl, _, rfl, ?_⟩⟩
    have hm : ∃ m : Int, 1 ≤ m ∧ m ≤ 24 ∧ (if decide (V.int r = V.int 0) = true then V.int 24 else V.int 6) = .int m := by
      by_cases c : V.int r = V.int 0
      · exact ⟨24, by decide, by decide, by rw [if_pos (decide_eq_true c)]⟩
      · exact ⟨6, by decide, by decide, by rw [if_neg (by simpa using c)]⟩
    obtain ⟨m, m1, m2, hm⟩ := hm
    dsimp only
    rw [hm]
    refine ⟨TT, L, m, rfl, hT3, m1, m2, fun p t n xs ps H4 e4 hT4 np hp nt ht hP n1 nm G => ?_⟩
    have n2 : n ≤ 24 := by omega
    have hlen := G.len n2
    have xlen : xs.length ≤ 1000 := by rw [Paired.len hP]; omega
    have okw : ∀ {H' : Hp}, H' t = some (.tup xs) → Pairs H' xs ps → WebIs H' (.int n) (.ref t) := fun h1 h2 => ⟨n, t, xs, rfl, n1, n2, rfl, h1, ps, by rw [List.take_length]; exact h2, G⟩
    have tse : ∀ {H' : Hp}, Pairs H' xs ps → TsE K H' xs := fun h x hx => (pair_tse (pairs_all h x hx).choose_spec).1
    refine ⟨p, _, rfl, SqT.of hp, rfl, _, _, rfl, _, _, rfl, rfl, ?_⟩
    have hw4 := okw ht hP
    refine ⟨_, rfl, _, rfl, .int n, .ref t, rfl, .int n, .tup ht (tse hP) (by omega), fun b eb q => (by cases eb; rw [ht] at q; cases q), fun y p' H' hb _ _ => (bad_web hb hw4).elim, fun _ p1 H5 s5 hp1 => ?_⟩
    refine ⟨_, rfl, _, rfl, (by show 3 ≤ sizeLine; decide), fun q hq => ?_⟩
    have s6 := L2.Same.new (o := .tup [V.str "web", .int n, .ref t]) hq
    have ht6 := s6 _ _ (s5 _ _ ht)
    have hP6 := (hP.tk s5.tk).tk s6.tk
    refine ⟨.ref p1, .ref q, rfl, ?_, fun H7 s7 => ⟨true, rfl, iteF ?_⟩⟩
    · refine .inr ⟨p1, q, _, _, rfl, rfl, .inl ⟨s6 _ _ hp1, upd_same⟩, by show 3 ≤ 100000; decide, ?_⟩
      refine .cons (.inl (.inl ⟨rfl, rfl⟩)) (.cons (.inl (.inl ⟨rfl, rfl⟩)) (.cons ?_ .nil))
      exact .inr ⟨t, t, xs, xs, rfl, rfl, .inl ⟨ht6, ht6⟩, by omega, same_pairs hP6 hP6⟩
    have s47 := s5.trans (s6.trans s7)
    have ht7 := s47 _ _ ht
    have hP7 := hP.tk s47.tk
    have hT7 := hT4.ext s47
    refine ⟨_, rfl, _, rfl, make_web (C := C) n1 n2 ht7 hP7 G fun x H8 s8 nx W hx => ?_⟩
    have hT8 := hT7.ext s8
    have ht8 := s8 _ _ ht7
    have hP8 := hP7.tk s8.tk
    clear hw4 hp1 ht6 hP6 s47 s5 s6 s7
    refine ⟨3, rfl, by decide, by decide, for_range (lo := 0) (n := 3) (fun j σ H' => ∃ w6 w7 w8 w9 w10 : Option V, σ = [some (.ref a), some (.ref TT), some (.int (0 + (i : Nat))), some (.int n), some (.ref t), some (.ref x), w6, w7, w8, w9, w10] ∧ ExT TT H8 H' ∧ Tp H' TT L)
      ⟨_, _, _, _, _, rfl, (L2.Same.refl _).exT, hT8⟩ ?_ (fun σ H' ⟨_, _, _, _, _, h1, _, h3⟩ => ⟨_, _, _, _, _, _, _, _, _, h1, h3⟩)⟩
    rintro j σ H9 hj ⟨w6, w7, w8, w9, w10, rfl, e9, hT9⟩
    have tk9 := hT8.tk e9
    have ht9 := tk9 _ _ ht8
    have hP9 := hP8.tk tk9
    obtain ⟨l8, hl8⟩ := hT8.lst
    have W9 := W.exT e9 hl8
    obtain ⟨iw, tw, yw, nw⟩ := web_item T CT W9
    refine ⟨_, rfl, _, rfl, _, rfl, _, rfl, TT, L, n, t, xs, .ref x, rfl, hT9, ht9, xlen, tse hP9, pairs_all hP9, (fun y hy => (pair_tse (pairs_all hP9 y hy).choose_spec).2), iw, tw, nw, yw, fun lv H10 e10 hT10 tT10 hv10 => ?_⟩
    have tk10 := hT9.tk e10
    -- other
    refine ⟨_, rfl, ?_⟩
    refine ⟨fun σ H' => ∃ ov : V, σ = [some (.ref a), some (.ref TT), some (.int (0 + (i : Nat))), some (.int n), some (.ref t), some (.ref x), some (.int (0 + (j : Nat))), some lv, some ov, w9, w10] ∧ Item K H' ov ∧ ThT K H' lv ∧ (∀ b, lv = .ref b → H' b ≠ none) ∧ ExT TT H8 H' ∧ Tp H' TT L, ?_, ?_⟩
    · refine ⟨_, rfl, TT, L, 3, rfl, by decide, by decide, hT10, fun r3 H11 _ _ e11 hT11 => ⟨rfl, _, rfl, ?_⟩⟩
      show (if decide (V.int r3 = V.int 0) = true then _ else _)
      refine onb (fun c => ?_) (fun c => ?_)
      · refine ⟨_, rfl, _, rfl, _, rfl, _, _, rfl, rfl, (by show 1 ≤ sizeLine; decide), fun o1 ho1 => ?_⟩
        have f1 := L2.Same.new (o := .tup [.int 3]) ho1
        refine fun o2 ho2 => ?_
        have f2 := L2.Same.new (o := .dK []) ho2
        refine ⟨rfl, fun o3 qq H12 f3 no3 ho3 iq tq => ?_⟩
        refine ⟨_, rfl, (by show 13 ≤ sizeLine; decide), fun D hD => ?_⟩
        have f4 := L2.Same.new (o := .lst [.int 0, .int (-1), .int 25, .int 24, .int (n + 1), .non, .bl true, .str "3", .int 3, .ref o1, .ref o2, .ref o3, .ref x]) hD
        have f14 := f1.trans (f2.trans (f3.trans f4))
        have hT13 := hT11.ext f14
        refine ⟨TT, L, D, _, rfl, hT13, upd_same, (hT11.ext (f1.trans (f2.trans f3))).neT hD, (by show 0 < 13; decide), (by show 13 ≤ 1000; decide), fun i5 ov H14 e14 hT14 hv => ?_⟩
        have iw14 : Item K H14 (.ref x) := ((((iw.tape hT9 hT10 e10)).tape hT10 hT11 e11).ext f14).tape hT13 hT14 e14
        have tk14 := hT13.tk e14
        refine ⟨ov, rfl, ?_, ((tT10.tape hT10 hT11 e11 hv10).ext f14 (there_tape hT11 e11 hv10)).tape hT13 hT14 e14 (there_same f14 (there_tape hT11 e11 hv10)), there_tape hT14 e14 (there_same f14 (there_tape hT11 e11 hv10)), ((e9.trans e10).trans e11).trans (f14.exT.trans e14), hT14⟩
        match i5, hv with
        | 0, hv => cases hv; exact .int _
        | 1, hv => cases hv; exact .int _
        | 2, hv => cases hv; exact .int _
        | 3, hv => cases hv; exact .int _
        | 4, hv => cases hv; exact .int _
        | 5, hv => cases hv; exact .non
        | 6, hv => cases hv; exact .bl _
        | 7, hv => cases hv; exact .str _
        | 8, hv => cases hv; exact .int _
        | 9, hv => cases hv; exact .tup (tk14 _ _ ((f2.trans (f3.trans f4)) _ _ upd_same))
        | 10, hv =>
          cases hv
          have mT : o2 ≠ TT := (hT11.ext f1).neT ho2
          exact .dK (e14 _ _ mT ((f3.trans f4) _ _ upd_same))
        | 11, hv => cases hv; exact .tup (tk14 _ _ (f4 _ _ ho3))
        | 12, hv => cases hv; exact iw14
        | i + 13, hv => simp at hv
      · exact ⟨_, rfl, .int n, tT10.tape hT10 hT11 e11 hv10, there_tape hT11 e11 hv10, (e9.trans e10).trans e11, hT11⟩
    rintro σ H11 ⟨ov, rfl, iO, tT11, hv11, e11, hT11⟩
    refine ⟨_, rfl, _, rfl, ov, lv, rfl, iO, tT11, hv11, fun y H12 hb s12 => ?_, fun hw H12 s12 => ?_⟩
    · have iO12 := iO.ext s12
      have tT12 := tT11.ext s12 hv11
      have hv12 := there_same s12 hv11
      refine ⟨_, rfl, _, rfl, ov, lv, rfl, iO12, tT12, hv12, fun y' p2 H13 hb' s13 hp2 => ?_, fun hw => ?_⟩
      · have ey := bad_one hb' (bad_any tT11 hv11 s12 hb)
        subst ey
        refine ⟨_, rfl, rfl, _, rfl, ?_⟩
        rw [decide_eq_false (bad_non hb)]
        refine iteT ⟨_, rfl, _, rfl, (by show 2 ≤ sizeLine; decide), fun q5 hq5 => ⟨.ref p2, .ref q5, rfl, ?_, fun H14 s14 => ⟨true, rfl, iteF ?_⟩⟩⟩
        · refine .inr ⟨p2, q5, _, _, rfl, rfl, .inl ⟨(L2.Same.new hq5) _ _ hp2, upd_same⟩, by show 2 ≤ 100000; decide, ?_⟩
          exact .cons (.inl (.inl ⟨rfl, rfl⟩)) (.cons (.inl (.inl ⟨rfl, bad_flat hb⟩)) .nil)
        · refine ⟨_, rfl, rfl, _, rfl, ?_⟩
          rw [decide_eq_false (bad_non hb)]
          refine iteF (iteF ?_)
          have s1 := s12.trans ((s13.new' hq5).trans s14)
          exact ⟨_, _, _, _, _, rfl, e11.trans s1.exT, hT11.ext s1⟩
      · exact (bad_web (bad_any tT11 hv11 s12 hb) hw).elim
    · have iO12 := iO.ext s12
      have tT12 := tT11.ext s12 hv11
      have hv12 := there_same s12 hv11
      refine ⟨_, rfl, _, rfl, ov, lv, rfl, iO12, tT12, hv12, fun y' p2 H13 hb' s13 hp2 => ?_, fun hw' p2 H13 s13 hp2 => ?_⟩
      · exact (bad_web hb' (web_any (K := K) s12 hw)).elim
      · refine ⟨_, rfl, rfl, _, rfl, iteF (iteF ?_)⟩
        refine ⟨_, rfl, rfl, _, rfl, iteT ?_⟩
        refine ⟨_, rfl, _, rfl, _, rfl, (by show 3 ≤ sizeLine; decide), fun q5 hq5 => ?_⟩
        have s5 := L2.Same.new (o := .tup [V.str "web", ov, lv]) hq5
        have s1 := s12.trans (s13.trans s5)
        obtain ⟨n', t', xs', rfl, _, _, rfl, ht', ps', hps', G'⟩ := hw
        rw [List.take_length] at hps'
        have ht14 := s1 _ _ ht'
        have hP14 := hps'.tk s1.tk
        have dpl : ∀ {H' : Hp} {b : Addr}, H' b = some (.tup [V.str "web", .int n', .ref t']) → H' t' = some (.tup xs') → Pairs H' xs' ps' → Dp K H' (.ref b) (.tuple [.str "web", .int n', .tuple (ps'.map pD)]) := fun h1 h2 h3 => .tup (SqT.of h1) (.cons (.str _) (.cons (.int _) (.cons (dp_ties h2 h3) .nil)))
        refine ⟨_, _, dpl (s5 _ _ hp2) ht14 hP14, dpl upd_same ht14 hP14, ?_⟩
        refine ⟨wD_shaped _ _, wD_shaped _ _, ?_⟩
        rw [wD_eqv]
        refine ⟨_, rfl, iteF ?_⟩
        exact ⟨_, _, _, _, _, rfl, e11.trans s1.exT, hT11.ext s1⟩
end
end Bs

namespace Bs
open PySem PySem.Spec PyProof.Rows L2
theorem kit_sub {K : PySem.W.Frag} {C : Addr} {T : String} {b : Bool} (hm : PySem.W.kitMeta T = true) (h : PySem.W.subIn K (.ref C) (.type T) = some b) : PySem.W.kitOne K (.ref C) (.type T) = some b := by
  unfold PySem.W.kitOne
  rw [if_neg (by simp)]
  show (if PySem.W.kitMeta T = true then _ else _) = _
  rw [if_pos hm]
  exact h
theorem kit_refs {K : PySem.W.Frag} {C D : Addr} (hd : PySem.W.hasDictIn K D = true) (ht : PySem.W.typeIn K (.ref D) = some (.type "type")) (hs : PySem.W.subIn K (.ref C) (.ref D) = some true) : PySem.W.kitOne K (.ref C) (.ref D) = some true := by
  obtain ⟨cd, hc, _⟩ := PySem.W.any_some hd
  have e2 : ((PySem.W.clsIn K D).isSome && PySem.W.typeIn K (.ref D) == some (.type "type")) = true := by rw [hc, ht] <;> rfl
  unfold PySem.W.kitOne
  split
  · rfl
  · show (if ((PySem.W.clsIn K D).isSome && PySem.W.typeIn K (.ref D) == some (.type "type")) = true then PySem.W.subIn K (.ref C) (.ref D) else none) = some true
    rw [if_pos e2]
    exact hs
theorem all_mk {l : PySem.W.OpenLaw} {w : World} {K : PySem.W.Frag} {h : Heap} {mg : Str → Option Value} {fa C_Web C_BadWeb : Addr} {tk : Tok} {C_WebError : Addr} {nm_BadWeb q_BadWeb : Str} {N_BadWeb : Addr} {bs_BadWeb : List Value} {sn_BadWeb : List Str} {sub_BadWeb : List Value} {ab_BadWeb : Bool} {col_BadWeb : Option Bool} {dd_BadWeb : Option Addr} {m0_BadWeb m1_BadWeb m2_BadWeb m3_BadWeb m5_BadWeb : Option Value} (X : K.In h) (G : h.Ns mainGlobals mg) (hfa : mg "law" = some (.ref fa))
    {f_is_integer : Addr} {oc_is_integer kV_is_integer dc_is_integer pm_is_integer cd_is_integer ct_is_integer : Value} {od_is_integer an_is_integer : Option Addr} {sl_is_integer : Array (Option Value)}
    {f_is_number : Addr} {oc_is_number kV_is_number dc_is_number pm_is_number cd_is_number ct_is_number : Value} {od_is_number an_is_number : Option Addr} {sl_is_number : Array (Option Value)}
    {f_is_tie : Addr} {oc_is_tie kV_is_tie dc_is_tie pm_is_tie cd_is_tie ct_is_tie : Value} {od_is_tie an_is_tie : Option Addr} {sl_is_tie : Array (Option Value)}
    {f_wrong_tie : Addr} {oc_wrong_tie kV_wrong_tie dc_wrong_tie pm_wrong_tie cd_wrong_tie ct_wrong_tie : Value} {od_wrong_tie an_wrong_tie : Option Addr} {sl_wrong_tie : Array (Option Value)}
    {f__law_tape : Addr} {oc__law_tape kV__law_tape dc__law_tape pm__law_tape cd__law_tape ct__law_tape : Value} {od__law_tape an__law_tape : Option Addr} {sl__law_tape : Array (Option Value)}
    {f__law_pick : Addr} {oc__law_pick kV__law_pick dc__law_pick pm__law_pick cd__law_pick ct__law_pick : Value} {od__law_pick an__law_pick : Option Addr} {sl__law_pick : Array (Option Value)}
    {f__law_is_integer : Addr} {oc__law_is_integer kV__law_is_integer dc__law_is_integer pm__law_is_integer cd__law_is_integer ct__law_is_integer : Value} {od__law_is_integer an__law_is_integer : Option Addr} {sl__law_is_integer : Array (Option Value)}
    {f__law_is_lot : Addr} {oc__law_is_lot kV__law_is_lot dc__law_is_lot pm__law_is_lot cd__law_is_lot ct__law_is_lot : Value} {od__law_is_lot an__law_is_lot : Option Addr} {sl__law_is_lot : Array (Option Value)}
    {f__law_same : Addr} {oc__law_same kV__law_same dc__law_same pm__law_same cd__law_same ct__law_same : Value} {od__law_same an__law_same : Option Addr} {sl__law_same : Array (Option Value)}
    {f__law_deep : Addr} {oc__law_deep kV__law_deep dc__law_deep pm__law_deep cd__law_deep ct__law_deep : Value} {od__law_deep an__law_deep : Option Addr} {sl__law_deep : Array (Option Value)}
    {f__law_any : Addr} {oc__law_any kV__law_any dc__law_any pm__law_any cd__law_any ct__law_any : Value} {od__law_any an__law_any : Option Addr} {sl__law_any : Array (Option Value)}
    {f__law_mixed : Addr} {oc__law_mixed kV__law_mixed dc__law_mixed pm__law_mixed cd__law_mixed ct__law_mixed : Value} {od__law_mixed an__law_mixed : Option Addr} {sl__law_mixed : Array (Option Value)}
    {f__law_web : Addr} {oc__law_web kV__law_web dc__law_web pm__law_web cd__law_web ct__law_web : Value} {od__law_web an__law_web : Option Addr} {sl__law_web : Array (Option Value)}
    {f__law_odd : Addr} {oc__law_odd kV__law_odd dc__law_odd pm__law_odd cd__law_odd ct__law_odd : Value} {od__law_odd an__law_odd : Option Addr} {sl__law_odd : Array (Option Value)}
    {f__law_fault : Addr} {oc__law_fault kV__law_fault dc__law_fault pm__law_fault cd__law_fault ct__law_fault : Value} {od__law_fault an__law_fault : Option Addr} {sl__law_fault : Array (Option Value)}
    {f__law_bent : Addr} {oc__law_bent kV__law_bent dc__law_bent pm__law_bent cd__law_bent ct__law_bent : Value} {od__law_bent an__law_bent : Option Addr} {sl__law_bent : Array (Option Value)}
    {f__law_told : Addr} {oc__law_told kV__law_told dc__law_told pm__law_told cd__law_told ct__law_told : Value} {od__law_told an__law_told : Option Addr} {sl__law_told : Array (Option Value)}
    {f_law : Addr} {oc_law kV_law dc_law pm_law cd_law ct_law : Value} {od_law an_law : Option Addr} {sl_law : Array (Option Value)}
    {f_Web_init : Addr} {oc_Web_init kV_Web_init dc_Web_init pm_Web_init cd_Web_init ct_Web_init : Value} {od_Web_init an_Web_init : Option Addr} {sl_Web_init : Array (Option Value)}
    {f_BadWeb_init : Addr} {oc_BadWeb_init kV_BadWeb_init dc_BadWeb_init pm_BadWeb_init cd_BadWeb_init ct_BadWeb_init : Value} {od_BadWeb_init an_BadWeb_init : Option Addr} {sl_BadWeb_init : Array (Option Value)}
    (a_Web : PySem.W.nsIn K mainGlobals "Web" = some (some (.ref C_Web)))
    (a_MP : PySem.W.nsIn K mainGlobals "MOST_PARTS" = some (some (.int 24 tk)))
    (pg : PySem.W.plainGet K C_Web Str.empty = true)
    (hd : PySem.W.hasDictIn K C_Web = true)
    (po : PySem.W.plainOver K C_Web = true)
    (sa : PySem.W.findIn K (.ref C_Web) "__setattr__" = some (some (.builtin "object.__setattr__")))
    (mk : PySem.W.makesIn K C_Web = true)
    (kc : PySem.W.keepIn K (.ref C_Web) = true)
    (nS : PySem.W.findIn K (.ref C_Web) "size" = some none)
    (nT : PySem.W.findIn K (.ref C_Web) "ties" = some none)
    (xc : PySem.W.findIn K (.ref C_Web) "__class__" = some (some (.builtin "object.__class__")))
    (xg : PySem.W.specialIn K (.builtin "object.__class__") "__get__" = some (some (.builtin "getset_descriptor.__get__")))
    (xt : PySem.W.takesIn K (.builtin "object.__class__") = some true)
    (xm : PySem.W.mroIn K C_Web (.type "object") = some true)
    (a_BadWeb : PySem.W.nsIn K mainGlobals "BadWeb" = some (some (.ref C_BadWeb)))
    (L_BadWeb : K.lookup C_BadWeb = some (excClassObj nm_BadWeb q_BadWeb C_BadWeb N_BadWeb bs_BadWeb [.ref C_WebError, .type "ValueError", .type "Exception", .type "BaseException", .type "object"] true sn_BadWeb sub_BadWeb ab_BadWeb col_BadWeb dd_BadWeb m0_BadWeb m1_BadWeb m2_BadWeb m3_BadWeb m5_BadWeb "ValueError.__new__"))
    (sa_BadWeb : PySem.W.findIn K (.ref C_BadWeb) "__setattr__" = some (some (.builtin "object.__setattr__")))
    (ex_BadWeb : PySem.W.subIn K (.ref C_BadWeb) (.type "BaseException") = some true)
    (ty_BadWeb : PySem.W.typeIn K (.ref C_BadWeb) = some (.type "type"))
    (kc_BadWeb : PySem.W.keepIn K (.ref C_BadWeb) = true)
    (ga_BadWeb : PySem.W.findIn K (.ref C_BadWeb) "__getattribute__" = some (some (.builtin "BaseException.__getattribute__")))
    (gg_BadWeb : PySem.W.findIn K (.ref C_BadWeb) "__getattr__" = some none)
    (hd_BadWeb : PySem.W.hasDictIn K C_BadWeb = true)
    (cl_BadWeb : PySem.W.findIn K (.ref C_BadWeb) "__class__" = some (some (.builtin "object.__class__")))
    (mr_BadWeb : PySem.W.mroIn K C_BadWeb (.type "object") = some true)
    (ss_BadWeb : PySem.W.subIn K (.ref C_BadWeb) (.ref C_BadWeb) = some true)
    (sw_BadWeb : PySem.W.subIn K (.ref C_BadWeb) (.ref C_WebError) = some true)
    (no_BadWeb : PySem.W.findIn K (.ref C_BadWeb) "part" = some none)
    (a_WebError : PySem.W.nsIn K mainGlobals "WebError" = some (some (.ref C_WebError)))
    (hd_WebError : PySem.W.hasDictIn K C_WebError = true)
    (ty_WebError : PySem.W.typeIn K (.ref C_WebError) = some (.type "type"))
    (ki : PySem.W.subIn K (.ref C_Web) (.type "int") = some false)
    (kt : PySem.W.subIn K (.ref C_Web) (.type "tuple") = some false)
    (a_is_integer : PySem.W.nsIn K mainGlobals "is_integer" = some (some (.ref f_is_integer)))
    (l_is_integer : K.lookup f_is_integer = some ⟨oc_is_integer, od_is_integer, .func (PySem.W.fnOf "is_integer" "is_integer" (defArgs s_is_integer) (defBody s_is_integer) (defScope s_is_integer) .none kV_is_integer dc_is_integer pm_is_integer an_is_integer cd_is_integer ct_is_integer), sl_is_integer⟩)
    (c_is_integer : PySem.W.codeIn K cd_is_integer "is_integer" = true)
    (k_is_integer : PySem.W.keepIn K (.ref f_is_integer) = true)
    (a_is_number : PySem.W.nsIn K mainGlobals "is_number" = some (some (.ref f_is_number)))
    (l_is_number : K.lookup f_is_number = some ⟨oc_is_number, od_is_number, .func (PySem.W.fnOf "is_number" "is_number" (defArgs s_is_number) (defBody s_is_number) (defScope s_is_number) .none kV_is_number dc_is_number pm_is_number an_is_number cd_is_number ct_is_number), sl_is_number⟩)
    (c_is_number : PySem.W.codeIn K cd_is_number "is_number" = true)
    (k_is_number : PySem.W.keepIn K (.ref f_is_number) = true)
    (a_is_tie : PySem.W.nsIn K mainGlobals "is_tie" = some (some (.ref f_is_tie)))
    (l_is_tie : K.lookup f_is_tie = some ⟨oc_is_tie, od_is_tie, .func (PySem.W.fnOf "is_tie" "is_tie" (defArgs s_is_tie) (defBody s_is_tie) (defScope s_is_tie) .none kV_is_tie dc_is_tie pm_is_tie an_is_tie cd_is_tie ct_is_tie), sl_is_tie⟩)
    (c_is_tie : PySem.W.codeIn K cd_is_tie "is_tie" = true)
    (k_is_tie : PySem.W.keepIn K (.ref f_is_tie) = true)
    (a_wrong_tie : PySem.W.nsIn K mainGlobals "wrong_tie" = some (some (.ref f_wrong_tie)))
    (l_wrong_tie : K.lookup f_wrong_tie = some ⟨oc_wrong_tie, od_wrong_tie, .func (PySem.W.fnOf "wrong_tie" "wrong_tie" (defArgs s_wrong_tie) (defBody s_wrong_tie) (defScope s_wrong_tie) .none kV_wrong_tie dc_wrong_tie pm_wrong_tie an_wrong_tie cd_wrong_tie ct_wrong_tie), sl_wrong_tie⟩)
    (c_wrong_tie : PySem.W.codeIn K cd_wrong_tie "wrong_tie" = true)
    (k_wrong_tie : PySem.W.keepIn K (.ref f_wrong_tie) = true)
    (a__law_tape : PySem.W.nsIn K mainGlobals "_law_tape" = some (some (.ref f__law_tape)))
    (l__law_tape : K.lookup f__law_tape = some ⟨oc__law_tape, od__law_tape, .func (PySem.W.fnOf "_law_tape" "_law_tape" (defArgs s__law_tape) (defBody s__law_tape) (defScope s__law_tape) .none kV__law_tape dc__law_tape pm__law_tape an__law_tape cd__law_tape ct__law_tape), sl__law_tape⟩)
    (c__law_tape : PySem.W.codeIn K cd__law_tape "_law_tape" = true)
    (k__law_tape : PySem.W.keepIn K (.ref f__law_tape) = true)
    (a__law_pick : PySem.W.nsIn K mainGlobals "_law_pick" = some (some (.ref f__law_pick)))
    (l__law_pick : K.lookup f__law_pick = some ⟨oc__law_pick, od__law_pick, .func (PySem.W.fnOf "_law_pick" "_law_pick" (defArgs s__law_pick) (defBody s__law_pick) (defScope s__law_pick) .none kV__law_pick dc__law_pick pm__law_pick an__law_pick cd__law_pick ct__law_pick), sl__law_pick⟩)
    (c__law_pick : PySem.W.codeIn K cd__law_pick "_law_pick" = true)
    (k__law_pick : PySem.W.keepIn K (.ref f__law_pick) = true)
    (a__law_is_integer : PySem.W.nsIn K mainGlobals "_law_is_integer" = some (some (.ref f__law_is_integer)))
    (l__law_is_integer : K.lookup f__law_is_integer = some ⟨oc__law_is_integer, od__law_is_integer, .func (PySem.W.fnOf "_law_is_integer" "_law_is_integer" (defArgs s__law_is_integer) (defBody s__law_is_integer) (defScope s__law_is_integer) .none kV__law_is_integer dc__law_is_integer pm__law_is_integer an__law_is_integer cd__law_is_integer ct__law_is_integer), sl__law_is_integer⟩)
    (c__law_is_integer : PySem.W.codeIn K cd__law_is_integer "_law_is_integer" = true)
    (k__law_is_integer : PySem.W.keepIn K (.ref f__law_is_integer) = true)
    (a__law_is_lot : PySem.W.nsIn K mainGlobals "_law_is_lot" = some (some (.ref f__law_is_lot)))
    (l__law_is_lot : K.lookup f__law_is_lot = some ⟨oc__law_is_lot, od__law_is_lot, .func (PySem.W.fnOf "_law_is_lot" "_law_is_lot" (defArgs s__law_is_lot) (defBody s__law_is_lot) (defScope s__law_is_lot) .none kV__law_is_lot dc__law_is_lot pm__law_is_lot an__law_is_lot cd__law_is_lot ct__law_is_lot), sl__law_is_lot⟩)
    (c__law_is_lot : PySem.W.codeIn K cd__law_is_lot "_law_is_lot" = true)
    (k__law_is_lot : PySem.W.keepIn K (.ref f__law_is_lot) = true)
    (a__law_same : PySem.W.nsIn K mainGlobals "_law_same" = some (some (.ref f__law_same)))
    (l__law_same : K.lookup f__law_same = some ⟨oc__law_same, od__law_same, .func (PySem.W.fnOf "_law_same" "_law_same" (defArgs s__law_same) (defBody s__law_same) (defScope s__law_same) .none kV__law_same dc__law_same pm__law_same an__law_same cd__law_same ct__law_same), sl__law_same⟩)
    (c__law_same : PySem.W.codeIn K cd__law_same "_law_same" = true)
    (k__law_same : PySem.W.keepIn K (.ref f__law_same) = true)
    (a__law_deep : PySem.W.nsIn K mainGlobals "_law_deep" = some (some (.ref f__law_deep)))
    (l__law_deep : K.lookup f__law_deep = some ⟨oc__law_deep, od__law_deep, .func (PySem.W.fnOf "_law_deep" "_law_deep" (defArgs s__law_deep) (defBody s__law_deep) (defScope s__law_deep) .none kV__law_deep dc__law_deep pm__law_deep an__law_deep cd__law_deep ct__law_deep), sl__law_deep⟩)
    (c__law_deep : PySem.W.codeIn K cd__law_deep "_law_deep" = true)
    (k__law_deep : PySem.W.keepIn K (.ref f__law_deep) = true)
    (a__law_any : PySem.W.nsIn K mainGlobals "_law_any" = some (some (.ref f__law_any)))
    (l__law_any : K.lookup f__law_any = some ⟨oc__law_any, od__law_any, .func (PySem.W.fnOf "_law_any" "_law_any" (defArgs s__law_any) (defBody s__law_any) (defScope s__law_any) .none kV__law_any dc__law_any pm__law_any an__law_any cd__law_any ct__law_any), sl__law_any⟩)
    (c__law_any : PySem.W.codeIn K cd__law_any "_law_any" = true)
    (k__law_any : PySem.W.keepIn K (.ref f__law_any) = true)
    (a__law_mixed : PySem.W.nsIn K mainGlobals "_law_mixed" = some (some (.ref f__law_mixed)))
    (l__law_mixed : K.lookup f__law_mixed = some ⟨oc__law_mixed, od__law_mixed, .func (PySem.W.fnOf "_law_mixed" "_law_mixed" (defArgs s__law_mixed) (defBody s__law_mixed) (defScope s__law_mixed) .none kV__law_mixed dc__law_mixed pm__law_mixed an__law_mixed cd__law_mixed ct__law_mixed), sl__law_mixed⟩)
    (c__law_mixed : PySem.W.codeIn K cd__law_mixed "_law_mixed" = true)
    (k__law_mixed : PySem.W.keepIn K (.ref f__law_mixed) = true)
    (a__law_web : PySem.W.nsIn K mainGlobals "_law_web" = some (some (.ref f__law_web)))
    (l__law_web : K.lookup f__law_web = some ⟨oc__law_web, od__law_web, .func (PySem.W.fnOf "_law_web" "_law_web" (defArgs s__law_web) (defBody s__law_web) (defScope s__law_web) .none kV__law_web dc__law_web pm__law_web an__law_web cd__law_web ct__law_web), sl__law_web⟩)
    (c__law_web : PySem.W.codeIn K cd__law_web "_law_web" = true)
    (k__law_web : PySem.W.keepIn K (.ref f__law_web) = true)
    (a__law_odd : PySem.W.nsIn K mainGlobals "_law_odd" = some (some (.ref f__law_odd)))
    (l__law_odd : K.lookup f__law_odd = some ⟨oc__law_odd, od__law_odd, .func (PySem.W.fnOf "_law_odd" "_law_odd" (defArgs s__law_odd) (defBody s__law_odd) (defScope s__law_odd) .none kV__law_odd dc__law_odd pm__law_odd an__law_odd cd__law_odd ct__law_odd), sl__law_odd⟩)
    (c__law_odd : PySem.W.codeIn K cd__law_odd "_law_odd" = true)
    (k__law_odd : PySem.W.keepIn K (.ref f__law_odd) = true)
    (a__law_fault : PySem.W.nsIn K mainGlobals "_law_fault" = some (some (.ref f__law_fault)))
    (l__law_fault : K.lookup f__law_fault = some ⟨oc__law_fault, od__law_fault, .func (PySem.W.fnOf "_law_fault" "_law_fault" (defArgs s__law_fault) (defBody s__law_fault) (defScope s__law_fault) .none kV__law_fault dc__law_fault pm__law_fault an__law_fault cd__law_fault ct__law_fault), sl__law_fault⟩)
    (c__law_fault : PySem.W.codeIn K cd__law_fault "_law_fault" = true)
    (k__law_fault : PySem.W.keepIn K (.ref f__law_fault) = true)
    (a__law_bent : PySem.W.nsIn K mainGlobals "_law_bent" = some (some (.ref f__law_bent)))
    (l__law_bent : K.lookup f__law_bent = some ⟨oc__law_bent, od__law_bent, .func (PySem.W.fnOf "_law_bent" "_law_bent" (defArgs s__law_bent) (defBody s__law_bent) (defScope s__law_bent) .none kV__law_bent dc__law_bent pm__law_bent an__law_bent cd__law_bent ct__law_bent), sl__law_bent⟩)
    (c__law_bent : PySem.W.codeIn K cd__law_bent "_law_bent" = true)
    (k__law_bent : PySem.W.keepIn K (.ref f__law_bent) = true)
    (a__law_told : PySem.W.nsIn K mainGlobals "_law_told" = some (some (.ref f__law_told)))
    (l__law_told : K.lookup f__law_told = some ⟨oc__law_told, od__law_told, .func (PySem.W.fnOf "_law_told" "_law_told" (defArgs s__law_told) (defBody s__law_told) (defScope s__law_told) .none kV__law_told dc__law_told pm__law_told an__law_told cd__law_told ct__law_told), sl__law_told⟩)
    (c__law_told : PySem.W.codeIn K cd__law_told "_law_told" = true)
    (k__law_told : PySem.W.keepIn K (.ref f__law_told) = true)
    (a_law : PySem.W.nsIn K mainGlobals "law" = some (some (.ref f_law)))
    (l_law : K.lookup f_law = some ⟨oc_law, od_law, .func (PySem.W.fnOf "law" "law" (defArgs s_law) (defBody s_law) (defScope s_law) .none kV_law dc_law pm_law an_law cd_law ct_law), sl_law⟩)
    (c_law : PySem.W.codeIn K cd_law "law" = true)
    (k_law : PySem.W.keepIn K (.ref f_law) = true)
    (a_Web_init : PySem.W.findIn K (.ref C_Web) "__init__" = some (some (.ref f_Web_init)))
    (i_Web_init : PySem.W.isFn K (.ref f_Web_init) = true)
    (l_Web_init : K.lookup f_Web_init = some ⟨oc_Web_init, od_Web_init, .func (PySem.W.fnOf "__init__" "Web.__init__" (defArgs s_Web_init) (defBody s_Web_init) (defScope s_Web_init) .none kV_Web_init dc_Web_init pm_Web_init an_Web_init cd_Web_init ct_Web_init), sl_Web_init⟩)
    (c_Web_init : PySem.W.codeIn K cd_Web_init "Web.__init__" = true)
    (k_Web_init : PySem.W.keepIn K (.ref f_Web_init) = true)
    (a_BadWeb_init : PySem.W.findIn K (.ref C_BadWeb) "__init__" = some (some (.ref f_BadWeb_init)))
    (i_BadWeb_init : PySem.W.isFn K (.ref f_BadWeb_init) = true)
    (l_BadWeb_init : K.lookup f_BadWeb_init = some ⟨oc_BadWeb_init, od_BadWeb_init, .func (PySem.W.fnOf "__init__" "BadWeb.__init__" (defArgs s_BadWeb_init) (defBody s_BadWeb_init) (defScope s_BadWeb_init) .none kV_BadWeb_init dc_BadWeb_init pm_BadWeb_init an_BadWeb_init cd_BadWeb_init ct_BadWeb_init), sl_BadWeb_init⟩)
    (c_BadWeb_init : PySem.W.codeIn K cd_BadWeb_init "BadWeb.__init__" = true)
    (k_BadWeb_init : PySem.W.keepIn K (.ref f_BadWeb_init) = true)
    (z_isinstance : PySem.W.nsIn K mainGlobals "isinstance" = some none)
    (z_len : PySem.W.nsIn K mainGlobals "len" = some none)
    (z_sorted : PySem.W.nsIn K mainGlobals "sorted" = some none)
    (z_min : PySem.W.nsIn K mainGlobals "min" = some none)
    (z_max : PySem.W.nsIn K mainGlobals "max" = some none)
    (z_all : PySem.W.nsIn K mainGlobals "all" = some none)
    (z_zip : PySem.W.nsIn K mainGlobals "zip" = some none)
    (z_range : PySem.W.nsIn K mainGlobals "range" = some none)
    (z_enumerate : PySem.W.nsIn K mainGlobals "enumerate" = some none)
    (z_int : PySem.W.nsIn K mainGlobals "int" = some none)
    (z_bool : PySem.W.nsIn K mainGlobals "bool" = some none)
    (z_str : PySem.W.nsIn K mainGlobals "str" = some none)
    (z_list : PySem.W.nsIn K mainGlobals "list" = some none)
    (z_tuple : PySem.W.nsIn K mainGlobals "tuple" = some none) :
    ∃ fd : FuncData, (∀ (s : Shared) (v : Value), BindsTo s fd ⟨[v], []⟩ [("script", v)]) ∧ ∀ base : Heap, K.In base → base.Ns mainGlobals mg → FnOk l.prog w K mg base CX0 8 fa fd ["script"] (sp_law (K := K)) := by
  have e := hfa.symm.trans (PySem.W.mg_of X G a_law)
  cases e
  have B : Bl mg := ⟨PySem.W.mg_none_of X G z_isinstance, PySem.W.mg_none_of X G z_len, PySem.W.mg_none_of X G z_sorted, PySem.W.mg_none_of X G z_min, PySem.W.mg_none_of X G z_max, PySem.W.mg_none_of X G z_all, PySem.W.mg_none_of X G z_zip, PySem.W.mg_none_of X G z_range, PySem.W.mg_none_of X G z_enumerate, PySem.W.mg_none_of X G z_int, PySem.W.mg_none_of X G z_bool, PySem.W.mg_none_of X G z_str, PySem.W.mg_none_of X G z_list, PySem.W.mg_none_of X G z_tuple⟩
  have T : Txt K mg C_Web := ⟨⟨pg, hd, po, sa⟩, nS, nT, PySem.W.mg_of X G a_Web, ⟨_, PySem.W.mg_of X G a_MP⟩, xc, xg, xt, xm⟩
  have CT : ClsTy K C_Web := ⟨kit_sub (by decide +kernel) ki, kit_sub (by decide +kernel) kt⟩
  have OX : OexC K C_BadWeb := ⟨⟨_, _, _, _, _, _, _, _, _, _, _, _, _, _, _, L_BadWeb, rfl⟩, sa_BadWeb, ex_BadWeb, ty_BadWeb, kc_BadWeb⟩
  have XF : XfC K C_BadWeb := ⟨ga_BadWeb, gg_BadWeb, ex_BadWeb, hd_BadWeb⟩
  have EC : ExcC K C_BadWeb := ⟨ga_BadWeb, gg_BadWeb, ex_BadWeb, hd_BadWeb, cl_BadWeb, xg, xt, mr_BadWeb⟩
  have ex : PySem.W.exmOne K (.ref C_BadWeb) (.ref C_BadWeb) = some true := PySem.W.exm_ref ex_BadWeb hd_BadWeb ty_BadWeb ss_BadWeb
  have kw : PySem.W.kitOne K (.ref C_BadWeb) (.ref C_WebError) = some true := kit_refs hd_WebError ty_WebError sw_BadWeb
  have F_is_integer := fun_mk (st := s_is_integer) l_is_integer c_is_integer k_is_integer
  have m_is_integer := PySem.W.mg_of X G a_is_integer
  have F_is_number := fun_mk (st := s_is_number) l_is_number c_is_number k_is_number
  have m_is_number := PySem.W.mg_of X G a_is_number
  have F_is_tie := fun_mk (st := s_is_tie) l_is_tie c_is_tie k_is_tie
  have m_is_tie := PySem.W.mg_of X G a_is_tie
  have F_wrong_tie := fun_mk (st := s_wrong_tie) l_wrong_tie c_wrong_tie k_wrong_tie
  have m_wrong_tie := PySem.W.mg_of X G a_wrong_tie
  have F__law_tape := fun_mk (st := s__law_tape) l__law_tape c__law_tape k__law_tape
  have m__law_tape := PySem.W.mg_of X G a__law_tape
  have F__law_pick := fun_mk (st := s__law_pick) l__law_pick c__law_pick k__law_pick
  have m__law_pick := PySem.W.mg_of X G a__law_pick
  have F__law_is_integer := fun_mk (st := s__law_is_integer) l__law_is_integer c__law_is_integer k__law_is_integer
  have m__law_is_integer := PySem.W.mg_of X G a__law_is_integer
  have F__law_is_lot := fun_mk (st := s__law_is_lot) l__law_is_lot c__law_is_lot k__law_is_lot
  have m__law_is_lot := PySem.W.mg_of X G a__law_is_lot
  have F__law_same := fun_mk (st := s__law_same) l__law_same c__law_same k__law_same
  have m__law_same := PySem.W.mg_of X G a__law_same
  have F__law_deep := fun_mk (st := s__law_deep) l__law_deep c__law_deep k__law_deep
  have m__law_deep := PySem.W.mg_of X G a__law_deep
  have F__law_any := fun_mk (st := s__law_any) l__law_any c__law_any k__law_any
  have m__law_any := PySem.W.mg_of X G a__law_any
  have F__law_mixed := fun_mk (st := s__law_mixed) l__law_mixed c__law_mixed k__law_mixed
  have m__law_mixed := PySem.W.mg_of X G a__law_mixed
  have F__law_web := fun_mk (st := s__law_web) l__law_web c__law_web k__law_web
  have m__law_web := PySem.W.mg_of X G a__law_web
  have F__law_odd := fun_mk (st := s__law_odd) l__law_odd c__law_odd k__law_odd
  have m__law_odd := PySem.W.mg_of X G a__law_odd
  have F__law_fault := fun_mk (st := s__law_fault) l__law_fault c__law_fault k__law_fault
  have m__law_fault := PySem.W.mg_of X G a__law_fault
  have F__law_bent := fun_mk (st := s__law_bent) l__law_bent c__law_bent k__law_bent
  have m__law_bent := PySem.W.mg_of X G a__law_bent
  have F__law_told := fun_mk (st := s__law_told) l__law_told c__law_told k__law_told
  have m__law_told := PySem.W.mg_of X G a__law_told
  have F_law := fun_mk (st := s_law) l_law c_law k_law
  have m_law := PySem.W.mg_of X G a_law
  have F_Web_init := fun_mk (st := s_Web_init) l_Web_init c_Web_init k_Web_init
  have F_BadWeb_init := fun_mk (st := s_BadWeb_init) l_BadWeb_init c_BadWeb_init k_BadWeb_init
  refine ⟨PySem.W.fnOf "law" "law" (defArgs s_law) (defBody s_law) (defScope s_law) .none kV_law dc_law pm_law an_law cd_law ct_law, fun s v => .of_eq rfl, fun base _ _ => ?_⟩
  have c1 := ok_is_integer (P := l.prog) (w := w) (base := base) F_is_integer m_is_integer B
  have c2 := ok_is_number F_is_number m_is_number B c1
  have c5 := ok_is_tie F_is_tie m_is_tie B c2
  have c6 := ok_wrong_tie F_wrong_tie m_wrong_tie B c5
  have wI := ok_Web_init F_Web_init B T c2 c6
  have bI := F_Web_init.binds (ps := ["self", "size", "ties"]) fun _ _ _ _ _ _ us hl => match us, hl with | [_, _, _], _ => rfl
  have mW : Mkc l.prog w K mg base 5 C_Web "Web" ["self", "size", "ties"] (sp_Web_init C_Web) := ⟨f_Web_init, _, ⟨mk, a_Web_init, i_Web_init, kc⟩, wI, T.mg_Web, bI⟩
  have bB := F_BadWeb_init.binds (ps := ["self", "part"]) fun _ _ _ _ _ _ us hl => match us, hl with | [_, _], _ => rfl
  have BT : BadT l.prog w K mg base C_BadWeb f_BadWeb_init _ := ⟨OX, no_BadWeb, PySem.W.mg_of X G a_BadWeb, a_BadWeb_init, beq_iff_eq.mp i_BadWeb_init, ok_BadWeb_init F_BadWeb_init B, bB⟩
  have g1 := ok_is_integerA (P := l.prog) (w := w) (base := base) F_is_integer m_is_integer B
  have g2 := ok_is_numberA F_is_number m_is_number B g1
  have g3 := ok_is_tieA F_is_tie m_is_tie B g2
  have g4 := ok_wrong_tieA F_wrong_tie m_wrong_tie B g3
  have wX := ok_Web_initX F_Web_init B T BT g2 g4
  have t1 := ok_law_tape (P := l.prog) (w := w) (base := base) F__law_tape m__law_tape B
  have t2 := ok_law_pick (P := l.prog) (w := w) (base := base) F__law_pick m__law_pick B
  have t3 := ok_law_is_integer (P := l.prog) (w := w) (base := base) F__law_is_integer m__law_is_integer B
  have t4 : Cal l.prog w K mg base 5 "_law_same" ["told", "due"] (spSame 3) := ⟨_, _, ok_law_same F__law_same m__law_same B t3 3, m__law_same, F__law_same.kp, F__law_same.binds (ps := ["told", "due"]) fun _ _ _ _ _ _ us hl => match us, hl with | [_, _], _ => rfl⟩
  have t5 := ok_law_mixed F__law_mixed m__law_mixed B t2
  have t6 := ok_law_web F__law_web m__law_web B t2 t5
  have e2 := ok_law_any F__law_any m__law_any B t2
  have f1 := ok_law_is_integerA (P := l.prog) (w := w) (base := base) (K := K) F__law_is_integer m__law_is_integer B
  have f3 := ok_law_is_lot F__law_is_lot m__law_is_lot B f1
  have f5 := ok_law_deep (P := l.prog) (w := w) (base := base) (K := K) F__law_deep m__law_deep B
  have f5E := ok_law_deepE (P := l.prog) (w := w) (base := base) (K := K) F__law_deep m__law_deep B
  have f6 := ok_law_oddE F__law_odd m__law_odd B f5 e2
  have f7 := ok_law_bent F__law_bent m__law_bent B t2 f6 f5E e2
  have f8 := ok_law_fault F__law_fault m__law_fault B f1 f3
  have f9 := ok_law_told F__law_told m__law_told B T BT ⟨mk, a_Web_init, i_Web_init, kc⟩ wX bI (PySem.W.mg_of X G a_WebError) XF EC ex kw
  exact ok_law F_law B T CT mW t1 t2 t4 e2 f5E t6 f7 f9 f8
theorem walk {l : PySem.W.OpenLaw} {q : Program} {loose : List Str} {XP : (Str → Option Value) → Heap → Prop} {YP : World → Heap → Prop} {d : DefRec} {K : Params → PySem.W.Frag} (hn : l.most = some 63) (hdf : d.params.defaults = [])
    (hY : ∀ (w : World) (h : Heap), YP w h → (K w.params).In h)
    (F : ∀ (w : World) (mg : Str → Option Value) (fa : Addr) (h : Heap), (K w.params).In h → h.Ns mainGlobals mg → mg d.name = some (.ref fa) →
      ∃ fd : FuncData, (∀ (s : Shared) (u : Value), BindsTo s fd ⟨[u], []⟩ [("script", u)]) ∧ ∀ base : Heap, (K w.params).In base → base.Ns mainGlobals mg → FnOk l.prog w (K w.params) mg base CX0 8 fa fd ["script"] (sp_law (K w.params))) :
    PySem.W.WalkO q loose XP YP l.row.toRowW d [] (fun f vs => PySem.call f vs) :=
  L2.walk_of (n := 63) (k := 8) (x := "script") (CX := fun _ => CX0) (sp := fun w => sp_law (K w.params)) hn (by decide) hdf ⟨rfl, by decide, by decide⟩ hY F (fun _ _ a ns hl _ hS => ⟨a, ns, rfl, hS, fun _ => rfl⟩) fun _ _ _ _ _ z => z
end Bs

open PySem PySem.W PyProof.Rows in
set_option maxRecDepth 100000 in
set_option maxHeartbeats 0 in
theorem PySem.Challenge.cw_silencers_k01_webs_judged_holds : PySem.Challenge.rw_silencers_k01_webs_judged.Holds := by
  w_on; o_law; k_head; (case hw => w_witness2)
  k_fill
  refine Bs.walk (l := PySem.Challenge.rw_silencers_k01_webs_judged) rfl rfl (fun w h Y => PySem.W.kIn_of Y) ?F
  case F =>
    intro w mg fa h KX G hmg
    refine' Bs.all_mk KX G hmg ?a_Web ?a_MP ?pg ?hd ?po ?sa ?mk ?kc ?nS ?nT ?xc ?xg ?xt ?xm ?a_BadWeb ?L_BadWeb ?sa_BadWeb ?ex_BadWeb ?ty_BadWeb ?kc_BadWeb ?ga_BadWeb ?gg_BadWeb ?hd_BadWeb ?cl_BadWeb ?mr_BadWeb ?ss_BadWeb ?sw_BadWeb ?no_BadWeb ?a_WebError ?hd_WebError ?ty_WebError ?ki ?kt ?a_is_integer ?l_is_integer ?c_is_integer ?k_is_integer ?a_is_number ?l_is_number ?c_is_number ?k_is_number ?a_is_tie ?l_is_tie ?c_is_tie ?k_is_tie ?a_wrong_tie ?l_wrong_tie ?c_wrong_tie ?k_wrong_tie ?a__law_tape ?l__law_tape ?c__law_tape ?k__law_tape ?a__law_pick ?l__law_pick ?c__law_pick ?k__law_pick ?a__law_is_integer ?l__law_is_integer ?c__law_is_integer ?k__law_is_integer ?a__law_is_lot ?l__law_is_lot ?c__law_is_lot ?k__law_is_lot ?a__law_same ?l__law_same ?c__law_same ?k__law_same ?a__law_deep ?l__law_deep ?c__law_deep ?k__law_deep ?a__law_any ?l__law_any ?c__law_any ?k__law_any ?a__law_mixed ?l__law_mixed ?c__law_mixed ?k__law_mixed ?a__law_web ?l__law_web ?c__law_web ?k__law_web ?a__law_odd ?l__law_odd ?c__law_odd ?k__law_odd ?a__law_fault ?l__law_fault ?c__law_fault ?k__law_fault ?a__law_bent ?l__law_bent ?c__law_bent ?k__law_bent ?a__law_told ?l__law_told ?c__law_told ?k__law_told ?a_law ?l_law ?c_law ?k_law ?a_Web_init ?i_Web_init ?l_Web_init ?c_Web_init ?k_Web_init ?a_BadWeb_init ?i_BadWeb_init ?l_BadWeb_init ?c_BadWeb_init ?k_BadWeb_init ?z_isinstance ?z_len ?z_sorted ?z_min ?z_max ?z_all ?z_zip ?z_range ?z_enumerate ?z_int ?z_bool ?z_str ?z_list ?z_tuple
    (case a_Web => k_is)
    (case a_MP => k_is)
    (case pg => k_is)
    (case hd => k_is)
    (case po => k_is)
    (case sa => k_is)
    (case mk => k_is)
    (case kc => k_is)
    (case nS => k_is)
    (case nT => k_is)
    (case xc => k_is)
    (case xg => k_is)
    (case xt => k_is)
    (case xm => k_is)
    (case a_BadWeb => k_is)
    (case L_BadWeb => k_is)
    (case sa_BadWeb => k_is)
    (case ex_BadWeb => k_is)
    (case ty_BadWeb => k_is)
    (case kc_BadWeb => k_is)
    (case ga_BadWeb => k_is)
    (case gg_BadWeb => k_is)
    (case hd_BadWeb => k_is)
    (case cl_BadWeb => k_is)
    (case mr_BadWeb => k_is)
    (case ss_BadWeb => k_is)
    (case sw_BadWeb => k_is)
    (case no_BadWeb => k_is)
    (case a_WebError => k_is)
    (case hd_WebError => k_is)
    (case ty_WebError => k_is)
    (case ki => k_is)
    (case kt => k_is)
    (case a_is_integer => k_is)
    (case l_is_integer => k_is)
    (case c_is_integer => k_is)
    (case k_is_integer => k_is)
    (case a_is_number => k_is)
    (case l_is_number => k_is)
    (case c_is_number => k_is)
    (case k_is_number => k_is)
    (case a_is_tie => k_is)
    (case l_is_tie => k_is)
    (case c_is_tie => k_is)
    (case k_is_tie => k_is)
    (case a_wrong_tie => k_is)
    (case l_wrong_tie => k_is)
    (case c_wrong_tie => k_is)
    (case k_wrong_tie => k_is)
    (case a__law_tape => k_is)
    (case l__law_tape => k_is)
    (case c__law_tape => k_is)
    (case k__law_tape => k_is)
    (case a__law_pick => k_is)
    (case l__law_pick => k_is)
    (case c__law_pick => k_is)
    (case k__law_pick => k_is)
    (case a__law_is_integer => k_is)
    (case l__law_is_integer => k_is)
    (case c__law_is_integer => k_is)
    (case k__law_is_integer => k_is)
    (case a__law_is_lot => k_is)
    (case l__law_is_lot => k_is)
    (case c__law_is_lot => k_is)
    (case k__law_is_lot => k_is)
    (case a__law_same => k_is)
    (case l__law_same => k_is)
    (case c__law_same => k_is)
    (case k__law_same => k_is)
    (case a__law_deep => k_is)
    (case l__law_deep => k_is)
    (case c__law_deep => k_is)
    (case k__law_deep => k_is)
    (case a__law_any => k_is)
    (case l__law_any => k_is)
    (case c__law_any => k_is)
    (case k__law_any => k_is)
    (case a__law_mixed => k_is)
    (case l__law_mixed => k_is)
    (case c__law_mixed => k_is)
    (case k__law_mixed => k_is)
    (case a__law_web => k_is)
    (case l__law_web => k_is)
    (case c__law_web => k_is)
    (case k__law_web => k_is)
    (case a__law_odd => k_is)
    (case l__law_odd => k_is)
    (case c__law_odd => k_is)
    (case k__law_odd => k_is)
    (case a__law_fault => k_is)
    (case l__law_fault => k_is)
    (case c__law_fault => k_is)
    (case k__law_fault => k_is)
    (case a__law_bent => k_is)
    (case l__law_bent => k_is)
    (case c__law_bent => k_is)
    (case k__law_bent => k_is)
    (case a__law_told => k_is)
    (case l__law_told => k_is)
    (case c__law_told => k_is)
    (case k__law_told => k_is)
    (case a_law => k_is)
    (case l_law => k_is)
    (case c_law => k_is)
    (case k_law => k_is)
    (case a_Web_init => k_is)
    (case i_Web_init => k_is)
    (case l_Web_init => k_is)
    (case c_Web_init => k_is)
    (case k_Web_init => k_is)
    (case a_BadWeb_init => k_is)
    (case i_BadWeb_init => k_is)
    (case l_BadWeb_init => k_is)
    (case c_BadWeb_init => k_is)
    (case k_BadWeb_init => k_is)
    (case z_isinstance => k_is)
    (case z_len => k_is)
    (case z_sorted => k_is)
    (case z_min => k_is)
    (case z_max => k_is)
    (case z_all => k_is)
    (case z_zip => k_is)
    (case z_range => k_is)
    (case z_enumerate => k_is)
    (case z_int => k_is)
    (case z_bool => k_is)
    (case z_str => k_is)
    (case z_list => k_is)
    (case z_tuple => k_is)

