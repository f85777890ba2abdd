import PyProof.Rows.All
import Wide.All
import OpenK.AllK
import Wide.FinOn
import PyProof.EnumMake
import PyProof.Draws
import PyProof.InstNe
import HandS.ForMost
import HandS.IsInst
import HandS.Zip0
import HandS.Zip
import HandS.Conv
import HandS.Deep
import HandS.SortRule
import HandS.SortInts
import HandS.TupLe
import HandS.OwnEq
import HandS.Walk
import HandS.Evl
import OpenK.KMake
import HandS.WideBits
import HandS.TupAny
import HandS.Style
import HandS.NamedTupSort
import HandS.FStr
import HandS.Text
import KE.KxField
import KE.KDictDisplayH
import HandS.Flow
import PySem.Challenge.RW_silencers_k66_whole_slips_to_yes
set_option Elab.async false
set_option linter.all false
set_option maxRecDepth 100000
set_option maxHeartbeats 4000000
namespace Bs
open PySem PySem.Spec PyProof.Rows L2
/-! ## enumerate over a tuple -/
theorem draws_tup {prog : Program} {w : World} {A : Around} (hh : A.handled = none) (it l : Addr) (hne : l ≠ it) (items : Array Value) :
    Draws prog w A it [it, l] items.size (fun i v => items[i]? = some v) (fun i h => h.IsTupleIter it l i ∧ h.IsTuple l items) where
  live := fun i h st => let ⟨⟨o, e, _⟩, _⟩ := st; ⟨o, e⟩
  frame := fun i h h' st k => ⟨st.1.at fun o e => k it (by simp) o e, st.2.at fun o e => k l (by simp) o e⟩
  item := fun i s Q E hi st hQ => by
    refine RZ.nextOf_tuple_item st.1 st.2 (x := items[i]) (by simp [hi]) fun h' hit' hs' => ?_
    exact hQ _ h' s.toks (by simp [hi]) ⟨hit', st.2.at fun o e => hs'.extBut l o hne e⟩ hs'
  done := fun s Q E st hQ => RZ.nextOf_tuple_end hh st.1 st.2 (by simp) hQ
theorem meets_enumerate_newT (l : Addr) (items : Array Value) (n : Nat) (dct : Option Addr) (sl : Array (Option Value)) :
    Meets (Builtin.«enumerate.__new__» ⟨[.type "enumerate", .ref l], []⟩) (fun _ R s => s.heap.get? l = some { cls := .type "tuple", dict := dct, data := .seq items n, slots := sl } ∧
      R (.ok (.ret (.ref (s.heap.push { cls := .type "tuple_iterator", data := .fields #[.ref l, .int 0 0] }).objs.size)))
        { s with heap := (s.heap.push { cls := .type "tuple_iterator", data := .fields #[.ref l, .int 0 0] }).push { cls := .type "enumerate", data := .fields #[.none, .bool false, .ref s.heap.objs.size, rawInt 0, .none, .none] } }) :=
  .of_wp fun prog w A R s h => by
    obtain ⟨hp, g, d, tk, os⟩ := s; obtain ⟨hl, h⟩ := h
    have hsub := sub_enumerate
    have hL : Heap.IsTuple (Shared.heap ⟨hp, g, d, tk, os⟩) l items := ⟨_, hl, rfl, n, rfl⟩
    wp_walk using AutoSeq1.wpAny_loadPart' hl
    refine wpAny_stack_any fun st => wpAny_pure ?_
    split
    · rename_i c _ _ _ _ _
      cases (c == Value.type "enumerate")
      · wp_walk using AutoSeq1.wpAny_loadPart' hl, wpAny_pyIter_tuple hL
        exact ⟨_, rfl, h⟩
      · wp_walk using AutoSeq1.wpAny_loadPart' hl, wpAny_pyIter_tuple hL
        exact ⟨_, rfl, h⟩
    · wp_walk using AutoSeq1.wpAny_loadPart' hl, wpAny_pyIter_tuple hL
      exact ⟨_, rfl, h⟩
section
variable {prog : Program} {w : World} {A : Around} {E : Value → Shared → Prop} {s : Shared}
theorem call_enumerate_tup {l : Addr} {items : Array Value} {Q : Value → Shared → Prop} (hL : s.heap.IsTuple l items)
    (h : ∀ h', IsEnum h' (s.heap.objs.size + 1) s.heap.objs.size 0 .none → h'.IsTupleIter s.heap.objs.size l 0 → h'.objs.size = s.heap.objs.size + 2 →
      (∀ b o, s.heap.get? b = some o → h'.get? b = some o) → Q (.ref (s.heap.objs.size + 1)) { s with heap := h' }) :
    wpAny (model prog w) A (call (.type "enumerate") [.ref l]) Q E s := by
  obtain ⟨⟨c, dct, dt, sl⟩, hl, hc, n, hd⟩ := hL
  replace hc : c = .type "tuple" := hc
  replace hd : dt = .seq items n := hd
  subst hc hd
  refine callType_new F.called_enumerate (by decide) (F.typeCall_enumerate_1 _) (F.newCall_enumerate_1 _) (fun obj => F.args_object_init_2 obj _) F.entry_enumerate_new
    (meets_enumerate_newT l items n dct sl) ⟨hl, ?_⟩
  have hz : (s.heap.push { cls := .type "tuple_iterator", data := .fields #[.ref l, .int 0 0] }).objs.size = s.heap.objs.size + 1 := Heap.size_push ..
  show _ ∧ _
  rw [hz]
  have he : IsEnum ((s.heap.push { cls := .type "tuple_iterator", data := .fields #[.ref l, .int 0 0] }).push
      { cls := .type "enumerate", data := .fields #[.none, .bool false, .ref s.heap.objs.size, rawInt 0, .none, .none] }) (s.heap.objs.size + 1) s.heap.objs.size 0 .none := by
    have := Heap.get?_push_size (s.heap.push { cls := .type "tuple_iterator", data := .fields #[.ref l, .int 0 0] })
      (o := { cls := .type "enumerate", data := .fields #[.none, .bool false, .ref s.heap.objs.size, rawInt 0, .none, .none] }) rfl
    rw [hz] at this; exact this
  refine ⟨⟨_, he, rfl⟩, h _ he ⟨_, Heap.get?_push_of_some _ (Heap.get?_push_size _ rfl), rfl, rfl⟩ (by rw [Heap.size_push, hz]) fun b o x => Heap.get?_push_of_some _ (Heap.get?_push_of_some _ x)⟩
end
/-- the tuple at a as it stands at each turn, each item in a new pair -/
def IteT (K : PySem.W.Frag) (a : Addr) : It :=
  ⟨fun i H => ∃ (xs : List V) (x : V), SqT K H a xs ∧ xs[i]? = some x, fun i H v H' => ∃ T x, v = .ref T ∧ H T = none ∧ H' = upd H T (.tup [.int (i : Nat), x]) ∧ ∀ xs, SqT K H a xs → xs[i]? = some x, fun i H => ∃ xs : List V, SqT K H a xs ∧ xs.length ≤ i⟩
theorem turn_enumT {P : Program} {w : World} {K : PySem.W.Frag} {elts : List Expr} {kk : Nat} {tpos : Pos} (a e it : Addr) :
    Turn P w K (.Tuple elts kk tpos) (IteT K a) [e, it] e (fun i h => (∃ old, IsEnum h e it ((i : Nat) : Int) old) ∧ h.IsTupleIter it a i ∧ e ≠ it ∧ a ≠ it ∧ a ≠ e) where
  mem := by simp
  obj := fun i h st b hb => by
    obtain ⟨⟨old, he⟩, ⟨o, ho, hc, hd⟩, _⟩ := st
    have e' : b = e ∨ b = it := by simpa using hb
    rcases e' with z | z
    · rw [z]; exact ⟨_, he, fun v q => nomatch q⟩
    · rw [z]; exact ⟨o, ho, fun v q => by rw [hd] at q; cases q⟩
  keep := fun i h h' st k => let ⟨⟨old, he⟩, hi, hne⟩ := st; ⟨⟨old, k e (by simp) _ he⟩, hi.at fun o q => k it (by simp) o q, hne⟩
  item := by
    intro X hP hw hK hc i pins s σ H E I hf st hg
    subst hP hw hK
    obtain ⟨⟨old, he⟩, hit, hne, hne2, hne3⟩ := st
    obtain ⟨xs, x, hq, hx⟩ := hg
    obtain ⟨its, rv, p, hz⟩ := I.tuple hq
    obtain ⟨u, hu, ru⟩ := rv.get hx
    have hel : e < s.heap.objs.size := Heap.lt_size he
    have hil : it < s.heap.objs.size := by obtain ⟨_, q, _⟩ := hit; exact Heap.lt_size q
    have hlt : i < its.toArray.size := by
      have := (List.getElem?_eq_some_iff.mp hu).1
      simpa using this
    refine wpAny_pyNext_enum_itemD (draws_tup (show X.A.in1.handled = none from I.ok.hd hc) it a hne2 its.toArray) he ⟨hit, p⟩ hlt hne (by simp [hne, Ne.symm hne3]) fun y h' tk hy ho hit' hT hsz hk => ?_
    have hyu : y = u := by
      have h2 : its.toArray[i]? = some u := by simpa using hu
      rw [h2] at hy
      exact (Option.some.inj hy).symm
    subst hyu
    refine ⟨_, rfl, wpAny_letOwnedTupleGo_enum (s := { s with heap := h', toks := tk + 1 }) ho fun h'' he' sb => ?_⟩
    have hT2 : h''.get? s.heap.objs.size = some { cls := .type "tuple", data := .seq #[.int i tk, y] } := (sb.2 _ (Nat.ne_of_gt hel)).trans hT
    have new : ObjOk X.prog X.w (upd H s.heap.objs.size (.tup [.int (i : Nat), x])) h'' s.heap.objs.size (.tup [.int (i : Nat), x]) :=
      ⟨by show 2 ≤ sizeLine; decide, [.int i tk, y], .cons ⟨_, rfl⟩ (.cons ru .nil), ⟨_, hT2, rfl, _, rfl⟩⟩
    have I1 : Inv X pins σ (upd H s.heap.objs.size (.tup [.int (i : Nat), x])) { s with heap := h'', toks := tk + 1 } :=
      I.turnedNew (ch := [e, it]) (fun b ob hb q => (sb.2 b (fun z => hb (by simp [z]))).trans (hk b ob (fun z => hb (by simp [z])) (fun z => hb (by simp [z])) q)) hf (Nat.le_refl _) new
    refine ⟨.ref s.heap.objs.size, _, I1, rfl, ⟨_, x, rfl, I.hok.fresh (Nat.le_refl _), rfl, fun ys hy => by rw [I.tuple_inj hy hq]; exact hx⟩, ⟨⟨y, ?_⟩, hit'.1.at fun o q => (sb.2 it (Ne.symm hne)).trans q, hne, hne2, hne3⟩, fun b hb => ?_⟩
    · have e1 : ((i + 1 : Nat) : Int) = (i : Int) + 1 := by omega
      rw [e1]; exact he'
    · have hb' : b < s.heap.objs.size := by
        have e' : b = e ∨ b = it := by simpa using hb
        rcases e' with z | z
        · rw [z]; exact hel
        · rw [z]; exact hil
      rw [upd_ne (Nat.ne_of_lt hb')]
      exact (hf b hb).1
  done := by
    intro X hP hw hK hc i pins s σ H E I hf st hg
    subst hP hw hK
    obtain ⟨⟨old, he⟩, hit, hne, hne2, hne3⟩ := st
    obtain ⟨xs, hq, hx⟩ := hg
    obtain ⟨its, rv, p, hz⟩ := I.tuple hq
    obtain ⟨f0, f1, f2, f3, f4, f5⟩ := hf it (by simp)
    have hl := rv.length
    have hT : s.TypeIs (.ref e) "enumerate" := ⟨_, he, rfl⟩
    unfold pyNext
    refine wpAny_bind (wpAny_attempt (wpAny_callSpecial?_slot (name := Str.ofString "__next__") hT F.slot_enumerate_next
      (wpAny_call_entry F.slot_enumerate_next hT F.entry_enumerate_next ?_ (F.args_enumerate_next_1 _))))
    show wpAny _ _ (field (.ref e) 2 >>= _) _ _ _
    refine wpAny_bind (wpAny_field he rfl (x := .ref it) rfl ?_)
    refine wpAny_bind (RZ.nextOf_tuple_end (show X.A.in1.handled = none from I.ok.hd hc) hit p (by simp; omega) fun h' x he' hx' => ?_)
    obtain ⟨o, ho, hc⟩ := hx'
    refine wpAny_bind (wpAny_isInstance (T := "StopIteration") (b := true) ⟨o, ho, hc⟩ isSubtype_stop ?_)
    exact wpAny_pure ⟨rfl, I.turned (t' := s.toks) (fun b o hb q => he' b o hb q) f0 f1 f3 f4 f5⟩
  self := fun A i s Q E st h => let ⟨⟨_, he⟩, _⟩ := st; wpAny_pyIter_enum he h
def iEnumT (K : PySem.W.Frag) (ta : TA) : TI := fun σ H R => ta σ H fun vs H1 => ∃ a xs, vs = [.ref a] ∧ SqT K H1 a xs ∧ R (IteT K a) H1
theorem pi_enumT {X : Cx} {e : Expr} {ta : TA} {p pos tpos : Pos} {elts : List Expr} {kk : Nat} (hg : Gl X "enumerate") (hm : X.mg "enumerate" = none) (ha : PA X [e] ta) (hs : starEach [e] X.env = [(false, eval e X.env)] := by rfl) :
    PI X (.Tuple elts kk tpos) (.Call (.Name "enumerate" p) [e] [] pos) (iEnumT X.K ta) := by
  refine ⟨fun pins s σ H R I h => ?_⟩
  refine Call_ (ld_blt I hg hm boot_enumerate (PyProof.Rows.callWith_type1 (thn (ha.run pos pins s σ H _ I h) fun us s1 ⟨vs, H1, I1, r1, q1⟩ => ?_) hs rfl))
  obtain ⟨a, xs, ex, hq, q⟩ := q1
  subst ex
  cases r1 with
  | cons r rr =>
    cases rr
    cases r
    obtain ⟨its, rv, p', hz⟩ := I1.tuple hq
    have hal : a < s1.heap.objs.size := by obtain ⟨_, q, _⟩ := p'; exact Heap.lt_size q
    refine call_enumerate_tup p' fun h' he hit hsz hk => wpAny_pyIter_enum he ?_
    have I2 : Inv X pins σ H1 { s1 with heap := h' } := I1.kept (t' := s1.toks) hk
    refine ⟨s1.heap.objs.size + 1, [s1.heap.objs.size + 1, s1.heap.objs.size], _, _, H1, rfl, I2, turn_enumT a (s1.heap.objs.size + 1) s1.heap.objs.size, ⟨⟨.none, he⟩, hit, Nat.succ_ne_self _, Nat.ne_of_lt hal, Nat.ne_of_lt (Nat.lt_succ_of_lt hal)⟩, fun b hb => ?_, q⟩
    have e' : b = s1.heap.objs.size + 1 ∨ b = s1.heap.objs.size := by simpa using hb
    have hle : s1.heap.objs.size ≤ b := by
      rcases e' with z | z
      · rw [z]; exact Nat.le_add_right _ _
      · rw [z]; exact Nat.le_refl _
    exact I1.fpOk hle (I1.hok.fresh hle)
theorem walk_enumT {K : PySem.W.Frag} {a : Addr} {xs : List V} : Walk (IteT K a) xs.length (fun H => SqT K H a xs) (YPair (fun i => some (.int (i : Nat))) (fun i => xs[i]?)) := by
  refine ⟨fun i _ hi q => ⟨xs, xs[i], q, by simp [hi]⟩, fun _ q => ⟨xs, q, Nat.le_refl _⟩, fun i H v H' _ q y => ?_⟩
  obtain ⟨T, x, h1, h2, h3, h4⟩ := y
  exact ⟨T, .int (i : Nat), x, h1, h2, h3, rfl, h4 xs q⟩
theorem walk_zipT {K : PySem.W.Frag} {a b : Addr} {xs ys : List V} {n : Nat} (hn : n = min xs.length ys.length) : Walk (RZ.ItzT K a b) n (fun H => SqT K H a xs ∧ SqT K H b ys) (YPair (fun i => xs[i]?) (fun i => ys[i]?)) := by
  subst hn
  refine ⟨fun i _ hi q => ?_, fun _ q => ⟨xs, ys, q.1, q.2, by omega⟩, fun i H v H' _ q y => ?_⟩
  · have h1 : i < xs.length := by omega
    have h2 : i < ys.length := by omega
    exact ⟨xs, ys, xs[i], ys[i], q.1, q.2, by simp [h1], by simp [h2]⟩
  · obtain ⟨T, x, z, h1, h2, h3, h4, h5⟩ := y
    exact ⟨T, x, z, h1, h2, h3, h4 xs q.1, h5 ys q.2⟩
end Bs

namespace Bs
open PySem PySem.Spec PyProof.Rows L2
/-! ## != of two instances of one own class with its own == and no != of its own -/
section
variable {prog : Program} {w : World} {A : Around} {E : Value → Shared → Prop} {s : Shared} {K : PySem.W.Frag} {x y C : Addr} {ox oy : Obj} {od oe : Option Obj} {f : Addr}
theorem objNe_K (X : K.In s.heap) (I : PySem.W.InstAt s.heap x ox C od) (hs : PySem.W.findIn K (.ref C) "__eq__" = some (some (.ref f))) (hf : PySem.W.isFn K (.ref f) = true) (hu : A.units < cLine) {Q : Fin → Shared → Prop}
    (hcall : wpAny (model prog w) A (call (.ref f) [.ref x, .ref y]) (fun v s' => ∃ b, v = .bool b ∧ Q (.done (.ret (.bool (!b)))) s') E s) :
    wpAny (model prog w) A (Builtin.«object.__ne__» ⟨[.ref x, .ref y], []⟩) Q E s := by
  obtain ⟨hp, g, d, t, os⟩ := s
  unfold Builtin.«object.__ne__»
  repeat (first
    | with_reducible refine wpAny_cRoomFor hu ?_
    | (refine wpAny_bind (m := callSpecialIfBound? (.ref x) (Str.ofString "__eq__") [.ref y])
        (PySem.W.ifBound_K X I hs hf (wpAny_mono hcall (fun v s' hv => by
          obtain ⟨b, rfl, hq⟩ := hv
          repeat (first | exact hq | exact wpAny_pure hq | exact wpAny_truthy_bool hq | (refine wpAny_bind (m := truthy (.bool _)) (wpAny_truthy_bool ?_)) | wp_step)) fun _ _ e => e)))
    | wp_step)
theorem ifBound_ne (X : K.In s.heap) (I : PySem.W.InstAt s.heap x ox C od) (hn : PySem.W.findIn K (.ref C) "__ne__" = some (some (.builtin "object.__ne__"))) {args : List Value} {Q : Option Value → Shared → Prop} {M : Model}
    (h : wpAny M A (call (.builtin "object.__ne__") (.ref x :: args)) (fun v => Q (some v)) E s) : wpAny M A (callSpecialIfBound? (.ref x) "__ne__" args) Q E s := by
  simp only [callSpecialIfBound?, bindSpecialIfBound?]
  refine wpAny_holding (wpAny_bind (wpAny_bind (wpAny_bind (I.type.here ((PySem.W.looks_findIn X hn).here ?_)))))
  refine wpAny_bind (wpAny_askSetting (wpAny_ite ?_))
  have fin : wpAny M A (call (.builtin "object.__ne__") ([.ref x] ++ args) >>= fun v => pure (some v)) Q E s := wpAny_bind (wpAny_mono h (fun v s' h' => wpAny_pure h') fun _ _ h' => h')
  have hb : bindSpecial (.builtin "object.__ne__") (.ref x) = pure (.builtin "object.__ne__", [.ref x]) := (F.slot_object_ne).bind (.ref x)
  split
  · rw [hb]
    exact wpAny_bind (wpAny_pure (wpAny_pure fin))
  · rw [hb]
    exact wpAny_tryCatch (wpAny_bind (wpAny_pure (wpAny_pure fin)))
theorem tryNe_K (X : K.In s.heap) (I : PySem.W.InstAt s.heap x ox C od) (hs : PySem.W.findIn K (.ref C) "__eq__" = some (some (.ref f))) (hf : PySem.W.isFn K (.ref f) = true)
    (hn : PySem.W.findIn K (.ref C) "__ne__" = some (some (.builtin "object.__ne__"))) (hsub : PySem.W.subIn K (.ref C) (.type "object") = some true) (hu : A.units + 1 < cLine) {Q : Option Value → Shared → Prop}
    (hcall : wpAny (model prog w) A.in1 (call (.ref f) [.ref x, .ref y]) (fun v s' => ∃ b, v = .bool b ∧ Q (some (.bool (!b))) s') E s) :
    wpAny (model prog w) A (tryCompare (.ref x) "__ne__" (.ref y)) Q E s := by
  simp only [tryCompare]
  refine wpAny_bind (ifBound_ne X I hn (wpAny_call (codeAny_call_builtin (F.slot_object_ne).plain F.cmpEntry_ne
    (PySem.W.check_slot F.cmpKind_ne F.cmpSplit_ne (I.type.andThen (PySem.W.looks_subIn X hsub)) (F.cmpArgs_ne _ _)
      (objNe_K (A := A.in1) X I hs hf hu (wpAny_mono hcall (fun v s' hv => ?_) fun _ _ e => e))))))
  obtain ⟨b, rfl, hq⟩ := hv
  first | exact ⟨b, rfl, wpAny_pure hq⟩ | exact ⟨b, rfl, wpAny_pure (wpAny_pure hq)⟩ | exact ⟨b, rfl, hq⟩
theorem richNe_K (X : K.In s.heap) (I : PySem.W.InstAt s.heap x ox C od) (J : PySem.W.InstAt s.heap y oy C oe) (hs : PySem.W.findIn K (.ref C) "__eq__" = some (some (.ref f))) (hf : PySem.W.isFn K (.ref f) = true)
    (hn : PySem.W.findIn K (.ref C) "__ne__" = some (some (.builtin "object.__ne__"))) (hsub : PySem.W.subIn K (.ref C) (.type "object") = some true) (hu : A.units + 1 < cLine) {Q : Value → Shared → Prop}
    (hcall : wpAny (model prog w) A.in1 (call (.ref f) [.ref x, .ref y]) (fun v s' => ∃ b, v = .bool b ∧ Q (.bool (!b)) s') E s) :
    wpAny (model prog w) A (richCompare .NotEq (.ref x) (.ref y)) Q E s := by
  have one : wpAny (model prog w) A (tryCompare (.ref x) "__ne__" (.ref y)) (fun r s' => ∃ v, r = some v ∧ Q v s') E s :=
    tryNe_K X I hs hf hn hsub hu (wpAny_mono hcall (fun v s' ⟨b, e, q⟩ => ⟨b, e, _, rfl, q⟩) fun _ _ e => e)
  unfold richCompare
  simp only [oneThing_ref]
  refine wpAny_holding (wpAny_bind (wpAny_cRoomFor (Nat.lt_of_succ_lt hu) ?_))
  rw [cmpInfo_NotEq]
  dsimp only
  refine wpAny_bind (I.type.here (wpAny_bind (J.type.here ?_)))
  rw [show (Value.ref C != Value.ref C) = false from by simp]
  simp only [Bool.false_eq_true, if_false]
  refine wpAny_bind (wpAny_pure ?_)
  simp only [Bool.false_eq_true, if_false]
  refine wpAny_bind (wpAny_mono one (fun r s' z => ?_) fun _ _ e => e)
  obtain ⟨v, rfl, hq⟩ := z
  exact wpAny_pure hq
end
/-- what != asks of two instances of C: the promise of C's own == -/
def rNeOwn (C : Addr) (sp : Sp) : R2 := fun x y H Q => ∃ a b dx dy fs gs, x = .ref a ∧ y = .ref b ∧ H a = some (.ins C dx fs) ∧ H b = some (.ins C dy gs) ∧ sp [.ref a, .ref b] H (fun v H' => ∃ r, v = .bl r ∧ Q (.bl (!r)) H') E0
structure OwnNe (K : PySem.W.Frag) (C f : Addr) : Prop where
  eq : PySem.W.findIn K (.ref C) "__eq__" = some (some (.ref f))
  fn : PySem.W.isFn K (.ref f) = true
  ne : PySem.W.findIn K (.ref C) "__ne__" = some (some (.builtin "object.__ne__"))
  sub : PySem.W.subIn K (.ref C) (.type "object") = some true
theorem op_neOwn {X : Cx} {C f : Addr} {fd : FuncData} {ps : List Str} {sp : Sp} {n : Nat} (N : OwnNe X.K C f) (F : FnOk X.prog X.w X.K X.mg X.base CX0 n f fd ps sp) (hr : Room (n + 1) X.A) (hb : Binds X.K fd ps []) : OpR X (compareOp .NotEq) (rNeOwn C sp) := by
  intro pins s σ H x y v u Q I rx ry h
  obtain ⟨a, b, dx, dy, fs, gs, rfl, rfl, ha, hb', hsp⟩ := h
  cases rx
  cases ry
  obtain ⟨mA, J, _⟩ := ins_get I.hok ha
  obtain ⟨mB, J', _⟩ := ins_get I.hok hb'
  obtain ⟨od, J, _⟩ := J.look
  obtain ⟨od', J', _⟩ := J'.look
  have hu : X.A.units + 1 < cLine := hu_of hr
  have hr1 : Room n X.A.in1 := hr.in1
  have e0 : Env0 X.prog X.w X.K X.mg X.base X.A.in1 X.stack s H := I.env0.in1
  have hl := F.len _ _ _ _ hsp
  have r2 : Vals [V.ref a, V.ref b] [Value.ref a, Value.ref b] := .cons rfl (.cons rfl .nil)
  show wpAny (model X.prog X.w) X.A (richCompare .NotEq (.ref a) (.ref b)) (EP X pins σ Q) X.xe s
  refine richNe_K I.kIn J J' N.eq N.fn N.ne N.sub hu ?_
  refine wpAny_call (codeAny_mono (F.run X.A.in1 X.stack s H ⟨[.ref a, .ref b], []⟩ [.ref a, .ref b] [.ref a, .ref b] _ E0 hr1 e0 (by
    have := hb s [.ref a, .ref b] I.kIn (by simpa using hl)
    simpa using this) r2 hsp) fun r s' hq => ?_)
  cases r with
  | error e => exact hq.elim
  | ok fl =>
    cases fl with
    | ret w =>
      obtain ⟨z, H', I', rz, r, ez, q⟩ := I.after hq
      subst ez
      cases rz
      exact ⟨r, rfl, .bl (!r), H', I', rfl, q⟩
    | next => exact False.elim hq
    | brk => exact False.elim hq
    | cont => exact False.elim hq
/-! ## calls in short -/
structure Cal (P : Program) (w : World) (K : PySem.W.Frag) (mg : Str → Option Value) (base : Heap) (k : Nat) (x : Str) (ps : List Str) (sp : Sp) : Prop where
  ex : ∃ (f : Addr) (fd : FuncData), FnOk P w K mg base CX0 k f fd ps sp ∧ mg x = some (.ref f) ∧ PySem.W.keepIn K (.ref f) = true ∧ Binds K fd ps []
theorem pe_cal {X : Cx} {k : Nat} {x : Str} {ps : List Str} {sp : Sp} {e : Expr} {es : List Expr} {t : TA} {p pos : Pos} (c : Cal X.prog X.w X.K X.mg X.base k x ps sp) (hr : Room k X.A) (ha : PA X (e :: es) t) (hg : Gl X x := by rfl)
    (hdb : (x == ("__debug__" : Str)) = false := by decide) (he : starEach (e :: es) X.env = (false, eval e X.env) :: starEach es X.env := by rfl) (hpl : (backTo pos (starEach es X.env)).any (·.1) = false := by rfl) :
    PE X (.Call (.Name x p) (e :: es) [] pos) (tCall sp [] E0 t) := by
  obtain ⟨f, fd, F, hm, hk, hb⟩ := c.ex
  exact pe_call F hr hg hm hk hb .nil pass0 ha hdb he hpl
theorem pe_cal0 {X : Cx} {k : Nat} {x : Str} {ps : List Str} {sp : Sp} {p pos : Pos} (c : Cal X.prog X.w X.K X.mg X.base k x ps sp) (hr : Room k X.A) (hg : Gl X x := by rfl)
    (hdb : (x == ("__debug__" : Str)) = false := by decide) :
    PE X (.Call (.Name x p) [] [] pos) (tCall sp [] E0 tNil) := by
  obtain ⟨f, fd, F, hm, hk, hb⟩ := c.ex
  exact pe_call0 F hr hg hm hk hb .nil pass0 hdb
/-- C(..) -/
structure Mkc (P : Program) (w : World) (K : PySem.W.Frag) (mg : Str → Option Value) (base : Heap) (k : Nat) (C : Addr) (x : Str) (ps : List Str) (sp : Sp) : Prop where
  ex : ∃ (f : Addr) (fd : FuncData), Mk K C f ∧ FnOk P w K mg base CX0 k f fd ps sp ∧ mg x = some (.ref C) ∧ Binds K fd ps []
theorem pe_mkc {X : Cx} {k : Nat} {C : Addr} {x : Str} {ps : List Str} {sp : Sp} {e : Expr} {es : List Expr} {t : TA} {p pos : Pos} (c : Mkc X.prog X.w X.K X.mg X.base k C x ps sp) (hr : Room (k + 1) X.A) (ha : PA X (e :: es) t) (hg : Gl X x := by rfl)
    (hdb : (x == ("__debug__" : Str)) = false := by decide) (he : starEach (e :: es) X.env = (false, eval e X.env) :: starEach es X.env := by rfl) (hpl : (backTo pos (starEach es X.env)).any (·.1) = false := by rfl) :
    PE X (.Call (.Name x p) (e :: es) [] pos) (tMake C sp [] E0 t) := by
  obtain ⟨f, fd, M, F, hm, hb⟩ := c.ex
  exact pe_make M F hr hg hm hb .nil pass0 ha hdb he hpl
/-- a global that is a class or a def, as a value -/
theorem pe_globR {X : Cx} {x : Str} {C : Addr} {pos : Pos} (hm : X.mg x = some (.ref C)) (hg : Gl X x := by rfl) (hn : (x == ("__debug__" : Str)) = false := by decide) : PE X (.Name x pos) (tC (.ref C)) := by
  exact pe_glob hg hm rfl hn
/-- the built-ins that no name of the program hides -/
structure Bl (mg : Str → Option Value) : Prop where
  isinstance : mg "isinstance" = none
  len : mg "len" = none
  sorted : mg "sorted" = none
  min : mg "min" = none
  max : mg "max" = none
  all : mg "all" = none
  zip : mg "zip" = none
  range : mg "range" = none
  enumerate : mg "enumerate" = none
  int_ : mg "int" = none
  bool_ : mg "bool" = none
  str_ : mg "str" = none
  list_ : mg "list" = none
  tuple_ : mg "tuple" = none
end Bs

namespace Bs
open PySem PySem.Spec PyProof.Rows L2
/-! ## heaps: what never changes, all but one object -/
/-- tuples stay -/
def TK (H H' : Hp) : Prop := ∀ a xs, H a = some (.tup xs) → H' a = some (.tup xs)
theorem TK.rfl' {H : Hp} : TK H H := fun _ _ h => h
theorem TK.trans {H H1 H2 : Hp} (a : TK H H1) (b : TK H1 H2) : TK H H2 := fun x o h => b x o (a x o h)
theorem _root_.L2.Same.tk {H H' : Hp} (e : Same H H') : TK H H' := fun a xs h => e a _ h
theorem _root_.L2.Same.new {H : Hp} {p : Addr} {o : HO} (h : H p = none) : Same H (upd H p o) := fun a u e => by rw [upd_ne (ne_of_none e h)]; exact e
theorem _root_.L2.Same.new' {H H1 : Hp} {p : Addr} {o : HO} (x : Same H H1) (h : H1 p = none) : Same H (upd H1 p o) := x.trans (Same.new h)
/-- an object that H does not know may change -/
theorem _root_.L2.Same.mut {H H' : Hp} {p : Addr} {o : HO} (e : Same H H') (h : H p = none) : Same H (upd H' p o) := fun a u ha => by
  rw [upd_ne (ne_of_none ha h)]
  exact e a u ha
def isTupO : Option HO → Bool
  | some (.tup _) => true
  | _ => false
theorem TK.upd {H : Hp} {p : Addr} {o : HO} (h : isTupO (H p) = false) : TK H (L2.upd H p o) := fun a xs e => by
  have hn : a ≠ p := fun q => by rw [q] at e; rw [e] at h; cases h
  rw [upd_ne hn]; exact e
theorem tk_lst {H : Hp} {p : Addr} {o : HO} {xs : List V} (h : H p = some (.lst xs)) : TK H (L2.upd H p o) := TK.upd (by rw [h]; rfl)
theorem tk_new {H : Hp} {p : Addr} {o : HO} (h : H p = none) : TK H (L2.upd H p o) := TK.upd (by rw [h]; rfl)
/-- all but the object at T stay -/
def ExT (T : Addr) (H H' : Hp) : Prop := ∀ a o, a ≠ T → H a = some o → H' a = some o
theorem ExT.rfl' {T : Addr} {H : Hp} : ExT T H H := fun _ _ _ h => h
theorem ExT.trans {T : Addr} {H H1 H2 : Hp} (a : ExT T H H1) (b : ExT T H1 H2) : ExT T H H2 := fun x o n h => b x o n (a x o n h)
theorem _root_.L2.Same.exT {T : Addr} {H H' : Hp} (e : Same H H') : ExT T H H' := fun a o _ h => e a o h
theorem ExT.tk {T : Addr} {H H' : Hp} {l : List V} (e : ExT T H H') (h : H T = some (.lst l)) : TK H H' := fun a xs q => e a _ (ne_of q h (by intro z; cases z)) q
theorem ExT.upd {T : Addr} {H H1 : Hp} {o : HO} (e : ExT T H H1) : ExT T H (L2.upd H1 T o) := fun a u n h => by rw [upd_ne n]; exact e a u n h
theorem ExT.new {T p : Addr} {H H1 : Hp} {o : HO} (e : ExT T H H1) (h : H1 p = none) : ExT T H (L2.upd H1 p o) := fun a u n q => by
  have q' := e a u n q
  rw [upd_ne (ne_of_none q' h)]; exact q'
/-- one more object, unknown at first, that may change -/
theorem ExT.mut {T p : Addr} {H H1 : Hp} {o : HO} (e : ExT T H H1) (h : H p = none) : ExT T H (L2.upd H1 p o) := fun a u n q => by
  rw [upd_ne (ne_of_none q h)]; exact e a u n q
theorem ExT.free {T : Addr} {H H' : Hp} (e : ExT T H H') {l : Addr} (hl : l ≠ T) (h : H' l = none) : H l = none := by
  cases q : H l with
  | none => rfl
  | some o => rw [e l o hl q] at h; cases h
/-! ## pairs of ints -/
def PairAt (H : Hp) (v : V) (p : Int × Int) : Prop := ∃ a, v = .ref a ∧ H a = some (.tup [.int p.1, .int p.2])
theorem PairAt.tk {H H' : Hp} {v : V} {p : Int × Int} (e : TK H H') (h : PairAt H v p) : PairAt H' v p := let ⟨a, h1, h2⟩ := h; ⟨a, h1, e _ _ h2⟩
theorem PairAt.inj {H : Hp} {v : V} {p q : Int × Int} (h : PairAt H v p) (h' : PairAt H v q) : p = q := by
  obtain ⟨a, rfl, h2⟩ := h
  obtain ⟨b, e, h3⟩ := h'
  cases e
  rw [h2] at h3
  injection h3 with h3
  injection h3 with h3
  injection h3 with h4 h5
  injection h4 with h4
  injection h5 with h5
  injection h5 with h5
  exact Prod.ext h4 h5
abbrev Pairs (H : Hp) (xs : List V) (ps : List (Int × Int)) : Prop := Paired (PairAt H) xs ps
theorem Paired.imp' {α β : Type} {F G : α → β → Prop} : ∀ {l₁ : List α} {l₂ : List β}, Paired F l₁ l₂ → (∀ a b, F a b → G a b) → Paired G l₁ l₂
  | _, _, .nil, _ => .nil
  | _, _, .cons r t, f => .cons (f _ _ r) (Paired.imp' t f)
theorem Pairs.tk {H H' : Hp} {xs : List V} {ps : List (Int × Int)} (e : TK H H') (h : Pairs H xs ps) : Pairs H' xs ps := Paired.imp' h fun _ _ q => q.tk e
theorem Paired.get {α β : Type} {F : α → β → Prop} : ∀ {l₁ : List α} {l₂ : List β} {i : Nat} {a : α}, Paired F l₁ l₂ → l₁[i]? = some a → ∃ b, l₂[i]? = some b ∧ F a b
  | _, _, _, _, .nil, h => by simp at h
  | _, _, 0, _, .cons r _, h => by simp at h; subst h; exact ⟨_, by simp, r⟩
  | _, _, i + 1, a, .cons _ t, h => by
    obtain ⟨b, h1, h2⟩ := Paired.get (i := i) (a := a) t (by simpa using h)
    exact ⟨b, by simpa using h1, h2⟩
theorem Paired.len {α β : Type} {F : α → β → Prop} : ∀ {l₁ : List α} {l₂ : List β}, Paired F l₁ l₂ → l₁.length = l₂.length
  | _, _, .nil => rfl
  | _, _, .cons _ t => by simp [Paired.len t]
theorem Paired.app {α β : Type} {F : α → β → Prop} : ∀ {l₁ m₁ : List α} {l₂ m₂ : List β}, Paired F l₁ l₂ → Paired F m₁ m₂ → Paired F (l₁ ++ m₁) (l₂ ++ m₂)
  | _, _, _, _, .nil, h => h
  | _, _, _, _, .cons r t, h => .cons r (Paired.app t h)
/-- the pair that a value is -/
def pairOf (H : Hp) (v : V) : Int × Int := match v with
  | .ref a => match H a with
    | some (.tup [.int i, .int j]) => (i, j)
    | _ => (0, 0)
  | _ => (0, 0)
theorem pairOf_of {H : Hp} {v : V} {p : Int × Int} (h : PairAt H v p) : pairOf H v = p := by
  obtain ⟨a, rfl, h2⟩ := h
  unfold pairOf
  simp only [h2]
theorem pairs_map {H : Hp} : ∀ {xs : List V} {ps : List (Int × Int)}, Pairs H xs ps → xs.map (pairOf H) = ps
  | _, _, .nil => rfl
  | _, _, .cons r t => by rw [List.map_cons, pairOf_of r, pairs_map t]
theorem pairs_mem {H : Hp} : ∀ {xs : List V} {ps : List (Int × Int)}, Pairs H xs ps → ∀ x ∈ xs, PairAt H x (pairOf H x)
  | _, _, .nil, _, h => by simp at h
  | _, _, .cons r t, x, h => by
    rcases List.mem_cons.mp h with e | h
    · subst e; rw [pairOf_of r]; exact r
    · exact pairs_mem t x h
theorem pairs_self {H : Hp} : ∀ {xs : List V}, (∀ x ∈ xs, PairAt H x (pairOf H x)) → Pairs H xs (xs.map (pairOf H))
  | [], _ => .nil
  | x :: xs, h => .cons (h x (by simp)) (pairs_self fun y hy => h y (by simp [hy]))
/-- before, or the same -/
def le2 (p q : Int × Int) : Prop := p.1 < q.1 ∨ (p.1 = q.1 ∧ p.2 ≤ q.2)
def lt2 (p q : Int × Int) : Prop := p.1 < q.1 ∨ (p.1 = q.1 ∧ p.2 < q.2)
/-- sorted(xs), xs a list of pairs -/
theorem sorted_pairs {K : PySem.W.Frag} {H : Hp} {a : Addr} {xs : List V} {ps : List (Int × Int)} {Q : VK} (hs : SqL K H a xs) (hp : Pairs H xs ps)
    (k : ∀ p ys qs, H p = none → Pairs H ys qs → qs.Perm ps → qs.Pairwise le2 → Q (.ref p) (upd H p (.lst ys))) : rSortedPO K [.ref a] H Q := by
  refine ⟨a, xs, pairOf H, rfl, hs, fun x hx => pairs_mem hp x hx, fun ys p h1 h2 hn => ?_⟩
  have hm : ∀ y ∈ ys, PairAt H y (pairOf H y) := fun y hy => pairs_mem hp y (h2.perm.mem_iff.mp hy)
  refine k p ys (ys.map (pairOf H)) hn (pairs_self hm) ?_ ?_
  · rw [← pairs_map hp]
    exact h2.perm.map _
  · refine List.pairwise_map.mpr (h1.imp fun {x y} h => ?_)
    have h' := SrtO.lexB_no.mp h
    unfold le2
    omega
theorem sorted_post {H : Hp} {xs ys : List V} {ps : List (Int × Int)} (hp : Pairs H xs ps) (h1 : SrtO.Srtd (ltP (pairOf H)) ys) (h2 : SrtO.Stb (ltP (pairOf H)) ys xs) : ∃ qs, Pairs H ys qs ∧ qs.Perm ps ∧ qs.Pairwise le2 := by
  have hm : ∀ y ∈ ys, PairAt H y (pairOf H y) := fun y hy => pairs_mem hp y (h2.perm.mem_iff.mp hy)
  refine ⟨ys.map (pairOf H), pairs_self hm, ?_, ?_⟩
  · rw [← pairs_map hp]
    exact h2.perm.map _
  · refine List.pairwise_map.mpr (h1.imp fun {x y} h => ?_)
    have h' := SrtO.lexB_no.mp h
    unfold le2
    omega
/-! ## comprehensions -/
theorem lc_data {J : It} {n : Nat} {G : Hp → Prop} {Y : Nat → Hp → V → Hp → Prop} (w : Walk J n G Y) {α : Type} (as : List α) (hn : as.length = n) (f : α → Bool) (P : Hp → V → α → Prop) (hP : ∀ H H' v a, TK H H' → P H v a → P H' v a)
    {g : TG} {tt : TT} {te : TE} {vs : List Nat} {σ : L2.St} {H1 : Hp} {D : Addr} {Qd : Hp → Prop} (hD : H1 D = none) (hG : ∀ H', Same H1 H' → G H') (hsz : as.length < sizeLine)
    (hs : ∀ i a x H H' (Ny : V → Hp → Prop) (Nn : Hp → Prop), as[i]? = some a → Same H1 H → Y i H x H' →
      (∀ y H4, f a = true → Same H' H4 → P H4 y a → Ny y H4) → (∀ H3, f a = false → Same H' H3 → Nn H3) →
      g x (wipe σ vs) H' fun σ2 H2 => wipe σ2 vs = wipe σ vs ∧ tt σ2 H2 fun b H3 => if b = true then te σ2 H3 fun y H4 => Ny y H4 else Nn H3)
    (hY : ∀ i H x H', H D = some (.lst []) ∨ True → Y i H x H' → Same H H')
    (hd : ∀ ys H', Same H1 H' → H' D = some (.lst ys) → Paired (P H') ys (as.filter f) → Qd H') :
    ∃ W : Nat → Nat → Hp → Prop, (∃ m, W 0 m (upd H1 D (.lst []))) ∧ ∀ i m H, W i m H →
      (J.stop i H ∧ Qd H) ∨ (J.go i H ∧ ∃ Nx : Hp → Prop, (∀ H', Nx H' → ∃ m', m' < m ∧ W (i + 1) m' H') ∧ ∀ x H', J.yld i H x H' → g x (wipe σ vs) H' fun σ2 H2 => wipe σ2 vs = wipe σ vs ∧ tt σ2 H2 fun b H3 =>
        if b = true then te σ2 H3 fun y H4 => ∃ acc, H4 D = some (.lst acc) ∧ acc.length < sizeLine ∧ Nx (upd H4 D (.lst (acc ++ [y]))) else Nx H3) := by
  refine lc_it w (Pv := fun i H => Same H1 H ∧ ∃ ys, H D = some (.lst ys) ∧ Paired (P H) ys ((as.take i).filter f)) ⟨L2.Same.new hD, [], upd_same, by simp; exact .nil⟩ (fun i H hi p => hG H p.1) ?_ ?_
  · intro i x H H' hi p hy
    obtain ⟨e1, ys, hys, hpr⟩ := p
    have hi' : i < as.length := by omega
    have ha : as[i]? = some as[i] := List.getElem?_eq_getElem hi'
    have eY := hY i H x H' (.inr trivial) hy
    have htk : (as.take (i + 1)).filter f = (as.take i).filter f ++ [as[i]].filter f := by
      rw [List.take_succ, ha, List.filter_append]; rfl
    have hlen : ys.length ≤ i := by
      have := Paired.len hpr
      have h2 := List.length_filter_le f (as.take i)
      have h3 := List.length_take_le i as
      omega
    refine hs i as[i] x H H' _ _ ha e1 hy ?_ ?_
    · intro y H4 hf e4 hPy
      refine ⟨ys, e4 _ _ (eY _ _ hys), by omega, ?_, _, upd_same, ?_⟩
      · exact Same.mut (e1.trans (eY.trans e4)) hD
      · rw [htk, List.filter_cons, if_pos hf]
        refine Paired.app (Paired.imp' hpr fun v a q => hP _ _ _ _ ?_ q) (.cons (hP _ _ _ _ ?_ hPy) .nil)
        · exact (Same.tk (eY.trans e4)).trans (tk_lst (e4 _ _ (eY _ _ hys)))
        · exact tk_lst (e4 _ _ (eY _ _ hys))
    · intro H3 hf e3
      refine ⟨e1.trans (eY.trans e3), ys, e3 _ _ (eY _ _ hys), ?_⟩
      rw [htk, List.filter_cons, if_neg (by simp [hf])]
      simp only [List.filter_nil, List.append_nil]
      exact Paired.imp' hpr fun v a q => hP _ _ _ _ (Same.tk (eY.trans e3)) q
  · intro H p
    obtain ⟨e1, ys, hys, hpr⟩ := p
    rw [← hn, List.take_length] at hpr
    exact hd ys H e1 hys hpr
theorem yes_if {σ : L2.St} {H : Hp} {A B : Hp → Prop} (h : A H) : tYes σ H (fun b H3 => if b = true then A H3 else B H3) := by
  show (if true = true then A H else B H)
  exact iteT h
theorem yat_same {xs : List V} {i : Nat} {H H' : Hp} {x : V} (h : YAt xs i H x H') : Same H H' := by rw [h.1]; exact Same.refl H
theorem ypair_same {xs ys : Nat → Option V} {i : Nat} {H H' : Hp} {x : V} (h : YPair xs ys i H x H') : Same H H' := by
  obtain ⟨T, x, y, _, h2, h3, _⟩ := h
  rw [h3]; exact Same.new h2
/-! ## the tape -/
structure Tape where
  ns : List Int
  i1 : Int
  i2 : Int
  i3 : Int
  i4 : Int
def Tp (H : Hp) (T L : Addr) : Prop := ∃ t : Tape, H T = some (.lst [.ref L, .int t.i1, .int t.i2, .int t.i3, .int t.i4]) ∧ H L = some (.lst (t.ns.map V.int)) ∧ L ≠ T ∧ 0 ≤ t.i1 ∧ 0 ≤ t.i3 ∧ t.i3 < 2147483648
theorem Tp.ext {T L : Addr} {H H' : Hp} (h : Tp H T L) (e : Same H H') : Tp H' T L := by
  obtain ⟨t, h1, h2, h3⟩ := h
  exact ⟨t, e _ _ h1, e _ _ h2, h3⟩
theorem Tp.lst {T L : Addr} {H : Hp} (h : Tp H T L) : ∃ l, H T = some (.lst l) := let ⟨t, h1, _⟩ := h; ⟨_, h1⟩
theorem Tp.lst2 {T L : Addr} {H : Hp} (h : Tp H T L) : ∃ l, H L = some (.lst l) := let ⟨t, _, h1, _⟩ := h; ⟨_, h1⟩
theorem Tp.tk {T L : Addr} {H H' : Hp} (h : Tp H T L) (e : ExT T H H') : TK H H' := let ⟨_, q⟩ := h.lst; e.tk q
/-- another object changes -/
theorem Tp.upd {T L p : Addr} {H : Hp} {o : HO} (h : Tp H T L) (h1 : p ≠ T) (h2 : p ≠ L) : Tp (L2.upd H p o) T L := by
  obtain ⟨t, a1, a2, a3⟩ := h
  exact ⟨t, by rw [upd_ne h1.symm]; exact a1, by rw [upd_ne h2.symm]; exact a2, a3⟩
theorem Tp.neT {T L p : Addr} {H : Hp} (h : Tp H T L) (hp : H p = none) : p ≠ T := fun q => by
  obtain ⟨l, h1⟩ := h.lst
  rw [← q, hp] at h1; cases h1
theorem Tp.neL {T L p : Addr} {H : Hp} (h : Tp H T L) (hp : H p = none) : p ≠ L := fun q => by
  obtain ⟨l, h1⟩ := h.lst2
  rw [← q, hp] at h1; cases h1
/-- what a draw promises -/
def spPick : Sp := fun vs H Q _ => ∃ (T L : Addr) (m : Int), vs = [.ref T, .int m] ∧ 0 < m ∧ m < 1073741824 ∧ Tp H T L ∧ ∀ r H', 0 ≤ r → r < m → ExT T H H' → Tp H' T L → Q (.int r) H'
end Bs

namespace Bs
open PySem PySem.Spec PyProof.Rows L2
/-! ## bits -/
theorem and_pp (x y : Nat) : Builtin.bitAnd (x : Int) (y : Int) = ((x &&& y : Nat) : Int) := by
  unfold Builtin.bitAnd
  rw [decide_eq_true (Int.natCast_nonneg x), decide_eq_true (Int.natCast_nonneg y)]
  simp
theorem or_pp (x y : Nat) : Builtin.bitOr (x : Int) (y : Int) = ((x ||| y : Nat) : Int) := by
  rw [Bits.bitOr_pp (Int.natCast_nonneg x) (Int.natCast_nonneg y)]; simp
theorem xor_pp (x y : Nat) : Builtin.bitXor (x : Int) (y : Int) = ((x ^^^ y : Nat) : Int) := by
  rw [Bits.bitXor_pp (Int.natCast_nonneg x) (Int.natCast_nonneg y)]; simp
/-- one bit less -/
def clr (x k : Nat) : Nat := x - (x &&& 2 ^ k)
theorem and_pow (x k : Nat) : x &&& 2 ^ k = if x.testBit k = true then 2 ^ k else 0 := by
  apply Nat.eq_of_testBit_eq
  intro j
  rw [Nat.testBit_and, Nat.testBit_two_pow]
  by_cases h : k = j
  · subst h
    cases hb : x.testBit k <;> simp
  · cases hb : x.testBit k <;> simp [h, Nat.testBit_two_pow]
theorem clr_bit (x k j : Nat) : (clr x k).testBit j = (x.testBit j && !decide (j = k)) := by
  unfold clr
  rw [and_pow]
  cases hb : x.testBit k with
  | false =>
    simp only [Bool.false_eq_true, if_false, Nat.sub_zero]
    by_cases h : j = k
    · subst h; simp [hb]
    · simp [h]
  | true =>
    rw [if_pos rfl]
    have h1 : x = 2 ^ (k + 1) * (x / 2 ^ (k + 1)) + x % 2 ^ (k + 1) := (Nat.div_add_mod x _).symm
    have hr : x % 2 ^ (k + 1) < 2 ^ (k + 1) := Nat.mod_lt _ (Nat.pow_pos (by decide))
    generalize x / 2 ^ (k + 1) = a at h1
    generalize x % 2 ^ (k + 1) = r at h1 hr
    have hrk : r.testBit k = true := by
      rw [h1, Nat.testBit_two_pow_mul_add _ hr, if_pos (Nat.lt_succ_self k)] at hb
      exact hb
    have hge : 2 ^ k ≤ r := by
      rcases Nat.lt_or_ge r (2 ^ k) with h | h
      · rw [Nat.testBit_lt_two_pow h] at hrk; cases hrk
      · exact h
    have hp : 2 ^ (k + 1) = 2 ^ k + 2 ^ k := by rw [Nat.pow_succ]; omega
    have hb' : r - 2 ^ k < 2 ^ k := by omega
    have hb2 : r - 2 ^ k < 2 ^ (k + 1) := by omega
    have e1 : x - 2 ^ k = 2 ^ (k + 1) * a + (r - 2 ^ k) := by omega
    have e2 : r = 2 ^ k * 1 + (r - 2 ^ k) := by omega
    rw [e1, Nat.testBit_two_pow_mul_add _ hb2]
    conv => rhs; rw [h1]
    rw [Nat.testBit_two_pow_mul_add _ hr]
    by_cases c : j < k + 1
    · rw [if_pos c, if_pos c]
      conv => rhs; rw [e2]
      rw [Nat.testBit_two_pow_mul_add _ hb']
      by_cases d : j < k
      · rw [if_pos d]; simp [show j ≠ k by omega]
      · have : j = k := by omega
        subst this
        rw [if_neg d, Nat.testBit_lt_two_pow hb']
        simp
    · rw [if_neg c, if_neg c]; simp [show j ≠ k by omega]
theorem bitNot_pow (k : Nat) : Builtin.bitNot ((2 : Int) ^ k) = -(2 ^ k) - 1 := rfl
theorem two_pow_pos (k : Nat) : (0 : Int) < 2 ^ k := Int.pow_pos (by decide)
theorem and_not (x k : Nat) : Builtin.bitAnd (x : Int) (Builtin.bitNot ((2 : Int) ^ k)) = ((clr x k : Nat) : Int) := by
  have h2 := two_pow_pos k
  unfold Builtin.bitAnd
  rw [decide_eq_true (Int.natCast_nonneg x), decide_eq_false (show ¬ 0 ≤ Builtin.bitNot ((2 : Int) ^ k) by rw [bitNot_pow]; omega)]
  show (x : Int) - (((x : Int).toNat &&& (Builtin.bitNot (Builtin.bitNot ((2 : Int) ^ k))).toNat : Nat) : Int) = _
  have e : (Builtin.bitNot (Builtin.bitNot ((2 : Int) ^ k))).toNat = 2 ^ k := by
    have : Builtin.bitNot (Builtin.bitNot ((2 : Int) ^ k)) = ((2 ^ k : Nat) : Int) := by
      unfold Builtin.bitNot
      rw [Int.natCast_pow]
      show -(-(2 : Int) ^ k - 1) - 1 = 2 ^ k
      omega
    rw [this]; exact Int.toNat_natCast _
  rw [e]
  unfold clr
  have hle : x &&& 2 ^ k ≤ x := Nat.and_le_left
  have e3 : ((x : Int).toNat &&& 2 ^ k) = x &&& 2 ^ k := by simp
  rw [e3]
  omega
/-- the lowest bit -/
theorem low_ex {n : Nat} (h : n ≠ 0) : ∃ k, n.testBit k = true ∧ ∀ j, j < k → n.testBit j = false := by
  obtain ⟨i, hi⟩ := Nat.exists_testBit_of_ne_zero h
  induction i using Nat.strongRecOn with
  | ind i ih =>
    by_cases c : ∃ j, j < i ∧ n.testBit j = true
    · obtain ⟨j, hj, hb⟩ := c
      exact ih j hj hb
    · refine ⟨i, hi, fun j hj => ?_⟩
      cases hb : n.testBit j with
      | false => rfl
      | true => exact absurd ⟨j, hj, hb⟩ c
theorem low_is {n k : Nat} (h1 : n.testBit k = true) (h2 : ∀ j, j < k → n.testBit j = false) : Builtin.bitAnd (n : Int) (-(n : Int)) = 2 ^ k := by
  have hn : n ≠ 0 := fun e => by rw [e] at h1; simp at h1
  have hm : n % 2 ^ k = 0 := by
    apply Nat.eq_of_testBit_eq
    intro j
    rw [Nat.testBit_mod_two_pow]
    by_cases c : j < k
    · rw [h2 j c]; simp
    · simp [c]
  have e1 : n = 2 ^ k * (n / 2 ^ k) := by
    have := Nat.div_add_mod n (2 ^ k)
    omega
  generalize hc : n / 2 ^ k = c at e1
  have hodd : c.testBit 0 = true := by
    rw [e1, Nat.testBit_two_pow_mul] at h1
    simpa using h1
  have hodd2 : c % 2 = 1 := by simpa using hodd
  obtain ⟨m, hm2⟩ : ∃ m, c = 2 * m + 1 := ⟨c / 2, by omega⟩
  have hp : 0 < 2 ^ k := Nat.pow_pos (by decide)
  have e2 : n - 1 = 2 ^ k * (2 * m) + (2 ^ k - 1) := by
    have : 2 ^ k * c = 2 ^ k * (2 * m) + 2 ^ k := by rw [hm2, Nat.mul_add, Nat.mul_one]
    omega
  have e3 : n &&& (n - 1) = clr n k := by
    apply Nat.eq_of_testBit_eq
    intro j
    rw [Nat.testBit_and, clr_bit]
    conv => lhs; rhs; rw [e2]
    rw [Nat.testBit_two_pow_mul_add _ (show 2 ^ k - 1 < 2 ^ k by omega)]
    by_cases c1 : j < k
    · rw [if_pos c1, h2 j c1]; simp
    · rw [if_neg c1]
      by_cases c2 : j = k
      · subst c2; simp
      · have e4 : n.testBit j = (2 * m + 1).testBit (j - k) := by
          rw [e1, hm2, Nat.testBit_two_pow_mul]
          simp [show k ≤ j by omega]
        rw [e4]
        obtain ⟨i, hi⟩ : ∃ i, j - k = i + 1 := ⟨j - k - 1, by omega⟩
        rw [hi, Nat.testBit_succ, Nat.testBit_succ]
        have a1 : (2 * m + 1) / 2 = m := by omega
        have a2 : 2 * m / 2 = m := by omega
        rw [a1, a2]
        simp [c2]
  unfold Builtin.bitAnd
  rw [decide_eq_true (Int.natCast_nonneg n), decide_eq_false (show ¬ 0 ≤ -(n : Int) by omega)]
  show (n : Int) - (((n : Int).toNat &&& (Builtin.bitNot (-(n : Int))).toNat : Nat) : Int) = _
  have e5 : (Builtin.bitNot (-(n : Int))).toNat = n - 1 := by unfold Builtin.bitNot; omega
  have e6 : ((n : Int).toNat &&& (n - 1)) = clr n k := by rw [Int.toNat_natCast]; exact e3
  rw [e5, e6]
  unfold clr
  rw [and_pow, if_pos h1]
  have hle : 2 ^ k ≤ n := by
    have := Nat.and_le_left (n := n) (m := 2 ^ k)
    rw [and_pow, if_pos h1] at this
    exact this
  have e7 : ((2 : Int) ^ k) = ((2 ^ k : Nat) : Int) := by rw [Int.natCast_pow]; rfl
  rw [e7]
  omega
theorem xor_low {n k : Nat} (h1 : n.testBit k = true) : n ^^^ 2 ^ k = clr n k := by
  apply Nat.eq_of_testBit_eq
  intro j
  rw [Nat.testBit_xor, clr_bit, Nat.testBit_two_pow]
  by_cases c : k = j
  · subst c; simp [h1]
  · simp [c, show j ≠ k from fun e => c e.symm]
theorem clr_lt {n k : Nat} (h1 : n.testBit k = true) : clr n k < n := by
  unfold clr
  rw [and_pow, if_pos h1]
  have hp : 0 < 2 ^ k := Nat.pow_pos (by decide)
  have hle : 2 ^ k ≤ n := by
    have := Nat.and_le_left (n := n) (m := 2 ^ k)
    rw [and_pow, if_pos h1] at this
    exact this
  omega
theorem bits_pow (k : Nat) : Builtin.Int.intBits ((2 : Int) ^ k) = k + 1 := by
  have h1 := natAbs_lt_pow_bits ((2 : Int) ^ k)
  have e : ((2 : Int) ^ k).natAbs = 2 ^ k := by rw [Int.natAbs_pow]; rfl
  rw [e] at h1
  have h2 : Builtin.Int.intBits ((2 : Int) ^ k) ≤ k + 1 := intBits_le (by rw [e, Nat.pow_succ]; have := Nat.pow_pos (n := k) (show 0 < 2 by decide); omega)
  have h3 : k < Builtin.Int.intBits ((2 : Int) ^ k) := (Nat.pow_lt_pow_iff_right (by decide)).mp h1
  omega
/-! ## rules -/
section
variable {X : Cx}
theorem ip_or : PIp X .BitOr (rI0 fun i j => .int (Builtin.bitOr i j)) := fun pins s σ H x y v u Q I rx ry h => iop_or pins s σ H x y v u Q I rx ry h
theorem ip_xor : PIp X .BitXor (rI0 fun i j => .int (Builtin.bitXor i j)) := fun pins s σ H x y v u Q I rx ry h => iop_xor pins s σ H x y v u Q I rx ry h
/-- xs[i] read, ahead of xs[i] op= e -/
def gGetL (K : PySem.W.Frag) : V → V → Hp → VK → Prop := fun o i H Q => ∃ p xs k v, o = .ref p ∧ i = .int k ∧ SqL K H p xs ∧ 0 ≤ k ∧ xs[k.toNat]? = some v ∧ Q v H
theorem get_listP : PGet X (gGetL X.K) := by
  intro pins s σ H o i ov iv Q I ro ri h
  obtain ⟨p, xs, k, v, rfl, rfl, hs, h0, hv, q⟩ := h
  cases ro
  obtain ⟨t, rfl⟩ := ri
  obtain ⟨its, r, pl, hz⟩ := I.list hs
  obtain ⟨u, hu, ru⟩ := r.get hv
  have hl := r.length
  have hk : k.toNat < xs.length := (List.getElem?_eq_some_iff.mp hv).1
  have hn := line63
  exact wpAny_getItem_list pl.isList h0 (by omega) (by simpa using hu) ⟨v, H, I, ru, q⟩
/-- a thing that is in no place of a tuple of data -/
def rNotInT (K : PySem.W.Frag) : R2 := fun x y H Q => ∃ d ds, Dp K H x d ∧ Dp K H y (.tuple ds) ∧ SeqAt.shaped d = true ∧ SeqAt.shaped (.list ds) = true ∧ SeqAt.shaped (.tuple ds) = true ∧ Q (.bl (!ds.any fun z => PyData.eqv z d)) H
def rInT (K : PySem.W.Frag) : R2 := fun x y H Q => ∃ d ds, Dp K H x d ∧ Dp K H y (.tuple ds) ∧ SeqAt.shaped d = true ∧ SeqAt.shaped (.list ds) = true ∧ SeqAt.shaped (.tuple ds) = true ∧ Q (.bl (ds.any fun z => PyData.eqv z d)) H
theorem op_inT (hu : X.A.units + 65 < cLine) : OpR X (compareOp .In) (rInT X.K) := by
  intro pins s σ H x y v u Q I rx ry ⟨d, ds, hd, he, sd, sl, se, q⟩
  obtain ⟨as, r1⟩ := Dp.reads I d x v hd rx
  obtain ⟨bs, r2⟩ := Dp.reads I (.tuple ds) y u he ry
  exact SeqAt.in_tuple_reads r2 r1 (by have := SeqAt.canLay_of_shaped sl; exact this) (SeqAt.canLay_of_shaped sd) (room_in_shaped sd hu) ⟨.bl _, H, I, rfl, q⟩
theorem op_notInT (hu : X.A.units + 65 < cLine) : OpR X (compareOp .NotIn) (rNotInT X.K) := by
  intro pins s σ H x y v u Q I rx ry ⟨d, ds, hd, he, sd, sl, se, q⟩
  obtain ⟨as, r1⟩ := Dp.reads I d x v hd rx
  obtain ⟨bs, r2⟩ := Dp.reads I (.tuple ds) y u he ry
  exact SeqAt.notIn_tuple_reads r2 r1 (by have := SeqAt.canLay_of_shaped sl; exact this) (SeqAt.canLay_of_shaped sd) (room_in_shaped sd hu) ⟨.bl _, H, I, rfl, q⟩
end
end Bs

namespace Bs
open PySem PySem.Spec PyProof.Rows L2 HT
/-! ## t[::-1], t a tuple -/
theorem fm_congr {α β : Type} {f g : α → Option β} : ∀ {l : List α}, (∀ x ∈ l, f x = g x) → l.filterMap f = l.filterMap g
  | [], _ => rfl
  | a :: l, h => by rw [List.filterMap_cons, List.filterMap_cons, h a (by simp), fm_congr fun x hx => h x (by simp [hx])]
theorem rev_all {α : Type} (xs : Array α) : (List.range xs.size).filterMap (fun m : Nat => xs[(((xs.size : Int) - 1) + (m : Int) * -1).toNat]?) = xs.toList.reverse := by
  rw [← PySem.W.krv_all xs, ← List.filterMap_reverse, ← PySem.W.krv_range, List.filterMap_map]
  refine fm_congr fun m hm => ?_
  have := List.mem_range.mp hm
  show _ = xs[xs.size - 1 - m]?
  congr 1
  omega
section
variable {prog : Program} {w : World} {A : Around} {E : Value → Shared → Prop} {s : Shared}
theorem sliceApplied_rev {sl : Addr} {tk : Tok} {n : Nat} {Q : Int × Int × Nat → Shared → Prop} (hs : s.heap.IsSliceOf sl .none .none (.int (-1) tk))
    (h : Q ((n : Int) - 1, -1, n) s) : wpAny (model prog w) A (Builtin.Slice.sliceApplied (.ref sl) (pure (n : Int))) Q E s := by
  obtain ⟨os, hos, hcs, hds⟩ := id hs
  unfold Builtin.Slice.sliceApplied Builtin.Slice.sliceFields
  refine wpAny_bind (wpAny_bind (wpAny_field hos hds (x := .none) rfl (wpAny_bind (wpAny_field hos hds (x := .none) rfl (wpAny_bind (wpAny_field hos hds (x := .int (-1) tk) rfl (wpAny_pure ?_)))))))
  refine wpAny_bind (slicePart_ (.int (-1) tk) ?_)
  show wpAny _ _ (if ((-1 : Int) == 0) = true then _ else _) _ _ s
  rw [if_neg (by decide)]
  refine wpAny_bind (slicePart_none (wpAny_bind (slicePart_none (wpAny_bind (wpAny_pure ?_)))))
  show wpAny _ _ (pure ((n : Int) - 1, (-1 : Int), Builtin.Slice.slicePlaces ((n : Int) - 1) (-1) (-1))) _ _ s
  have e : Builtin.Slice.slicePlaces ((n : Int) - 1) (-1) (-1) = n := by
    show (if (-1 : Int) > 0 then _ else if (n : Int) - 1 > -1 then ((n : Int) - 1 - -1 - 1) / - -1 + 1 else 0).toNat = n
    rw [if_neg (by decide)]
    by_cases h : (n : Int) - 1 > -1
    · rw [if_pos h, show (- -1 : Int) = 1 by decide, Int.ediv_one]; omega
    · rw [if_neg h]; omega
  rw [e]
  exact wpAny_pure h
theorem getItem_tuple_rev {t sl : Addr} {items : Array Value} {tk : Tok} {Q : Value → Shared → Prop} (ht : IsTup s.heap t items) (hs : s.heap.IsSliceOf sl .none .none (.int (-1) tk))
    (h : Q (.ref s.heap.objs.size) { s with heap := s.heap.push { cls := .type "tuple", data := .seq items.toList.reverse.toArray } })
    (hsz : items.size ≤ sizeLine) : wpAny (model prog w) A (getItem (.ref t) (.ref sl)) Q E s := by
  have hok : sizeOk (.seq items.toList.reverse.toArray) := by
    show items.toList.reverse.toArray.size ≤ sizeLine
    rw [List.size_toArray, List.length_reverse, Array.length_toList]
    exact hsz
  obtain ⟨os, hos, hcs, hds⟩ := id hs
  have hTs : s.TypeIs (.ref sl) "slice" := ⟨os, hos, hcs⟩
  unfold getItem
  try with_reducible refine wpAny_holding ?_
  first | refine wpAny_bind (wpAny_pure ?_) | skip
  refine wpAny_bind (wpAny_sequenceKey ht.typeIs (by decide) ?_)
  refine wpAny_bind (wpAny_callSpecial?_slot (name := Str.ofString "__getitem__") ht.typeIs PyProof.Rows.slot_tuple_getitem
    (wpAny_call_entry PyProof.Rows.slot_tuple_getitem ht.typeIs entry_tuple_getitem ?_ (args_tuple_getitem _ _)))
  show wpAny _ _ (Builtin.Tuple.tupleItemsOf (.ref t) >>= _) _ _ s
  refine wpAny_bind (tupleItemsOf_ ht ?_)
  refine wpAny_bind (wpAny_typeOf hTs ?_)
  rw [if_pos (by decide)]
  refine wpAny_bind (sliceApplied_rev hs ?_)
  have hno : ¬ ((((items.size : Int) - 1) == 0 && (-1 : Int) == 1 && items.size == items.size) = true) := by
    intro q
    rw [Bool.and_eq_true, Bool.and_eq_true] at q
    exact absurd q.1.2 (by decide)
  show wpAny _ _ (if (((items.size : Int) - 1) == 0 && (-1 : Int) == 1 && items.size == items.size) = true then _ else _) _ _ s
  rw [if_neg hno, rev_all]
  first
    | exact wpAny_bind (m := Builtin.Tuple.tupleExact _) (wpAny_newObj_type (wpAny_pure ⟨_, rfl, wpAny_pure h⟩) hok)
    | exact wpAny_bind (m := Builtin.Tuple.tupleExact _) (wpAny_newObj_type (wpAny_bind (wpAny_pure (wpAny_pure ⟨_, rfl, wpAny_pure h⟩))) hok)
    | exact wpAny_bind (wpAny_bind (m := Builtin.Tuple.tupleExact _) (wpAny_newObj_type (wpAny_pure (wpAny_pure ⟨_, rfl, wpAny_pure h⟩)) hok))
    | exact wpAny_bind (wpAny_bind (m := Builtin.Tuple.tupleExact _) (wpAny_newObj_type (wpAny_pure ⟨_, rfl, wpAny_pure h⟩) hok))
end
def tRevT (K : PySem.W.Frag) (te : TE) : TE := fun σ H Q => te σ H fun x H1 => ∃ a xs, x = .ref a ∧ SqT K H1 a xs ∧ ∀ p, H1 p = none → Q (.ref p) (upd H1 p (.tup xs.reverse))
theorem pe_revT {X : Cx} {e : Expr} {te : TE} {k : Nat} {p1 p2 p3 pos : Pos} (he : PE X e te) : PE X (.Subscript e (.Slice none none (some (.UnaryOp .USub (.Constant (.int 1) k p1) p2)) p3) pos) (tRevT X.K te) := by
  refine ⟨fun pins s σ H Q I h => ?_⟩
  refine Subscript_ (thn (he.run pins s σ H _ I h) fun v s1 ⟨x, H1, I1, r1, q1⟩ => ?_)
  obtain ⟨a, xs, ex, hx, q⟩ := q1
  subst ex
  cases r1
  have hst : PO X (some (.UnaryOp .USub (.Constant (.int 1) k p1) p2)) (tPart (tUn (rU fun i => .int (-i)) (tC (.int 1)))) := po_some (pe_un un_neg pe_int)
  refine wpAny_Slice (thn (po_none.run pins s1 σ H1 (fun o H2 => o = none ∧ H2 = H1) I1 ⟨rfl, rfl⟩) fun vl s2 ⟨l, H2, I2, pl, el, e2⟩ => ?_)
  subst el e2
  refine thn (po_none.run pins s2 σ H2 (fun o H3 => o = none ∧ H3 = H2) I2 ⟨rfl, rfl⟩) fun vu s3 ⟨u, H3, I3, pu, eu, e3⟩ => ?_
  subst eu e3
  refine thn (hst.run pins s3 σ H3 (fun o H4 => o = some (-1) ∧ H4 = H3) I3 ⟨1, rfl, -1, rfl, rfl, rfl⟩) fun vs s4 ⟨o, H4, I4, ps, eo, e4⟩ => ?_
  subst eo e4
  cases pl
  cases pu
  obtain ⟨tk, ev⟩ : ∃ tk, vs = .int (-1) tk := by
    cases ps with
    | int i t => exact ⟨t, rfl⟩
  subst ev
  have I5 : Inv X pins σ H4 { s4 with heap := s4.heap.push { cls := .type "slice", data := .fields #[.none, .none, .int (-1) tk] } } := I4.kept (t' := s4.toks) fun b ob q => Heap.get?_push_of_some _ q
  obtain ⟨its, r, ht, hz⟩ := I5.tuple hx
  have hlen := r.length
  show wpAny (model X.prog X.w) X.A (subscriptTail e (.Slice none none (some (.UnaryOp .USub (.Constant (.int 1) k p1) p2)) p3) (.ref a) (.ref s4.heap.objs.size)) (EP X pins σ Q) X.xe { s4 with heap := s4.heap.push { cls := .type "slice", data := .fields #[.none, .none, .int (-1) tk] } }
  refine tail_any (ops := [.ref a, .ref s4.heap.objs.size]) ht.typeIs (PyProof.Rows.slot_tuple_getitem.lookup) ?_ (by with_unfolding_all rfl)
  refine getItem_tuple_rev ht (Heap.IsSliceOf.new _ .none .none (.int (-1) tk)) ?_ (by rw [List.size_toArray]; omega)
  refine ⟨.ref _, _, I5.laid (t' := s4.toks) (o := .tup xs.reverse) (fun b ob q => Heap.get?_push_of_some _ q) (Nat.le_refl _) ?_, rfl, q _ (I5.hok.fresh (Nat.le_refl _))⟩
  exact ⟨by rw [List.length_reverse]; exact hz, _, r.reverse, ⟨_, Heap.get?_push_size _ rfl, rfl, _, rfl⟩⟩
/-! ## things of any kind -/
/-- the type of a thing, as far as isinstance asks for it -/
def Typ (K : PySem.W.Frag) (H : Hp) (v : V) (c : String) (b : Bool) : Prop := ∃ t, TyX K H v t ∧ PySem.W.kitOne K t (.type c) = some b
/-- an int, a flag, or neither -/
inductive Item (K : PySem.W.Frag) (H : Hp) : V → Prop where
  | int (i : Int) : Item K H (.int i)
  | bl (b : Bool) : Item K H (.bl b)
  | els {v : V} (h : Typ K H v "int" false) (h1 : ∀ i, v ≠ .int i) : Item K H v
def isI : V → Bool
  | .int _ => true
  | _ => false
def inI (a b : Int) : V → Bool
  | .int i => decide (a ≤ i ∧ i ≤ b)
  | _ => false
theorem TyX.same {K : PySem.W.Frag} {H H' : Hp} {v : V} {t : Value} (hk : ∀ a xs, H a = some (.tup xs) → H' a = some (.tup xs)) (h : TyX K H v t) (hl : ∀ a xs, v = .ref a → H a = some (.lst xs) → ∃ ys, H' a = some (.lst ys)) (ho : ∀ a o, v = .ref a → H a = some o → isTupO (some o) = false → (∀ xs, o ≠ .lst xs) → H' a = some o) : TyX K H' v t := by
  cases h with
  | base b =>
    cases b with
    | non => exact .base .non
    | bl x => exact .base (.bl x)
    | int x => exact .base (.int x)
    | str x => exact .base (.str x)
    | flt x => exact .base (.flt x)
    | @lst a xs e => obtain ⟨ys, h⟩ := hl a xs rfl e; exact .base (.lst h)
    | @frz a o xs e => exact .base (.frz (ho a _ rfl e rfl (fun _ => HO.noConfusion)))
    | @tup a xs e => exact .base (.tup (hk _ _ e))
    | @dK a kvs e => exact .base (.dK (ho a _ rfl e rfl (fun _ => HO.noConfusion)))
    | @dT a kvs e => exact .base (.dT (ho a _ rfl e rfl (fun _ => HO.noConfusion)))
    | @ins a C dx fs e cl ha hn htk hm => exact .base (.ins (ho a _ rfl e rfl (fun _ => HO.noConfusion)) cl ha hn htk hm)
  | byt b => exact .byt b
  | @set a S n e => exact .set (ho a _ rfl e rfl (fun _ => HO.noConfusion))
  | kList e c => exact .kList e c
  | kTuple e c => exact .kTuple e c
  | kDict e c => exact .kDict e c
  | @fTuple a o xs e => exact .fTuple (ho a _ rfl e rfl (fun _ => HO.noConfusion))
  | @fDict a o kvs e => exact .fDict (ho a _ rfl e rfl (fun _ => HO.noConfusion))
theorem TyX.ext {K : PySem.W.Frag} {H H' : Hp} {v : V} {t : Value} (h : TyX K H v t) (e : Same H H') : TyX K H' v t :=
  TyX.same (fun a xs q => e _ _ q) h (fun a xs _ q => ⟨xs, e _ _ q⟩) (fun a o _ q _ _ => e _ _ q)
theorem TyX.exT {K : PySem.W.Frag} {H H' : Hp} {T : Addr} {l l' : List V} {v : V} {t : Value} (h : TyX K H v t) (e : ExT T H H') (hT : H T = some (.lst l)) (hT' : H' T = some (.lst l')) : TyX K H' v t :=
  TyX.same (fun a xs q => e.tk hT _ _ q) h (fun a xs _ q => by
    by_cases c : a = T
    · exact ⟨l', by rw [c]; exact hT'⟩
    · exact ⟨xs, e _ _ c q⟩) (fun a o _ q _ n => e _ _ (fun c => by rw [c, hT] at q; exact n l (Option.some.inj q).symm) q)
theorem Typ.ext {K : PySem.W.Frag} {H H' : Hp} {v : V} {c : String} {b : Bool} (h : Typ K H v c b) (e : Same H H') : Typ K H' v c b := let ⟨t, h1, h2⟩ := h; ⟨t, TyX.ext h1 e, h2⟩
theorem Typ.exT {K : PySem.W.Frag} {H H' : Hp} {T : Addr} {l l' : List V} {v : V} {c : String} {b : Bool} (h : Typ K H v c b) (e : ExT T H H') (hT : H T = some (.lst l)) (hT' : H' T = some (.lst l')) : Typ K H' v c b := let ⟨t, h1, h2⟩ := h; ⟨t, TyX.exT h1 e hT hT', h2⟩
theorem Item.ext {K : PySem.W.Frag} {H H' : Hp} {v : V} (h : Item K H v) (e : Same H H') : Item K H' v := by
  cases h with
  | int i => exact .int i
  | bl b => exact .bl b
  | els h h1 => exact .els (h.ext e) h1
theorem Item.exT {K : PySem.W.Frag} {H H' : Hp} {T : Addr} {l l' : List V} {v : V} (h : Item K H v) (e : ExT T H H') (hT : H T = some (.lst l)) (hT' : H' T = some (.lst l')) : Item K H' v := by
  cases h with
  | int i => exact .int i
  | bl b => exact .bl b
  | els h h1 => exact .els (h.exT e hT hT') h1
/-- a tuple of items, or no tuple -/
inductive Thing (K : PySem.W.Frag) (H : Hp) : V → Prop where
  | tup {a : Addr} {xs : List V} (h : H a = some (.tup xs)) (h1 : ∀ x ∈ xs, Item K H x) (h2 : xs.length ≤ 100000) : Thing K H (.ref a)
  | els {v : V} (h : Typ K H v "tuple" false) (h1 : ∀ a xs, v = .ref a → H a ≠ some (.tup xs)) : Thing K H v
theorem Thing.ext {K : PySem.W.Frag} {H H' : Hp} {v : V} (h : Thing K H v) (e : Same H H') (hv : ∀ a, v = .ref a → H a ≠ none) : Thing K H' v := by
  cases h with
  | tup h h1 h2 => exact .tup (e _ _ h) (fun x hx => (h1 x hx).ext e) h2
  | els h h1 =>
    refine .els (h.ext e) fun a xs ea q => ?_
    cases c : H a with
    | none => exact hv a ea c
    | some o =>
      rw [e _ _ c] at q
      cases q
      exact h1 a xs ea c
theorem Thing.exT {K : PySem.W.Frag} {H H' : Hp} {T : Addr} {l l' : List V} {v : V} (h : Thing K H v) (e : ExT T H H') (hT : H T = some (.lst l)) (hT' : H' T = some (.lst l')) (hv : ∀ a, v = .ref a → H a ≠ none) : Thing K H' v := by
  cases h with
  | tup h h1 h2 => exact .tup (e.tk hT _ _ h) (fun x hx => (h1 x hx).exT e hT hT') h2
  | els h h1 =>
    refine .els (h.exT e hT hT') fun a xs ea q => ?_
    by_cases ca : a = T
    · rw [ca, hT'] at q; cases q
    · cases c : H a with
      | none => exact hv a ea c
      | some o =>
        rw [e _ _ ca c] at q
        cases q
        exact h1 a xs ea c
theorem typ_tup {K : PySem.W.Frag} {H : Hp} {a : Addr} {xs : List V} {c : String} {b : Bool} (h : H a = some (.tup xs)) (hb : kitB "tuple" c = some b) : Typ K H (.ref a) c b := ⟨_, .base (.tup h), kit_ty hb⟩
theorem typ_lst {K : PySem.W.Frag} {H : Hp} {a : Addr} {xs : List V} {c : String} {b : Bool} (h : H a = some (.lst xs)) (hb : kitB "list" c = some b) : Typ K H (.ref a) c b := ⟨_, .base (.lst h), kit_ty hb⟩
theorem typ_dK {K : PySem.W.Frag} {H : Hp} {a : Addr} {xs : List (L2.Key × V)} {c : String} {b : Bool} (h : H a = some (.dK xs)) (hb : kitB "dict" c = some b) : Typ K H (.ref a) c b := ⟨_, .base (.dK h), kit_ty hb⟩
theorem typ_non {K : PySem.W.Frag} {H : Hp} {c : String} {b : Bool} (hb : kitB "NoneType" c = some b) : Typ K H .non c b := ⟨_, .base .non, kit_ty hb⟩
theorem typ_str {K : PySem.W.Frag} {H : Hp} {c : String} {x : Str} {b : Bool} (hb : kitB "str" c = some b) : Typ K H (.str x) c b := ⟨_, .base (.str x), kit_ty hb⟩
theorem typ_int {K : PySem.W.Frag} {H : Hp} {c : String} {x : Int} {b : Bool} (hb : kitB "int" c = some b) : Typ K H (.int x) c b := ⟨_, .base (.int x), kit_ty hb⟩
theorem typ_bl {K : PySem.W.Frag} {H : Hp} {c : String} {x : Bool} {b : Bool} (hb : kitB "bool" c = some b) : Typ K H (.bl x) c b := ⟨_, .base (.bl x), kit_ty hb⟩
theorem Item.non {K : PySem.W.Frag} {H : Hp} : Item K H .non := .els (typ_non (by decide +kernel)) (fun _ => V.noConfusion)
theorem Item.str {K : PySem.W.Frag} {H : Hp} (x : Str) : Item K H (.str x) := .els (typ_str (by decide +kernel)) (fun _ => V.noConfusion)
theorem Item.tup {K : PySem.W.Frag} {H : Hp} {a : Addr} {xs : List V} (h : H a = some (.tup xs)) : Item K H (.ref a) := .els (typ_tup h (by decide +kernel)) (fun _ => V.noConfusion)
theorem Item.lst {K : PySem.W.Frag} {H : Hp} {a : Addr} {xs : List V} (h : H a = some (.lst xs)) : Item K H (.ref a) := .els (typ_lst h (by decide +kernel)) (fun _ => V.noConfusion)
theorem Item.dK {K : PySem.W.Frag} {H : Hp} {a : Addr} {xs : List (L2.Key × V)} (h : H a = some (.dK xs)) : Item K H (.ref a) := .els (typ_dK h (by decide +kernel)) (fun _ => V.noConfusion)
theorem Thing.non {K : PySem.W.Frag} {H : Hp} : Thing K H .non := .els (typ_non (by decide +kernel)) (fun _ _ => V.noConfusion)
theorem Thing.str {K : PySem.W.Frag} {H : Hp} (x : Str) : Thing K H (.str x) := .els (typ_str (by decide +kernel)) (fun _ _ => V.noConfusion)
theorem Thing.int {K : PySem.W.Frag} {H : Hp} (x : Int) : Thing K H (.int x) := .els (typ_int (by decide +kernel)) (fun _ _ => V.noConfusion)
theorem Thing.bl {K : PySem.W.Frag} {H : Hp} (x : Bool) : Thing K H (.bl x) := .els (typ_bl (by decide +kernel)) (fun _ _ => V.noConfusion)
theorem Thing.lst {K : PySem.W.Frag} {H : Hp} {a : Addr} {xs : List V} (h : H a = some (.lst xs)) : Thing K H (.ref a) := .els (typ_lst h (by decide +kernel)) (fun b ys e q => by cases e; rw [h] at q; cases q)
theorem Thing.dK {K : PySem.W.Frag} {H : Hp} {a : Addr} {xs : List (L2.Key × V)} (h : H a = some (.dK xs)) : Thing K H (.ref a) := .els (typ_dK h (by decide +kernel)) (fun b ys e q => by cases e; rw [h] at q; cases q)
/-- what isinstance asks of a class of one's own -/
structure ClsTy (K : PySem.W.Frag) (C : Addr) : Prop where
  int : PySem.W.kitOne K (.ref C) (.type "int") = some false
  tup : PySem.W.kitOne K (.ref C) (.type "tuple") = some false
end Bs

namespace Bs
open PySem PySem.Spec PyProof.Rows L2 HT
/-! ## sorted(xs), tuples of ints of any length -/
section
variable {prog : Program} {w : World} {A : Around} {E : Value → Shared → Prop} {s : Shared}
def IsIt (h : Heap) (v : Value) (ns : List Int) : Prop := ∃ (a : Addr) (o : Obj) (items : Array Value) (n : Nat), v = .ref a ∧ h.get? a = some o ∧ o.cls = .type "tuple" ∧ o.data = .seq items n ∧ IntsAre items.toList ns
theorem IsIt.keeps {h h' : Heap} {v : Value} {ns : List Int} (x : IsIt h v ns) (k : ∀ b o, v = .ref b → h.get? b = some o → h'.get? b = some o) : IsIt h' v ns := by
  obtain ⟨a, o, items, n, e, g, c, d, i⟩ := x
  exact ⟨a, o, items, n, e, k _ _ e g, c, d, i⟩
theorem lt_it {v u : Value} {ns ms : List Int} {Q : Bool → Shared → Prop} (hu : A.units < cLine) (hv : IsIt s.heap v ns) (hw : IsIt s.heap u ms) (h : Q (HT.lexLt ns ms) s) : wpAny (model prog w) A (keyLt' oneType' v u) Q E s := by
  obtain ⟨a, ⟨c1, dd, d1, sl⟩, items, n, rfl, ga, ca, da, ia⟩ := hv
  obtain ⟨b, ⟨c2, dd2, d2, sl2⟩, items2, n2, rfl, gb, cb, db, ib⟩ := hw
  simp only at ca da cb db
  subst ca da cb db
  rw [keyLt'_oneType, oneLt'_eq]
  simp only [if_true]
  refine wpAny_bind (wpAny_cRoomFor hu ?_)
  refine wpAny_bind (wpAny_callSpecialIfBound?_slot (name := PySem.Str.ofString "__lt__") ⟨_, ga, rfl⟩ PySem.F.slot_tuple_lt ?_)
  refine call_meets PySem.F.slot_tuple_lt ⟨_, ga, rfl⟩ PySem.F.entry_tuple_lt (PySem.F.args_tuple_lt_2 _ _) (tuple_lt_ints a b items items2 n n2 dd dd2 sl sl2 ns ms ia ib) ⟨ga, gb, ?_⟩
  exact wpAny_truthy_bool h
/-- of tuples, one by one -/
theorem lex_it (b : Bool) {Q : Bool → Shared → Prop} : ∀ {xs ys : List Value} {ns ms : List Int} (i : Nat) (d : Bool), IntsAre xs ns → IntsAre ys ms → (ns.length < ms.length ↔ d = true) → Q (HT.lexLt ns ms) s → PySem.W.KatLex prog w A b d Q (xs.zip ys) i s
  | _, _, _, _, i, d, .nil, .nil, e, h => by
    have : d = false := by
      cases d with
      | false => rfl
      | true => exact absurd (e.mpr rfl) (by simp)
    subst this
    exact PySem.W.kat_nil h
  | _, _, _, _, i, d, .nil, .cons m t r, e, h => by
    have : d = true := e.mp (by simp)
    subst this
    exact PySem.W.kat_nil h
  | _, _, _, _, i, d, .cons n t r, .nil, e, h => by
    have : d = false := by
      cases d with
      | false => rfl
      | true => exact absurd (e.mpr rfl) (by simp)
    subst this
    exact PySem.W.kat_nil h
  | _, _, _, _, i, d, .cons (vs := xs) (ns := ns) n t r, .cons (vs := ys) (ns := ms) m u r', e, h => by
    rw [HT.lexLt_cons] at h
    refine PySem.W.kat_cons (SeqAt.EqAt.int_int n t m u prog w _ _ ?_)
    refine PySem.W.kat_go (fun e1 => ?_) (fun e1 => ?_)
    · have ex : n = m := by simpa using e1
      rw [if_pos ex] at h
      exact PySem.W.kat_yes (lex_it b (i + 1) d r r' (by simpa using e) h)
    · have ex : ¬ n = m := by simpa using e1
      rw [if_neg ex] at h
      exact PySem.W.kat_no (TS.oneLt_ints _ h)
theorem kat_it {vs : List Value} (h : Heap) : (∀ v ∈ vs, ∃ ns, IsIt h v ns ∧ ns ≠ []) → ∃ fs, PySem.W.KatTups h vs fs ∧ fs.length = vs.length ∧ ∀ f ∈ fs, ∃ x t, f = Value.int x t := by
  induction vs with
  | nil => intro _; exact ⟨[], .nil, rfl, by simp⟩
  | cons v vs ih =>
    intro hv
    obtain ⟨fs, h1, h2, h3⟩ := ih fun u hu => hv u (List.mem_cons_of_mem _ hu)
    obtain ⟨ns, ⟨a, o, items, n, rfl, g, c, d, i⟩, hne⟩ := hv v List.mem_cons_self
    obtain ⟨its, rfl⟩ : ∃ its, items = List.toArray its := ⟨items.toList, by simp⟩
    cases its with
    | nil => cases i; exact absurd rfl hne
    | cons x its =>
      cases i with
      | cons k t r => exact ⟨.int k t :: fs, .cons g c d (by simp) h1, by simp [h2], fun f hf => (List.mem_cons.mp hf).elim (fun e => ⟨k, t, e⟩) (h3 f)⟩
theorem firsts_it {M : Model} : ∀ (vs : List Value) {Q : List (Option Value) → Shared → Prop}, (∀ v ∈ vs, ∃ ns, IsIt s.heap v ns) → (∀ l, Q l s) → wpAny M A (vs.mapM firstOfTuple') Q E s
  | [], Q, _, h => by rw [List.mapM_nil]; exact wpAny_pure (h _)
  | v :: vs, Q, hv, h => by
    obtain ⟨ns, ⟨a, o, items, n, rfl, g, c, d, i⟩⟩ := hv v List.mem_cons_self
    rw [List.mapM_cons]
    refine wpAny_bind ?_
    rw [PySem.W.kas_first_eq]
    refine wpAny_bind (PySem.W.Looks.here (show PySem.W.Looks M s.heap (typeOf (.ref a)) o.cls from (PySem.W.Looks.ld g).andThen .now) ?_)
    rw [c, if_neg (by first | decide | simp)]
    refine wpAny_bind (listItems_at g d (wpAny_pure ?_))
    exact wpAny_bind (firsts_it vs (fun u hu => hv u (List.mem_cons_of_mem _ hu)) fun l => wpAny_pure (h _))
theorem kind_one {v : Value} {vs : List Value} {Q : SortKind → Shared → Prop} (h0 : IsIt s.heap v []) (hv : ∀ u ∈ vs, ∃ ns, IsIt s.heap u ns) (h : Q oneType' s) {M : Model} : wpAny M A (keyKind' (v :: vs).toArray) Q E s := by
  rw [kat_kind_eq, List.mapM_toArray, map_eq_pure_bind]
  obtain ⟨a, o, items, n, rfl, g, c, d, i⟩ := id h0
  rw [List.mapM_cons]
  refine wpAny_bind (wpAny_bind (wpAny_bind ?_))
  rw [PySem.W.kas_first_eq]
  refine wpAny_bind (PySem.W.Looks.here (show PySem.W.Looks M s.heap (typeOf (.ref a)) o.cls from (PySem.W.Looks.ld g).andThen .now) ?_)
  rw [c, if_neg (by first | decide | simp)]
  refine wpAny_bind (listItems_at g d (wpAny_pure ?_))
  have e0 : items[0]? = none := by
    cases hl : items.toList with
    | nil => simp [Array.toList_eq_nil_iff.mp hl]
    | cons x r => rw [hl] at i; cases i
  rw [e0]
  refine wpAny_bind (firsts_it vs hv fun l => wpAny_pure (wpAny_pure ?_))
  have hall : ((none :: l : List (Option Value)).toArray.all fun x => x.isSome) = false := by simp
  rw [hall, if_neg (by simp)]
  have hb : (((none :: l : List (Option Value)).toArray[0]?.bind id).isSome) = false := by simp
  rw [hb, if_neg (by simp)]
  rw [oneTypeOnly'_eq, List.mapM_toArray, map_eq_pure_bind]
  have ht : ∀ u ∈ Value.ref a :: vs, PySem.W.Looks M s.heap (typeOf u) (.type "tuple") := fun u hu => by
    obtain ⟨ns, ⟨b, o', _, _, rfl, g', c', _, _⟩⟩ : ∃ ns, IsIt s.heap u ns := by
      rcases List.mem_cons.mp hu with rfl | hu
      · exact ⟨_, h0⟩
      · exact hv u hu
    rw [← c']
    exact (PySem.W.Looks.ld g').andThen .now
  refine wpAny_bind (wpAny_bind (wpAny_bind (PySem.W.kas_mapM (r := Value.type "tuple") _ (fun v hv Q' hq => (ht v hv).here hq) (wpAny_pure ?_))))
  have hall2 : ((List.map (fun _ => Value.type "tuple") (Value.ref a :: vs)).toArray.all fun x => x == Value.type "tuple") = true := by
    simp only [List.all_toArray, List.all_map, List.all_eq_true]
    intro _ _
    rfl
  have h00 : (List.map (fun _ => Value.type "tuple") (Value.ref a :: vs)).toArray[0]? = some (Value.type "tuple") := by simp
  rw [h00]
  simp only [hall2, if_true]
  exact wpAny_pure (wpAny_pure h)
theorem it_sortable {a : Addr} {vs : List Value} {k : Value → List Int} (h2 : 2 ≤ vs.length) (hu : A.units < cLine) (hv : ∀ v ∈ vs, IsIt s.heap v (k v)) (ha : ∀ v ∈ vs, v ≠ .ref a) (hk : (∀ v ∈ vs, k v ≠ []) ∨ ∃ v r, vs = v :: r ∧ k v = []) :
    SrtO.SortableO prog w A s a vs fun v u => HT.lexLt (k v) (k u) := by
  intro h' keep
  have hv' : ∀ v ∈ vs, IsIt h' v (k v) := fun v hm => (hv v hm).keeps fun b o e g => keep b o (fun z => ha v hm (by rw [e, z])) g
  rcases hk with hk | ⟨v0, r, rfl, hk⟩
  · obtain ⟨fs, h1, h3, h4⟩ := kat_it h' fun v hm => ⟨k v, hv' v hm, hk v hm⟩
    refine ⟨tuples' true, fun Q E hq => ?_, fun p q hp hq => ?_⟩
    · refine PySem.W.kat_kind (T := .type "int") h1 (by omega) (fun f hm => ?_) (by rfl) ?_
      · obtain ⟨x, t, rfl⟩ := h4 f hm
        exact PySem.W.Looks.now
      · have e : (Value.type "int" != Value.type "tuple") = true := by first | decide +kernel | rfl | decide
        rw [e]
        exact hq
    · obtain ⟨a1, o1, i1, n1, e1, g1, c1, d1, ii1⟩ := hv' _ hp
      obtain ⟨a2, o2, i2, n2, e2, g2, c2, d2, ii2⟩ := hv' _ hq
      show wpAny (model prog w) A (keyLt' (tuples' true) p.1 q.1) (fun r s' => s' = { s with heap := h' } ∧ r = HT.lexLt (k p.1) (k q.1)) (fun _ _ => False) { s with heap := h' }
      generalize k p.1 = ns at ii1 ⊢
      generalize k q.1 = ms at ii2 ⊢
      rw [e1, e2]
      refine PySem.W.kat_lt g1 d1 g2 d2 (lex_it true 0 _ ii1 ii2 ?_ ⟨rfl, rfl⟩)
      rw [← ii1.length, ← ii2.length, decide_eq_true_eq]
      simp
  · refine ⟨oneType', fun Q E hq => ?_, fun p q hp hq => lt_it (Q := fun r s' => s' = { s with heap := h' } ∧ r = HT.lexLt (k p.1) (k q.1)) (E := fun _ _ => False) hu (hv' p.1 hp) (hv' q.1 hq) ⟨rfl, rfl⟩⟩
    have h0 := hv' v0 List.mem_cons_self
    rw [hk] at h0
    exact kind_one (s := { s with heap := h' }) h0 (fun u hm => ⟨_, hv' u (List.mem_cons_of_mem _ hm)⟩) hq
end
/-- sorted(xs), tuples of ints: none empty, or the first one -/
def rSortedIt (K : PySem.W.Frag) : List V → Hp → VK → Prop := fun vs H Q => ∃ (a : Addr) (xs : List V) (k : V → List Int), vs = [V.ref a] ∧ SqL K H a xs ∧ (∀ x ∈ xs, ∃ t, x = V.ref t ∧ H t = some (.tup ((k x).map V.int))) ∧ ((∀ x ∈ xs, k x ≠ []) ∨ ∃ x r, xs = x :: r ∧ k x = []) ∧
  ∀ ys p, ys.Perm xs → ys.Pairwise (fun x y => HT.lexLt (k y) (k x) = false) → H p = none → Q (.ref p) (upd H p (.lst ys))
theorem cr_sortedIt {X : Cx} (hu : X.A.units + 64 < cLine) : CallR X (.builtin "sorted") (rSortedIt X.K) := by
  intro pins s σ H vs us Q I r h
  obtain ⟨a, xs, k, rfl, hs, hx, hk, q⟩ := h
  obtain ⟨its, rv, hl, hz⟩ := I.list hs
  obtain ⟨u, rfl, ru⟩ := vals1 r
  obtain rfl : u = Value.ref a := ru
  obtain ⟨e1, e2⟩ := refs_back rv fun x m => by
    obtain ⟨t, e, _⟩ := hx x m
    exact ⟨t, e⟩
  have hp : ∀ v ∈ its, IsIt s.heap v (k (backV v)) := fun v hv => by
    obtain ⟨t, rfl⟩ := e2 v hv
    have hm : V.ref t ∈ xs := by rw [e1]; exact List.mem_map.mpr ⟨_, hv, rfl⟩
    obtain ⟨t', e, ht⟩ := hx _ hm
    cases e
    obtain ⟨_, its2, r2, o, ho, hc, n, hd⟩ := I.hok _ _ ht
    exact ⟨t, o, its2.toArray, n, rfl, ho, hc, hd, intsAre_of r2⟩
  have hk' : (∀ v ∈ its, k (backV v) ≠ []) ∨ ∃ v r, its = v :: r ∧ k (backV v) = [] := by
    rcases hk with hk | ⟨x, r, ex, hk⟩
    · refine .inl fun v hv => hk _ ?_
      rw [e1]; exact List.mem_map.mpr ⟨_, hv, rfl⟩
    · rw [e1] at ex
      cases its with
      | nil => cases ex
      | cons v r' =>
        rw [List.map_cons] at ex
        injection ex with h1 h2
        exact .inr ⟨v, r', rfl, by rw [h1]; exact hk⟩
  refine SrtO.sorted_ord (NtL.swo_lexL fun u => k (backV u)) hl.isList (by rw [← rv.length]; exact hz) (fun h2 h₁ a' ha' keep => it_sortable (s := { s with heap := h₁ }) h2 (by show X.A.units + 1 + 1 < cLine; omega) (fun v hv => (hp v hv).keeps fun b o _ g => (keep b o g).2) (fun v hv => ?_) hk') fun out h1 h2 => ?_
  · obtain ⟨t, o, _, _, rfl, g, c, _, _⟩ := hp v hv
    exact fun e => (keep t o g).1 (Value.ref.inj e)
  · have h3 : ∀ u ∈ out, ∃ a, u = Value.ref a := fun u hu => e2 u (h2.perm.mem_iff.mp hu)
    obtain ⟨ep, he'⟩ := PyProof.Rows.sortedAll_at s.heap its out.toArray
    have hb : (out.map backV).Perm xs := by rw [e1]; exact h2.perm.map backV
    refine ⟨.ref _, upd H (s.heap.objs.size + 1) (.lst (out.map backV)), I.laid (t' := s.toks) (fun _ _ => PyProof.Rows.sortedAll_old) (Nat.le_succ _) ⟨?_, out, ep, vals_back h3, he'⟩, rfl, q _ _ hb ?_ (I.hok.fresh (Nat.le_succ _))⟩
    · rw [hb.length_eq]
      exact hz
    · exact List.pairwise_map.mpr h1
end Bs

namespace Bs
open PySem PySem.Spec PyProof.Rows L2 HT PySem.W
open Builtin Builtin.Str Builtin.Int Builtin.Float
/-! ## f'{n:b}' -/
def binL (n : Nat) : List Nat := (Nat.toDigits 2 n).map Char.toNat
def binText (n : Nat) : PySem.Str := ⟨(binL n).toArray⟩
theorem field_b (f : FormatSpec) (L : List Nat) (h5 : f.width = none) (h6 : f.grouping = none) (h7 : f.sign = none) (h8 : f.align = 62) (hL : L.isEmpty = false) : intField' f false [] L [] 4 = ⟨L.toArray⟩ := by
  unfold intField'
  simp only [h5, h6, h7, h8, hL, Bool.false_eq_true, if_false, List.length_nil, List.nil_append, List.append_nil, show ((62 : Nat) == 61) = false from rfl, show ((62 : Nat) == 60) = false from rfl, show ((62 : Nat) == 94) = false from rfl, Bool.and_false]
  have h0 : ((-1 : Int) - ((0 + 0 + 0 : Nat) : Int) - ((List.replicate ((0 : Int).toNat - L.length) 48 ++ L).length : Int)).toNat = 0 := by
    simp
  simp
theorem binL_ne (n : Nat) : (binL n).isEmpty = false := by
  unfold binL
  have := tDigits_len_ge 2 n
  cases h : Nat.toDigits 2 n with
  | nil => rw [h] at this; simp at this
  | cons a l => rfl
theorem parse_b : ∃ f : FormatSpec, parseFormatSpec (⟨#[98]⟩ : PySem.Str).cps.toList "int" 62 = .ok f ∧ f.type = some 98 ∧ f.precision = none ∧ f.noNeg0 = false ∧ f.alt = false ∧ f.width = none ∧ f.grouping = none ∧ f.sign = none ∧ f.align = 62 := ⟨_, rfl, rfl, rfl, rfl, rfl, rfl, rfl, rfl, rfl⟩
theorem meets_b (a : Int) (L : List Nat) (T : PySem.Str) (t u : Tok) (h0 : decide (a < 0) = false) (hL : ((Nat.toDigits 2 a.natAbs).map fun c => (if ((98 : Nat) == 88) = true then c.toUpper else c).toNat) = L) (hne : L.isEmpty = false) (hT : (⟨L.toArray⟩ : PySem.Str) = T) (hn : T.length ≤ sizeLine) :
    Meets («int.__format__» ⟨[.int a t, .str (⟨#[98]⟩ : PySem.Str) u], []⟩) (fun _ R s => ∀ t' k, R (.ok (.ret (.str T t'))) { s with toks := k }) := by
  apply KPc.meets_of
  intro prog w A s Q E hR
  unfold Builtin.«int.__format__»
  refine wpAny_bind (wpAny_of_eq (a := (_, _)) rfl ?_)
  refine wpAny_bind (wpAny_of_eq (a := _) rfl ?_)
  refine wpAny_ite (KPc.ite_no (fun h => nomatch h) ?_)
  refine wpAny_bind (wpAny_typeNameOf (T := "str") (typeIs_str _ _ _) (by decide) fun _ => ?_)
  refine wpAny_bind (wpAny_of_eq (a := some _) rfl ?_)
  refine wpAny_ite (KPc.ite_no (by decide +kernel) ?_)
  refine wpAny_ite (KPc.ite_no (by decide +kernel) ?_)
  refine wpAny_bind (wpAny_typeNameOfCut_int ?_)
  obtain ⟨f, hp, h1, h2, h3, h4, h5, h6, h7, h8⟩ := parse_b
  simp only [hp, h1, Option.getD_some]
  rw [if_pos (by decide +kernel)]
  show wpAny _ _ (if _ then _ else _) _ _ _
  rw [if_neg (by simp [h2])]
  show wpAny _ _ (if _ then _ else _) _ _ _
  rw [if_neg (by simp [h3])]
  show wpAny _ _ (if ((98 : Nat) == 99) = true then _ else _) _ _ _
  rw [if_neg (by decide)]
  show wpAny _ _ (if ((2 : Nat) == 10) = true then _ else _) _ _ _
  rw [if_neg (by decide)]
  show wpAny _ _ (if _ then _ else _) _ _ _
  rw [if_neg (by rw [h5]; decide)]
  rw [h4]
  rw [h0, hL, if_neg Bool.false_ne_true, if_neg (by decide)]
  have e : ∀ X : PySem.Str, X = T → wpAny (model prog w) A (retStr X) Q E s := fun X e => KXf.ret_text e (by rw [e]; exact hn) hR
  refine e _ ?_
  conv => lhs; whnf
  rw [← hT]
  simp only [h5, h6, h7, h8, hne, Bool.false_eq_true, if_false, List.length_nil, List.nil_append, List.append_nil, show ((62 : Nat) == 61) = false from rfl, show ((62 : Nat) == 60) = false from rfl, show ((62 : Nat) == 94) = false from rfl, Bool.and_false]
  simp
  generalize instDecidableEqBool (f.align == 60) true = d
  cases d <;> simp
theorem bin_digits (n : Nat) : ((Nat.toDigits 2 (n : Int).natAbs).map fun c => (if ((98 : Nat) == 88) = true then c.toUpper else c).toNat) = binL n := by
  unfold binL
  rw [Int.natAbs_natCast]
  refine List.map_congr_left fun c _ => ?_
  rw [if_neg (by decide)]
def tFmtB (te : TE) : TE := fun σ H Q => te σ H fun x H1 => ∃ n : Nat, x = .int (n : Nat) ∧ (binL n).length ≤ 1000 ∧ Q (.str (binText n)) H1
/-- f'{n:b}' -/
theorem pe_fmtB {X : Cx} {e : Expr} {te : TE} {k : Nat} {p1 p2 pos pos2 : Pos} (he : PE X e te) : PE X (.JoinedStr [.FormattedValue e (-1) (some (.JoinedStr [.Constant (.str (PySem.Str.ofString "b")) k p1] p2)) pos] pos2) (tFmtB te) := by
  refine pe_joined1 ⟨fun pins s σ H Q I h => ?_⟩
  refine wpAny_FormattedValue_spec (thn (he.run pins s σ H _ I h) fun v s1 hv => ?_)
  obtain ⟨x, H1, I1, r1, n, rfl, hl, q⟩ := hv
  obtain ⟨t, rfl⟩ := r1
  refine wpAny_JoinedStr_one (thn ((pe_str (X := X) (x := PySem.Str.ofString "b")).run pins s1 σ H1 (fun y H2 => y = .str (PySem.Str.ofString "b") ∧ H2 = H1) I1 ⟨rfl, rfl⟩) fun w s2 hw => ?_)
  obtain ⟨y, H2, I2, r2, rfl, rfl⟩ := hw
  obtain ⟨t2, rfl⟩ := r2
  refine ⟨_, t2, rfl, ?_⟩
  have hz : (binText n).length ≤ sizeLine := by show (binL n).toArray.size ≤ sizeLine; rw [List.size_toArray]; exact Nat.le_trans hl (by decide)
  exact KXf.field_int (spec' := ⟨#[98]⟩) (y := binText n) rfl (by decide) (by decide) (fun u => meets_b n (binL n) (binText n) t u (decide_eq_false (by omega)) (bin_digits n) (binL_ne n) rfl hz) (fun t' k => ⟨.str (binText n), _, I2.tok _, ⟨_, rfl⟩, q⟩)
end Bs

namespace Bs
open PySem PySem.Spec PyProof.Rows L2 HT
open Builtin Builtin.Str StrLaws
/-! ## text.count(one sign); the ones of f'{n:b}' -/
theorem occ_run (x : PySem.Str) (c limit : Nat) : ∀ (k lo : Nat) (A : Array Nat) (free : Nat), free ≤ lo → A.size + k ≤ limit → lo + k = x.length + 1 →
    (forIn (List.range' lo k) (A, free) (occBody x ⟨#[c]⟩ x.length limit)).run.fst.size = A.size + ((x.cps.toList.drop lo).filter (· == c)).length
  | 0, lo, A, free, _, _, h => by
    have : x.cps.toList.drop lo = [] := List.drop_eq_nil_of_le (by show x.cps.toList.length ≤ lo; simp only [PySem.Str.length] at h; simp; omega)
    rw [this]
    simp
  | k + 1, lo, A, free, hf, hl, h => by
    rw [List.range'_succ, List.forIn_cons]
    have hc := subAt_one x c lo
    have hd : ((x.cps.toList.drop lo).filter (· == c)).length = (if x.cps.toList[lo]? = some c then 1 else 0) + ((x.cps.toList.drop (lo + 1)).filter (· == c)).length := by
      by_cases hlt : lo < x.cps.toList.length
      · rw [List.drop_eq_getElem_cons hlt, List.getElem?_eq_getElem hlt]
        by_cases e : x.cps.toList[lo] = c
        · rw [List.filter_cons_of_pos (by simpa using e), if_pos (by rw [e])]
          simp; omega
        · rw [List.filter_cons_of_neg (by simpa using e), if_neg (by simpa using e)]
          simp
      · rw [List.drop_eq_nil_of_le (by omega), List.drop_eq_nil_of_le (by omega), List.getElem?_eq_none (by omega)]
        simp
    unfold occBody
    by_cases e : x.cps.toList[lo]? = some c
    · obtain ⟨h1, h2⟩ := hc.mpr e
      rw [if_pos ⟨⟨⟨by show A.size < limit; omega, hf⟩, h1⟩, h2⟩]
      have ih := occ_run x c limit k (lo + 1) (A.push lo) (lo + 1) (Nat.le_refl _) (by rw [Array.size_push]; omega) (by omega)
      rw [hd, if_pos e]
      refine Eq.trans ih ?_
      rw [Array.size_push]
      omega
    · rw [if_neg (fun q => e (hc.mp ⟨q.1.2, q.2⟩))]
      have ih := occ_run x c limit k (lo + 1) A free (by omega) (by omega) (by omega)
      rw [hd, if_neg e]
      refine Eq.trans ih ?_
      omega
theorem count_one (x : PySem.Str) (c : Nat) : (occurrences x ⟨#[c]⟩ 0 x.length (x.length + 1)).length = (x.cps.toList.filter (· == c)).length := by
  rw [occ_eq, Array.length_toList]
  have := occ_run x c (x.length + 1) (x.length + 1 - 0) 0 #[] 0 (Nat.le_refl _) (by simp) (by omega)
  rw [this]
  simp
/-- how many of the first m bits are set -/
def popF (m n : Nat) : Nat := ((List.range m).filter fun k => n.testBit k).length
theorem popF_succ (m n : Nat) : popF (m + 1) n = n % 2 + popF m (n / 2) := by
  unfold popF
  rw [List.range_succ_eq_map, List.filter_cons]
  have h : ((List.range m).map Nat.succ).filter (fun k => n.testBit k) = ((List.range m).filter fun k => (n / 2).testBit k).map Nat.succ := by
    rw [List.filter_map]
    congr 1
    refine List.filter_congr fun k _ => ?_
    show n.testBit (k + 1) = _
    rw [Nat.testBit_succ]
  rw [h]
  have h0 : n.testBit 0 = decide (n % 2 = 1) := Nat.testBit_zero n
  rw [h0]
  by_cases e : n % 2 = 1
  · rw [if_pos (decide_eq_true e)]
    simp
    omega
  · rw [if_neg (by simpa using e)]
    simp
    omega
theorem popF_zero (m : Nat) : popF m 0 = 0 := by
  unfold popF
  simp
def ones (l : List Char) : Nat := (l.filter fun c => c.toNat == 49).length
theorem ones_digit (n : Nat) (ds : List Char) : ones (Nat.digitChar (n % 2) :: ds) = n % 2 + ones ds := by
  unfold ones
  rcases Nat.mod_two_eq_zero_or_one n with e | e <;> rw [e] <;> simp [Nat.digitChar, List.filter_cons] <;> first | rfl | omega | skip
theorem core_ones : ∀ (fuel m n : Nat) (ds : List Char), n < 2 ^ m → n < fuel → 1 ≤ m → ones (Nat.toDigitsCore 2 fuel n ds) = ones ds + popF m n ∧ (Nat.toDigitsCore 2 fuel n ds).length ≤ ds.length + m
  | 0, _, _, _, _, h, _ => by omega
  | fuel + 1, m, n, ds, hm, hf, h1 => by
    obtain ⟨m, rfl⟩ : ∃ k, m = k + 1 := ⟨m - 1, by omega⟩
    unfold Nat.toDigitsCore
    by_cases h0 : n / 2 = 0
    · simp only [h0, if_true]
      rw [ones_digit, popF_succ, h0, popF_zero]
      refine ⟨by omega, ?_⟩
      rw [List.length_cons]
      omega
    · simp only [h0, if_false]
      have hm1 : 1 ≤ m := by
        cases m with
        | zero => exfalso; apply h0; have : n < 2 := by simpa using hm
                  omega
        | succ m => omega
      have ih := core_ones fuel m (n / 2) (Nat.digitChar (n % 2) :: ds) (by rw [Nat.pow_succ] at hm; omega) (by omega) hm1
      rw [ones_digit, List.length_cons] at ih
      rw [popF_succ]
      exact ⟨by omega, by omega⟩
theorem bin_ones {m n : Nat} (h : n < 2 ^ m) (h1 : 1 ≤ m) : ((binL n).filter (· == 49)).length = popF m n ∧ (binL n).length ≤ m := by
  obtain ⟨a, b⟩ := core_ones (n + 1) m n [] h (Nat.lt_succ_self _) h1
  refine ⟨?_, ?_⟩
  · unfold binL
    rw [List.filter_map, List.length_map]
    have : ones (Nat.toDigits 2 n) = popF m n := by
      show ones (Nat.toDigitsCore 2 (n + 1) n []) = _
      rw [a]; unfold ones; simp
    rw [← this]
    rfl
  · unfold binL
    rw [List.length_map]
    show (Nat.toDigitsCore 2 (n + 1) n []).length ≤ m
    simpa using b
end Bs

namespace Bs
open PySem PySem.Spec PyProof.Rows L2 HT
/-! ## {t: v}, t a tuple -/
section
variable {prog : Program} {w : World} {A : Around} {E : Value → Shared → Prop} {s : Shared} {κ : Type} [DecidableEq κ] {knd : HeapKind prog w κ}
theorem dict_oneH {env : Env} {keys : List (Option Expr)} {values : List Expr} {pos : Pos} {pairs : List (Sem Value × Sem Value)} {Q : Value → Shared → Prop} (hu : knd.room A)
    (hshape : (evalEachOpt keys env).zip ((evalEach values env).map fun v => do let x ← v; standAt pos; pure x) = pairs.map fun p => (some p.1, p.2)) (h0 : pairs ≠ []) (hlen : pairs.length ≤ 15)
    (h : wpAny (model prog w) A (evalPairs pairs) (fun vs s₁ => ∃ ps, CarriesH knd s₁.heap vs ps ∧ s₁.heap.DictOfH knd s.heap.objs.size [] ∧
      ∀ h' tk, h'.DictOfH knd s.heap.objs.size (storedAllH [] ps) → Heap.SameBut s.heap.objs.size s₁.heap h' → Q (.ref s.heap.objs.size) { s₁ with heap := h', toks := tk }) E
      { s with heap := s.heap.push { cls := .type "dict", data := .dict #[] } }) :
    wpAny (model prog w) A (eval (.Dict keys values pos) env) Q E s := by
  rw [arm_eval_Dict, hshape, dictDisplay_pairs pairs h0 (by omega)]
  exact wpAny_bind (wpAny_standAt (wpAny_bind (wpAny_subDictH (knd := knd) (Q := fun d s' => wpAny (model prog w) A (pure (Value.ref d)) Q E s') hu hlen
    (wpAny_mono h (fun vs s₁ h₁ => by obtain ⟨ps, hc, hm, hq⟩ := h₁; exact ⟨ps, hc, hm, fun h' tk a b => wpAny_pure (hq h' tk a b)⟩) fun _ _ e => e))))
end
/-- {t: v}; the new dict stands empty while t and v are made -/
def tDisp1T (tk tv : TE) : TE := fun σ H Q => ∀ p, H p = none → tk σ (upd H p (.dT [])) fun x H1 => tv σ H1 fun y H2 => ∃ (b : Addr) (k : List L2.Key), x = .ref b ∧ H2 b = some (.tup (k.map kV)) ∧ H2 p = some (.dT []) ∧ Q (.ref p) (upd H2 p (.dT [(k, y)]))
theorem pe_disp1T {X : Cx} {pos : Pos} {k v : Expr} {tk tv : TE} (hu : X.A.units + 1 < cLine) (hk : PE X k tk) (hv : PE X v tv) : PE X (.Dict [some k] [v] pos) (tDisp1T tk tv) := by
  refine ⟨fun pins s σ H Q I q => ?_⟩
  have hn := I.hok.fresh (Nat.le_refl s.heap.objs.size)
  have I1 := I.laid (a := s.heap.objs.size) (o := .dT []) (h' := s.heap.push { cls := .type "dict", data := .dict #[] }) (t' := s.toks) (fun _ _ q => Heap.get?_push_of_some _ q) (Nat.le_refl _) (dt_empty s.heap I.big)
  have hl := pairTrees_length [some k] [v] X.env pos rfl rfl
  refine dict_oneH (knd := tupleKind (mixKind X.prog X.w)) (pairs := pairTrees [some k] [v] X.env pos) (show X.A.units < cLine by omega) (zip_pairTrees _ _ _ _ rfl rfl) (fun e => by rw [e] at hl; cases hl) (by rw [hl]; exact (by decide : 1 ≤ 15)) ?_
  refine pairTrees_cons_walk (thn (hk.run pins _ σ _ _ I1 (q _ hn)) fun u s1 ⟨x, H1, I2, rx, q1⟩ => thn (hv.run pins s1 σ H1 _ I2 q1) fun w2 s2 ⟨y, H2, I3, ry, b, ks, ex, hb, hd, q2⟩ => pairTrees_nil_walk ?_)
  subst ex
  cases rx
  obtain ⟨z, hsys, xs, rel, dd⟩ := dt_of I3.hok hd
  cases rel
  refine ⟨[(ks, b, w2)], ⟨rfl, rfl, key_of I3.hok hb, trivial⟩, dd, fun h' tk' dd' hs => ⟨.ref s.heap.objs.size, _, ?_, rfl, q2⟩⟩
  have es : storedAllH [] [(ks, b, w2)] = [(ks, b, w2)] := rfl
  rw [es] at dd'
  obtain ⟨o, es2, ep, hq, h2, h3, h4, _, h5⟩ := dd'
  refine d_write I3 (by rw [hd]; exact True.intro) hs ⟨o, hq⟩ ⟨by rw [sizeLine_eq]; exact (by decide : 1 ≤ 16777216), hsys, [(ks, b, w2)], .cons ⟨rfl, ?_, ry⟩ .nil, o, es2, ep, hq, h2, h3, h4, h5⟩
  rw [upd_ne (ne_of hb hd (fun z => nomatch z))]
  exact hb
end Bs

/-! sorted(t), t a tuple of ints; x not in xs, xs a list of data; a &= b -/
namespace Bs
open PySem PySem.Spec L2 PyProof PyProof.Rows SrtO
section
variable {prog : Program} {w : World} {A : Around} {E : Value → Shared → Prop} {s : Shared}
/-- the items of a tuple, gathered in a new list -/
theorem gather_tup {p : Addr} {vs : List Value} {Q : List Value → Shared → Prop} {o : Obj} {n : Nat} (g : s.heap.get? p = some o) (hc : o.cls = .type "tuple") (hd : o.data = .seq vs.toArray n) (hz : vs.length ≤ sizeLine)
    (k : Q vs { s with heap := (s.heap.push (seqObj "list" #[] 0)).update s.heap.objs.size (Obj.mapSeq (· ++ vs.toArray)) }) : wpAny (model prog w) A (collect (.ref p)) Q E s := by
  have fresh : (s.heap.push (seqObj "list" #[] 0)).get? s.heap.objs.size = some (seqObj "list" #[] 0) := Heap.get?_push_size _ rfl
  have g2 : (s.heap.push (seqObj "list" #[] 0)).get? p = some o := Heap.get?_push_of_some _ g
  unfold collect
  refine wpAny_bind (wpAny_runValue (codeAny_builtin entry_proto_collect' ?_))
  show wpAny _ _ (do again (.builtin "list.__iadd__" ⟨[← newList [], .ref p], []⟩)) _ _ s
  refine wpAny_bind (wpAny_newList (wpAny_pure ⟨Code.quiet_builtin _ (by decide +kernel), codeAny_builtin entry_list_iadd' ?_⟩))
  show wpAny _ _ (Builtin.List.listExtendWith (.ref s.heap.objs.size) (.ref p) (.ref s.heap.objs.size)) _ _ { s with heap := s.heap.push (seqObj "list" #[] 0) }
  unfold Builtin.List.listExtendWith
  refine wpAny_bind (wpAny_typeOf (T := "tuple") ⟨o, g2, hc⟩ ?_)
  rw [if_pos (show (_ || Value.type "tuple" == Value.type "list" || Value.type "tuple" == Value.type "tuple") = true by
    rw [show (Value.type "tuple" == Value.type "tuple") = true from rfl, Bool.or_true])]
  refine wpAny_bind (listItems_at g2 hd (wpAny_bind (listItems_at (xs := #[]) (n := 0) fresh rfl ?_)))
  rw [if_neg (by simp)]
  refine wpAny_bind (listUpdate_at (xs := #[]) (n := 0) fresh rfl (wpAny_pure ?_) (Nat.zero_le _) (by show (#[] ++ vs.toArray).size ≤ sizeLine + 1; simp only [Array.size_append, List.size_toArray, List.length_nil]; omega))
  refine wpAny_bind (wpAny_load (get?_update_seq fresh _) ?_)
  show wpAny _ _ (pure ((#[] : Array Value) ++ vs.toArray).toList) Q E _
  rw [show ((#[] : Array Value) ++ vs.toArray).toList = vs by simp]
  exact wpAny_pure k
theorem sorted_tup {p : Addr} {vs : List Value} {ns : List Int} {Q : Value → Shared → Prop} {o : Obj} {n : Nat} (g : s.heap.get? p = some o) (hc : o.cls = .type "tuple") (hd : o.data = .seq vs.toArray n) (hz : vs.length ≤ sizeLine) (hi : IntsAre vs ns)
    (k : ∀ out : List Value, Srtd ltIv out → Stb ltIv out vs → Q (.ref (s.heap.objs.size + 1)) { s with heap := sortedAll s.heap vs out.toArray }) : wpAny (model prog w) A (call (.builtin "sorted") [.ref p]) Q E s := by
  refine Calls.call_function_entry kind_sorted plain_sorted entry_sorted (args_sorted1 _) ?_
  unfold Builtin.«sorted»
  refine wpAny_bind (m := checkCount "sorted" 1 1 _) (wpAny_pure (wpAny_bind (gather_tup g hc hd hz (wpAny_bind (wpAny_newList ?_ hz)))))
  generalize hT : (s.heap.push (seqObj "list" #[] 0)).update s.heap.objs.size (Obj.mapSeq (· ++ vs.toArray)) = T
  have sz : T.objs.size = s.heap.objs.size + 1 := by rw [← hT, Heap.size_update, size_push']
  have at1 : (T.push (seqObj "list" vs.toArray 0)).get? (s.heap.objs.size + 1) = some (seqObj "list" vs.toArray 0) := by rw [← sz]; exact Heap.get?_push_size _ rfl
  show wpAny _ _ _ _ _ { s with heap := T.push (seqObj "list" vs.toArray 0) }
  rw [sz]
  refine wpAny_bind (wpAny_holding (wpAny_call_entry slot_list_sort ⟨_, at1, rfl⟩ entry_list_sort (list_sort_ord swo_int at1 hz (fun h2 => ints_sortable hi h2) fun out h1 h2 => ⟨_, rfl, wpAny_pure ⟨_, rfl, ?_⟩⟩) (args_list_sort _)))
  have := k out h1 h2
  unfold sortedAll at this
  rw [hT] at this
  exact this
end
section
variable {X : Cx}
def rSortedIT : List V → Hp → VK → Prop := fun vs H Q => ∃ (a : Addr) (ns : List Int), vs = [V.ref a] ∧ H a = some (.tup (ns.map V.int)) ∧
  ∀ (ns' : List Int) (p : Addr), ns'.Perm ns → ns'.Pairwise (· ≤ ·) → H p = none → Q (.ref p) (upd H p (.lst (ns'.map V.int)))
theorem cr_sortedIT : CallR X (.builtin "sorted") rSortedIT := by
  intro pins s σ H vs us Q I r h
  obtain ⟨a, ns, rfl, ha, q⟩ := h
  obtain ⟨hz, its, rv, o, g, hc, n, hd⟩ := I.hok a _ ha
  rw [Vals.ref1 r]
  have hi := rv.ints
  refine sorted_tup (vs := its) g hc hd (by rw [← rv.length]; exact hz) hi fun out h1 h2 => ?_
  obtain ⟨k1, k2, k3⟩ := ints_out hi h1 h2
  obtain ⟨ep, he'⟩ := sortedAll_at s.heap its out.toArray
  have hlen : ((out.map iv).map V.int).length ≤ sizeLine := by
    rw [List.length_map, k2.length_eq, ← List.length_map (as := ns) (f := V.int)]
    exact hz
  exact ⟨.ref _, upd H (s.heap.objs.size + 1) (.lst ((out.map iv).map V.int)), I.laid (t' := s.toks) (fun _ _ => sortedAll_old) (Nat.le_succ _) ⟨hlen, out, ep, vals_of_ints k1, he'⟩, rfl, q _ _ k2 k3 (I.hok.fresh (Nat.le_succ _))⟩
/-- a thing that is in no place of a list of data -/
def rNotInL (K : PySem.W.Frag) : R2 := fun x y H Q => ∃ d ds, Dp K H x d ∧ Dp K H y (.list ds) ∧ SeqAt.shaped d = true ∧ SeqAt.shaped (.list ds) = true ∧ Q (.bl (!ds.any fun z => PyData.eqv z d)) H
theorem op_notInL (hu : X.A.units + 65 < cLine) : OpR X (compareOp .NotIn) (rNotInL X.K) := by
  intro pins s σ H x y v u Q I rx ry ⟨d, ds, hd, he, sd, sl, q⟩
  obtain ⟨as, r1⟩ := Dp.reads I d x v hd rx
  obtain ⟨bs, r2⟩ := Dp.reads I (.list ds) y u he ry
  exact SeqAt.notIn_list_reads r2 r1 (by have := SeqAt.canLay_of_shaped sl; exact this) (SeqAt.canLay_of_shaped sd) (room_in_shaped sd hu) ⟨.bl _, H, I, rfl, q⟩
theorem ip_and : PIp X .BitAnd (rI0 fun i j => .int (Builtin.bitAnd i j)) := fun pins s σ H x y v u Q I rx ry h => iop_and pins s σ H x y v u Q I rx ry h
end
end Bs

namespace Bs
open PySem PySem.Spec L2
def top (i : Nat) : Stmt := PySem.Challenge.pw_silencers_k66_whole_slips_to_yes.main.body.getD i (.Pass ⟨0, 0, 0, 0⟩)
structure Txt (K : PySem.W.Frag) (mg : Str → Option Value) (C : Addr) : Prop where
  cl : Cls K C
  nSize : NoAttr K C "size"
  nTies : NoAttr K C "ties"
  mg_Web : mg "Web" = some (.ref C)
  mg_MOST_PARTS : ∃ t, mg "MOST_PARTS" = some (.int 24 t)
  xc : PySem.W.findIn K (.ref C) "__class__" = some (some (.builtin "object.__class__"))
  xg : PySem.W.specialIn K (.builtin "object.__class__") "__get__" = some (some (.builtin "getset_descriptor.__get__"))
  xt : PySem.W.takesIn K (.builtin "object.__class__") = some true
  xm : PySem.W.mroIn K C (.type "object") = some true
section
variable {P : Program} {w : World} {K : PySem.W.Frag} {mg : Str → Option Value} {base : Heap} {C : Addr}
def sp_is_integer : Sp := fun vs H Q _ => ∃ i, vs = [.int i] ∧ Q (.bl true) H
abbrev s_is_integer : Stmt := (top 6)
theorem sc_is_integer : FnScope ["thing"] ["thing"] (defScope s_is_integer) := ⟨rfl, rfl, rfl, by decide +kernel, rfl, by decide +kernel, by decide +kernel⟩

theorem ok_is_integer {f : Addr} {fd : FuncData} (F : Fun K "is_integer" "is_integer" s_is_integer f fd) (hm : mg "is_integer" = some (.ref f)) (B : Bl mg) : Cal P w K mg base 1 "is_integer" ["thing"] sp_is_integer := by
  refine ⟨f, fd, F.ok sc_is_integer (fun vs H Q E h => ?_) (fun cdv A outer s H vs Q E hr h => ?_), hm, F.kp, F.binds (ps := ["thing"]) fun _ _ _ _ _ _ us hl => match us, hl with | [_], _ => rfl⟩
  · obtain ⟨i, rfl, _⟩ := h; rfl
  · obtain ⟨i, rfl, k⟩ := h
    refine ⟨_, (pss_one (ps_ret (pe_and (pe_callB call_isi (by rfl) B.isinstance (by decide +kernel) (pa_cons (pv 0) (pa_cons (pe_bltn (v := .ty "int") (by rfl) B.int_ (by decide +kernel) rfl) pa_nil))) (pe_one (pe_not (pe_callB call_isi (by rfl) B.isinstance (by decide +kernel) (pa_cons (pv 0) (pa_cons (pe_bltn (v := .ty "bool") (by rfl) B.bool_ (by decide +kernel) rfl) pa_nil)))))))), ?_⟩
    refine ⟨_, rfl, _, _, _, _, true, rfl, .ty "int", .base (.int i), kit_ty (by decide +kernel), true, rfl, iteT ?_⟩
    refine ⟨_, rfl, _, _, _, _, false, rfl, .ty "bool", .base (.int i), kit_ty (by decide +kernel), false, rfl, ?_⟩
    exact k
def sp_is_number : Sp := fun vs H Q _ => ∃ i a b, vs = [.int i, .int a, .int b] ∧ Q (.bl (decide (a ≤ i ∧ i ≤ b))) H
abbrev s_is_number : Stmt := (top 7)
theorem sc_is_number : FnScope ["thing", "least", "most"] ["thing", "least", "most"] (defScope s_is_number) := ⟨rfl, rfl, rfl, by decide +kernel, rfl, by decide +kernel, by decide +kernel⟩

theorem ok_is_number {f : Addr} {fd : FuncData} (F : Fun K "is_number" "is_number" s_is_number f fd) (hm : mg "is_number" = some (.ref f)) (B : Bl mg) (c_is_integer : Cal P w K mg base 1 "is_integer" ["thing"] sp_is_integer) : Cal P w K mg base 2 "is_number" ["thing", "least", "most"] sp_is_number := by
  refine ⟨f, fd, F.ok sc_is_number (fun vs H Q E h => ?_) (fun cdv A outer s H vs Q E hr h => ?_), hm, F.kp, F.binds (ps := ["thing", "least", "most"]) fun _ _ _ _ _ _ us hl => match us, hl with | [_, _, _], _ => rfl⟩
  · obtain ⟨i, a, b, rfl, _⟩ := h; rfl
  · obtain ⟨i, a, b, rfl, k⟩ := h
    refine ⟨_, (pss_one (ps_ret (pe_and (pe_cal c_is_integer (hr.mono (by first | decide | omega)) (pa_cons (pv 0) pa_nil)) (pe_one (pe_chain op_le op_le (pv 1) (pv 0) (pv 2)))))), ?_⟩
    refine ⟨_, rfl, i, rfl, true, rfl, iteT ?_⟩
    refine ⟨_, rfl, _, rfl, _, _, rfl, rfl, _, rfl, ?_⟩
    by_cases h1 : a ≤ i
    · rw [if_pos (decide_eq_true h1)]
      refine ⟨_, rfl, _, _, rfl, rfl, ?_⟩
      have e : decide (a ≤ i ∧ i ≤ b) = decide (i ≤ b) := by simp [h1]
      rw [e] at k
      exact k
    · rw [if_neg (by simpa using h1)]
      have e : decide (a ≤ i ∧ i ≤ b) = false := by simp [h1]
      rw [e] at k
      exact k
/-- a web at a: its size and its ties -/
structure WebAt (C : Addr) (H : Hp) (a : Addr) (n : Int) (t : Addr) (ps : List (Int × Int)) : Prop where
  ins : ∃ dx fs, H a = some (.ins C dx fs) ∧ fs.lookup ("size" : Str) = some (.int n) ∧ fs.lookup ("ties" : Str) = some (.ref t)
  ties : ∃ xs, H t = some (.tup xs) ∧ Pairs H xs ps
theorem WebAt.same {C : Addr} {H H' : Hp} {a t : Addr} {n : Int} {ps : List (Int × Int)} (h : WebAt C H a n t ps) (e : Same H H') : WebAt C H' a n t ps := by
  obtain ⟨⟨dx, fs, h1, h2⟩, xs, h3, h4⟩ := h
  exact ⟨⟨dx, fs, e _ _ h1, h2⟩, xs, e _ _ h3, h4.tk e.tk⟩
theorem WebAt.exT {C T : Addr} {H H' : Hp} {a t : Addr} {n : Int} {ps : List (Int × Int)} {l : List V} (h : WebAt C H a n t ps) (e : ExT T H H') (hT : H T = some (.lst l)) : WebAt C H' a n t ps := by
  obtain ⟨⟨dx, fs, h1, h2⟩, xs, h3, h4⟩ := h
  exact ⟨⟨dx, fs, e _ _ (ne_of h1 hT (by intro z; cases z)) h1, h2⟩, xs, e.tk hT _ _ h3, h4.tk (e.tk hT)⟩
def sp_is_part (C : Addr) : Sp := fun vs H Q _ => ∃ a n t ps i, vs = [.ref a, .int i] ∧ WebAt C H a n t ps ∧ Q (.bl (decide (0 ≤ i ∧ i ≤ n - 1))) H
abbrev s_is_part : Stmt := (top 8)
theorem sc_is_part : FnScope ["web", "thing"] ["web", "thing"] (defScope s_is_part) := ⟨rfl, rfl, rfl, by decide +kernel, rfl, by decide +kernel, by decide +kernel⟩

theorem ok_is_part {f : Addr} {fd : FuncData} (F : Fun K "is_part" "is_part" s_is_part f fd) (hm : mg "is_part" = some (.ref f)) (B : Bl mg) (T : Txt K mg C) (c_is_number : Cal P w K mg base 2 "is_number" ["thing", "least", "most"] sp_is_number) : Cal P w K mg base 3 "is_part" ["web", "thing"] (sp_is_part C) := by
  refine ⟨f, fd, F.ok sc_is_part (fun vs H Q E h => ?_) (fun cdv A outer s H vs Q E hr h => ?_), hm, F.kp, F.binds (ps := ["web", "thing"]) fun _ _ _ _ _ _ us hl => match us, hl with | [_, _], _ => rfl⟩
  · obtain ⟨a, n, t, ps, i, rfl, _⟩ := h; rfl
  · obtain ⟨a, n, t, ps, i, rfl, ⟨⟨dx, fs, h1, h2, h3⟩, _⟩, k⟩ := h
    refine ⟨_, (pss_one (ps_ret (pe_cal c_is_number (hr.mono (by first | decide | omega)) (pa_cons (pv 1) (pa_cons pe_int (pa_cons (pe_op op_sub (pe_fld (pv 0) rfl) pe_int) pa_nil)))))), ?_⟩
    refine ⟨_, rfl, _, rfl, a, C, dx, fs, _, rfl, h1, T.cl, T.nSize, h2, _, _, rfl, rfl, i, 0, n - 1, rfl, k⟩
def sp_check_part (C : Addr) : Sp := fun vs H Q _ => ∃ a n t ps i, vs = [.ref a, .int i] ∧ WebAt C H a n t ps ∧ 0 ≤ i ∧ i < n ∧ Q .non H
abbrev s_check_part : Stmt := (top 11)
theorem sc_check_part : FnScope ["web", "thing"] ["web", "thing"] (defScope s_check_part) := ⟨rfl, rfl, rfl, by decide +kernel, rfl, by decide +kernel, by decide +kernel⟩

theorem ok_check_part {f : Addr} {fd : FuncData} (F : Fun K "check_part" "check_part" s_check_part f fd) (hm : mg "check_part" = some (.ref f)) (B : Bl mg) (T : Txt K mg C) (c_is_part : Cal P w K mg base 3 "is_part" ["web", "thing"] (sp_is_part C)) : Cal P w K mg base 4 "check_part" ["web", "thing"] (sp_check_part C) := by
  refine ⟨f, fd, F.ok sc_check_part (fun vs H Q E h => ?_) (fun cdv A outer s H vs Q E hr h => ?_), hm, F.kp, F.binds (ps := ["web", "thing"]) fun _ _ _ _ _ _ us hl => match us, hl with | [_, _], _ => rfl⟩
  · obtain ⟨a, n, t, ps, i, rfl, _⟩ := h; rfl
  · obtain ⟨a, n, t, ps, i, rfl, W, h1, h2, k⟩ := h
    refine ⟨_, (pss_one (ps_if (pt_not (pt_val (pe_cal c_is_part (hr.mono (by first | decide | omega)) (pa_cons (pv 0) (pa_cons (pv 1) pa_nil))))) (pss_one ps_never) pss_nil)), ?_⟩
    refine ⟨_, rfl, _, rfl, a, n, t, ps, i, rfl, W, _, rfl, ?_⟩
    have e : decide (0 ≤ i ∧ i ≤ n - 1) = true := decide_eq_true (by omega)
    rw [e]
    exact iteF k

def sp_is_tie : Sp := fun vs H Q _ => ∃ (n : Int) (a : Addr) (p : Int × Int), vs = [.int n, .ref a] ∧ H a = some (.tup [.int p.1, .int p.2]) ∧ Q (.bl (decide (0 ≤ p.1 ∧ p.1 < p.2 ∧ p.2 < n))) H
abbrev s_is_tie : Stmt := (top 28)
theorem sc_is_tie : FnScope ["size", "thing", "a", "b"] ["size", "thing"] (defScope s_is_tie) := ⟨rfl, rfl, rfl, by decide +kernel, rfl, by decide +kernel, by decide +kernel⟩

theorem ok_is_tie {f : Addr} {fd : FuncData} (F : Fun K "is_tie" "is_tie" s_is_tie f fd) (hm : mg "is_tie" = some (.ref f)) (B : Bl mg) (c_is_number : Cal P w K mg base 2 "is_number" ["thing", "least", "most"] sp_is_number) : Cal P w K mg base 3 "is_tie" ["size", "thing"] sp_is_tie := by
  refine ⟨f, fd, F.ok sc_is_tie (fun vs H Q E h => ?_) (fun cdv A outer s H vs Q E hr h => ?_), hm, F.kp, F.binds (ps := ["size", "thing"]) fun _ _ _ _ _ _ us hl => match us, hl with | [_, _], _ => rfl⟩
  · obtain ⟨n, a, p, rfl, _⟩ := h; rfl
  · obtain ⟨n, a, p, rfl, ha, k⟩ := h
    refine ⟨_, (pss_cons (ps_if (PW.pt (pw_or (pt_not (pt_val (pe_callB call_isi (by rfl) B.isinstance (by decide +kernel) (pa_cons (pv 1) (pa_cons (pe_bltn (v := .ty "tuple") (by rfl) B.tuple_ (by decide +kernel) rfl) pa_nil))))) (pw_or1 (pt_cmpR op_ne (pe_callB call_len_seq (by rfl) B.len (by decide +kernel) (pa_cons (pv 1) pa_nil)) pe_int (nomark _))))) (pss_one (ps_ret pe_bl)) pss_nil)
 (pss_cons (ps_asg (pv 1) (pg_tup (by rfl) (pgs_cons (pg_name (i := 2) sc_is_tie.nd rfl (by first | exact Or.inl rfl | exact Or.inr rfl)) (pgs_cons (pg_name (i := 3) sc_is_tie.nd rfl (by first | exact Or.inl rfl | exact Or.inr rfl)) pgs_nil))))
 (pss_one (ps_ret (pe_and (pe_cal c_is_number (hr.mono (by first | decide | omega)) (pa_cons (pv 2) (pa_cons pe_int (pa_cons (pe_op op_sub (pv 0) pe_int) pa_nil)))) (pe_one (pe_cal c_is_number (hr.mono (by first | decide | omega)) (pa_cons (pv 3) (pa_cons (pe_op op_add (pv 2) pe_int) (pa_cons (pe_op op_sub (pv 0) pe_int) pa_nil)))))))))), ?_⟩
    refine ⟨_, rfl, _, _, _, _, true, rfl, .ty "tuple", .base (.tup ha), kit_ty (by decide +kernel), true, rfl, iteF ?_⟩
    refine ⟨_, rfl, a, _, rfl, .inr (SqT.of ha), rfl, _, rfl, iteNS rfl ?_⟩
    refine ⟨_, rfl, _, _, rfl, SqT.of ha, rfl, _, _, rfl, _, _, rfl, rfl, ?_⟩
    refine ⟨_, rfl, _, rfl, _, _, rfl, rfl, p.1, 0, n - 1, rfl, _, rfl, ?_⟩
    by_cases h1 : 0 ≤ p.1 ∧ p.1 ≤ n - 1
    · rw [if_pos (decide_eq_true h1)]
      refine ⟨_, rfl, _, rfl, _, _, rfl, rfl, _, rfl, _, _, rfl, rfl, p.2, p.1 + 1, n - 1, rfl, ?_⟩
      have e : decide (0 ≤ p.1 ∧ p.1 < p.2 ∧ p.2 < n) = decide (p.1 + 1 ≤ p.2 ∧ p.2 ≤ n - 1) := by
        by_cases h2 : p.1 + 1 ≤ p.2 ∧ p.2 ≤ n - 1
        · rw [decide_eq_true h2]; exact decide_eq_true (by omega)
        · rw [decide_eq_false h2]; exact decide_eq_false (by omega)
      rw [e] at k
      exact k
    · rw [if_neg (by simpa using h1)]
      have e : decide (0 ≤ p.1 ∧ p.1 < p.2 ∧ p.2 < n) = false := decide_eq_false (by omega)
      rw [e] at k
      exact k
/-- ties as they should be -/
structure Good (n : Int) (ps : List (Int × Int)) : Prop where
  ok : ∀ p ∈ ps, 0 ≤ p.1 ∧ p.1 < p.2 ∧ p.2 < n
  up : ps.Pairwise lt2
theorem Good.le {n : Int} {ps : List (Int × Int)} (g : Good n ps) {i : Nat} {p q : Int × Int} (h1 : ps[i]? = some p) (h2 : ps[i + 1]? = some q) : lt2 p q := by
  obtain ⟨a1, e1⟩ := List.getElem?_eq_some_iff.mp h1
  obtain ⟨a2, e2⟩ := List.getElem?_eq_some_iff.mp h2
  rw [← e1, ← e2]
  exact List.pairwise_iff_getElem.mp g.up i (i + 1) a1 a2 (Nat.lt_succ_self i)
def sp_wrong_tie : Sp := fun vs H Q _ => ∃ n t xs ps, vs = [.int n, .ref t] ∧ H t = some (.tup xs) ∧ Pairs H xs ps ∧ Good n ps ∧ ∀ H', Same H H' → Q .non H'
abbrev s_wrong_tie : Stmt := (top 29)
theorem sc_wrong_tie : FnScope ["size", "ties", "last", "at", "pair"] ["size", "ties"] (defScope s_wrong_tie) := ⟨rfl, rfl, rfl, by decide +kernel, rfl, by decide +kernel, by decide +kernel⟩

theorem lexLe_no {p q : Int × Int} (h : lt2 p q) : Ob.lexAt (fun j => decide ([q.1, q.2].getD j 0 = [p.1, p.2].getD j 0)) (fun j => decide ([q.1, q.2].getD j 0 ≤ [p.1, p.2].getD j 0)) (decide ([q.1, q.2].length ≤ [p.1, p.2].length)) 0 (min [q.1, q.2].length [p.1, p.2].length) = false := by
  show (if decide (q.1 = p.1) = true then (if decide (q.2 = p.2) = true then true else decide (q.2 ≤ p.2)) else decide (q.1 ≤ p.1)) = false
  unfold lt2 at h
  rcases h with h | ⟨h1, h2⟩
  · rw [if_neg (by simp; omega)]
    exact decide_eq_false (by omega)
  · rw [if_pos (by simp; omega), if_neg (by simp; omega)]
    exact decide_eq_false (by omega)
theorem ok_wrong_tie {f : Addr} {fd : FuncData} (F : Fun K "wrong_tie" "wrong_tie" s_wrong_tie f fd) (hm : mg "wrong_tie" = some (.ref f)) (B : Bl mg) (c_is_tie : Cal P w K mg base 3 "is_tie" ["size", "thing"] sp_is_tie) : Cal P w K mg base 4 "wrong_tie" ["size", "ties"] sp_wrong_tie := by
  refine ⟨f, fd, F.ok sc_wrong_tie (fun vs H Q E h => ?_) (fun cdv A outer s H vs Q E hr h => ?_), hm, F.kp, F.binds (ps := ["size", "ties"]) fun _ _ _ _ _ _ us hl => match us, hl with | [_, _], _ => rfl⟩
  · obtain ⟨n, t, xs, ps, rfl, _⟩ := h; rfl
  · obtain ⟨n, t, xs, ps, rfl, ht, hp, G, k⟩ := h
    refine ⟨_, (pss_cons (ps_set (i := 2) sc_wrong_tie.nd rfl (by first | exact Or.inl rfl | exact Or.inr rfl) (pe_tup pa_nil))
 (pss_cons (ps_for PassesOwn.never rfl (pi_enumT (by rfl) B.enumerate (pa_cons (pv 1) pa_nil)) (pg_tup (by rfl) (pgs_cons (pg_name (i := 3) sc_wrong_tie.nd rfl (by first | exact Or.inl rfl | exact Or.inr rfl)) (pgs_cons (pg_name (i := 4) sc_wrong_tie.nd rfl (by first | exact Or.inl rfl | exact Or.inr rfl)) pgs_nil)))
  (pss_cons (ps_if (PW.pt (pw_or (pt_not (pt_val (pe_cal c_is_tie (hr.mono (by first | decide | omega)) (pa_cons (pv 0) (pa_cons (pv 4) pa_nil))))) (pw_or1 (pt_cmpR (op_leT hr.units0) (pv 4) (pv 2) (nomark _))))) (pss_one (ps_ret (pv 3))) pss_nil)
 (pss_one (ps_set (i := 2) sc_wrong_tie.nd rfl (by first | exact Or.inl rfl | exact Or.inr rfl) (pv 4)))))
 (pss_one (ps_ret pe_non)))), ?_⟩
    refine ⟨Nat.zero_le _, fun z hz => ?_⟩
    refine ⟨_, rfl, t, xs, rfl, SqT.of ((Same.new hz) _ _ ht), for_it (walk_enumT (K := K) (a := t) (xs := xs)) (fun i σ H' => Same H H' ∧ ∃ (u v : Option V) (l : Addr) (ms : List Int), σ = [some (.int n), some (.ref t), some (.ref l), u, v] ∧ H' l = some (.tup (ms.map V.int)) ∧ (i = 0 → ms = []) ∧ ∀ j q, i = j + 1 → ps[j]? = some q → ms = [q.1, q.2])
      ⟨Same.new hz, none, none, z, [], rfl, upd_same, fun _ => rfl, fun j q e _ => by omega⟩ (fun i σ H' _ p => SqT.of (p.1 _ _ ht)) ?_ ?_⟩
    · rintro i y σ H1 H2 hi ⟨e1, u, v, l, ms, rfl, hl, m0, m1⟩ ⟨A1, y1, y2, rfl, hA, rfl, hy1, hy2⟩
      cases hy1
      obtain ⟨q, hq, a, rfl, hqa⟩ := Paired.get hp hy2
      have e2 : Same H1 (upd H1 A1 (.tup [.int (i : Nat), .ref a])) := Same.new hA
      have hqa2 := e2 _ _ (e1 _ _ hqa)
      refine ⟨A1, _, rfl, SqT.of upd_same, rfl, _, _, rfl, _, _, rfl, rfl, ?_⟩
      refine ⟨_, rfl, _, rfl, n, a, q, rfl, hqa2, _, rfl, ?_⟩
      rw [decide_eq_true (G.ok q (List.mem_of_getElem? hq))]
      refine iteF ?_
      refine ⟨_, rfl, _, rfl, a, l, [q.1, q.2], ms, rfl, rfl, SqT.of hqa2, SqT.of (e2 _ _ hl), ?_⟩
      have no : Ob.lexAt (fun j => decide ([q.1, q.2].getD j 0 = ms.getD j 0)) (fun j => decide ([q.1, q.2].getD j 0 ≤ ms.getD j 0)) (decide ([q.1, q.2].length ≤ ms.length)) 0 (min [q.1, q.2].length ms.length) = false := by
        cases i with
        | zero => rw [m0 rfl]; rfl
        | succ j =>
          have hj : j < ps.length := by
            have := (List.getElem?_eq_some_iff.mp hq).1
            omega
          rw [m1 j ps[j] rfl (List.getElem?_eq_getElem hj)]
          exact lexLe_no (G.le (List.getElem?_eq_getElem hj) hq)
      rw [no]
      refine ⟨_, rfl, iteF ?_⟩
      refine ⟨_, rfl, e1.trans e2, _, _, a, [q.1, q.2], rfl, hqa2, fun e => by omega, fun j q' e h' => ?_⟩
      have : j = i := by omega
      subst this
      rw [hq] at h'
      cases h'
      rfl
    · rintro σ H' ⟨e1, _⟩
      exact k _ e1
end
open PySem PySem.Spec L2
/-! ## ties as data -/
def pD (p : Int × Int) : PyData := .tuple [.int p.1, .int p.2]
theorem pD_lay (z : Int × Int) : (pD z).canLay0 = true := by simp [pD, PyData.canLay0, PyData.canLayAll0]
theorem pD_depth (z : Int × Int) : (pD z).depth = 1 := by simp [pD, PyData.depth, PyData.depthAll]
theorem pDs_lay : ∀ zs : List (Int × Int), PyData.canLayAll0 (zs.map pD) = true
  | [] => by simp [PyData.canLayAll0]
  | z :: zs => by simp [PyData.canLayAll0, pD_lay z, pDs_lay zs]
theorem pDs_depth : ∀ zs : List (Int × Int), PyData.depthAll (zs.map pD) ≤ 1
  | [] => by simp [PyData.depthAll]
  | z :: zs => by
    have h1 := pDs_depth zs
    have h2 := pD_depth z
    simp only [List.map_cons, PyData.depthAll]
    omega
theorem pD_shaped (z : Int × Int) : SeqAt.shaped (pD z) = true := by
  have h := pD_depth z
  show ((pD z).canLay0 && decide ((pD z).depth ≤ 64)) = true
  rw [Bool.and_eq_true]
  exact ⟨pD_lay z, decide_eq_true (by omega)⟩
theorem pDs_shaped (zs : List (Int × Int)) : SeqAt.shaped (.tuple (zs.map pD)) = true := by
  have h1 := pDs_depth zs
  have h2 : PyData.depth (.tuple (zs.map pD)) ≤ 64 := by
    simp only [PyData.depth]
    omega
  show (PyData.canLay0 (.tuple (zs.map pD)) && decide (PyData.depth (.tuple (zs.map pD)) ≤ 64)) = true
  rw [Bool.and_eq_true]
  exact ⟨by simp only [PyData.canLay0]; exact pDs_lay zs, decide_eq_true h2⟩
theorem pDs_shapedL (zs : List (Int × Int)) : SeqAt.shaped (.list (zs.map pD)) = true := by
  have h1 := pDs_depth zs
  have h2 : PyData.depth (.list (zs.map pD)) ≤ 64 := by
    simp only [PyData.depth]
    omega
  show (PyData.canLay0 (.list (zs.map pD)) && decide (PyData.depth (.list (zs.map pD)) ≤ 64)) = true
  rw [Bool.and_eq_true]
  exact ⟨by simp only [PyData.canLay0]; exact pDs_lay zs, decide_eq_true h2⟩
theorem pD_eqv (z w : Int × Int) : PyData.eqv (pD z) (pD w) = decide (z = w) := by
  obtain ⟨a, b⟩ := z
  obtain ⟨a', b'⟩ := w
  have e : PyData.eqv (pD (a, b)) (pD (a', b')) = ((a == a') && ((b == b') && true)) := by simp only [pD, PyData.eqv, PyData.eqvAll]
  rw [e]
  by_cases h : ((a, b) : Int × Int) = (a', b')
  · cases h; simp
  · rw [decide_eq_false h]
    by_cases h1 : a = a'
    · have q : (b == b') = false := beq_eq_false_iff_ne.mpr (fun h2 => h (by rw [h1, h2]))
      rw [q]; simp
    · have q : (a == a') = false := beq_eq_false_iff_ne.mpr h1
      rw [q]; simp
theorem pDs_eqv : ∀ ps qs : List (Int × Int), PyData.eqvAll (ps.map pD) (qs.map pD) = decide (ps = qs)
  | [], [] => by simp [PyData.eqvAll]
  | [], q :: qs => by simp [PyData.eqvAll]
  | p :: ps, [] => by simp [PyData.eqvAll]
  | p :: ps, q :: qs => by
    rw [List.map_cons, List.map_cons]
    simp only [PyData.eqvAll]
    rw [pD_eqv, pDs_eqv ps qs]
    by_cases h1 : p = q
    · by_cases h2 : ps = qs <;> simp [h1, h2]
    · simp [h1]
theorem pDt_eqv (ps qs : List (Int × Int)) : PyData.eqv (.tuple (ps.map pD)) (.tuple (qs.map pD)) = decide (ps = qs) := by
  simp only [PyData.eqv]
  exact pDs_eqv ps qs
section
variable {K : PySem.W.Frag} {H : Hp}
theorem dp_pair {v : V} {p : Int × Int} (h : PairAt H v p) : Dp K H v (pD p) := by
  obtain ⟨a, rfl, h2⟩ := h
  exact .tup (SqT.of h2) (.cons (.int _) (.cons (.int _) .nil))
theorem dp_pairs : ∀ {xs : List V} {ps : List (Int × Int)}, Pairs H xs ps → DpAll K H xs (ps.map pD)
  | _, _, .nil => .nil
  | _, _, .cons r t => .cons (dp_pair r) (dp_pairs t)
theorem dp_ties {t : Addr} {xs : List V} {ps : List (Int × Int)} (h : H t = some (.tup xs)) (hp : Pairs H xs ps) : Dp K H (.ref t) (.tuple (ps.map pD)) := .tup (SqT.of h) (dp_pairs hp)
theorem dp_list {t : Addr} {xs : List V} {ps : List (Int × Int)} (h : H t = some (.lst xs)) (hp : Pairs H xs ps) : Dp K H (.ref t) (.list (ps.map pD)) := .lst (SqL.of h) (dp_pairs hp)
end
/-! ## lists in order -/
theorem lt2_irr {p : Int × Int} : ¬ lt2 p p := by unfold lt2; omega
theorem lt2_trans {p q r : Int × Int} (h1 : lt2 p q) (h2 : lt2 q r) : lt2 p r := by unfold lt2 at *; omega
theorem lt2_of {p q : Int × Int} (h : le2 p q) (n : p ≠ q) : lt2 p q := by
  unfold le2 at h; unfold lt2
  rcases h with h | ⟨h1, h2⟩
  · exact .inl h
  · refine .inr ⟨h1, ?_⟩
    have : p.2 ≠ q.2 := fun e => n (Prod.ext h1 e)
    omega
theorem up_of {ps : List (Int × Int)} (h : ps.Pairwise le2) (n : ps.Nodup) : ps.Pairwise lt2 := by
  induction ps with
  | nil => exact .nil
  | cons p ps ih =>
    obtain ⟨h1, h2⟩ := List.pairwise_cons.mp h
    obtain ⟨n1, n2⟩ := List.nodup_cons.mp n
    refine List.pairwise_cons.mpr ⟨fun q hq => lt2_of (h1 q hq) (fun e => n1 (e ▸ hq)), ih h2 n2⟩
theorem up_ext : ∀ {ps qs : List (Int × Int)}, ps.Pairwise lt2 → qs.Pairwise lt2 → (∀ p, p ∈ ps ↔ p ∈ qs) → ps = qs
  | [], [], _, _, _ => rfl
  | [], q :: qs, _, _, h => by have := (h q).mpr (by simp); simp at this
  | p :: ps, [], _, _, h => by have := (h p).mp (by simp); simp at this
  | p :: ps, q :: qs, hp, hq, h => by
    obtain ⟨p1, p2⟩ := List.pairwise_cons.mp hp
    obtain ⟨q1, q2⟩ := List.pairwise_cons.mp hq
    have e : p = q := by
      rcases List.mem_cons.mp ((h p).mp (by simp)) with e | e
      · exact e
      · rcases List.mem_cons.mp ((h q).mpr (by simp)) with e' | e'
        · exact e'.symm
        · exact absurd (lt2_trans (q1 p e) (p1 q e')) lt2_irr
    subst e
    have : ps = qs := up_ext p2 q2 fun r => by
      constructor
      · intro hr
        rcases List.mem_cons.mp ((h r).mp (by simp [hr])) with e | e
        · subst e; exact absurd (p1 r hr) lt2_irr
        · exact e
      · intro hr
        rcases List.mem_cons.mp ((h r).mpr (by simp [hr])) with e | e
        · subst e; exact absurd (q1 r hr) lt2_irr
        · exact e
    rw [this]
theorem up_nodup {ps : List (Int × Int)} (h : ps.Pairwise lt2) : ps.Nodup := List.Pairwise.imp (fun {a b} (q : lt2 a b) => show a ≠ b from fun e => by subst e; exact lt2_irr q) h
def norm (a b : Int) : Int × Int := (if b < a then b else a, if b > a then b else a)
theorem norm_id {p : Int × Int} (h : p.1 < p.2) : norm p.1 p.2 = p := by
  unfold norm
  rw [if_neg (by omega), if_pos h]
section
variable {P : Program} {w : World} {K : PySem.W.Frag} {mg : Str → Option Value} {base : Heap} {C : Addr}
/-! ## Web -/
def wf (n : Int) (t : Addr) : List (Str × V) := putF "ties" (.ref t) (putF "size" (.int n) [])
theorem ts_ : ¬ (("ties" : Str) = "size") := by decide +kernel
theorem st_ : ¬ (("size" : Str) = "ties") := by decide +kernel
theorem wf_size (n : Int) (t : Addr) : (wf n t).lookup ("size" : Str) = some (.int n) := by
  unfold wf
  rw [lookup_putF, if_neg st_, lookup_putF, if_pos rfl]
theorem wf_ties (n : Int) (t : Addr) : (wf n t).lookup ("ties" : Str) = some (.ref t) := by
  unfold wf
  rw [lookup_putF, if_pos rfl]
theorem wf_len (n : Int) (t : Addr) : (wf n t).length = 2 := by
  show (if ("size" : Str) = "ties" then [(("size" : Str), V.ref t)] else (("size" : Str), V.int n) :: putF "ties" (V.ref t) []).length = 2
  rw [if_neg st_]
  rfl
def sp_Web_init (C : Addr) : Sp := fun vs H Q _ => ∃ x dx n t xs ps, vs = [.ref x, .int n, .ref t] ∧ H x = some (.ins C dx []) ∧ 1 ≤ n ∧ n ≤ 24 ∧ H t = some (.tup xs) ∧ Pairs H xs ps ∧ Good n ps ∧ ∀ H', ExT x H H' → H' x = some (.ins C dx (wf n t)) → Q .non H'
abbrev s_Web_init : Stmt := (inClass (top 27) 0)
theorem sc_Web_init : FnScope ["self", "size", "ties", "wrong"] ["self", "size", "ties"] (defScope s_Web_init) := ⟨rfl, rfl, rfl, by decide +kernel, rfl, by decide +kernel, by decide +kernel⟩

theorem ok_Web_init {f : Addr} {fd : FuncData} (F : Fun K "__init__" "Web.__init__" s_Web_init f fd) (B : Bl mg) (T : Txt K mg C) (c_is_number : Cal P w K mg base 2 "is_number" ["thing", "least", "most"] sp_is_number) (c_wrong_tie : Cal P w K mg base 4 "wrong_tie" ["size", "ties"] sp_wrong_tie) : FnOk P w K mg base CX0 5 f fd ["self", "size", "ties"] (sp_Web_init C) := by
  refine F.ok sc_Web_init (fun vs H Q E h => ?_) (fun cdv A outer s H vs Q E hr h => ?_)
  · obtain ⟨x, dx, n, t, xs, ps, rfl, _⟩ := h; rfl
  · obtain ⟨x, dx, n, t, xs, ps, rfl, hx, n1, n2, ht, hp, G, k⟩ := h
    obtain ⟨t24, h24⟩ := T.mg_MOST_PARTS
    refine ⟨_, (pss_cons (ps_if (pt_not (pt_val (pe_cal c_is_number (hr.mono (by first | decide | omega)) (pa_cons (pv 1) (pa_cons pe_int (pa_cons (pe_glob (v := .int 24) (by rfl) h24 ⟨_, rfl⟩) pa_nil)))))) (pss_one ps_never) pss_nil)
 (pss_cons (ps_if (pt_not (pt_val (pe_callB call_isi (by rfl) B.isinstance (by decide +kernel) (pa_cons (pv 2) (pa_cons (pe_bltn (v := .ty "tuple") (by rfl) B.tuple_ (by decide +kernel) rfl) pa_nil))))) (pss_one ps_never) pss_nil)
 (pss_cons (ps_set (i := 3) sc_Web_init.nd rfl (by first | exact Or.inl rfl | exact Or.inr rfl) (pe_cal c_wrong_tie (hr.mono (by first | decide | omega)) (pa_cons (pv 1) (pa_cons (pv 2) pa_nil))))
 (pss_cons (ps_if (pt_cmpR op_notN (pv 3) pe_non (nomark _)) (pss_one ps_never) pss_nil)
 (pss_cons (ps_fld (pv 0) (pv 1) rfl)
 (pss_one (ps_fld (pv 0) (pv 2) rfl))))))), ?_⟩
    refine ⟨_, rfl, n, 1, 24, rfl, _, rfl, ?_⟩
    rw [decide_eq_true (⟨n1, n2⟩ : 1 ≤ n ∧ n ≤ 24)]
    refine iteF ?_
    refine ⟨_, rfl, _, _, _, _, true, rfl, .ty "tuple", .base (.tup ht), kit_ty (by decide +kernel), true, rfl, iteF ?_⟩
    refine ⟨_, rfl, _, rfl, n, t, xs, ps, rfl, ht, hp, G, fun H1 e1 => ?_⟩
    refine ⟨_, rfl, rfl, _, rfl, iteF ?_⟩
    refine ⟨_, rfl, _, rfl, x, C, dx, [], rfl, e1 _ _ hx, T.cl, T.nSize, (by decide), ?_⟩
    refine ⟨_, rfl, _, rfl, x, C, dx, _, rfl, upd_same, T.cl, T.nTies, (by show 1 < 1000; decide), ?_⟩
    exact k _ (e1.exT.upd.upd) upd_same
/-- Web(size, ties) -/
theorem make_web {H : Hp} {n : Int} {t : Addr} {xs : List V} {ps : List (Int × Int)} {Q : Addr → Hp → Prop} (n1 : 1 ≤ n) (n2 : n ≤ 24) (ht : H t = some (.tup xs)) (hp : Pairs H xs ps) (G : Good n ps)
    (k : ∀ x H', Same H H' → H x = none → WebAt C H' x n t ps → (∃ dx, H' x = some (.ins C dx (wf n t))) → Q x H') :
    ∀ x dx, H x = none → H dx = none → dx ≠ x → sp_Web_init C (.ref x :: ([.int n, .ref t] ++ [])) (upd (upd H dx (.own x)) x (.ins C dx [])) (fun v H2 => v = .non ∧ Q x H2) E0 := by
  intro x dx nx nd ne
  have s0 : Same H (upd (upd H dx (.own x)) x (.ins C dx [])) := fun b o e => by
    rw [upd_ne (ne_of_none e nx), upd_ne (ne_of_none e nd)]
    exact e
  refine ⟨x, dx, n, t, xs, ps, rfl, upd_same, n1, n2, s0 _ _ ht, hp.tk s0.tk, G, fun H' e' h' => ⟨rfl, ?_⟩⟩
  have s1 : Same H H' := fun b o e => e' _ _ (ne_of_none e nx) (s0 _ _ e)
  exact k x H' s1 nx ⟨⟨dx, _, h', wf_size n t, wf_ties n t⟩, xs, s1 _ _ ht, hp.tk s1.tk⟩ ⟨dx, h'⟩
def sp_Web_eq (C : Addr) : Sp := fun vs H Q _ => ∃ a b n m t u ps qs, vs = [.ref a, .ref b] ∧ WebAt C H a n t ps ∧ WebAt C H b m u qs ∧ Q (.bl (decide (n = m ∧ ps = qs))) H
theorem kit_own {C : Addr} : PySem.W.kitOne K (.ref C) (.ref C) = some true := by
  unfold PySem.W.kitOne
  simp
abbrev s_Web_eq : Stmt := (inClass (top 27) 1)
theorem sc_Web_eq : FnScope ["self", "other"] ["self", "other"] (defScope s_Web_eq) := ⟨rfl, rfl, rfl, by decide +kernel, rfl, by decide +kernel, by decide +kernel⟩

theorem ok_Web_eq {f : Addr} {fd : FuncData} (F : Fun K "__eq__" "Web.__eq__" s_Web_eq f fd) (B : Bl mg) (T : Txt K mg C) : FnOk P w K mg base CX0 1 f fd ["self", "other"] (sp_Web_eq C) := by
  refine F.ok sc_Web_eq (fun vs H Q E h => ?_) (fun cdv A outer s H vs Q E hr h => ?_)
  · obtain ⟨a, b, n, m, t, u, ps, qs, rfl, _⟩ := h; rfl
  · obtain ⟨a, b, n, m, t, u, ps, qs, rfl, ⟨⟨dx, fs, h1, h2, h3⟩, xs, h4, h5⟩, ⟨⟨dy, gs, g1, g2, g3⟩, ys, g4, g5⟩, k⟩ := h
    refine ⟨_, (pss_one (ps_ret (pe_and (pe_callB call_isi (by rfl) B.isinstance (by decide +kernel) (pa_cons (pv 1) (pa_cons (pe_globR T.mg_Web) pa_nil))) (pe_and (pe_cmpR op_eq (pe_fld (pv 0) rfl) (pe_fld (pv 1) rfl) (nomark _)) (pe_one (pe_cmpR (op_eqD hr.units) (pe_fld (pv 0) rfl) (pe_fld (pv 1) rfl) (nomark _))))))), ?_⟩
    refine ⟨_, rfl, _, _, _, _, true, rfl, .own C, .base (.ins g1 T.cl T.xc T.xg T.xt T.xm), kit_own, true, rfl, iteT ?_⟩
    refine ⟨_, rfl, a, C, dx, fs, _, rfl, h1, T.cl, T.nSize, h2, _, rfl, b, C, dy, gs, _, rfl, g1, T.cl, T.nSize, g2, rfl, _, rfl, ?_⟩
    by_cases e : n = m
    · rw [if_pos (decide_eq_true (by rw [e]))]
      refine ⟨_, rfl, a, C, dx, fs, _, rfl, h1, T.cl, T.nTies, h3, _, rfl, b, C, dy, gs, _, rfl, g1, T.cl, T.nTies, g3, _, _, dp_ties h4 h5, dp_ties g4 g5, pDs_shaped ps, pDs_shaped qs, ?_⟩
      rw [pDt_eqv]
      have e2 : decide (n = m ∧ ps = qs) = decide (ps = qs) := by simp [e]
      rw [e2] at k
      exact k
    · rw [if_neg (by simpa using e)]
      have e2 : decide (n = m ∧ ps = qs) = false := decide_eq_false fun q => e q.1
      rw [e2] at k
      exact k
end
open PySem PySem.Spec L2
theorem paired_map {α β γ : Type} {F : α → γ → Prop} {g : β → γ} : ∀ {l : List α} {m : List β}, Paired (fun v a => F v (g a)) l m → Paired F l (m.map g)
  | _, _, .nil => .nil
  | _, _, .cons r t => .cons r (paired_map t)
theorem paired_eq {α : Type} {g : α → V} : ∀ {l : List V} {m : List α}, Paired (fun v a => v = g a) l m → l = m.map g
  | _, _, .nil => rfl
  | _, _, .cons r t => by rw [r, paired_eq t]; rfl
theorem filter_yes {α : Type} (l : List α) : l.filter (fun _ => true) = l := List.filter_eq_self.mpr fun _ _ => rfl
theorem paired_at {α : Type} {F : V → α → Prop} {xs : List V} {as : List α} {i : Nat} {x : V} {a : α} (h : Paired F xs as) (hx : xs[i]? = some x) (ha : as[i]? = some a) : F x a := by
  obtain ⟨b, hb, q⟩ := Paired.get h hx
  rw [ha] at hb
  cases hb
  exact q
section
variable {P : Program} {w : World} {K : PySem.W.Frag} {mg : Str → Option Value} {base : Heap} {C : Addr}
theorem inV_pair (k a b : Int) : inV (.int k) [.int a, .int b] = (a == k || b == k) := by
  simp [inV, eqV]
theorem norm_lt {a b : Int} (h : a ≠ b) : (norm a b).1 < (norm a b).2 := by
  unfold norm
  by_cases h1 : b < a
  · rw [if_pos h1, if_neg (by omega)]; exact h1
  · rw [if_neg h1, if_pos (by omega)]; show a < b; omega
theorem norm_in {a b n : Int} (h : a ≠ b) (a1 : 0 ≤ a) (a2 : a < n) (b1 : 0 ≤ b) (b2 : b < n) : 0 ≤ (norm a b).1 ∧ (norm a b).1 < (norm a b).2 ∧ (norm a b).2 < n := by
  unfold norm
  by_cases h1 : b < a
  · rw [if_pos h1, if_neg (by omega)]; exact ⟨b1, h1, a2⟩
  · rw [if_neg h1, if_pos (by omega)]; exact ⟨a1, by show a < b; omega, b2⟩
theorem map_norm {n : Int} {ps : List (Int × Int)} (h : ∀ p ∈ ps, p.1 < p.2) : (ps.map fun p => norm p.1 p.2) = ps := by
  induction ps with
  | nil => rfl
  | cons p ps ih => rw [List.map_cons, norm_id (h p (by simp)), ih fun q hq => h q (by simp [hq])]
theorem good_of {n : Int} {qs rs : List (Int × Int)} (hp : qs.Perm rs) (hl : qs.Pairwise le2) (hn : rs.Nodup) (ok : ∀ p ∈ rs, 0 ≤ p.1 ∧ p.1 < p.2 ∧ p.2 < n) : Good n qs :=
  ⟨fun p h => ok p (hp.mem_iff.mp h), up_of hl (hp.nodup_iff.mpr hn)⟩
end
open PySem PySem.Spec L2
theorem fm0 {a m : Int} (h : 0 < m) : 0 ≤ a.fmod m ∧ a.fmod m < m := by
  rw [Int.fmod_eq_emod_of_nonneg _ (Int.le_of_lt h)]
  exact ⟨Int.emod_nonneg _ (by omega), Int.emod_lt_of_pos _ h⟩
theorem on_if {c : Prop} [Decidable c] {A B : Hp → Prop} {H : Hp} (h1 : c → A H) (h2 : ¬ c → B H) : (fun (b : Bool) (H1 : Hp) => if b = true then A H1 else B H1) (decide c) H := by
  by_cases h : c
  · show (if decide c = true then A H else B H)
    rw [if_pos (decide_eq_true h)]; exact h1 h
  · show (if decide c = true then A H else B H)
    rw [if_neg (by simpa using h)]; exact h2 h
theorem on_ifN {c : Prop} [Decidable c] {A B : Hp → Prop} {H : Hp} (h1 : ¬ c → A H) (h2 : c → B H) : (fun (b : Bool) (H1 : Hp) => if b = true then A H1 else B H1) (!decide c) H := by
  by_cases h : c
  · show (if (!decide c) = true then A H else B H)
    rw [if_neg (by simpa using h)]; exact h2 h
  · show (if (!decide c) = true then A H else B H)
    rw [if_pos (by simpa using h)]; exact h1 h
section
variable {P : Program} {w : World} {K : PySem.W.Frag} {mg : Str → Option Value} {base : Heap} {C : Addr}
def sp_tape (K : PySem.W.Frag) : Sp := fun vs H Q _ => ∃ (a : Addr) (ns : List Int), vs = [.ref a] ∧ SqL K H a (ns.map V.int) ∧ ∀ T L H', Same H H' → H T = none → H L = none → Tp H' T L → Q (.ref T) H'
abbrev s__law_tape : Stmt := (top 40)
theorem sc__law_tape : FnScope ["script"] ["script"] (defScope s__law_tape) := ⟨rfl, rfl, rfl, by decide +kernel, rfl, by decide +kernel, by decide +kernel⟩

theorem ok_law_tape {f : Addr} {fd : FuncData} (F : Fun K "_law_tape" "_law_tape" s__law_tape f fd) (hm : mg "_law_tape" = some (.ref f)) (B : Bl mg) : Cal P w K mg base 1 "_law_tape" ["script"] (sp_tape K) := by
  refine ⟨f, fd, F.ok sc__law_tape (fun vs H Q E h => ?_) (fun cdv A outer s H vs Q E hr h => ?_), hm, F.kp, F.binds (ps := ["script"]) fun _ _ _ _ _ _ us hl => match us, hl with | [_], _ => rfl⟩
  · obtain ⟨a, ns, rfl, _⟩ := h; rfl
  · obtain ⟨a, ns, rfl, hS, k⟩ := h
    refine ⟨_, (pss_one (ps_ret (pe_lst (pa_cons (pe_callTy call_list_of (by rfl) B.list_ (by decide +kernel) (pa_cons (pv 0) pa_nil)) (pa_cons pe_int (pa_cons pe_int (pa_cons pe_int (pa_cons pe_int pa_nil)))))))), ?_⟩
    refine ⟨_, rfl, a, _, rfl, .inl hS, fun l hl => ?_⟩
    refine ⟨by show 5 ≤ sizeLine; decide, fun T hT => ?_⟩
    have e := (L2.Same.new (o := .lst (ns.map V.int)) hl).new' (o := .lst [.ref l, .int 0, .int 0, .int 1, .int 0]) hT
    have ne : l ≠ T := fun q => by rw [← q, upd_same] at hT; cases hT
    exact k T l _ e (L2.Same.free (L2.Same.new hl) hT) hl ⟨⟨ns, 0, 0, 1, 0⟩, upd_same, by rw [upd_ne ne, upd_same], ne, (by show (0 : Int) ≤ 0; decide), (by show (0 : Int) ≤ 1; decide), (by show (1 : Int) < 2147483648; decide)⟩
abbrev s__law_pick : Stmt := (top 41)
theorem sc__law_pick : FnScope ["tape", "size", "digit", "cell", "mixed"] ["tape", "size"] (defScope s__law_pick) := ⟨rfl, rfl, rfl, by decide +kernel, rfl, by decide +kernel, by decide +kernel⟩

theorem ok_law_pick {f : Addr} {fd : FuncData} (F : Fun K "_law_pick" "_law_pick" s__law_pick f fd) (hm : mg "_law_pick" = some (.ref f)) (B : Bl mg) : Cal P w K mg base 1 "_law_pick" ["tape", "size"] spPick := by
  refine ⟨f, fd, F.ok sc__law_pick (fun vs H Q E h => ?_) (fun cdv A outer s H vs Q E hr h => ?_), hm, F.kp, F.binds (ps := ["tape", "size"]) fun _ _ _ _ _ _ us hl => match us, hl with | [_, _], _ => rfl⟩
  · obtain ⟨T, l, m, rfl, _⟩ := h; rfl
  · obtain ⟨T, l, m, rfl, m1, m2, ⟨⟨ns, i1, i2, i3, i4⟩, hT, hl, ne, p1, p3, p4⟩, k⟩ := h
    dsimp only at hT hl ne p1 p3 p4
    have m0 : m ≠ 0 := by omega
    have mN : m.natAbs < 1073741824 := by omega
    refine ⟨_, (pss_cons (ps_if (pt_cmpR op_gt (pe_ix ix_list (pv 0) pe_int (fun _ _ => rfl)) pe_int (nomark _)) (pss_cons (ps_set (i := 2) sc__law_pick.nd rfl (by first | exact Or.inl rfl | exact Or.inr rfl) (pe_op op_modN (pe_callTy call_int1 (by rfl) B.int_ (by decide +kernel) (pa_cons (pe_ix ix_list (pv 0) pe_int (fun _ _ => rfl)) pa_nil)) (pv 1)))
 (pss_cons (ps_asg (pe_op op_fdivN (pe_ix ix_list (pv 0) pe_int (fun _ _ => rfl)) (pv 1)) (pg_sub (pv 0) pe_int set_list))
 (pss_one (ps_ret (pv 2))))) pss_nil)
 (pss_cons (ps_asg (pe_op op_add (pe_ix ix_list (pv 0) pe_int (fun _ _ => rfl)) pe_int) (pg_sub (pv 0) pe_int set_list))
 (pss_cons (ps_set (i := 3) sc__law_pick.nd rfl (by first | exact Or.inl rfl | exact Or.inr rfl) pe_int)
 (Evl.pss_cut (ps_if (pt_cmpR op_lt (pe_ix ix_list (pv 0) pe_int (fun _ _ => rfl)) (pe_callB call_len_seq (by rfl) B.len (by decide +kernel) (pa_cons (pe_ix ix_list (pv 0) pe_int (fun _ _ => rfl)) pa_nil)) (nomark _)) (pss_cons (ps_set (i := 3) sc__law_pick.nd rfl (by first | exact Or.inl rfl | exact Or.inr rfl) (pe_ix ix_list (pe_ix ix_list (pv 0) pe_int (fun _ _ => rfl)) (pe_ix ix_list (pv 0) pe_int (fun _ _ => rfl)) (fun _ _ => rfl)))
 (pss_one (ps_asg (pe_op op_add (pe_ix ix_list (pv 0) pe_int (fun _ _ => rfl)) pe_int) (pg_sub (pv 0) pe_int set_list)))) pss_nil)
 (pss_cons (ps_if (pt_cmpR op_ge (pv 3) (pe_op op_pow pe_int pe_int) (nomark _)) (pss_cons (ps_asg (pe_op op_fdivN (pv 3) (pv 1)) (pg_sub (pv 0) pe_int set_list))
 (pss_one (ps_ret (pe_op op_modN (pe_callTy call_int1 (by rfl) B.int_ (by decide +kernel) (pa_cons (pv 3) pa_nil)) (pv 1))))) pss_nil)
 (pss_cons (ps_set (i := 4) sc__law_pick.nd rfl (by first | exact Or.inl rfl | exact Or.inr rfl) (pe_op op_modN (pe_callTy call_int1 (by rfl) B.int_ (by decide +kernel) (pa_cons (pe_op op_add (pe_op op_add (pe_op op_mul (pe_ix ix_list (pv 0) pe_int (fun _ _ => rfl)) pe_int) (pe_op op_modN (pe_callTy call_int1 (by rfl) B.int_ (by decide +kernel) (pa_cons (pv 3) pa_nil)) pe_int)) (pe_op op_mul (pe_ix ix_list (pv 0) pe_int (fun _ _ => rfl)) pe_int)) pa_nil)) pe_int))
 (pss_cons (ps_set (i := 4) sc__law_pick.nd rfl (by first | exact Or.inl rfl | exact Or.inr rfl) (pe_op op_modN (pe_callTy call_int1 (by rfl) B.int_ (by decide +kernel) (pa_cons (pe_op op_mul (pv 4) (pe_op op_add (pe_op op_fdivN (pv 4) pe_int) pe_int)) pa_nil)) pe_int))
 (pss_cons (ps_asg (pv 4) (pg_sub (pv 0) pe_int set_list))
 (pss_one (ps_ret (pe_op op_modN (pe_callTy call_int1 (by rfl) B.int_ (by decide +kernel) (pa_cons (pe_op op_fdivN (pv 4) pe_int) pa_nil)) (pv 1)))))))))))), ?_⟩
    refine ⟨_, rfl, T, _, 2, _, rfl, rfl, SqL.of hT, rfl, _, _, rfl, rfl, _, rfl, ?_⟩
    refine on_if (fun c => ?_) (fun c => ?_)
    · refine ⟨_, rfl, T, _, 2, _, rfl, rfl, SqL.of hT, rfl, .inl ⟨_, rfl, ?_⟩⟩
      refine ⟨_, rfl, _, _, rfl, rfl, m0, ?_⟩
      refine ⟨_, rfl, T, _, 2, _, rfl, rfl, SqL.of hT, rfl, _, rfl, _, _, rfl, rfl, ⟨m0, mN⟩, ?_⟩
      refine ⟨_, rfl, T, _, 2, 2, rfl, rfl, hT, rfl, ?_⟩
      refine ⟨_, rfl, k _ _ (fm0 m1).1 (fm0 m1).2 ExT.rfl'.upd ⟨⟨ns, i1, i2.fdiv m, i3, i4⟩, upd_same, by rw [upd_ne ne]; exact hl, ne, p1, p3, p4⟩⟩
    · refine ⟨_, rfl, T, _, 4, _, rfl, rfl, SqL.of hT, rfl, _, _, rfl, rfl, ?_⟩
      refine ⟨_, rfl, T, _, 4, 4, rfl, rfl, hT, rfl, ?_⟩
      have e1 : ExT T H (upd H T (.lst ([.ref l, .int i1, .int i2, .int i3, .int i4].set 4 (.int (i4 + 1))))) := ExT.rfl'.upd
      generalize hH1 : upd H T (.lst ([.ref l, .int i1, .int i2, .int i3, .int i4].set 4 (.int (i4 + 1)))) = H1 at e1 ⊢
      have hT1 : H1 T = some (.lst [.ref l, .int i1, .int i2, .int i3, .int (i4 + 1)]) := by rw [← hH1]; exact upd_same
      have hl1 := e1 _ _ ne hl
      refine ⟨fun σ H' => ∃ (cc i1' : Int), σ = [some (.ref T), some (.int m), none, some (.int cc), none] ∧ ExT T H H' ∧ H' T = some (.lst [.ref l, .int i1', .int i2, .int i3, .int (i4 + 1)]) ∧ 0 ≤ i1', ?_, ?_⟩
      · refine ⟨_, rfl, T, _, 1, _, rfl, rfl, SqL.of hT1, rfl, _, rfl, T, _, 0, _, rfl, rfl, SqL.of hT1, rfl, l, _, rfl, .inl (SqL.of hl1), _, _, rfl, rfl, _, rfl, ?_⟩
        refine on_if (fun c2 => ?_) (fun c2 => ?_)
        · rw [List.length_map] at c2
          have hc : ns[i1.toNat]? = some ns[i1.toNat] := List.getElem?_eq_getElem (by omega)
          refine ⟨_, rfl, T, _, 0, _, rfl, rfl, SqL.of hT1, rfl, _, rfl, T, _, 1, _, rfl, rfl, SqL.of hT1, rfl, l, _, i1, .int ns[i1.toNat], rfl, rfl, SqL.of hl1, at_of (j := i1.toNat) (by omega) (by rw [List.getElem?_map, hc]; rfl), ?_⟩
          refine ⟨_, rfl, T, _, 1, _, rfl, rfl, SqL.of hT1, rfl, _, _, rfl, rfl, ?_⟩
          refine ⟨_, rfl, T, _, 1, 1, rfl, rfl, hT1, rfl, ?_⟩
          exact ⟨_, _, rfl, e1.upd, upd_same, by omega⟩
        · exact ⟨_, _, rfl, e1, hT1, p1⟩
      · rintro σ H2 ⟨cc, i1', rfl, e2, hT2, q1⟩
        have hl2 := e2 _ _ ne hl
        refine ⟨_, rfl, _, _, rfl, rfl, ⟨by decide, by decide, by decide⟩, _, _, rfl, rfl, _, rfl, ?_⟩
        refine on_if (fun c3 => ?_) (fun c3 => ?_)
        · refine ⟨_, rfl, _, rfl, _, _, rfl, rfl, ⟨m0, mN⟩, ?_⟩
          refine ⟨_, rfl, T, _, 2, 2, rfl, rfl, hT2, rfl, ?_⟩
          refine ⟨_, rfl, .inl ⟨_, rfl, _, rfl, _, _, rfl, rfl, m0, k _ _ (fm0 m1).1 (fm0 m1).2 e2.upd ⟨⟨ns, i1', cc.fdiv m, i3, i4 + 1⟩, upd_same, by rw [upd_ne ne]; exact hl2, ne, q1, p3, p4⟩⟩⟩
        · refine ⟨_, rfl, T, _, 3, _, rfl, rfl, SqL.of hT2, rfl, _, _, rfl, rfl, .inr ⟨by decide, by decide⟩, ?_⟩
          refine ⟨_, rfl, .inl ⟨_, rfl, _, _, rfl, rfl, (by show (2147483629 : Int) ≠ 0; decide), _, _, rfl, rfl, ?_⟩⟩
          refine ⟨_, rfl, T, _, 4, _, rfl, rfl, SqL.of hT2, rfl, _, _, rfl, rfl, .inr ⟨by decide, by decide⟩, _, _, rfl, rfl, .inl ⟨_, rfl, _, _, rfl, rfl, (by show (2147483647 : Int) ≠ 0; decide), ?_⟩⟩
          dsimp only
          generalize hm1 : (i3 * 48271 + cc.fmod 2147483629 + (i4 + 1) * 69621).fmod 2147483647 = mx
          have b1 : 0 ≤ mx ∧ mx < 2147483647 := by rw [← hm1]; exact fm0 (by decide)
          refine ⟨_, rfl, _, rfl, _, _, rfl, rfl, ⟨by decide, by decide⟩, _, _, rfl, rfl, _, _, rfl, rfl, .inl ⟨by omega, by omega⟩, .inl ⟨_, rfl, _, _, rfl, rfl, (by show (2147483399 : Int) ≠ 0; decide), ?_⟩⟩
          dsimp only
          generalize hm2 : (mx * (mx.fdiv 1009 + 40692)).fmod 2147483399 = my
          have b2 : 0 ≤ my ∧ my < 2147483399 := by rw [← hm2]; exact fm0 (by decide)
          refine ⟨_, rfl, _, rfl, T, _, 3, 3, rfl, rfl, hT2, rfl, ?_⟩
          refine ⟨_, rfl, _, _, rfl, rfl, ⟨by decide, by decide⟩, .inl ⟨_, rfl, _, rfl, _, _, rfl, rfl, m0, ?_⟩⟩
          exact k _ _ (fm0 m1).1 (fm0 m1).2 e2.upd ⟨⟨ns, i1', i2, my, i4 + 1⟩, upd_same, by rw [upd_ne ne]; exact hl2, ne, q1, b2.1, (by show my < 2147483648; omega)⟩
end
open PySem PySem.Spec L2
theorem seq_ix {r : Int} {n : Nat} (h0 : 0 ≤ r) (h1 : r < n) : seqIndex? r n = some r.toNat := by
  unfold seqIndex?
  simp [show ¬ r < 0 by omega, h0, h1]
theorem perm_sorted : ∀ {l m : List Int}, l.Perm m → l.Pairwise (· ≤ ·) → m.Pairwise (· < ·) → l = m := by
  intro l m hp hl hm
  have hm' : m.Pairwise (· ≤ ·) := hm.imp fun {a b} h => Int.le_of_lt h
  have key : ∀ {l m : List Int}, l.Perm m → l.Pairwise (· ≤ ·) → m.Pairwise (· ≤ ·) → l = m := by
    intro l
    induction l with
    | nil => intro m hp _ _; exact (List.nil_perm.mp hp).symm
    | cons a l ih =>
      intro m hp hl hm
      cases m with
      | nil => exact absurd hp.length_eq (by simp)
      | cons b m =>
        obtain ⟨l1, l2⟩ := List.pairwise_cons.mp hl
        obtain ⟨m1, m2⟩ := List.pairwise_cons.mp hm
        have e : a = b := by
          have h1 : a ∈ b :: m := hp.mem_iff.mp (by simp)
          have h2 : b ∈ a :: l := hp.mem_iff.mpr (by simp)
          rcases List.mem_cons.mp h1 with h1 | h1
          · exact h1
          · rcases List.mem_cons.mp h2 with h2 | h2
            · exact h2.symm
            · have := l1 b h2; have := m1 a h1; omega
        subst e
        rw [ih (List.Perm.cons_inv hp) l2 m2]
  exact key hp hl hm'
section
variable {P : Program} {w : World} {K : PySem.W.Frag} {mg : Str → Option Value} {base : Heap} {C : Addr}
end
open PySem PySem.Spec L2
theorem onb {c : Prop} [Decidable c] {A B : Prop} (h1 : c → A) (h2 : ¬ c → B) : if decide c = true then A else B := on_if (A := fun _ => A) (B := fun _ => B) (H := fun _ => none) h1 h2
theorem onbN {c : Prop} [Decidable c] {A B : Prop} (h1 : ¬ c → A) (h2 : c → B) : if (!decide c) = true then A else B := on_ifN (A := fun _ => A) (B := fun _ => B) (H := fun _ => none) h1 h2
def unI : V → Int
  | .int i => i
  | _ => 0
theorem ints_of : ∀ {ys : List V} {ns : List Int}, ys.Perm (ns.map V.int) → ys = (ys.map unI).map V.int ∧ (ys.map unI).Perm ns := by
  intro ys ns hp
  have h1 : ∀ y ∈ ys, V.int (unI y) = y := fun y hy => by
    obtain ⟨i, _, rfl⟩ := List.mem_map.mp (hp.mem_iff.mp hy)
    rfl
  refine ⟨?_, ?_⟩
  · rw [List.map_map]
    have : ys.map (V.int ∘ unI) = ys.map id := List.map_congr_left fun y hy => h1 y hy
    rw [this, List.map_id]
  · have h2 := hp.map unI
    rw [List.map_map] at h2
    have : ns.map (unI ∘ V.int) = ns.map id := List.map_congr_left fun y hy => rfl
    rw [this, List.map_id] at h2
    exact h2
theorem norm_eq {a b c d : Int} (hab : a ≠ b) (hcd : c ≠ d) (h : norm a b = norm c d) : (a = c ∧ b = d) ∨ (a = d ∧ b = c) := by
  unfold norm at h
  have h1 := congrArg Prod.fst h
  have h2 := congrArg Prod.snd h
  dsimp only at h1 h2
  by_cases x : b < a
  · rw [if_pos x, if_neg (show ¬ b > a by omega)] at *
    by_cases y : d < c
    · rw [if_pos y, if_neg (show ¬ d > c by omega)] at *; omega
    · rw [if_neg y, if_pos (show d > c by omega)] at *; omega
  · rw [if_neg x, if_pos (show b > a by omega)] at *
    by_cases y : d < c
    · rw [if_pos y, if_neg (show ¬ d > c by omega)] at *; omega
    · rw [if_neg y, if_pos (show d > c by omega)] at *; omega
section
variable {P : Program} {w : World} {K : PySem.W.Frag} {mg : Str → Option Value} {base : Heap} {C : Addr}
end
open PySem PySem.Spec L2
theorem units65 {k : Nat} {A : Around} (r : Room k A) : A.units + 65 < cLine := by have := r.un; omega
def tIfC (t : TT) (x y : V) : TE := fun σ H Q => t σ H fun c H1 => Q (if c = true then x else y) H1
theorem pe_ifC {X : Cx} {c a b : Expr} {pos : Pos} {t : TT} {x y : V} (hc : PT X c t) (ha : PE X a (tC x)) (hb : PE X b (tC y)) : PE X (.IfExp c a b pos) (tIfC t x y) := by
  have h := pe_ifExp (pos := pos) hc ha hb
  have e : tIf t (tC x) (tC y) = tIfC t x y := by
    funext σ H Q
    show t σ H (fun c H1 => if c = true then Q x H1 else Q y H1) = t σ H (fun c H1 => Q (if c = true then x else y) H1)
    have : (fun (c : Bool) (H1 : Hp) => if c = true then Q x H1 else Q y H1) = (fun c H1 => Q (if c = true then x else y) H1) := by
      funext c H1
      cases c <;> simp
    rw [this]
  rw [← e]
  exact h
/-- how many ties there can be -/
theorem up_len : ∀ {l : List Int} {lo hi : Int}, l.Pairwise (· < ·) → (∀ x ∈ l, lo ≤ x ∧ x < hi) → (l.length : Int) ≤ hi - lo ∨ l = []
  | [], _, _, _, _ => .inr rfl
  | x :: l, lo, hi, h, hb => by
    obtain ⟨h1, h2⟩ := List.pairwise_cons.mp h
    have hx := hb x (by simp)
    rcases up_len (lo := x + 1) (hi := hi) h2 (fun y hy => ⟨by have := h1 y hy; omega, (hb y (by simp [hy])).2⟩) with ih | ih
    · left; rw [List.length_cons]; omega
    · subst ih; left; simp; omega
theorem Good.len {n : Int} {ps : List (Int × Int)} (G : Good n ps) (hn : n ≤ 24) : ps.length ≤ 1000 := by
  have h1 : (ps.map fun p => 24 * p.1 + p.2).Pairwise (· < ·) := by
    refine List.pairwise_map.mpr ?_
    have : ps.Pairwise fun p q => lt2 p q ∧ (p ∈ ps ∧ q ∈ ps) := List.Pairwise.imp_of_mem (fun {p q} hp hq h => ⟨h, hp, hq⟩) G.up
    refine this.imp fun {p q} ⟨h, hp, hq⟩ => ?_
    have a := G.ok p hp
    have b := G.ok q hq
    unfold lt2 at h
    omega
  rcases up_len (lo := 0) (hi := 1000) h1 (fun x hx => by
    obtain ⟨p, hp, rfl⟩ := List.mem_map.mp hx
    have a := G.ok p hp
    omega) with h | h
  · rw [List.length_map] at h; omega
  · have := congrArg List.length h
    rw [List.length_map] at this
    simp at this
    simp [this]
theorem norm_comm {a b : Int} (h : a ≠ b) : norm a b = norm b a := by
  unfold norm
  by_cases h1 : b < a
  · rw [if_pos h1, if_neg (by omega), if_neg (by omega), if_pos (by omega)]
  · rw [if_neg h1, if_pos (by omega), if_pos (by omega), if_neg (by omega)]
theorem inV_ints (k : Int) : ∀ l : List Int, inV (.int k) (l.map V.int) = decide (k ∈ l)
  | [] => by simp [inV]
  | a :: l => by
    have ih := inV_ints k l
    unfold inV at ih ⊢
    rw [List.map_cons, List.any_cons, ih]
    by_cases h1 : a = k
    · subst h1; simp [eqV]
    · have : ¬ k = a := fun e => h1 e.symm
      by_cases h2 : k ∈ l <;> simp [eqV, h1, this, h2]
theorem any_pairs (p : Int × Int) : ∀ l : List (Int × Int), ((l.map pD).any fun z => PyData.eqv z (pD p)) = decide (p ∈ l)
  | [] => by simp
  | a :: l => by
    rw [List.map_cons, List.any_cons, any_pairs p l, pD_eqv]
    by_cases h1 : a = p
    · subst h1; simp
    · have : ¬ p = a := fun e => h1 e.symm
      by_cases h2 : p ∈ l <;> simp [h1, this, h2]
theorem flat_ints : ∀ l : List Int, (l.map V.int).all flatV = true
  | [] => rfl
  | a :: l => by rw [List.map_cons, List.all_cons, flat_ints l]; rfl
/-- another part, some parts on -/
theorem other_ne {o r n : Int} (h1 : 0 ≤ o) (h2 : o < n) (h3 : 0 ≤ r) (h4 : r < n - 1) : 0 ≤ (o + 1 + r).fmod n ∧ (o + 1 + r).fmod n < n ∧ o ≠ (o + 1 + r).fmod n := by
  rw [Int.fmod_eq_emod_of_nonneg _ (by omega)]
  by_cases h : o + 1 + r < n
  · rw [Int.emod_eq_of_lt (by omega) h]; omega
  · have e : (o + 1 + r) % n = (o + 1 + r - n) % n := by
      have := Int.sub_emod_right (o + 1 + r) n
      exact this.symm
    rw [e, Int.emod_eq_of_lt (by omega) (by omega)]; omega
section
variable {P : Program} {w : World} {K : PySem.W.Frag} {mg : Str → Option Value} {base : Heap} {C : Addr}
end
open PySem PySem.Spec L2
/-! ## lots -/
structure Lot (n : Int) (l : List Int) : Prop where
  up : l.Pairwise (· < ·)
  ok : ∀ x ∈ l, 0 ≤ x ∧ x < n
theorem lot_len {n : Int} {l : List Int} (h : Lot n l) (h0 : 0 ≤ n) : (l.length : Int) ≤ n := by
  have key : ∀ {l : List Int} {lo hi : Int}, l.Pairwise (· < ·) → (∀ x ∈ l, lo ≤ x ∧ x < hi) → lo ≤ hi → (l.length : Int) ≤ hi - lo := by
    intro l
    induction l with
    | nil => intro lo hi _ _ h; simp; omega
    | cons x l ih =>
      intro lo hi h hb hle
      obtain ⟨h1, h2⟩ := List.pairwise_cons.mp h
      have hx := hb x (by simp)
      have := ih (lo := x + 1) (hi := hi) h2 (fun y hy => ⟨by have := h1 y hy; omega, (hb y (by simp [hy])).2⟩) (by omega)
      rw [List.length_cons]; omega
  have := key h.up h.ok h0
  omega
theorem ups_ext : ∀ {ps qs : List Int}, ps.Pairwise (· < ·) → qs.Pairwise (· < ·) → (∀ p, p ∈ ps ↔ p ∈ qs) → ps = qs
  | [], [], _, _, _ => rfl
  | [], q :: qs, _, _, h => by have := (h q).mpr (by simp); simp at this
  | p :: ps, [], _, _, h => by have := (h p).mp (by simp); simp at this
  | p :: ps, q :: qs, hp, hq, h => by
    obtain ⟨p1, p2⟩ := List.pairwise_cons.mp hp
    obtain ⟨q1, q2⟩ := List.pairwise_cons.mp hq
    have e : p = q := by
      rcases List.mem_cons.mp ((h p).mp (by simp)) with e | e
      · exact e
      · rcases List.mem_cons.mp ((h q).mpr (by simp)) with e' | e'
        · exact e'.symm
        · have := q1 p e; have := p1 q e'; omega
    subst e
    have : ps = qs := ups_ext p2 q2 fun r => by
      constructor
      · intro hr
        rcases List.mem_cons.mp ((h r).mp (by simp [hr])) with e | e
        · subst e; have := p1 r hr; omega
        · exact e
      · intro hr
        rcases List.mem_cons.mp ((h r).mpr (by simp [hr])) with e | e
        · subst e; have := q1 r hr; omega
        · exact e
    rw [this]
/-- a lot's bits -/
def IsLot (l : List Int) (b : Nat) : Prop := (∀ x ∈ l, 0 ≤ x) ∧ l.Pairwise (· < ·) ∧ ∀ k : Nat, (k : Int) ∈ l ↔ b.testBit k = true
def bitsN (l : List Int) : Nat := l.foldl (fun b p => b ||| 2 ^ p.toNat) 0
theorem bitsN_snoc (l : List Int) (p : Int) : bitsN (l ++ [p]) = bitsN l ||| 2 ^ p.toNat := by
  unfold bitsN
  rw [List.foldl_append]
  rfl
theorem bits_fold : ∀ (l : List Int) (b : Nat) (k : Nat), (∀ x ∈ l, 0 ≤ x) → (l.foldl (fun b p => b ||| 2 ^ p.toNat) b).testBit k = (b.testBit k || decide ((k : Int) ∈ l))
  | [], b, k, _ => by simp
  | p :: l, b, k, h => by
    rw [List.foldl_cons, bits_fold l _ k (fun x hx => h x (by simp [hx])), Nat.testBit_or, Nat.testBit_two_pow]
    have h0 := h p (by simp)
    by_cases c : p.toNat = k
    · have : (k : Int) = p := by omega
      simp [c, this]
    · have : ¬ (k : Int) = p := by omega
      simp [c, this]
theorem bitsN_bit {l : List Int} (h : ∀ x ∈ l, 0 ≤ x) (k : Nat) : (bitsN l).testBit k = decide ((k : Int) ∈ l) := by
  unfold bitsN
  rw [bits_fold l 0 k h]
  simp
theorem isLot_bits {n : Int} {l : List Int} (h : Lot n l) : IsLot l (bitsN l) :=
  ⟨fun x hx => (h.ok x hx).1, h.up, fun k => by rw [bitsN_bit fun x hx => (h.ok x hx).1]; simp⟩
theorem take_snoc {α : Type} {l : List α} {i : Nat} {x : α} (h : l[i]? = some x) : l.take (i + 1) = l.take i ++ [x] := by
  rw [List.take_succ, h]; rfl
theorem map_get {l : List Int} {i : Nat} {v : V} (h : (l.map V.int)[i]? = some v) : ∃ x, l[i]? = some x ∧ v = .int x := by
  rw [List.getElem?_map] at h
  cases e : l[i]? with
  | none => rw [e] at h; cases h
  | some x => rw [e] at h; exact ⟨x, rfl, (Option.some.inj h).symm⟩
theorem p2 (k : Nat) : (1 : Int) * 2 ^ ((k : Int)).toNat = ((2 ^ k : Nat) : Int) := by
  rw [Int.toNat_natCast, Int.one_mul, Int.natCast_pow]; rfl
theorem p2i {p : Int} (h : 0 ≤ p) : (1 : Int) * 2 ^ p.toNat = ((2 ^ p.toNat : Nat) : Int) := by
  rw [Int.one_mul, Int.natCast_pow]; rfl
section
variable {P : Program} {w : World} {K : PySem.W.Frag} {mg : Str → Option Value} {base : Heap} {C : Addr}
def sp_is_lot (C : Addr) : Sp := fun vs H Q _ => ∃ x n u ps t l, vs = [.ref x, .ref t] ∧ WebAt C H x n u ps ∧ H t = some (.tup (l.map V.int)) ∧ Lot n l ∧ Q (.bl true) H
def sp_is_lot_below : Sp := fun vs H Q _ => ∃ n t l, vs = [.int n, .ref t] ∧ H t = some (.tup (l.map V.int)) ∧ Lot n l ∧ Q (.bl true) H
abbrev s_is_lot_below : Stmt := (top 9)
theorem sc_is_lot_below : FnScope ["size", "thing", "last", "part"] ["size", "thing"] (defScope s_is_lot_below) := ⟨rfl, rfl, rfl, by decide +kernel, rfl, by decide +kernel, by decide +kernel⟩

theorem ok_is_lot_below {f : Addr} {fd : FuncData} (F : Fun K "is_lot_below" "is_lot_below" s_is_lot_below f fd) (hm : mg "is_lot_below" = some (.ref f)) (B : Bl mg) (c_is_number : Cal P w K mg base 2 "is_number" ["thing", "least", "most"] sp_is_number) : Cal P w K mg base 3 "is_lot_below" ["size", "thing"] sp_is_lot_below := by
  refine ⟨f, fd, F.ok sc_is_lot_below (fun vs H Q E h => ?_) (fun cdv A outer s H vs Q E hr h => ?_), hm, F.kp, F.binds (ps := ["size", "thing"]) fun _ _ _ _ _ _ us hl => match us, hl with | [_, _], _ => rfl⟩
  · obtain ⟨n, t, l, rfl, _⟩ := h; rfl
  · obtain ⟨n, t, l, rfl, ht, hl, k⟩ := h
    refine ⟨_, (pss_cons (ps_if (pt_not (pt_val (pe_callB call_isi (by rfl) B.isinstance (by decide +kernel) (pa_cons (pv 1) (pa_cons (pe_bltn (v := .ty "tuple") (by rfl) B.tuple_ (by decide +kernel) rfl) pa_nil))))) (pss_one (ps_ret pe_bl)) pss_nil)
 (pss_cons (ps_set (i := 2) sc_is_lot_below.nd rfl (by first | exact Or.inl rfl | exact Or.inr rfl) (pe_un un_neg pe_int))
 (pss_cons (ps_for PassesOwn.never rfl (pi_tup (pv 1)) (pg_name (i := 3) sc_is_lot_below.nd rfl (by first | exact Or.inl rfl | exact Or.inr rfl))
  (pss_cons (ps_if (pt_not (pt_val (pe_cal c_is_number (hr.mono (by first | decide | omega)) (pa_cons (pv 3) (pa_cons (pe_op op_add (pv 2) pe_int) (pa_cons (pe_op op_sub (pv 0) pe_int) pa_nil)))))) (pss_one (ps_ret pe_bl)) pss_nil)
 (pss_one (ps_set (i := 2) sc_is_lot_below.nd rfl (by first | exact Or.inl rfl | exact Or.inr rfl) (pv 3)))))
 (pss_one (ps_ret pe_bl))))), ?_⟩
    refine ⟨_, rfl, _, _, _, _, true, rfl, .ty "tuple", .base (.tup ht), kit_ty (by decide +kernel), true, rfl, iteF ?_⟩
    refine ⟨_, rfl, ?_⟩
    refine ⟨_, rfl, t, rfl, ⟨_, SqT.of ht⟩, for_tup (K := K) (a := t) (xs := l.map V.int) (fun i σ H' => H' = H ∧ ∃ (z : Int) (v : Option V), σ = [some (.int n), some (.ref t), some (.int z), v] ∧ (i = 0 → z = -1) ∧ ∀ j y, i = j + 1 → l[j]? = some y → z = y)
      ⟨rfl, -1, none, rfl, fun _ => rfl, fun j y e _ => by omega⟩ (fun i σ H' _ p => by rw [p.1]; exact SqT.of ht) ?_ ?_⟩
    · rintro i v σ H' hv ⟨rfl, z, u', rfl, z0, z1⟩
      obtain ⟨y, hy, rfl⟩ := map_get hv
      have hy2 := hl.ok y (List.mem_of_getElem? hy)
      have hz : z < y := by
        cases i with
        | zero => rw [z0 rfl]; omega
        | succ j =>
          have hj : j < l.length := by have := (List.getElem?_eq_some_iff.mp hy).1; omega
          rw [z1 j l[j] rfl (List.getElem?_eq_getElem hj)]
          obtain ⟨h2, e2⟩ := List.getElem?_eq_some_iff.mp hy
          have := List.pairwise_iff_getElem.mp hl.up j (j + 1) hj h2 (Nat.lt_succ_self j)
          omega
      refine ⟨_, rfl, _, rfl, _, _, rfl, rfl, _, rfl, _, _, rfl, rfl, y, z + 1, n - 1, rfl, _, rfl, ?_⟩
      rw [decide_eq_true (show z + 1 ≤ y ∧ y ≤ n - 1 by omega)]
      refine iteF ?_
      refine ⟨_, rfl, rfl, y, _, rfl, fun e => by omega, fun j q e h' => ?_⟩
      have : j = i := by omega
      subst this
      rw [hy] at h'
      cases h'
      rfl
    · rintro σ H' ⟨rfl, _⟩
      exact k
abbrev s_is_lot : Stmt := (top 10)
theorem sc_is_lot : FnScope ["web", "thing"] ["web", "thing"] (defScope s_is_lot) := ⟨rfl, rfl, rfl, by decide +kernel, rfl, by decide +kernel, by decide +kernel⟩

theorem ok_is_lot {f : Addr} {fd : FuncData} (F : Fun K "is_lot" "is_lot" s_is_lot f fd) (hm : mg "is_lot" = some (.ref f)) (B : Bl mg) (T : Txt K mg C) (c_is_lot_below : Cal P w K mg base 3 "is_lot_below" ["size", "thing"] sp_is_lot_below) : Cal P w K mg base 4 "is_lot" ["web", "thing"] (sp_is_lot C) := by
  refine ⟨f, fd, F.ok sc_is_lot (fun vs H Q E h => ?_) (fun cdv A outer s H vs Q E hr h => ?_), hm, F.kp, F.binds (ps := ["web", "thing"]) fun _ _ _ _ _ _ us hl => match us, hl with | [_, _], _ => rfl⟩
  · obtain ⟨x, n, u, ps, t, l, rfl, _⟩ := h; rfl
  · obtain ⟨x, n, u, ps, t, l, rfl, ⟨⟨dx, fs, h1, h2, h3⟩, _⟩, ht, hl, k⟩ := h
    refine ⟨_, (pss_one (ps_ret (pe_cal c_is_lot_below (hr.mono (by first | decide | omega)) (pa_cons (pe_fld (pv 0) rfl) (pa_cons (pv 1) pa_nil))))), ?_⟩
    exact ⟨_, rfl, x, C, dx, fs, _, rfl, h1, T.cl, T.nSize, h2, _, rfl, n, t, l, rfl, ht, hl, k⟩
def sp_bits_of : Sp := fun vs H Q _ => ∃ t l, vs = [.ref t] ∧ H t = some (.tup (l.map V.int)) ∧ (∀ x ∈ l, 0 ≤ x ∧ x ≤ 1000) ∧ Q (.int (bitsN l : Nat)) H
abbrev s_bits_of : Stmt := (top 12)
theorem sc_bits_of : FnScope ["lot", "bits", "part"] ["lot"] (defScope s_bits_of) := ⟨rfl, rfl, rfl, by decide +kernel, rfl, by decide +kernel, by decide +kernel⟩

theorem ok_bits_of {f : Addr} {fd : FuncData} (F : Fun K "bits_of" "bits_of" s_bits_of f fd) (hm : mg "bits_of" = some (.ref f)) (B : Bl mg) : Cal P w K mg base 1 "bits_of" ["lot"] sp_bits_of := by
  refine ⟨f, fd, F.ok sc_bits_of (fun vs H Q E h => ?_) (fun cdv A outer s H vs Q E hr h => ?_), hm, F.kp, F.binds (ps := ["lot"]) fun _ _ _ _ _ _ us hl => match us, hl with | [_], _ => rfl⟩
  · obtain ⟨t, l, rfl, _⟩ := h; rfl
  · obtain ⟨t, l, rfl, ht, hl, k⟩ := h
    refine ⟨_, (pss_cons (ps_set (i := 1) sc_bits_of.nd rfl (by first | exact Or.inl rfl | exact Or.inr rfl) pe_int)
 (pss_cons (ps_for PassesOwn.never rfl (pi_tup (pv 0)) (pg_name (i := 2) sc_bits_of.nd rfl (by first | exact Or.inl rfl | exact Or.inr rfl))
  (pss_one (ps_aug (i := 1) sc_bits_of.nd rfl (by first | exact Or.inl rfl | exact Or.inr rfl) (pe_op op_shl pe_int (pv 2)) ip_or)))
 (pss_one (ps_ret (pv 1))))), ?_⟩
    refine ⟨_, rfl, t, rfl, ⟨_, SqT.of ht⟩, for_tup (K := K) (a := t) (xs := l.map V.int) (fun i σ H' => H' = H ∧ ∃ v : Option V, σ = [some (.ref t), some (.int (bitsN (l.take i) : Nat)), v])
      ⟨rfl, none, rfl⟩ (fun i σ H' _ p => by rw [p.1]; exact SqT.of ht) ?_ ?_⟩
    · rintro i v σ H' hv ⟨rfl, u, rfl⟩
      obtain ⟨y, hy, rfl⟩ := map_get hv
      have hy2 := hl y (List.mem_of_getElem? hy)
      refine ⟨_, rfl, _, rfl, _, _, rfl, rfl, ⟨hy2.1, by omega, by decide⟩, _, _, rfl, rfl, rfl, some (.int y), ?_⟩
      rw [p2i hy2.1]
      dsimp only
      rw [or_pp, take_snoc hy, bitsN_snoc]
      rfl
    · rintro σ H' ⟨rfl, v, rfl⟩
      rw [show (l.map V.int).length = l.length from List.length_map ..] 
      rw [List.take_length]
      exact ⟨_, rfl, k⟩
def sp_lot_of : Sp := fun vs H Q _ => ∃ b : Nat, vs = [.int (b : Int)] ∧ b < 2 ^ 200 ∧ ∀ p l H', Same H H' → H p = none → H' p = some (.tup (l.map V.int)) → IsLot l b → Q (.ref p) H'
abbrev s_lot_of : Stmt := (top 13)
theorem sc_lot_of : FnScope ["bits", "lot", "low"] ["bits"] (defScope s_lot_of) := ⟨rfl, rfl, rfl, by decide +kernel, rfl, by decide +kernel, by decide +kernel⟩

theorem ok_lot_of {f : Addr} {fd : FuncData} (F : Fun K "lot_of" "lot_of" s_lot_of f fd) (hm : mg "lot_of" = some (.ref f)) (B : Bl mg) : Cal P w K mg base 1 "lot_of" ["bits"] sp_lot_of := by
  refine ⟨f, fd, F.ok sc_lot_of (fun vs H Q E h => ?_) (fun cdv A outer s H vs Q E hr h => ?_), hm, F.kp, F.binds (ps := ["bits"]) fun _ _ _ _ _ _ us hl => match us, hl with | [_], _ => rfl⟩
  · obtain ⟨b, rfl, _⟩ := h; rfl
  · obtain ⟨b, rfl, hb, k⟩ := h
    refine ⟨_, (pss_cons (ps_set (i := 1) sc_lot_of.nd rfl (by first | exact Or.inl rfl | exact Or.inr rfl) (pe_lst pa_nil))
 (pss_cons (ps_while PassesOwn.never (pt_truth (pv 0) (by intro _; rfl)) (pss_cons (ps_set (i := 2) sc_lot_of.nd rfl (by first | exact Or.inl rfl | exact Or.inr rfl) (pe_op op_and (pv 0) (pe_un un_neg (pv 0))))
 (pss_cons (ps_expr (pe_bm PySem.F.plainAttrs_list PySem.F.slot_list_append PySem.F.type_list_append mt_append (pv 1) (pa_cons (pe_op op_sub (pe_bits (pv 2)) pe_int) pa_nil)))
 (pss_one (ps_aug (i := 0) sc_lot_of.nd rfl (by first | exact Or.inl rfl | exact Or.inr rfl) (pv 2) ip_xor)))))
 (pss_one (ps_ret (pe_callTy call_tuple_of (by rfl) B.tuple_ (by decide +kernel) (pa_cons (pv 1) pa_nil)))))), ?_⟩
    refine ⟨Nat.zero_le _, fun p hp => ?_⟩
    refine ⟨fun m σ H' => ∃ (c : Nat) (l : List Int) (v : Option V), σ = [some (.int (c : Int)), some (.ref p), v] ∧ c = m ∧ Same H H' ∧ H' p = some (.lst (l.map V.int)) ∧ (∀ x ∈ l, 0 ≤ x ∧ x < 200) ∧ l.Pairwise (· < ·) ∧ (∀ j : Nat, b.testBit j = (decide ((j : Int) ∈ l) || c.testBit j)) ∧ ∀ x ∈ l, ∀ j : Nat, c.testBit j = true → x < j,
      ⟨b, b, [], none, rfl, rfl, L2.Same.new hp, upd_same, by simp, .nil, by simp, by simp⟩, ?_⟩
    · rintro m σ H' ⟨c, l, v, rfl, rfl, e, hl, ok, up, hbit, hlt⟩
      refine ⟨_, rfl, (((c : Int)) != 0), rfl, ?_⟩
      by_cases c0 : c = 0
      · subst c0
        refine iteF ?_
        refine ⟨_, rfl, p, _, rfl, .inl ⟨SqL.of hl, fun q hq => ?_⟩⟩
        exact k q l _ (e.new' hq) (L2.Same.free e hq) upd_same ⟨fun x hx => (ok x hx).1, up, fun j => by rw [hbit j]; simp⟩
      · have hne : (((c : Int)) != 0) = true := by simp [c0]
        rw [hne]
        refine iteT ⟨_, fun σ' H' h => h, ?_⟩
        obtain ⟨kk, k1, k2⟩ := low_ex c0
        have hk : kk < 200 := by
          rcases Nat.lt_or_ge kk 200 with h | h
          · exact h
          · have h3 : b.testBit kk = true := by rw [hbit kk, k1]; simp
            rw [Nat.testBit_lt_two_pow (Nat.lt_of_lt_of_le hb (Nat.pow_le_pow_right (by decide) h))] at h3
            cases h3
        have hlow := low_is k1 k2
        refine ⟨_, rfl, _, rfl, c, rfl, c, -(c : Int), rfl, rfl, ?_⟩
        dsimp only
        rw [hlow]
        refine ⟨_, rfl, .inl ⟨rfl, _, SqL.of hl⟩, _, rfl, _, rfl, _, _, rfl, rfl, ?_⟩
        rw [bits_pow]
        have e1 : ((kk + 1 : Nat) : Int) - 1 = (kk : Int) := by omega
        dsimp only
        rw [e1]
        have hlen : l.length ≤ 1000 := by
          have := lot_len (n := 200) ⟨up, ok⟩ (by decide)
          omega
        refine ⟨p, _, _, rfl, rfl, hl, (by rw [List.length_map]; exact Nat.lt_of_le_of_lt hlen (by decide)), ?_⟩
        refine ⟨_, rfl, _, rfl, _, _, rfl, rfl, ?_⟩
        have e2 : ((2 : Int) ^ kk) = ((2 ^ kk : Nat) : Int) := by rw [Int.natCast_pow]; rfl
        dsimp only
        rw [e2, xor_pp, xor_low k1]
        refine ⟨clr c kk, clr_lt k1, clr c kk, l ++ [(kk : Int)], _, rfl, rfl, L2.Same.mut e hp, ?_, ?_, ?_, fun j => ?_, ?_⟩
        · rw [upd_same, List.map_append]; rfl
        · intro x hx
          rcases List.mem_append.mp hx with h | h
          · exact ok x h
          · simp at h; omega
        · refine List.pairwise_append.mpr ⟨up, by simp, fun x hx y hy => ?_⟩
          simp at hy
          subst hy
          exact hlt x hx kk k1
        · have hmm : decide ((j : Int) ∈ l ++ [(kk : Int)]) = (decide ((j : Int) ∈ l) || decide ((j : Int) = (kk : Int))) := by
            by_cases d : (j : Int) ∈ l <;> simp [d]
          rw [hbit j, clr_bit, hmm]
          by_cases c2 : j = kk
          · subst c2; simp [k1]
          · have : ¬ (j : Int) = (kk : Int) := by omega
            simp [c2, this]
        · intro x hx j hj
          rw [clr_bit] at hj
          simp at hj
          rcases List.mem_append.mp hx with h | h
          · exact hlt x h j hj.1
          · simp at h
            subst h
            have h3 : ¬ j < kk := fun h4 => by rw [k2 j h4] at hj; simp at hj
            omega
end
open PySem PySem.Spec L2
theorem dec_or {p a b : Prop} [Decidable p] [Decidable a] [Decidable b] (h : p ↔ a ∨ b) : decide p = (decide a || decide b) := by
  by_cases ha : a <;> by_cases hb : b <;> simp [h, ha, hb]
theorem dec_iff {p a : Prop} [Decidable p] [Decidable a] (h : p ↔ a) : decide p = decide a := by
  by_cases ha : a <;> simp [h, ha]
def nints (ts : List Nat) : List V := ts.map fun b : Nat => V.int (b : Int)
/-- the bits of what each part is tied to -/
structure Tied (n : Int) (ps : List (Int × Int)) (ts : List Nat) : Prop where
  len : (ts.length : Int) = n
  bit : ∀ i k : Nat, i < ts.length → (ts.getD i 0).testBit k = decide (norm (i : Int) (k : Int) ∈ ps)
theorem nints_get {ts : List Nat} {i : Nat} (h : i < ts.length) : (nints ts)[i]? = some (.int (ts.getD i 0 : Nat)) := by
  unfold nints
  rw [List.getElem?_map, List.getElem?_eq_getElem h, List.getD_eq_getElem?_getD, List.getElem?_eq_getElem h]
  rfl
theorem nints_len (ts : List Nat) : (nints ts).length = ts.length := List.length_map ..
theorem nints_set (ts : List Nat) (i b : Nat) : (nints ts).set i (.int (b : Int)) = nints (ts.set i b) := by
  unfold nints
  rw [List.map_set]
theorem getD_set (ts : List Nat) (i j b : Nat) (h : i < ts.length) : (ts.set i b).getD j 0 = if i = j then b else ts.getD j 0 := by
  rw [List.getD_eq_getElem?_getD, List.getD_eq_getElem?_getD, List.getElem?_set]
  by_cases c : i = j
  · subst c; simp [h]
  · simp [c]
theorem flat_rep (v : V) : ∀ n : Nat, (List.replicate n [v]).flatten = List.replicate n v
  | 0 => rfl
  | n + 1 => by rw [List.replicate_succ, List.flatten_cons, flat_rep v n]; rfl
theorem norm_pair {a b c d : Int} (hab : a < b) : norm c d = (a, b) ↔ (c = a ∧ d = b) ∨ (c = b ∧ d = a) := by
  unfold norm
  constructor
  · intro h
    have h1 := congrArg Prod.fst h
    have h2 := congrArg Prod.snd h
    dsimp only at h1 h2
    by_cases x : d < c
    · rw [if_pos x] at h1; rw [if_neg (show ¬ d > c by omega)] at h2; omega
    · rw [if_neg x] at h1
      by_cases y : d > c
      · rw [if_pos y] at h2; omega
      · rw [if_neg y] at h2; omega
  · rintro (⟨rfl, rfl⟩ | ⟨rfl, rfl⟩)
    · rw [if_neg (by omega), if_pos (by omega)]
    · rw [if_pos (by omega), if_neg (by omega)]
/-- what a part tells -/
def says (ps : List (Int × Int)) (l : List Int) (p : Int) : Bool := l.all fun q => !decide (norm p q ∈ ps)
theorem says_iff {ps : List (Int × Int)} {l : List Int} {p : Int} : says ps l p = true ↔ ∀ q ∈ l, norm p q ∉ ps := by
  unfold says
  rw [List.all_eq_true]
  constructor
  · intro h q hq; simpa using h q hq
  · intro h q hq; simpa using h q hq
/-- tied to none of the stand, by bits -/
theorem says_bits {n : Int} {ps : List (Int × Int)} {ts : List Nat} {l : List Int} {b : Nat} (T : Tied n ps ts) (hb : IsLot l b) {p : Int} (h0 : 0 ≤ p) (h1 : p < n) : decide ((ts.getD p.toNat 0 &&& b) = 0) = says ps l p := by
  have hlt : p.toNat < ts.length := by have := T.len; omega
  have hp : ((p.toNat : Nat) : Int) = p := Int.toNat_of_nonneg h0
  have bit : ∀ k : Nat, (ts.getD p.toNat 0 &&& b).testBit k = (decide (norm p (k : Int) ∈ ps) && decide ((k : Int) ∈ l)) := fun k => by
    rw [Nat.testBit_and, T.bit _ _ hlt, hp]
    have := hb.2.2 k
    cases hc : b.testBit k with
    | true => simp [this.mpr hc]
    | false =>
      have : ¬ (k : Int) ∈ l := fun h => by rw [this.mp h] at hc; cases hc
      simp [this]
  by_cases c : says ps l p = true
  · rw [c]
    refine decide_eq_true (Nat.eq_of_testBit_eq fun k => ?_)
    rw [bit]
    by_cases d : (k : Int) ∈ l
    · have := says_iff.mp c _ d; simp [this]
    · simp [d]
  · rw [eq_false_of_ne_true c]
    refine decide_eq_false fun e => c (says_iff.mpr fun q hq hm => ?_)
    have hq0 := hb.1 q hq
    have := bit q.toNat
    rw [e, Int.toNat_of_nonneg hq0] at this
    simp [hm, hq] at this
/-- the stand behind a call -/
def Behind (n : Int) (ps : List (Int × Int)) (l : List Int) (p : Int) (l' : List Int) : Prop :=
  Lot n l' ∧ ∀ x, x ∈ l' ↔ (if says ps l p = true then x ∈ l ∨ x = p else x ∈ l ∧ x ≠ p)
theorem Behind.uniq {n : Int} {ps : List (Int × Int)} {l l1 l2 : List Int} {p : Int} (h1 : Behind n ps l p l1) (h2 : Behind n ps l p l2) : l1 = l2 :=
  ups_ext h1.1.up h2.1.up fun x => by rw [h1.2, h2.2]
def behB (ps : List (Int × Int)) (l : List Int) (b : Nat) (p : Int) : Nat := if says ps l p = true then b ||| 2 ^ p.toNat else clr b p.toNat
theorem behind_bits {n : Int} {ps : List (Int × Int)} {l l' : List Int} {b : Nat} {p : Int} (hl : Lot n l) (hb : IsLot l b) (h0 : 0 ≤ p) (h1 : p < n) (h' : IsLot l' (behB ps l b p)) : Behind n ps l p l' := by
  have key : ∀ x, x ∈ l' ↔ (if says ps l p = true then x ∈ l ∨ x = p else x ∈ l ∧ x ≠ p) := fun x => by
    by_cases x0 : 0 ≤ x
    · have e : ((x.toNat : Nat) : Int) = x := Int.toNat_of_nonneg x0
      have h2 := h'.2.2 x.toNat
      have h3 := hb.2.2 x.toNat
      rw [e] at h2 h3
      rw [h2]
      unfold behB
      by_cases c : says ps l p = true
      · rw [if_pos c, if_pos c, Nat.testBit_or, Nat.testBit_two_pow, h3]
        have : p.toNat = x.toNat ↔ x = p := by omega
        simp [this]
      · rw [if_neg c, if_neg c, clr_bit, h3]
        have : x.toNat = p.toNat ↔ x = p := by omega
        simp [this]
    · have a1 : ¬ x ∈ l' := fun h => x0 (h'.1 x h)
      have a2 : ¬ x ∈ l := fun h => x0 (hb.1 x h)
      have a3 : ¬ x = p := fun h => x0 (h ▸ h0)
      by_cases c : says ps l p = true <;> simp [c, a1, a2, a3]
  refine ⟨⟨h'.2.1, fun x hx => ?_⟩, key⟩
  have h2 := (key x).mp hx
  by_cases c : says ps l p = true
  · rw [if_pos c] at h2
    rcases h2 with h2 | rfl
    · exact hl.ok x h2
    · exact ⟨h0, h1⟩
  · rw [if_neg c] at h2
    exact hl.ok x h2.1
theorem bits_small {n : Int} {l : List Int} (hl : Lot n l) (hn : n ≤ 200) : bitsN l < 2 ^ 200 := by
  apply Nat.lt_pow_two_of_testBit
  intro k hk
  rw [bitsN_bit fun x hx => (hl.ok x hx).1]
  refine decide_eq_false fun h => ?_
  have := hl.ok _ h
  omega
theorem behB_small {ps : List (Int × Int)} {l : List Int} {b : Nat} {p : Int} (hb : b < 2 ^ 200) (h0 : 0 ≤ p) (h1 : p < 200) : behB ps l b p < 2 ^ 200 := by
  unfold behB
  by_cases c : says ps l p = true
  · rw [if_pos c]
    exact Nat.or_lt_two_pow hb (Nat.pow_lt_pow_right (by decide) (by omega))
  · rw [if_neg c]
    unfold clr
    omega
section
variable {P : Program} {w : World} {K : PySem.W.Frag} {mg : Str → Option Value} {base : Heap} {C : Addr}
def sp_tied_bits (C : Addr) : Sp := fun vs H Q _ => ∃ x n u ps, vs = [.ref x] ∧ WebAt C H x n u ps ∧ Good n ps ∧ 1 ≤ n ∧ n ≤ 200 ∧ ∀ p ts H', Same H H' → H p = none → H' p = some (.lst (nints ts)) → Tied n ps ts → Q (.ref p) H'
abbrev s_tied_bits : Stmt := (top 14)
theorem sc_tied_bits : FnScope ["web", "tied", "a", "b"] ["web"] (defScope s_tied_bits) := ⟨rfl, rfl, rfl, by decide +kernel, rfl, by decide +kernel, by decide +kernel⟩

theorem ok_tied_bits {f : Addr} {fd : FuncData} (F : Fun K "tied_bits" "tied_bits" s_tied_bits f fd) (hm : mg "tied_bits" = some (.ref f)) (B : Bl mg) (T : Txt K mg C) : Cal P w K mg base 1 "tied_bits" ["web"] (sp_tied_bits C) := by
  refine ⟨f, fd, F.ok sc_tied_bits (fun vs H Q E h => ?_) (fun cdv A outer s H vs Q E hr h => ?_), hm, F.kp, F.binds (ps := ["web"]) fun _ _ _ _ _ _ us hl => match us, hl with | [_], _ => rfl⟩
  · obtain ⟨x, n, u, ps, rfl, _⟩ := h; rfl
  · obtain ⟨x, n, u, ps, rfl, W, G, n1, n2, k⟩ := h
    obtain ⟨⟨dx, fs, h1, h2, h3⟩, xs, h4, h5⟩ := id W
    refine ⟨_, (pss_cons (ps_set (i := 1) sc_tied_bits.nd rfl (by first | exact Or.inl rfl | exact Or.inr rfl) (pe_op op_rep (pe_lst (pa_cons pe_int pa_nil)) (pe_fld (pv 0) rfl)))
 (pss_cons (ps_for PassesOwn.never rfl (pi_tup (pe_fld (pv 0) rfl)) (pg_tup (by rfl) (pgs_cons (pg_name (i := 2) sc_tied_bits.nd rfl (by first | exact Or.inl rfl | exact Or.inr rfl)) (pgs_cons (pg_name (i := 3) sc_tied_bits.nd rfl (by first | exact Or.inl rfl | exact Or.inr rfl)) pgs_nil)))
  (pss_cons (ps_augS (pv 1) (pv 2) get_listP (pe_op op_shl pe_int (pv 3)) ip_or set_list)
 (pss_one (ps_augS (pv 1) (pv 3) get_listP (pe_op op_shl pe_int (pv 2)) ip_or set_list))))
 (pss_one (ps_ret (pv 1))))), ?_⟩
    refine ⟨(by show 1 ≤ sizeLine; decide), fun z hz => ?_⟩
    have e1 := L2.Same.new (o := .lst [.int 0]) hz
    refine ⟨_, rfl, x, C, dx, fs, _, rfl, e1 _ _ h1, T.cl, T.nSize, h2, z, n, _, rfl, rfl, upd_same, by omega, by omega, (by show 1 * n.toNat ≤ sizeLine; exact Nat.le_trans (show 1 * n.toNat ≤ 200 by omega) (by decide)), fun p hp => ?_⟩
    rw [flat_rep]
    have e2 := e1.new' (o := .lst (List.replicate n.toNat (V.int 0))) hp
    have e0 : List.replicate n.toNat (V.int 0) = nints (List.replicate n.toNat 0) := by unfold nints; rw [List.map_replicate]; rfl
    rw [e0] at e2 ⊢
    have hp0 := L2.Same.free e1 hp
    generalize hH2 : upd (upd H z (.lst [.int 0])) p (.lst (nints (List.replicate n.toNat 0))) = H2 at e2 ⊢
    have hp2 : H2 p = some (.lst (nints (List.replicate n.toNat 0))) := by rw [← hH2]; exact upd_same
    refine ⟨_, rfl, x, C, dx, fs, _, rfl, e2 _ _ h1, T.cl, T.nTies, h3, u, rfl, ⟨_, SqT.of (e2 _ _ h4)⟩, for_tup (K := K) (a := u) (xs := xs) (fun i σ H' => Same H H' ∧ ∃ (ts : List Nat) (v1 v2 : Option V), σ = [some (.ref x), some (.ref p), v1, v2] ∧ H' p = some (.lst (nints ts)) ∧ (ts.length : Int) = n ∧ ∀ j k : Nat, j < ts.length → (ts.getD j 0).testBit k = decide (norm (j : Int) (k : Int) ∈ ps.take i))
      ⟨e2, _, none, none, rfl, hp2, by rw [List.length_replicate]; omega, fun j k hj => by
        have : (List.replicate n.toNat 0).getD j 0 = 0 := by rw [List.getD_eq_getElem?_getD, List.getElem?_replicate]; split <;> rfl
        rw [this]; simp⟩ (fun i σ H' _ p => SqT.of (p.1 _ _ h4)) ?_ ?_⟩
    · rintro i v σ H' hv ⟨e3, ts, v1, v2, rfl, hts, hlen, hbit⟩
      obtain ⟨q, hq, a, rfl, ha⟩ := Paired.get h5 hv
      have hq2 := G.ok q (List.mem_of_getElem? hq)
      have l1 : q.1.toNat < ts.length := by omega
      have l2 : q.2.toNat < ts.length := by omega
      refine ⟨a, _, rfl, SqT.of (e3 _ _ ha), rfl, _, _, rfl, _, _, rfl, rfl, ?_⟩
      refine ⟨_, rfl, _, rfl, p, _, q.1, _, rfl, rfl, SqL.of hts, hq2.1, nints_get l1, ?_⟩
      refine ⟨_, rfl, _, _, rfl, rfl, ⟨by omega, by omega, by decide⟩, _, _, rfl, rfl, ?_⟩
      dsimp only
      rw [p2i (show 0 ≤ q.2 by omega), or_pp]
      refine ⟨p, _, q.1, q.1.toNat, rfl, rfl, hts, (by unfold ixN; rw [nints_len, if_pos hq2.1, if_pos (by omega)]), ?_⟩
      rw [nints_set]
      have l2' : q.2.toNat < (ts.set q.1.toNat (ts.getD q.1.toNat 0 ||| 2 ^ q.2.toNat)).length := by rw [List.length_set]; exact l2
      refine ⟨_, rfl, _, rfl, p, _, q.2, _, rfl, rfl, SqL.of upd_same, by omega, nints_get l2', ?_⟩
      refine ⟨_, rfl, _, _, rfl, rfl, ⟨by omega, by omega, by decide⟩, _, _, rfl, rfl, ?_⟩
      dsimp only
      rw [p2i hq2.1, or_pp]
      refine ⟨p, _, q.2, q.2.toNat, rfl, rfl, upd_same, (by unfold ixN; rw [nints_len, List.length_set, if_pos (show 0 ≤ q.2 by omega), if_pos (by omega)]), ?_⟩
      rw [nints_set, upd_upd]
      refine ⟨L2.Same.mut e3 hp0, _, _, _, rfl, upd_same, by rw [List.length_set, List.length_set]; exact hlen, fun j k hj => ?_⟩
      rw [List.length_set, List.length_set] at hj
      rw [getD_set _ _ _ _ l2', getD_set _ _ _ _ l1, take_snoc hq]
      have hb := hbit j k hj
      have hb2 := hbit q.2.toNat k l2
      have hmem : (norm (j : Int) (k : Int) ∈ ps.take i ++ [q]) ↔ (norm (j : Int) (k : Int) ∈ ps.take i ∨ ((j : Int) = q.1 ∧ (k : Int) = q.2) ∨ ((j : Int) = q.2 ∧ (k : Int) = q.1)) := by
        rw [List.mem_append, List.mem_singleton, norm_pair (a := q.1) (b := q.2) hq2.2.1]
      have ne12 : ¬ q.1.toNat = q.2.toNat := by omega
      by_cases c2 : q.2.toNat = j
      · rw [if_pos c2, if_neg ne12, Nat.testBit_or, Nat.testBit_two_pow, hb2]
        have ej : ((q.2.toNat : Nat) : Int) = (j : Int) := by omega
        rw [ej]
        have hm2 : (norm (j : Int) (k : Int) ∈ ps.take i ∨ ((j : Int) = q.1 ∧ (k : Int) = q.2) ∨ ((j : Int) = q.2 ∧ (k : Int) = q.1)) ↔ (norm (j : Int) (k : Int) ∈ ps.take i ∨ q.1.toNat = k) := by
          constructor
          · rintro (h | h | h)
            · exact .inl h
            · omega
            · exact .inr (by omega)
          · rintro (h | h)
            · exact .inl h
            · exact .inr (.inr (by omega))
        exact (dec_or (hmem.trans hm2)).symm
      · rw [if_neg c2, getD_set _ _ _ _ l1]
        by_cases c1 : q.1.toNat = j
        · rw [if_pos c1, Nat.testBit_or, Nat.testBit_two_pow, c1, hb]
          have hm2 : (norm (j : Int) (k : Int) ∈ ps.take i ∨ ((j : Int) = q.1 ∧ (k : Int) = q.2) ∨ ((j : Int) = q.2 ∧ (k : Int) = q.1)) ↔ (norm (j : Int) (k : Int) ∈ ps.take i ∨ q.2.toNat = k) := by
            constructor
            · rintro (h | h | h)
              · exact .inl h
              · exact .inr (by omega)
              · omega
            · rintro (h | h)
              · exact .inl h
              · exact .inr (.inl (by omega))
          exact (dec_or (hmem.trans hm2)).symm
        · rw [if_neg c1, hb]
          refine dec_iff (Iff.trans ⟨fun h => .inl h, ?_⟩ hmem.symm)
          rintro (h | h | h)
          · exact h
          · omega
          · omega
    · rintro σ H' ⟨e3, ts, v1, v2, rfl, hts, hlen, hbit⟩
      refine ⟨_, rfl, k p ts H' e3 hp0 hts ⟨hlen, fun i k hi => ?_⟩⟩
      have := hbit i k hi
      rw [Paired.len h5, List.take_length] at this
      exact this
def sp_told_by : Sp := fun vs H Q _ => ∃ t ts b p, vs = [.ref t, .int (b : Nat), .int p] ∧ H t = some (.lst (nints ts)) ∧ 0 ≤ p ∧ p < ts.length ∧ Q (.bl (decide ((ts.getD p.toNat 0 &&& b) = 0))) H
abbrev s_told_by : Stmt := (top 21)
theorem sc_told_by : FnScope ["tied", "bits", "part"] ["tied", "bits", "part"] (defScope s_told_by) := ⟨rfl, rfl, rfl, by decide +kernel, rfl, by decide +kernel, by decide +kernel⟩

theorem ok_told_by {f : Addr} {fd : FuncData} (F : Fun K "told_by" "told_by" s_told_by f fd) (hm : mg "told_by" = some (.ref f)) (B : Bl mg) : Cal P w K mg base 1 "told_by" ["tied", "bits", "part"] sp_told_by := by
  refine ⟨f, fd, F.ok sc_told_by (fun vs H Q E h => ?_) (fun cdv A outer s H vs Q E hr h => ?_), hm, F.kp, F.binds (ps := ["tied", "bits", "part"]) fun _ _ _ _ _ _ us hl => match us, hl with | [_, _, _], _ => rfl⟩
  · obtain ⟨t, ts, b, p, rfl, _⟩ := h; rfl
  · obtain ⟨t, ts, b, p, rfl, ht, h0, h1, k⟩ := h
    refine ⟨_, (pss_one (ps_ret (pe_cmpR op_eq (pe_op op_and (pe_ix ix_list (pv 0) (pv 2) (fun _ _ => rfl)) (pv 1)) pe_int (nomark _)))), ?_⟩
    refine ⟨_, rfl, _, rfl, t, _, p, _, rfl, rfl, SqL.of ht, at_of (j := p.toNat) (by omega) (nints_get (by omega)), _, rfl, _, _, rfl, rfl, ?_⟩
    dsimp only
    rw [and_pp]
    refine ⟨rfl, ?_⟩
    have e : decide (V.int ((ts.getD p.toNat 0 &&& b : Nat) : Int) = V.int 0) = decide ((ts.getD p.toNat 0 &&& b) = 0) := by
      refine decide_eq_decide.mpr ⟨fun h => ?_, fun h => by rw [h]; rfl⟩
      injection h with h
      omega
    rw [e]
    exact k
def sp_behind_call : Sp := fun vs H Q _ => ∃ t ts b p, vs = [.ref t, .int (b : Nat), .int p] ∧ H t = some (.lst (nints ts)) ∧ 0 ≤ p ∧ p < ts.length ∧ p ≤ 200 ∧ Q (.int ((if decide ((ts.getD p.toNat 0 &&& b) = 0) = true then b ||| 2 ^ p.toNat else clr b p.toNat : Nat) : Int)) H
abbrev s_behind_call : Stmt := (top 22)
theorem sc_behind_call : FnScope ["tied", "bits", "part"] ["tied", "bits", "part"] (defScope s_behind_call) := ⟨rfl, rfl, rfl, by decide +kernel, rfl, by decide +kernel, by decide +kernel⟩

theorem ok_behind_call {f : Addr} {fd : FuncData} (F : Fun K "behind_call" "behind_call" s_behind_call f fd) (hm : mg "behind_call" = some (.ref f)) (B : Bl mg) (c_told_by : Cal P w K mg base 1 "told_by" ["tied", "bits", "part"] sp_told_by) : Cal P w K mg base 2 "behind_call" ["tied", "bits", "part"] sp_behind_call := by
  refine ⟨f, fd, F.ok sc_behind_call (fun vs H Q E h => ?_) (fun cdv A outer s H vs Q E hr h => ?_), hm, F.kp, F.binds (ps := ["tied", "bits", "part"]) fun _ _ _ _ _ _ us hl => match us, hl with | [_, _, _], _ => rfl⟩
  · obtain ⟨t, ts, b, p, rfl, _⟩ := h; rfl
  · obtain ⟨t, ts, b, p, rfl, ht, h0, h1, h2, k⟩ := h
    have e2 : ((2 : Int) ^ p.toNat) = ((2 ^ p.toNat : Nat) : Int) := by rw [Int.natCast_pow]; rfl
    refine ⟨_, (pss_cons (ps_if (pt_val (pe_cal c_told_by (hr.mono (by first | decide | omega)) (pa_cons (pv 0) (pa_cons (pv 1) (pa_cons (pv 2) pa_nil))))) (pss_one (ps_ret (pe_op op_or (pv 1) (pe_op op_shl pe_int (pv 2))))) pss_nil)
 (pss_one (ps_ret (pe_op op_and (pv 1) (pe_un un_inv (pe_op op_shl pe_int (pv 2))))))), ?_⟩
    refine ⟨_, rfl, _, rfl, _, rfl, t, ts, b, p, rfl, ht, h0, h1, _, rfl, ?_⟩
    show (if decide ((ts.getD p.toNat 0 &&& b) = 0) = true then _ else _)
    refine onb (fun c => ?_) (fun c => ?_)
    · rw [if_pos (decide_eq_true c)] at k
      refine ⟨_, rfl, _, rfl, _, _, rfl, rfl, ⟨h0, by omega, by decide⟩, _, _, rfl, rfl, ?_⟩
      dsimp only
      rw [p2i h0, or_pp]
      exact k
    · rw [if_neg (by simpa using c)] at k
      refine ⟨_, rfl, _, rfl, _, _, rfl, rfl, ⟨h0, by omega, by decide⟩, _, rfl, _, _, rfl, rfl, ?_⟩
      dsimp only
      rw [Int.one_mul, and_not]
      exact k
end
section
variable {P : Program} {w : World} {K : PySem.W.Frag} {mg : Str → Option Value} {base : Heap} {C : Addr}
theorem iD_lay : ∀ zs : List Int, PyData.canLayAll0 (zs.map PyData.int) = true
  | [] => by simp [PyData.canLayAll0]
  | z :: zs => by simp [PyData.canLayAll0, PyData.canLay0, iD_lay zs]
theorem iD_depth : ∀ zs : List Int, PyData.depthAll (zs.map PyData.int) = 0
  | [] => by simp [PyData.depthAll]
  | z :: zs => by simp [PyData.depthAll, PyData.depth, iD_depth zs]
theorem iD_shaped (zs : List Int) : SeqAt.shaped (.tuple (zs.map PyData.int)) = true := by
  have h1 := iD_depth zs
  have h2 : PyData.depth (.tuple (zs.map PyData.int)) ≤ 64 := by
    simp only [PyData.depth]
    omega
  show (PyData.canLay0 (.tuple (zs.map PyData.int)) && decide (PyData.depth (.tuple (zs.map PyData.int)) ≤ 64)) = true
  rw [Bool.and_eq_true]
  exact ⟨by simp only [PyData.canLay0]; exact iD_lay zs, decide_eq_true h2⟩
theorem iDs_eqv : ∀ ps qs : List Int, PyData.eqvAll (ps.map PyData.int) (qs.map PyData.int) = decide (ps = qs)
  | [], [] => by simp [PyData.eqvAll]
  | [], q :: qs => by simp [PyData.eqvAll]
  | p :: ps, [] => by simp [PyData.eqvAll]
  | p :: ps, q :: qs => by
    rw [List.map_cons, List.map_cons]
    simp only [PyData.eqvAll, PyData.eqv]
    rw [iDs_eqv ps qs]
    by_cases h1 : p = q
    · by_cases h2 : ps = qs <;> simp [h1, h2]
    · simp [h1]
theorem iD_eqv (ps qs : List Int) : PyData.eqv (.tuple (ps.map PyData.int)) (.tuple (qs.map PyData.int)) = decide (ps = qs) := by
  simp only [PyData.eqv]
  exact iDs_eqv ps qs
theorem dp_ints {K : PySem.W.Frag} {H : Hp} : ∀ l : List Int, DpAll K H (l.map V.int) (l.map PyData.int)
  | [] => .nil
  | a :: l => .cons (.int a) (dp_ints l)
theorem dp_lot {K : PySem.W.Frag} {H : Hp} {t : Addr} {l : List Int} (h : H t = some (.tup (l.map V.int))) : Dp K H (.ref t) (.tuple (l.map PyData.int)) := .tup (SqT.of h) (dp_ints l)
theorem says_off {n : Int} {ps : List (Int × Int)} (G : Good n ps) {l l' : List Int} {p q : Int} (hpq : norm p q ∉ ps) (h : ∀ x, x ≠ q → (x ∈ l ↔ x ∈ l')) : says ps l p = says ps l' p := by
  rw [Bool.eq_iff_iff, says_iff, says_iff]
  constructor
  · intro a x hx
    by_cases c : x = q
    · subst c; exact hpq
    · exact a x ((h x c).mpr hx)
  · intro a x hx
    by_cases c : x = q
    · subst c; exact hpq
    · exact a x ((h x c).mp hx)
theorem norm_self {n : Int} {ps : List (Int × Int)} (G : Good n ps) (p : Int) : norm p p ∉ ps := fun h => by
  have := (G.ok _ h).2.1
  unfold norm at this
  simp at this
theorem Behind.off {n : Int} {ps : List (Int × Int)} {l l' : List Int} {p : Int} (h : Behind n ps l p l') : ∀ x, x ≠ p → (x ∈ l ↔ x ∈ l') := fun x hx => by
  rw [h.2]
  by_cases c : says ps l p = true <;> simp [c, hx]
/-- twice is once -/
theorem Behind.twice {n : Int} {ps : List (Int × Int)} (G : Good n ps) {l l1 l2 : List Int} {p : Int} (h1 : Behind n ps l p l1) (h2 : Behind n ps l1 p l2) : l2 = l1 := by
  have e : says ps l1 p = says ps l p := (says_off G (norm_self G p) h1.off).symm
  refine ups_ext h2.1.up h1.1.up fun x => ?_
  rw [h2.2, h1.2, e]
  by_cases c : says ps l p = true
  · simp only [c, if_pos]
    by_cases d : x = p <;> simp [d]
  · simp only [c, if_neg]
    by_cases d : x = p <;> simp [d]
/-- parts that are not tied can be called in either order -/
theorem Behind.swap {n : Int} {ps : List (Int × Int)} (G : Good n ps) {l la lb lab lba : List Int} {a b : Int} (hn : norm a b ∉ ps) (ha : Behind n ps l a la) (hab : Behind n ps la b lab) (hb : Behind n ps l b lb) (hba : Behind n ps lb a lba) : lab = lba := by
  have hn' : norm b a ∉ ps := by
    by_cases c : a = b
    · subst c; exact hn
    · rw [← norm_comm c]; exact hn
  have e1 : says ps la b = says ps l b := (says_off G hn' ha.off).symm
  have e2 : says ps lb a = says ps l a := (says_off G hn hb.off).symm
  refine ups_ext hab.1.up hba.1.up fun x => ?_
  rw [hab.2, hba.2, e1, e2, ha.2, hb.2]
  by_cases c1 : says ps l a = true <;> by_cases c2 : says ps l b = true <;> simp only [c1, c2, if_true, if_false, Bool.false_eq_true, if_pos, if_neg]
  · constructor
    · rintro ((h | h) | h)
      · exact .inl (.inl h)
      · exact .inr h
      · exact .inl (.inr h)
    · rintro ((h | h) | h)
      · exact .inl (.inl h)
      · exact .inr h
      · exact .inl (.inr h)
  · by_cases ab : a = b
    · subst ab; exact absurd c1 c2
    · constructor
      · rintro ⟨h | h, h'⟩
        · exact .inl ⟨h, h'⟩
        · exact .inr h
      · rintro (⟨h, h'⟩ | h)
        · exact ⟨.inl h, h'⟩
        · exact ⟨.inr h, by rw [h]; exact ab⟩
  · by_cases ab : a = b
    · subst ab; exact absurd c2 c1
    · constructor
      · rintro (⟨h, h'⟩ | h)
        · exact ⟨.inl h, h'⟩
        · exact ⟨.inr h, by rw [h]; exact fun e => ab e.symm⟩
      · rintro ⟨h | h, h'⟩
        · exact .inl ⟨h, h'⟩
        · exact .inr h
  · constructor
    · rintro ⟨⟨h, h1⟩, h2⟩; exact ⟨⟨h, h2⟩, h1⟩
    · rintro ⟨⟨h, h1⟩, h2⟩; exact ⟨⟨h, h2⟩, h1⟩
theorem Behind.same_iff {n : Int} {ps : List (Int × Int)} {l l' : List Int} {p : Int} (hl : Lot n l) (h : Behind n ps l p l') : l' = l ↔ says ps l p = decide (p ∈ l) := by
  constructor
  · intro e
    have := h.2 p
    rw [e] at this
    by_cases c : says ps l p = true
    · rw [c]; rw [c] at this; simp at this; simp [this]
    · rw [eq_false_of_ne_true c]; rw [eq_false_of_ne_true c] at this; simp at this; simp [this]
  · intro e
    refine ups_ext h.1.up hl.up fun x => ?_
    rw [h.2, e]
    by_cases c : p ∈ l
    · simp only [c, decide_true, if_true]
      constructor
      · rintro (h | rfl)
        · exact h
        · exact c
      · exact .inl
    · simp only [c, decide_false, Bool.false_eq_true, if_false]
      constructor
      · exact fun h => h.1
      · exact fun h => ⟨h, fun e => c (e ▸ h)⟩
def bc (ts : List Nat) (b i : Nat) : Nat := if decide ((ts.getD i 0 &&& b) = 0) = true then b ||| 2 ^ i else clr b i
def chgB (ts : List Nat) (b : Nat) : List Int := ((List.range ts.length).filter fun i => !decide (bc ts b i = b)).map fun i : Nat => (i : Int)
/-- the parts whose call changes the stand -/
def chg (n : Int) (ps : List (Int × Int)) (l : List Int) : List Int := ((List.range n.toNat).filter fun i : Nat => says ps l (i : Int) != decide ((i : Int) ∈ l)).map fun i : Nat => (i : Int)
theorem or_same (b i : Nat) : b ||| 2 ^ i = b ↔ b.testBit i = true := by
  constructor
  · intro h
    have := congrArg (fun x => Nat.testBit x i) h
    simp only [Nat.testBit_or, Nat.testBit_two_pow] at this
    simpa using this.symm
  · intro h
    apply Nat.eq_of_testBit_eq
    intro j
    rw [Nat.testBit_or, Nat.testBit_two_pow]
    by_cases c : i = j
    · subst c; simp [h]
    · simp [c]
theorem clr_same (b i : Nat) : clr b i = b ↔ b.testBit i = false := by
  constructor
  · intro h
    have := congrArg (fun x => Nat.testBit x i) h
    simp only [clr_bit] at this
    simpa using this.symm
  · intro h
    apply Nat.eq_of_testBit_eq
    intro j
    rw [clr_bit]
    by_cases c : j = i
    · subst c; simp [h]
    · simp [c]
theorem chg_eq {n : Int} {ps : List (Int × Int)} {ts : List Nat} {l : List Int} {b : Nat} (T : Tied n ps ts) (hb : IsLot l b) : chgB ts b = chg n ps l := by
  unfold chgB chg
  have e : ts.length = n.toNat := by have := T.len; omega
  rw [e]
  congr 1
  refine List.filter_congr fun i hi => ?_
  have hi' := List.mem_range.mp hi
  have hs := says_bits T hb (p := (i : Int)) (by omega) (by omega)
  rw [Int.toNat_natCast] at hs
  unfold bc
  rw [hs]
  have h3 := hb.2.2 i
  cases c : says ps l (i : Int) with
  | true =>
    rw [if_pos rfl]
    have := or_same b i
    rw [← h3] at this
    rw [dec_iff this]
    by_cases d : (i : Int) ∈ l <;> simp [d]
  | false =>
    rw [if_neg Bool.false_ne_true]
    have := clr_same b i
    have h4 : (b.testBit i = false) ↔ ¬ (i : Int) ∈ l := by rw [h3]; simp
    rw [h4] at this
    rw [dec_iff this]
    by_cases d : (i : Int) ∈ l <;> simp [d]
def sp_changed_by : Sp := fun vs H Q _ => ∃ t ts b, vs = [.ref t, .int (b : Nat)] ∧ H t = some (.lst (nints ts)) ∧ ts.length ≤ 200 ∧ ∀ p H', Same H H' → H p = none → H' p = some (.lst ((chgB ts b).map V.int)) → Q (.ref p) H'
abbrev s_changed_by : Stmt := (top 23)
theorem sc_changed_by : FnScope ["tied", "bits", "part"] ["tied", "bits"] (defScope s_changed_by) := ⟨rfl, rfl, rfl, by decide +kernel, rfl, by decide +kernel, by decide +kernel⟩

theorem ok_changed_by {f : Addr} {fd : FuncData} (F : Fun K "changed_by" "changed_by" s_changed_by f fd) (hm : mg "changed_by" = some (.ref f)) (B : Bl mg) (c_behind_call : Cal P w K mg base 2 "behind_call" ["tied", "bits", "part"] sp_behind_call) : Cal P w K mg base 3 "changed_by" ["tied", "bits"] sp_changed_by := by
  refine ⟨f, fd, F.ok sc_changed_by (fun vs H Q E h => ?_) (fun cdv A outer s H vs Q E hr h => ?_), hm, F.kp, F.binds (ps := ["tied", "bits"]) fun _ _ _ _ _ _ us hl => match us, hl with | [_, _], _ => rfl⟩
  · obtain ⟨t, ts, b, rfl, _⟩ := h; rfl
  · obtain ⟨t, ts, b, rfl, ht, hlen, k⟩ := h
    refine ⟨_, (pss_one (ps_ret (pe_lc (own := [("part", 2)]) (by rfl) sc_changed_by.nd (pi_range1 (by rfl) B.range (pa_cons (pe_callB call_len_seq (by rfl) B.len (by decide +kernel) (pa_cons (pv 0) pa_nil)) pa_nil)) (blkOk_by (own := [("part", 2)]) (N := ["tied", "bits", "part"]) (sc := defScope s_changed_by) (by decide +kernel)) (fun _ _ _ _ _ => (pg_name (i := 2) sc_changed_by.nd rfl (by first | exact Or.inl rfl | exact Or.inr rfl))) (fun _ _ _ _ _ => (pts_one (pt_cmpR op_ne (pe_cal c_behind_call (hr.mono (by first | decide | omega)) (pa_cons (pv 0) (pa_cons (pv 1) (pa_cons (pv 2) pa_nil)))) (pv 1) (nomark _)))) (fun _ _ _ _ _ => (pv 2))))), ?_⟩
    refine ⟨_, rfl, t, _, rfl, .inl (SqL.of ht), _, rfl, by omega, (by rw [nints_len]; omega), fun D hD => lc_data (walk_range (lo := 0) (n := ((nints ts).length : Int).toNat)) (List.range ts.length) (by rw [List.length_range, Int.toNat_natCast, nints_len]) (fun i => !decide (bc ts b i = b)) (fun _ v i => v = .int (i : Nat)) (fun _ _ _ _ _ q => q) hD (fun _ _ => trivial) (by rw [List.length_range]; exact Nat.lt_of_le_of_lt hlen (by decide)) ?_ (fun _ _ _ _ _ y => by rw [y.1]; exact L2.Same.refl _) ?_⟩
    · rintro i a v H3 H4 Ny Nn hai e3 ⟨rfl, rfl⟩ kE kN
      have ea : a = i := by
        rw [List.getElem?_range (by have := (List.getElem?_eq_some_iff.mp hai).1; rw [List.length_range] at this; exact this)] at hai
        exact (Option.some.inj hai).symm
      subst ea
      have hi : a < ts.length := by have := (List.getElem?_eq_some_iff.mp hai).1; rw [List.length_range] at this; exact this
      refine ⟨rfl, ?_⟩
      refine ⟨_, rfl, _, rfl, _, rfl, t, ts, b, _, rfl, e3 _ _ ht, by omega, by omega, by omega, _, rfl, rfl, _, rfl, ?_⟩
      have ei : ((0 : Int) + (a : Nat)).toNat = a := by omega
      rw [ei]
      have ed : decide (V.int ((if decide ((ts.getD a 0 &&& b) = 0) = true then b ||| 2 ^ a else clr b a : Nat) : Int) = V.int (b : Int)) = decide (bc ts b a = b) := by
        refine dec_iff ⟨fun h => ?_, fun h => ?_⟩
        · injection h with h
          unfold bc
          omega
        · unfold bc at h
          rw [h]
      rw [ed]
      show (if (!decide (bc ts b a = b)) = true then _ else _)
      refine onbN (fun c => ?_) (fun c => ?_)
      · exact ⟨_, rfl, kE _ _ (by simpa using c) (L2.Same.refl _) (by show V.int (0 + ((a : Nat) : Int)) = _; rw [Int.zero_add])⟩
      · exact kN _ (by simpa using c) (L2.Same.refl _)
    · intro ys H3 e3 hys hpr
      have ey := paired_eq (g := fun i : Nat => V.int (i : Int)) hpr
      subst ey
      refine k D H3 e3 hD ?_
      rw [hys]
      unfold chgB
      rw [List.map_map]
      rfl
def hit (l : List Int) (p : Int) (q : Int × Int) : Prop := (q.1 = p ∧ q.2 ∈ l) ∨ (q.2 = p ∧ q.1 ∈ l)
theorem says_hit {n : Int} {ps : List (Int × Int)} (G : Good n ps) (l : List Int) (p : Int) : says ps l p = true ↔ ∀ q ∈ ps, ¬ hit l p q := by
  rw [says_iff]
  constructor
  · rintro h q hq (⟨h1, h2⟩ | ⟨h1, h2⟩)
    · have := (G.ok q hq).2.1
      refine h q.2 h2 ?_
      rw [(norm_pair (a := q.1) (b := q.2) this).mpr (.inl ⟨h1.symm, rfl⟩)]
      exact hq
    · have := (G.ok q hq).2.1
      refine h q.1 h2 ?_
      rw [(norm_pair (a := q.1) (b := q.2) this).mpr (.inr ⟨h1.symm, rfl⟩)]
      exact hq
  · intro h x hx hm
    have h1 := (G.ok _ hm).2.1
    have h2 := (norm_pair (a := (norm p x).1) (b := (norm p x).2) h1).mp rfl
    rcases h2 with ⟨e1, e2⟩ | ⟨e1, e2⟩
    · exact h _ hm (.inl ⟨e1.symm, by rw [← e2]; exact hx⟩)
    · exact h _ hm (.inr ⟨e1.symm, by rw [← e2]; exact hx⟩)
end
section
variable {P : Program} {w : World} {K : PySem.W.Frag} {mg : Str → Option Value} {base : Heap} {C : Addr}
theorem PI.or {X : Cx} {tg l : Expr} {i1 i2 : TI} (a : PI X tg l i1) (b : PI X tg l i2) : PI X tg l (fun σ H R => i1 σ H R ∨ i2 σ H R) :=
  ⟨fun pins s σ H R I h => h.elim (a.run pins s σ H R I) (b.run pins s σ H R I)⟩
theorem isI_els {v : V} (h : ∀ i, v ≠ .int i) : isI v = false := by
  cases v with
  | int i => exact absurd rfl (h i)
  | _ => rfl
theorem inI_els {v : V} {a b : Int} (h : isI v = false) : inI a b v = false := by
  cases v with
  | int i => cases h
  | _ => rfl
theorem inI_ex {v : V} {a b : Int} (h : inI a b v = true) : ∃ i, v = .int i ∧ a ≤ i ∧ i ≤ b := by
  cases v with
  | int i => exact ⟨i, rfl, by simpa [inI] using h⟩
  | _ => cases h
/-- a lot of n parts -/
def LotV (H : Hp) (n : Int) (v : V) : Prop := ∃ t l, v = .ref t ∧ H t = some (.tup (l.map V.int)) ∧ Lot n l
def sp_isI (K : PySem.W.Frag) : Sp := fun vs H Q _ => ∃ v, vs = [v] ∧ Item K H v ∧ Q (.bl (isI v)) H
theorem ok_is_integerA {f : Addr} {fd : FuncData} (F : Fun K "is_integer" "is_integer" s_is_integer f fd) (hm : mg "is_integer" = some (.ref f)) (B : Bl mg) : Cal P w K mg base 1 "is_integer" ["thing"] (sp_isI K) := by
  refine ⟨f, fd, F.ok sc_is_integer (fun vs H Q E h => ?_) (fun cdv A outer s H vs Q E hr h => ?_), hm, F.kp, F.binds (ps := ["thing"]) fun _ _ _ _ _ _ us hl => match us, hl with | [_], _ => rfl⟩
  · obtain ⟨v, rfl, _⟩ := h; rfl
  · obtain ⟨v, rfl, iv, k⟩ := h
    refine ⟨_, (pss_one (ps_ret (pe_and (pe_callB call_isi (by rfl) B.isinstance (by decide +kernel) (pa_cons (pv 0) (pa_cons (pe_bltn (v := .ty "int") (by rfl) B.int_ (by decide +kernel) rfl) pa_nil))) (pe_one (pe_not (pe_callB call_isi (by rfl) B.isinstance (by decide +kernel) (pa_cons (pv 0) (pa_cons (pe_bltn (v := .ty "bool") (by rfl) B.bool_ (by decide +kernel) rfl) pa_nil)))))))), ?_⟩
    cases iv with
    | int i =>
      refine ⟨_, rfl, _, _, _, _, true, rfl, .ty "int", .base (.int i), kit_ty (by decide +kernel), true, rfl, iteT ?_⟩
      refine ⟨_, rfl, _, _, _, _, false, rfl, .ty "bool", .base (.int i), kit_ty (by decide +kernel), false, rfl, ?_⟩
      exact k
    | bl b =>
      refine ⟨_, rfl, _, _, _, _, true, rfl, .ty "int", .base (.bl b), kit_ty (by decide +kernel), true, rfl, iteT ?_⟩
      refine ⟨_, rfl, _, _, _, _, true, rfl, .ty "bool", .base (.bl b), kit_ty (by decide +kernel), true, rfl, ?_⟩
      exact k
    | els h h1 =>
      obtain ⟨t, ty, hk⟩ := h
      rw [isI_els h1] at k
      exact ⟨_, rfl, _, _, _, _, false, rfl, .ty "int", ty, hk, false, rfl, iteF k⟩
def sp_inI (K : PySem.W.Frag) : Sp := fun vs H Q _ => ∃ v a b, vs = [v, .int a, .int b] ∧ Item K H v ∧ Q (.bl (inI a b v)) H
theorem ok_is_numberA {f : Addr} {fd : FuncData} (F : Fun K "is_number" "is_number" s_is_number f fd) (hm : mg "is_number" = some (.ref f)) (B : Bl mg) (c_is_integer : Cal P w K mg base 1 "is_integer" ["thing"] (sp_isI K)) : Cal P w K mg base 2 "is_number" ["thing", "least", "most"] (sp_inI K) := by
  refine ⟨f, fd, F.ok sc_is_number (fun vs H Q E h => ?_) (fun cdv A outer s H vs Q E hr h => ?_), hm, F.kp, F.binds (ps := ["thing", "least", "most"]) fun _ _ _ _ _ _ us hl => match us, hl with | [_, _, _], _ => rfl⟩
  · obtain ⟨v, a, b, rfl, _⟩ := h; rfl
  · obtain ⟨v, a, b, rfl, iv, k⟩ := h
    refine ⟨_, (pss_one (ps_ret (pe_and (pe_cal c_is_integer (hr.mono (by first | decide | omega)) (pa_cons (pv 0) pa_nil)) (pe_one (pe_chain op_le op_le (pv 1) (pv 0) (pv 2)))))), ?_⟩
    refine ⟨_, rfl, v, rfl, iv, isI v, rfl, ?_⟩
    cases c : isI v with
    | false =>
      rw [inI_els c] at k
      exact iteF k
    | true =>
      obtain ⟨i, rfl⟩ : ∃ i, v = .int i := by cases v <;> first | exact ⟨_, rfl⟩ | cases c
      refine iteT ?_
      refine ⟨_, rfl, _, rfl, _, _, rfl, rfl, _, rfl, ?_⟩
      by_cases h1 : a ≤ i
      · rw [if_pos (decide_eq_true h1)]
        refine ⟨_, rfl, _, _, rfl, rfl, ?_⟩
        have e : inI a b (.int i) = decide (i ≤ b) := by simp [inI, h1]
        rw [e] at k
        exact k
      · rw [if_neg (by simpa using h1)]
        have e : inI a b (.int i) = false := by simp [inI, h1]
        rw [e] at k
        exact k
theorem lot_snoc {n : Int} {l : List Int} {y : Int} (h : Lot n l) (h0 : 0 ≤ y) (h1 : y < n) (h2 : ∀ x ∈ l, x < y) : Lot n (l ++ [y]) := by
  refine ⟨List.pairwise_append.mpr ⟨h.up, by simp, fun x hx z hz => ?_⟩, fun x hx => ?_⟩
  · simp at hz; subst hz; exact h2 x hx
  · rcases List.mem_append.mp hx with hx | hx
    · exact h.ok x hx
    · simp at hx; subst hx; exact ⟨h0, h1⟩
def sp_is_lot_belowA (K : PySem.W.Frag) : Sp := fun vs H Q _ => ∃ n v, vs = [.int n, v] ∧ Thing K H v ∧ ∀ b, (b = true ↔ LotV H n v) → Q (.bl b) H
theorem ok_is_lot_belowA {f : Addr} {fd : FuncData} (F : Fun K "is_lot_below" "is_lot_below" s_is_lot_below f fd) (hm : mg "is_lot_below" = some (.ref f)) (B : Bl mg) (c_is_number : Cal P w K mg base 2 "is_number" ["thing", "least", "most"] (sp_inI K)) : Cal P w K mg base 3 "is_lot_below" ["size", "thing"] (sp_is_lot_belowA K) := by
  refine ⟨f, fd, F.ok sc_is_lot_below (fun vs H Q E h => ?_) (fun cdv A outer s H vs Q E hr h => ?_), hm, F.kp, F.binds (ps := ["size", "thing"]) fun _ _ _ _ _ _ us hl => match us, hl with | [_, _], _ => rfl⟩
  · obtain ⟨n, v, rfl, _⟩ := h; rfl
  · obtain ⟨n, v, rfl, tv, k⟩ := h
    refine ⟨_, (pss_cons (ps_if (pt_not (pt_val (pe_callB call_isi (by rfl) B.isinstance (by decide +kernel) (pa_cons (pv 1) (pa_cons (pe_bltn (v := .ty "tuple") (by rfl) B.tuple_ (by decide +kernel) rfl) pa_nil))))) (pss_one (ps_ret pe_bl)) pss_nil)
 (pss_cons (ps_set (i := 2) sc_is_lot_below.nd rfl (by first | exact Or.inl rfl | exact Or.inr rfl) (pe_un un_neg pe_int))
 (pss_cons (ps_for PassesOwn.never rfl (pi_tup (pv 1)) (pg_name (i := 3) sc_is_lot_below.nd rfl (by first | exact Or.inl rfl | exact Or.inr rfl))
  (pss_cons (ps_if (pt_not (pt_val (pe_cal c_is_number (hr.mono (by first | decide | omega)) (pa_cons (pv 3) (pa_cons (pe_op op_add (pv 2) pe_int) (pa_cons (pe_op op_sub (pv 0) pe_int) pa_nil)))))) (pss_one (ps_ret pe_bl)) pss_nil)
 (pss_one (ps_set (i := 2) sc_is_lot_below.nd rfl (by first | exact Or.inl rfl | exact Or.inr rfl) (pv 3)))))
 (pss_one (ps_ret pe_bl))))), ?_⟩
    cases tv with
    | els h h1 =>
      obtain ⟨t, ty, hk⟩ := h
      refine ⟨_, rfl, _, _, _, _, false, rfl, .ty "tuple", ty, hk, false, rfl, iteT ?_⟩
      refine k false ⟨fun e => (by cases e), fun ⟨t', l, e, q, _⟩ => absurd q (h1 _ _ e)⟩
    | @tup t xs ht hi hz =>
      refine ⟨_, rfl, _, _, _, _, true, rfl, .ty "tuple", .base (.tup ht), kit_ty (by decide +kernel), true, rfl, iteF ?_⟩
      refine ⟨_, rfl, ?_⟩
      refine ⟨_, rfl, t, rfl, ⟨_, SqT.of ht⟩, for_tup (K := K) (a := t) (xs := xs) (fun i σ H' => H' = H ∧ ∃ (l : List Int) (z : Int) (v : Option V), σ = [some (.int n), some (.ref t), some (.int z), v] ∧ xs.take i = l.map V.int ∧ Lot n l ∧ (∀ y ∈ l, y ≤ z) ∧ ((l = [] ∧ z = -1) ∨ z ∈ l))
        ⟨rfl, [], -1, none, rfl, rfl, ⟨.nil, by simp⟩, by simp, .inl ⟨rfl, rfl⟩⟩ (fun i σ H' _ p => by rw [p.1]; exact SqT.of ht) ?_ ?_⟩
      · rintro i y σ H' hy ⟨rfl, l, z, u', rfl, hl, lot, hle, hz2⟩
        have hmem := List.mem_of_getElem? hy
        have z0 : -1 ≤ z := by
          rcases hz2 with ⟨_, rfl⟩ | hz2
          · omega
          · have := lot.ok z hz2; omega
        have bad : (∀ l' : List Int, xs = l'.map V.int → ¬ Lot n l') → Q (.bl false) H' := fun hb => k false ⟨fun e => (by cases e), fun ⟨t', l', e, q, lt⟩ => by
          cases e
          rw [ht] at q
          injection q with q
          injection q with q
          exact absurd lt (hb l' q)⟩
        refine ⟨_, rfl, _, rfl, _, _, rfl, rfl, _, rfl, _, _, rfl, rfl, y, z + 1, n - 1, rfl, hi y hmem, _, rfl, ?_⟩
        cases c : inI (z + 1) (n - 1) y with
        | false =>
          refine iteT (bad fun l' e lt => ?_)
          have hy' := hy
          rw [e, List.getElem?_map] at hy'
          cases q : l'[i]? with
          | none => rw [q] at hy'; cases hy'
          | some j =>
            rw [q] at hy'
            cases hy'
            have hj := lt.ok j (List.mem_of_getElem? q)
            have c2 : ¬ (z + 1 ≤ j ∧ j ≤ n - 1) := by simpa [inI] using c
            have htk : l'.take i = l := by
              have : (l'.take i).map V.int = l.map V.int := by rw [← hl, e, List.map_take]
              exact List.map_inj_right (fun a b h => V.int.inj h) |>.mp this
            rcases hz2 with ⟨_, rfl⟩ | hz2
            · exact c2 (by omega)
            · have hjl := (List.getElem?_eq_some_iff.mp q).1
              rw [← htk] at hz2
              obtain ⟨m, hm1, hm2⟩ := List.mem_iff_getElem.mp hz2
              rw [List.length_take] at hm1
              have h3 : l'[m]'(by omega) = z := by rw [← hm2, List.getElem_take]
              have h4 := List.pairwise_iff_getElem.mp lt.up m i (by omega) hjl (by omega)
              have h5 : l'[i] = j := (List.getElem?_eq_some_iff.mp q).2
              exact c2 (by omega)
        | true =>
          obtain ⟨j, rfl, j0, j1⟩ := inI_ex c
          refine iteF ?_
          refine ⟨_, rfl, rfl, l ++ [j], j, _, rfl, ?_, ?_, ?_, .inr (by simp)⟩
          · rw [take_snoc hy, hl, List.map_append]; rfl
          · exact lot_snoc lot (by omega) (by omega) (fun y hy => by have := hle y hy; omega)
          · intro y hy
            rcases List.mem_append.mp hy with h | h
            · have := hle y h; omega
            · simp at h; omega
      · rintro σ H' ⟨rfl, l, z, u', rfl, hl, lot, _⟩
        rw [List.take_length] at hl
        exact k true ⟨fun _ => ⟨t, l, rfl, by rw [ht, hl], lot⟩, fun _ => rfl⟩
def sp_is_lotA (K : PySem.W.Frag) (C : Addr) : Sp := fun vs H Q _ => ∃ x n u ps v, vs = [.ref x, v] ∧ WebAt C H x n u ps ∧ Thing K H v ∧ ∀ b, (b = true ↔ LotV H n v) → Q (.bl b) H
theorem ok_is_lotA {f : Addr} {fd : FuncData} (F : Fun K "is_lot" "is_lot" s_is_lot f fd) (hm : mg "is_lot" = some (.ref f)) (B : Bl mg) (T : Txt K mg C) (c_is_lot_below : Cal P w K mg base 3 "is_lot_below" ["size", "thing"] (sp_is_lot_belowA K)) : Cal P w K mg base 4 "is_lot" ["web", "thing"] (sp_is_lotA K C) := by
  refine ⟨f, fd, F.ok sc_is_lot (fun vs H Q E h => ?_) (fun cdv A outer s H vs Q E hr h => ?_), hm, F.kp, F.binds (ps := ["web", "thing"]) fun _ _ _ _ _ _ us hl => match us, hl with | [_, _], _ => rfl⟩
  · obtain ⟨x, n, u, ps, v, rfl, _⟩ := h; rfl
  · obtain ⟨x, n, u, ps, v, rfl, ⟨⟨dx, fs, h1, h2, h3⟩, _⟩, tv, k⟩ := h
    refine ⟨_, (pss_one (ps_ret (pe_cal c_is_lot_below (hr.mono (by first | decide | omega)) (pa_cons (pe_fld (pv 0) rfl) (pa_cons (pv 1) pa_nil))))), ?_⟩
    exact ⟨_, rfl, x, C, dx, fs, _, rfl, h1, T.cl, T.nSize, h2, _, rfl, n, v, rfl, tv, k⟩
end
section
variable {P : Program} {w : World} {K : PySem.W.Frag} {mg : Str → Option Value} {base : Heap} {C : Addr}
def Row (n : Int) (ps : List (Int × Int)) : List Int → List Int → List Int → Prop
  | [], l, l' => l' = l
  | p :: cs, l, l' => ∃ m, Behind n ps l p m ∧ Row n ps cs m l'
theorem Row.uniq {n : Int} {ps : List (Int × Int)} : ∀ {cs l l1 l2 : List Int}, Row n ps cs l l1 → Row n ps cs l l2 → l1 = l2
  | [], _, _, _, h1, h2 => by rw [show _ = _ from h1, show _ = _ from h2]
  | p :: cs, l, l1, l2, ⟨m, b, r⟩, ⟨m', b', r'⟩ => by
    have := b.uniq b'
    subst this
    exact Row.uniq r r'
theorem Row.lot {n : Int} {ps : List (Int × Int)} : ∀ {cs l l' : List Int}, Lot n l → Row n ps cs l l' → Lot n l'
  | [], _, _, hl, h => by rw [show _ = _ from h]; exact hl
  | p :: cs, _, _, hl, ⟨m, b, r⟩ => Row.lot b.1 r
theorem Row.app {n : Int} {ps : List (Int × Int)} : ∀ {cs ds l l1 l2 : List Int}, Row n ps cs l l1 → Row n ps ds l1 l2 → Row n ps (cs ++ ds) l l2
  | [], _, _, _, _, h, h2 => by rw [show _ = _ from h] at h2; exact h2
  | p :: cs, _, _, _, _, ⟨m, b, r⟩, h2 => ⟨m, b, Row.app r h2⟩
theorem Row.snoc {n : Int} {ps : List (Int × Int)} {cs l l1 l2 : List Int} {p : Int} (h : Row n ps cs l l1) (b : Behind n ps l1 p l2) : Row n ps (cs ++ [p]) l l2 := h.app ⟨l2, b, rfl⟩
theorem Row.split {n : Int} {ps : List (Int × Int)} : ∀ {cs ds l l2 : List Int}, Row n ps (cs ++ ds) l l2 → ∃ l1, Row n ps cs l l1 ∧ Row n ps ds l1 l2
  | [], _, l, _, h => ⟨l, rfl, h⟩
  | p :: cs, ds, _, _, ⟨m, b, r⟩ => by
    obtain ⟨l1, h1, h2⟩ := Row.split (cs := cs) r
    exact ⟨l1, ⟨m, b, h1⟩, h2⟩
/-- the lot that bits are -/
def lotL (b : Nat) : List Int := ((List.range (b + 1)).filter fun k => b.testBit k).map fun k : Nat => (k : Int)
theorem isLot_L (b : Nat) : IsLot (lotL b) b := by
  refine ⟨fun x hx => ?_, ?_, fun k => ?_⟩
  · obtain ⟨k, _, rfl⟩ := List.mem_map.mp hx
    omega
  · refine List.pairwise_map.mpr (((List.pairwise_lt_range).sublist List.filter_sublist).imp fun {a b} h => by omega)
  · constructor
    · intro h
      obtain ⟨j, hj, e⟩ := List.mem_map.mp h
      have : j = k := by omega
      subst this
      exact (List.mem_filter.mp hj).2
    · intro h
      refine List.mem_map.mpr ⟨k, List.mem_filter.mpr ⟨List.mem_range.mpr ?_, h⟩, rfl⟩
      rcases Nat.lt_or_ge k (b + 1) with c | c
      · exact c
      · have h2 : b < 2 ^ k := Nat.lt_of_lt_of_le (show b < k by omega) (Nat.le_of_lt Nat.lt_two_pow_self)
        rw [Nat.testBit_lt_two_pow h2] at h
        cases h
def Ints (H : Hp) (t : Addr) (cs : List Int) : Prop := H t = some (.tup (cs.map V.int)) ∨ H t = some (.lst (cs.map V.int))
theorem Ints.same {H H' : Hp} {t : Addr} {cs : List Int} (h : Ints H t cs) (e : Same H H') : Ints H' t cs := h.elim (fun h => .inl (e _ _ h)) (fun h => .inr (e _ _ h))
theorem lot_one {l m : List Int} {b : Nat} (h : IsLot l b) (h' : IsLot m b) : l = m := ups_ext h.2.1 h'.2.1 fun z => by
  by_cases z0 : 0 ≤ z
  · have ez : ((z.toNat : Nat) : Int) = z := Int.toNat_of_nonneg z0
    have h1 := h.2.2 z.toNat
    have h2 := h'.2.2 z.toNat
    rw [ez] at h1 h2
    rw [h1, h2]
  · exact ⟨fun q => absurd (h.1 z q) z0, fun q => absurd (h'.1 z q) z0⟩
def sp_is_rest (K : PySem.W.Frag) (C : Addr) : Sp := fun vs H Q _ => ∃ x n u ps v, vs = [.ref x, v] ∧ WebAt C H x n u ps ∧ Good n ps ∧ 1 ≤ n ∧ n ≤ 200 ∧ Thing K H v ∧ ∀ b H', Same H H' → (b = true ↔ ∃ t l, v = .ref t ∧ H t = some (.tup (l.map V.int)) ∧ Lot n l ∧ chg n ps l = []) → Q (.bl b) H'
abbrev s_is_rest : Stmt := (top 24)
theorem sc_is_rest : FnScope ["web", "thing"] ["web", "thing"] (defScope s_is_rest) := ⟨rfl, rfl, rfl, by decide +kernel, rfl, by decide +kernel, by decide +kernel⟩

theorem ok_is_rest {f : Addr} {fd : FuncData} (F : Fun K "is_rest" "is_rest" s_is_rest f fd) (hm : mg "is_rest" = some (.ref f)) (B : Bl mg) (c_is_lot : Cal P w K mg base 4 "is_lot" ["web", "thing"] (sp_is_lotA K C)) (c_changed_by : Cal P w K mg base 3 "changed_by" ["tied", "bits"] sp_changed_by) (c_tied_bits : Cal P w K mg base 1 "tied_bits" ["web"] (sp_tied_bits C)) (c_bits_of : Cal P w K mg base 1 "bits_of" ["lot"] sp_bits_of) : Cal P w K mg base 6 "is_rest" ["web", "thing"] (sp_is_rest K C) := by
  refine ⟨f, fd, F.ok sc_is_rest (fun vs H Q E h => ?_) (fun cdv A outer s H vs Q E hr h => ?_), hm, F.kp, F.binds (ps := ["web", "thing"]) fun _ _ _ _ _ _ us hl => match us, hl with | [_, _], _ => rfl⟩
  · obtain ⟨x, n, u, ps, v, rfl, _⟩ := h; rfl
  · obtain ⟨x, n, u, ps, v, rfl, W, G, n1, n2, tv, k⟩ := h
    refine ⟨_, (pss_one (ps_ret (pe_and (pe_cal c_is_lot (hr.mono (by first | decide | omega)) (pa_cons (pv 0) (pa_cons (pv 1) pa_nil))) (pe_one (pe_notT (pe_cal c_changed_by (hr.mono (by first | decide | omega)) (pa_cons (pe_cal c_tied_bits (hr.mono (by first | decide | omega)) (pa_cons (pv 0) pa_nil)) (pa_cons (pe_cal c_bits_of (hr.mono (by first | decide | omega)) (pa_cons (pv 1) pa_nil)) pa_nil)))))))), ?_⟩
    refine ⟨_, rfl, _, rfl, x, n, u, ps, v, rfl, W, tv, fun b hb => ⟨b, rfl, ?_⟩⟩
    cases b with
    | false =>
      refine iteF (k false H (L2.Same.refl H) ⟨fun e => (by cases e), fun ⟨t, l, e, ht, lt, _⟩ => ?_⟩)
      exact hb.mpr ⟨t, l, e, ht, lt⟩
    | true =>
      obtain ⟨t, l, rfl, ht, hl⟩ := hb.mp rfl
      refine iteT ?_
      refine ⟨_, rfl, x, n, u, ps, rfl, W, G, n1, n2, fun tb ts H1 e1 ntb htb TB => ?_⟩
      refine ⟨_, rfl, t, l, rfl, e1 _ _ ht, (fun y hy => by have := hl.ok y hy; omega), tb, ts, bitsN l, rfl, htb, (by have := TB.len; omega), fun q H2 e2 nq hq => ?_⟩
      rw [chg_eq TB (isLot_bits hl)] at hq
      refine ⟨_, .inl ⟨_, SqL.of hq, rfl⟩, ?_⟩
      refine k _ H2 (e1.trans e2) ?_
      constructor
      · intro h
        refine ⟨t, l, rfl, ht, hl, ?_⟩
        have h2 : ((chg n ps l).map V.int).isEmpty = true := by simpa using h
        simpa using h2
      · rintro ⟨t', l', e, ht', _, h⟩
        cases e
        rw [ht] at ht'
        injection ht' with ht'
        injection ht' with ht'
        have : l = l' := List.map_inj_right (fun a b h => V.int.inj h) |>.mp ht'
        subst this
        rw [h]
        rfl
end
section
variable {P : Program} {w : World} {K : PySem.W.Frag} {mg : Str → Option Value} {base : Heap} {C : Addr}
theorem cat_any {K : PySem.W.Frag} {H : Hp} {a b : Addr} {xs ys : List V} {Q : VK} (ha : H a = some (.tup xs)) (hb : H b = some (.tup ys)) (hl : xs.length + ys.length ≤ sizeLine) (k : ∀ c H', Same H H' → H' c = some (.tup (xs ++ ys)) → Q (.ref c) H') : rCatA K (.ref a) (.ref b) H Q :=
  ⟨a, b, xs, ys, rfl, rfl, SqT.of ha, SqT.of hb, hl, fun h => k b H (L2.Same.refl H) (by rw [h]; exact hb), fun _ h => k a H (L2.Same.refl H) (by rw [h, List.append_nil]; exact ha), fun _ _ p hp => k p _ (L2.Same.new hp) upd_same⟩
end
section
variable {P : Program} {w : World} {K : PySem.W.Frag} {mg : Str → Option Value} {base : Heap} {C : Addr}
theorem chg_nil {n : Int} {ps : List (Int × Int)} {l : List Int} : chg n ps l = [] ↔ ∀ p : Int, 0 ≤ p → p < n → says ps l p = decide (p ∈ l) := by
  unfold chg
  rw [List.map_eq_nil_iff, List.filter_eq_nil_iff]
  constructor
  · intro h p p0 p1
    have := h p.toNat (List.mem_range.mpr (by omega))
    rw [Int.toNat_of_nonneg p0] at this
    simpa using this
  · intro h i hi
    have := h (i : Int) (by omega) (by have := List.mem_range.mp hi; omega)
    simp [this]
/-- what rows of calls lead to -/
inductive Reach (n : Int) (ps : List (Int × Int)) (l : List Int) : List Int → Prop where
  | refl : Reach n ps l l
  | step {m m' : List Int} {p : Int} (h : Reach n ps l m) (h0 : 0 ≤ p) (h1 : p < n) (b : Behind n ps m p m') : Reach n ps l m'
theorem Reach.trans {n : Int} {ps : List (Int × Int)} {l m k : List Int} (h : Reach n ps l m) (h' : Reach n ps m k) : Reach n ps l k := by
  induction h' with
  | refl => exact h
  | step _ h0 h1 b ih => exact ih.step h0 h1 b
theorem Reach.lot {n : Int} {ps : List (Int × Int)} {l m : List Int} (hl : Lot n l) (h : Reach n ps l m) : Lot n m := by
  induction h with
  | refl => exact hl
  | step _ _ _ b _ => exact b.1
theorem behind_ex {n : Int} {ps : List (Int × Int)} {l : List Int} {p : Int} (hl : Lot n l) (h0 : 0 ≤ p) (h1 : p < n) : ∃ l', Behind n ps l p l' :=
  ⟨_, behind_bits hl (isLot_bits hl) h0 h1 (isLot_L _)⟩
/-- the parts of l tied to p -/
def nearL (ps : List (Int × Int)) (l : List Int) (p : Int) : List Int := l.filter fun q => decide (norm p q ∈ ps)
/-- l without the parts of f -/
def offL (l f : List Int) : List Int := l.filter fun q => !decide (q ∈ f)
theorem norm_sym (a b : Int) : norm a b = norm b a := by
  by_cases h : a = b
  · rw [h]
  · exact norm_comm h
theorem mem_near {ps : List (Int × Int)} {l : List Int} {p q : Int} : q ∈ nearL ps l p ↔ q ∈ l ∧ norm p q ∈ ps := by
  unfold nearL; rw [List.mem_filter]; simp
theorem mem_off {l f : List Int} {q : Int} : q ∈ offL l f ↔ q ∈ l ∧ q ∉ f := by
  unfold offL; rw [List.mem_filter]; simp
theorem Lot.filt {n : Int} {l : List Int} (h : Lot n l) (f : Int → Bool) : Lot n (l.filter f) := ⟨h.up.filter f, fun x hx => h.ok x (List.mem_filter.mp hx).1⟩
theorem sub_len : ∀ {A B : List Int}, A.Nodup → (∀ x ∈ A, x ∈ B) → A.length ≤ B.length
  | [], B, _, _ => Nat.zero_le _
  | a :: A, B, hn, hs => by
    have ha := hs a List.mem_cons_self
    have h2 := sub_len (A := A) (B := B.erase a) (List.nodup_cons.mp hn).2 fun x hx => by
      refine (List.mem_erase_of_ne (fun e => ?_)).mpr (hs x (List.mem_cons_of_mem _ hx))
      subst e
      exact (List.nodup_cons.mp hn).1 hx
    rw [List.length_erase_of_mem ha] at h2
    have := List.length_pos_of_mem ha
    rw [List.length_cons]
    omega
theorem upi_nodup {l : List Int} (h : l.Pairwise (· < ·)) : l.Nodup := h.imp fun h => by omega
theorem more_in {A F : List Int} (hA : A.Nodup) (h : F.length < A.length) : ∃ x ∈ A, x ∉ F := by
  apply Classical.byContradiction
  intro hno
  have := sub_len hA (B := F) fun x hx => Classical.byContradiction fun hf => hno ⟨x, hx, hf⟩
  omega
/-- a rest -/
structure RestL (n : Int) (ps : List (Int × Int)) (R : List Int) : Prop where
  lot : Lot n R
  no : chg n ps R = []
theorem RestL.free (h : RestL n ps R) {p q : Int} (hp : p ∈ R) (hq : q ∈ R) : norm p q ∉ ps := by
  have h2 := chg_nil.mp h.no p (h.lot.ok p hp).1 (h.lot.ok p hp).2
  rw [decide_eq_true hp] at h2
  exact says_iff.mp h2 q hq
theorem RestL.ext {S : List Int} (h : RestL n ps R) (hs : Lot n S) (h1 : ∀ x ∈ S, x ∈ R) (h2 : ∀ x ∈ R, x ∈ S) : S = R := ups_ext hs.up h.lot.up fun x => ⟨h1 x, h2 x⟩
structure Stay (n : Int) (R F S : List Int) : Prop where
  lot : Lot n S
  sub : ∀ x ∈ S, x ∈ R
  sup : ∀ x ∈ R, x ∉ F → x ∈ S
theorem stay_in {F S S' : List Int} {p : Int} (h : RestL n ps R) (st : Stay n R F S) (hp : p ∈ R) (b : Behind n ps S p S') : Stay n R F S' ∧ ∀ x, x ∈ S' ↔ x ∈ S ∨ x = p := by
  have hs : says ps S p = true := says_iff.mpr fun q hq => h.free hp (st.sub q hq)
  have hm : ∀ x, x ∈ S' ↔ x ∈ S ∨ x = p := fun x => by rw [b.2, if_pos hs]
  exact ⟨⟨b.1, fun x hx => ((hm x).mp hx).elim (st.sub x) (fun e => e ▸ hp), fun x hx hf => (hm x).mpr (.inl (st.sup x hx hf))⟩, hm⟩
theorem stay_out {F S S' : List Int} {p : Int} (h : RestL n ps R) (st : Stay n R F S) (hp : p ∉ R) (hF : F.length < (nearL ps R p).length) (b : Behind n ps S p S') : Stay n R F S' := by
  obtain ⟨q, hq, hqF⟩ := more_in (upi_nodup (h.lot.filt _).up) hF
  obtain ⟨hqR, hqn⟩ := mem_near.mp hq
  have hs : ¬ says ps S p = true := fun e => says_iff.mp e q (st.sup q hqR hqF) hqn
  have hm : ∀ x, x ∈ S' ↔ x ∈ S ∧ x ≠ p := fun x => by rw [b.2, if_neg hs]
  exact ⟨b.1, fun x hx => st.sub x ((hm x).mp hx).1, fun x hx hf => (hm x).mpr ⟨st.sup x hx hf, fun e => hp (e ▸ hx)⟩⟩
theorem stay_off {F : List Int} (h : RestL n ps R) : Stay n R F (offL R F) := ⟨h.lot.filt _, fun x hx => (mem_off.mp hx).1, fun x hx hf => mem_off.mpr ⟨hx, hf⟩⟩
theorem stay_reach {F S : List Int} (h : RestL n ps R) (hF : ∀ p, 0 ≤ p → p < n → p ∉ R → F.length < (nearL ps R p).length) {T : List Int} (hT : Stay n R F T) (r : Reach n ps T S) : Stay n R F S := by
  induction r with
  | refl => exact hT
  | @step m m' p r h0 h1 b ih =>
    by_cases hp : p ∈ R
    · exact (stay_in h ih hp b).1
    · exact stay_out h ih hp (hF p h0 h1 hp) b
theorem stay_rest {F S : List Int} (h : RestL n ps R) (st : Stay n R F S) (hS : chg n ps S = []) : S = R := by
  refine h.ext st.lot st.sub fun x hx => ?_
  have ok := h.lot.ok x hx
  have h1 := chg_nil.mp hS x ok.1 ok.2
  have hs : says ps S x = true := says_iff.mpr fun q hq => h.free hx (st.sub q hq)
  rw [hs] at h1
  exact of_decide_eq_true h1.symm
theorem stay_back {F : List Int} (h : RestL n ps R) : ∀ (k : Nat) {S : List Int}, Stay n R F S → (R.filter fun x => !decide (x ∈ S)).length ≤ k → Reach n ps S R
  | k, S, st, hk => by
    by_cases hall : ∀ x ∈ R, x ∈ S
    · rw [h.ext st.lot st.sub hall]
      exact .refl
    · obtain ⟨x, hx, hxS⟩ : ∃ x ∈ R, x ∉ S := Classical.byContradiction fun hno => hall fun x hx => Classical.byContradiction fun hf => hno ⟨x, hx, hf⟩
      have ok := h.lot.ok x hx
      obtain ⟨S', b⟩ := behind_ex (ps := ps) st.lot ok.1 ok.2
      obtain ⟨st', hm⟩ := stay_in h st hx b
      have e : (R.filter fun y => !decide (y ∈ S')) = (R.filter fun y => !decide (y ∈ S)).filter fun y => !decide (y = x) := by
        rw [List.filter_filter]
        refine List.filter_congr fun y _ => ?_
        have hy := hm y
        by_cases c1 : y = x
        · have : y ∈ S' := hy.mpr (.inr c1)
          rw [decide_eq_true this, decide_eq_true c1]; rfl
        · by_cases c2 : y ∈ S
          · have : y ∈ S' := hy.mpr (.inl c2)
            simp [this, c2]
          · have : y ∉ S' := fun e => (hy.mp e).elim c2 c1
            simp [this, c2, c1]
      have hmem : x ∈ R.filter fun y => !decide (y ∈ S) := List.mem_filter.mpr ⟨hx, by simpa using hxS⟩
      have hlt : (R.filter fun y => !decide (y ∈ S')).length < (R.filter fun y => !decide (y ∈ S)).length := by
        rw [e]
        exact List.length_filter_lt_length_iff_exists.mpr ⟨x, hmem, by simp⟩
      match k with
      | 0 => omega
      | k + 1 => exact (Reach.refl.step ok.1 ok.2 b).trans (stay_back h k st' (by omega))
/-- no harm by few -/
theorem heal_few {F : List Int} (h : RestL n ps R) (hF : ∀ p, 0 ≤ p → p < n → p ∉ R → F.length < (nearL ps R p).length) : Reach n ps (offL R F) R ∧ ∀ S, Reach n ps (offL R F) S → chg n ps S = [] → S = R :=
  ⟨stay_back h _ (stay_off h) (Nat.le_refl _), fun S r hS => stay_rest h (stay_reach h hF (stay_off h) r) hS⟩
/-- free parts grow to a rest -/
theorem grow_rest (G : Good n ps) (n0 : 0 ≤ n) : ∀ (k : Nat) {T : List Int}, Lot n T → (∀ x ∈ T, ∀ y ∈ T, norm x y ∉ ps) → (n - T.length).toNat ≤ k → ∃ S, Reach n ps T S ∧ RestL n ps S ∧ ∀ x ∈ T, x ∈ S
  | k, T, hT, hfree, hk => by
    by_cases hc : chg n ps T = []
    · exact ⟨T, .refl, ⟨hT, hc⟩, fun _ h => h⟩
    · obtain ⟨q, q0, q1, hq⟩ : ∃ q, 0 ≤ q ∧ q < n ∧ says ps T q ≠ decide (q ∈ T) := Classical.byContradiction fun hno => hc (chg_nil.mpr fun p p0 p1 => Classical.byContradiction fun hf => hno ⟨p, p0, p1, hf⟩)
      have hqT : q ∉ T := fun hm => hq (by rw [decide_eq_true hm]; exact says_iff.mpr fun x hx => hfree q hm x hx)
      have hs : says ps T q = true := by
        rw [decide_eq_false hqT] at hq
        cases c : says ps T q with
        | true => rfl
        | false => exact absurd c hq
      obtain ⟨T', b⟩ := behind_ex (ps := ps) hT q0 q1
      have hm : ∀ x, x ∈ T' ↔ x ∈ T ∨ x = q := fun x => by rw [b.2, if_pos hs]
      have hnq := says_iff.mp hs
      have free' : ∀ x ∈ T', ∀ y ∈ T', norm x y ∉ ps := fun x hx y hy => by
        rcases (hm x).mp hx with hx | rfl
        · rcases (hm y).mp hy with hy | rfl
          · exact hfree x hx y hy
          · rw [norm_sym]; exact hnq x hx
        · rcases (hm y).mp hy with hy | rfl
          · exact hnq y hy
          · exact norm_self G _
      have hlen : T.length < T'.length := by
        have e : T = T'.filter fun y => !decide (y = q) := ups_ext hT.up (b.1.filt _).up fun x => by
          rw [List.mem_filter, hm]
          by_cases c : x = q
          · simp [c, hqT]
          · simp [c]
        have := List.length_filter_lt_length_iff_exists (p := fun y => !decide (y = q)) (l := T') |>.mpr ⟨q, (hm q).mpr (.inr rfl), by simp⟩
        rw [← e] at this
        exact this
      have hle := lot_len b.1 n0
      match k with
      | 0 => omega
      | k + 1 =>
        obtain ⟨S, r, hS, hsub⟩ := grow_rest G n0 k b.1 free' (by omega)
        exact ⟨S, (Reach.refl.step q0 q1 b).trans r, hS, fun x hx => hsub x ((hm x).mpr (.inl hx))⟩
/-- harm by all that a part is tied to -/
theorem harm_near (G : Good n ps) (n0 : 0 ≤ n) (h : RestL n ps R) {p : Int} (p0 : 0 ≤ p) (p1 : p < n) (hp : p ∉ R) : ∃ S, Reach n ps (offL R (nearL ps R p)) S ∧ chg n ps S = [] ∧ S ≠ R := by
  have hl : Lot n (offL R (nearL ps R p)) := h.lot.filt _
  have hno : ∀ q ∈ offL R (nearL ps R p), norm p q ∉ ps := fun q hq e => (mem_off.mp hq).2 (mem_near.mpr ⟨(mem_off.mp hq).1, e⟩)
  have hs : says ps (offL R (nearL ps R p)) p = true := says_iff.mpr hno
  obtain ⟨T, b⟩ := behind_ex (ps := ps) hl p0 p1
  have hm : ∀ x, x ∈ T ↔ x ∈ offL R (nearL ps R p) ∨ x = p := fun x => by rw [b.2, if_pos hs]
  have free' : ∀ x ∈ T, ∀ y ∈ T, norm x y ∉ ps := fun x hx y hy => by
    rcases (hm x).mp hx with hx | rfl
    · rcases (hm y).mp hy with hy | rfl
      · exact h.free (mem_off.mp hx).1 (mem_off.mp hy).1
      · rw [norm_sym]; exact hno x hx
    · rcases (hm y).mp hy with hy | rfl
      · exact hno y hy
      · exact norm_self G _
  obtain ⟨S, r, hS, hsub⟩ := grow_rest G n0 _ b.1 free' (Nat.le_refl _)
  exact ⟨S, (Reach.refl.step p0 p1 b).trans r, hS.no, fun e => hp (e ▸ hsub p ((hm p).mpr (.inr rfl)))⟩
end
section
variable {P : Program} {w : World} {K : PySem.W.Frag} {mg : Str → Option Value} {base : Heap} {C : Addr}
def sp_check_rest (C : Addr) : Sp := fun vs H Q _ => ∃ x n u ps t l, vs = [.ref x, .ref t] ∧ WebAt C H x n u ps ∧ Good n ps ∧ 1 ≤ n ∧ n ≤ 200 ∧ H t = some (.tup (l.map V.int)) ∧ RestL n ps l ∧ ∀ H', Same H H' → Q .non H'
theorem thing_ints {K : PySem.W.Frag} {H : Hp} {t : Addr} {l : List Int} (h : H t = some (.tup (l.map V.int))) (hl : l.length ≤ 100000) : Thing K H (.ref t) := .tup h (fun x hx => by obtain ⟨j, _, rfl⟩ := List.mem_map.mp hx; exact .int j) (by rw [List.length_map]; exact hl)
abbrev s_check_rest : Stmt := (top 31)
theorem sc_check_rest : FnScope ["web", "thing"] ["web", "thing"] (defScope s_check_rest) := ⟨rfl, rfl, rfl, by decide +kernel, rfl, by decide +kernel, by decide +kernel⟩

theorem ok_check_rest {f : Addr} {fd : FuncData} (F : Fun K "check_rest" "check_rest" s_check_rest f fd) (hm : mg "check_rest" = some (.ref f)) (B : Bl mg) (c_is_rest : Cal P w K mg base 6 "is_rest" ["web", "thing"] (sp_is_rest K C)) : Cal P w K mg base 7 "check_rest" ["web", "thing"] (sp_check_rest C) := by
  refine ⟨f, fd, F.ok sc_check_rest (fun vs H Q E h => ?_) (fun cdv A outer s H vs Q E hr h => ?_), hm, F.kp, F.binds (ps := ["web", "thing"]) fun _ _ _ _ _ _ us hl => match us, hl with | [_, _], _ => rfl⟩
  · obtain ⟨x, n, u, ps, t, l, rfl, _⟩ := h; rfl
  · obtain ⟨x, n, u, ps, t, l, rfl, W, G, n1, n2, ht, hl, k⟩ := h
    refine ⟨_, (pss_one (ps_if (pt_not (pt_val (pe_cal c_is_rest (hr.mono (by first | decide | omega)) (pa_cons (pv 0) (pa_cons (pv 1) pa_nil))))) (pss_one ps_never) pss_nil)), ?_⟩
    have := lot_len hl.lot (by omega)
    refine ⟨_, rfl, _, rfl, x, n, u, ps, _, rfl, W, G, n1, n2, thing_ints ht (by omega), fun b H' e hb => ⟨b, rfl, ?_⟩⟩
    have : b = true := hb.mpr ⟨t, l, rfl, ht, hl.lot, hl.no⟩
    subst this
    exact iteF (k H' e)
end
section
variable {P : Program} {w : World} {K : PySem.W.Frag} {mg : Str → Option Value} {base : Heap} {C : Addr}
/-- the pairs drawn before (i, j) -/
structure Drawn (n i j : Int) (ps : List (Int × Int)) : Prop where
  ok : ∀ p ∈ ps, 0 ≤ p.1 ∧ p.1 < p.2 ∧ p.2 < n ∧ (p.1 < i ∨ (p.1 = i ∧ p.2 < j))
  up : ps.Pairwise lt2
theorem Drawn.le {n i j i' j' : Int} {ps : List (Int × Int)} (h : Drawn n i j ps) (hh : i < i' ∨ (i = i' ∧ j ≤ j')) : Drawn n i' j' ps := ⟨fun p hp => by have := h.ok p hp; omega, h.up⟩
theorem Drawn.put {n i j : Int} {ps : List (Int × Int)} (h : Drawn n i j ps) (h0 : 0 ≤ i) (h1 : i < j) (h2 : j < n) : Drawn n i (j + 1) (ps ++ [(i, j)]) := by
  refine ⟨fun p hp => ?_, List.pairwise_append.mpr ⟨h.up, by simp, fun a ha b hb => ?_⟩⟩
  · rcases List.mem_append.mp hp with hp | hp
    · have := h.ok p hp; omega
    · simp at hp; subst hp; exact ⟨h0, h1, h2, .inr ⟨rfl, by show j < j + 1; omega⟩⟩
  · simp at hb; subst hb
    have := h.ok a ha
    unfold lt2
    show a.1 < i ∨ (a.1 = i ∧ a.2 < j)
    omega
theorem Drawn.good {n i j : Int} {ps : List (Int × Int)} (h : Drawn n i j ps) : Good n ps := ⟨fun p hp => by have := h.ok p hp; omega, h.up⟩
def sp_web : Sp := fun vs H Q _ => ∃ T L m, vs = [.ref T, .int m] ∧ Tp H T L ∧ 1 ≤ m ∧ m ≤ 24 ∧ ∀ p t n xs ps H', ExT T H H' → Tp H' T L → H p = none → H' p = some (.tup [.int n, .ref t]) → H t = none → H' t = some (.tup xs) → Pairs H' xs ps → 1 ≤ n → n ≤ m → Good n ps → Q (.ref p) H'
abbrev s__law_web : Stmt := (top 42)
theorem sc__law_web : FnScope ["tape", "most", "size", "kind", "thick", "pairs", "one", "other", "drawn"] ["tape", "most"] (defScope s__law_web) := ⟨rfl, rfl, rfl, by decide +kernel, rfl, by decide +kernel, by decide +kernel⟩

theorem ok_law_web {f : Addr} {fd : FuncData} (F : Fun K "_law_web" "_law_web" s__law_web f fd) (hm : mg "_law_web" = some (.ref f)) (B : Bl mg) (c__law_pick : Cal P w K mg base 1 "_law_pick" ["tape", "size"] spPick) : Cal P w K mg base 3 "_law_web" ["tape", "most"] sp_web := by
  refine ⟨f, fd, F.ok sc__law_web (fun vs H Q E h => ?_) (fun cdv A outer s H vs Q E hr h => ?_), hm, F.kp, F.binds (ps := ["tape", "most"]) fun _ _ _ _ _ _ us hl => match us, hl with | [_, _], _ => rfl⟩
  · obtain ⟨T, L, m, rfl, _⟩ := h; rfl
  · obtain ⟨T, L, m, rfl, hT, m1, m2, k⟩ := h
    refine ⟨_, (pss_cons (ps_set (i := 2) sc__law_web.nd rfl (by first | exact Or.inl rfl | exact Or.inr rfl) (pe_op op_add pe_int (pe_cal c__law_pick (hr.mono (by first | decide | omega)) (pa_cons (pv 0) (pa_cons (pv 1) pa_nil)))))
 (pss_cons (ps_set (i := 3) sc__law_web.nd rfl (by first | exact Or.inl rfl | exact Or.inr rfl) (pe_cal c__law_pick (hr.mono (by first | decide | omega)) (pa_cons (pv 0) (pa_cons pe_int pa_nil))))
 (pss_cons (ps_set (i := 4) sc__law_web.nd rfl (by first | exact Or.inl rfl | exact Or.inr rfl) (pe_op op_add pe_int (pe_cal c__law_pick (hr.mono (by first | decide | omega)) (pa_cons (pv 0) (pa_cons pe_int pa_nil)))))
 (pss_cons (ps_set (i := 5) sc__law_web.nd rfl (by first | exact Or.inl rfl | exact Or.inr rfl) (pe_lst pa_nil))
 (pss_cons (ps_for PassesOwn.never rfl (pi_range1 (by rfl) B.range (pa_cons (pv 2) pa_nil)) (pg_name (i := 6) sc__law_web.nd rfl (by first | exact Or.inl rfl | exact Or.inr rfl))
  (pss_one (ps_for PassesOwn.never rfl (pi_range2 (by rfl) B.range (pa_cons (pe_op op_add (pv 6) pe_int) (pa_cons (pv 2) pa_nil))) (pg_name (i := 7) sc__law_web.nd rfl (by first | exact Or.inl rfl | exact Or.inr rfl))
  (pss_cons (ps_set (i := 8) sc__law_web.nd rfl (by first | exact Or.inl rfl | exact Or.inr rfl) (pe_cmpR op_lt (pe_cal c__law_pick (hr.mono (by first | decide | omega)) (pa_cons (pv 0) (pa_cons pe_int pa_nil))) (pv 4) (nomark _)))
 (Evl.pss_cut (ps_if (pt_cmpR op_eq (pv 3) pe_int (nomark _)) (pss_one (ps_set (i := 8) sc__law_web.nd rfl (by first | exact Or.inl rfl | exact Or.inr rfl) (pe_cmpR op_eq (pv 7) (pe_op op_add (pv 6) pe_int) (nomark _)))) pss_nil)
 (Evl.pss_cut (ps_if (pt_cmpR op_eq (pv 3) pe_int (nomark _)) (pss_one (ps_set (i := 8) sc__law_web.nd rfl (by first | exact Or.inl rfl | exact Or.inr rfl) (pe_or (pe_cmpR op_eq (pv 7) (pe_op op_add (pv 6) pe_int) (nomark _)) (pe_one (pe_and (pe_cmpR op_eq (pv 6) pe_int (nomark _)) (pe_one (pe_cmpR op_eq (pv 7) (pe_op op_sub (pv 2) pe_int) (nomark _)))))))) pss_nil)
 (Evl.pss_cut (ps_if (PW.pt (pw_and (pt_cmpR op_eq (pv 3) pe_int (nomark _)) (pw_and1 (pt_cmpR op_eq (pv 4) pe_int (nomark _))))) (pss_one (ps_set (i := 8) sc__law_web.nd rfl (by first | exact Or.inl rfl | exact Or.inr rfl) pe_bl)) pss_nil)
 (pss_one (ps_if (pt_val (pv 8)) (pss_one (ps_expr (pe_bm PySem.F.plainAttrs_list PySem.F.slot_list_append PySem.F.type_list_append mt_append (pv 5) (pa_cons (pe_tup (pa_cons (pv 6) (pa_cons (pv 7) pa_nil))) pa_nil)))) pss_nil)))))))))
 (pss_one (ps_ret (pe_tup (pa_cons (pv 2) (pa_cons (pe_callTy call_tuple_of (by rfl) B.tuple_ (by decide +kernel) (pa_cons (pv 5) pa_nil)) pa_nil)))))))))), ?_⟩
    refine ⟨_, rfl, _, rfl, T, L, m, rfl, by omega, by omega, hT, fun r H1 r0 r1 e1 hT1 => ?_⟩
    refine ⟨_, _, rfl, rfl, ?_⟩
    have s1 : 1 ≤ 1 + r := by omega
    have s2 : 1 + r ≤ m := by omega
    dsimp only
    generalize 1 + r = n at s1 s2 ⊢
    refine ⟨_, rfl, T, L, 6, rfl, by decide, by decide, hT1, fun kd H2 _ _ e2 hT2 => ?_⟩
    have e12 := e1.trans e2
    refine ⟨_, rfl, T, L, 4, rfl, by decide, by decide, hT2, fun tk0 H3 _ _ e3 hT3 => ⟨_, _, rfl, rfl, ?_⟩⟩
    dsimp only
    generalize 1 + tk0 = tk
    have e13 := e12.trans e3
    refine ⟨Nat.zero_le _, fun fo hfo => ?_⟩
    have foT := hT3.neT hfo
    have foL := hT3.neL hfo
    have hfo0 : H fo = none := ExT.free e13 foT hfo
    refine ⟨_, rfl, _, rfl, by omega, by omega, for_range (lo := 0) (n := n.toNat) (fun i σ H' => ∃ (v6 v7 v8 : Option V) (ys : List V) (ps : List (Int × Int)), σ = [some (.ref T), some (.int m), some (.int n), some (.int kd), some (.int tk), some (.ref fo), v6, v7, v8] ∧ ExT T H H' ∧ Tp H' T L ∧ H' fo = some (.lst ys) ∧ Pairs H' ys ps ∧ Drawn n i 0 ps ∧ ys.length ≤ 100 * i)
      ⟨none, none, none, [], [], rfl, e13.new hfo, hT3.ext (L2.Same.new hfo), upd_same, .nil, ⟨by simp, .nil⟩, by simp⟩ ?_ ?_⟩
    · rintro i σ H5 hi ⟨v6, v7, v8, ys, ps, rfl, e5, hT5, hfo5, hp5, P5, l5⟩
      have hin : (i : Int) < n := by omega
      refine ⟨_, rfl, _, _, rfl, rfl, _, rfl, _, _, rfl, ⟨by omega, by omega, by omega, by omega⟩, for_range (lo := 0 + (i : Nat) + 1) (n := (n - (0 + (i : Nat) + 1)).toNat) (fun j σ H' => ∃ (v7 v8 : Option V) (ys : List V) (ps : List (Int × Int)), σ = [some (.ref T), some (.int m), some (.int n), some (.int kd), some (.int tk), some (.ref fo), some (.int (0 + (i : Nat))), v7, v8] ∧ ExT T H H' ∧ Tp H' T L ∧ H' fo = some (.lst ys) ∧ Pairs H' ys ps ∧ Drawn n i ((i : Int) + 1 + j) ps ∧ ys.length ≤ 100 * i + j)
        ⟨v7, v8, ys, ps, rfl, e5, hT5, hfo5, hp5, P5.le (.inr ⟨rfl, by omega⟩), l5⟩ ?_ ?_⟩
      · rintro j σ H6 hj ⟨v7, v8, ys, ps, rfl, e6, hT6, hfo6, hp6, P6, l6⟩
        refine ⟨_, rfl, T, L, 5, rfl, by decide, by decide, hT6, fun r H7 _ _ e7 hT7 => ?_⟩
        refine ⟨_, rfl, _, _, rfl, rfl, ?_⟩
        have t7 := hT6.tk e7
        have X7 : ExT T H H7 ∧ Tp H7 T L ∧ H7 fo = some (.lst ys) ∧ Pairs H7 ys ps := ⟨e6.trans e7, hT7, e7 _ _ foT hfo6, hp6.tk t7⟩
        dsimp only
        generalize decide (r < tk) = b0
        -- if kind == 0
        refine ⟨fun σ' H' => ∃ b, σ' = [some (.ref T), some (.int m), some (.int n), some (.int kd), some (.int tk), some (.ref fo), some (.int (0 + (i : Nat))), some (.int (0 + (i : Nat) + 1 + (j : Nat))), some (.bl b)] ∧ ExT T H H' ∧ Tp H' T L ∧ H' fo = some (.lst ys) ∧ Pairs H' ys ps, ?_, ?_⟩
        · refine ⟨_, rfl, rfl, _, rfl, on_if (fun _ => ?_) (fun _ => ⟨b0, rfl, X7⟩)⟩
          exact ⟨_, rfl, _, rfl, _, _, rfl, rfl, rfl, _, rfl, X7⟩
        rintro σ' H8 ⟨b1, rfl, X8⟩
        -- if kind == 1
        refine ⟨fun σ' H' => ∃ b, σ' = [some (.ref T), some (.int m), some (.int n), some (.int kd), some (.int tk), some (.ref fo), some (.int (0 + (i : Nat))), some (.int (0 + (i : Nat) + 1 + (j : Nat))), some (.bl b)] ∧ ExT T H H' ∧ Tp H' T L ∧ H' fo = some (.lst ys) ∧ Pairs H' ys ps, ?_, ?_⟩
        · refine ⟨_, rfl, rfl, _, rfl, on_if (fun _ => ?_) (fun _ => ⟨b1, rfl, X8⟩)⟩
          refine ⟨_, rfl, _, rfl, _, _, rfl, rfl, rfl, _, rfl, onb (fun _ => ⟨_, rfl, X8⟩) (fun _ => ?_)⟩
          refine ⟨_, rfl, rfl, _, rfl, onb (fun _ => ?_) (fun _ => ⟨_, rfl, X8⟩)⟩
          exact ⟨_, rfl, _, rfl, _, _, rfl, rfl, rfl, _, rfl, X8⟩
        rintro σ' H9 ⟨b2, rfl, X9⟩
        -- if kind == 2 and thick == 1
        refine ⟨fun σ' H' => ∃ b, σ' = [some (.ref T), some (.int m), some (.int n), some (.int kd), some (.int tk), some (.ref fo), some (.int (0 + (i : Nat))), some (.int (0 + (i : Nat) + 1 + (j : Nat))), some (.bl b)] ∧ ExT T H H' ∧ Tp H' T L ∧ H' fo = some (.lst ys) ∧ Pairs H' ys ps, ?_, ?_⟩
        · refine ⟨_, rfl, rfl, _, rfl, onb (fun _ => ?_) (fun _ => iteF ⟨b2, rfl, X9⟩)⟩
          exact ⟨_, rfl, rfl, _, rfl, onb (fun _ => ⟨false, rfl, X9⟩) (fun _ => ⟨b2, rfl, X9⟩)⟩
        rintro σ' H11 ⟨b3, rfl, a1, a2, a4, a5⟩
        refine ⟨_, rfl, b3, rfl, ?_⟩
        have hj' : (i : Int) + 1 + j < n := by omega
        cases b3 with
        | true =>
          refine iteT ?_
          refine ⟨_, rfl, .inl ⟨rfl, _, SqL.of a4⟩, ?_⟩
          refine ⟨_, rfl, _, rfl, (by show 2 ≤ sizeLine; decide), fun c hc => ?_⟩
          have ec := L2.Same.new (o := .tup [.int (0 + (i : Nat)), .int (0 + (i : Nat) + 1 + (j : Nat))]) hc
          refine ⟨fo, ys, _, rfl, rfl, ec _ _ a4, Nat.lt_of_lt_of_le (show ys.length < 100000 by omega) (by decide), ?_⟩
          have cf : c ≠ fo := fun q => by rw [q, a4] at hc; cases hc
          have e0 : (0 : Int) + (i : Nat) = (i : Nat) := Int.zero_add _
          refine ⟨_, _, ys ++ [.ref c], ps ++ [((i : Int), (i : Int) + 1 + j)], rfl, ?_, ?_, upd_same, ?_, ?_, ?_⟩
          · exact (a1.trans ec.exT).mut hfo0
          · exact (a2.ext ec).upd foT foL
          · refine Paired.app ((a5.tk ec.tk).tk (tk_lst (ec _ _ a4))) (.cons ⟨c, rfl, ?_⟩ .nil)
            rw [upd_ne cf, upd_same, e0]
          · exact (P6.put (by omega) (by omega) hj').le (.inr ⟨rfl, by omega⟩)
          · rw [List.length_append, List.length_singleton]; omega
        | false => exact iteF ⟨_, _, ys, ps, rfl, a1, a2, a4, a5, P6.le (.inr ⟨rfl, by omega⟩), by omega⟩
      · rintro σ H6 ⟨v7, v8, ys, ps, rfl, e6, hT6, hfo6, hp6, P6, l6⟩
        exact ⟨_, _, _, ys, ps, rfl, e6, hT6, hfo6, hp6, P6.le (.inl (by omega)), by omega⟩
    · rintro σ H5 ⟨v6, v7, v8, ys, ps, rfl, e5, hT5, hfo5, hp5, P5, l5⟩
      refine ⟨_, rfl, _, rfl, fo, _, rfl, .inl ⟨SqL.of hfo5, fun t ht => ?_⟩⟩
      have et := L2.Same.new (o := .tup ys) ht
      refine ⟨(by show 2 ≤ sizeLine; decide), fun z hz' => ?_⟩
      have ez := et.new' (o := .tup [.int n, .ref t]) hz'
      have hz5 : H5 z = none := L2.Same.free et hz'
      exact k z t n ys ps _ (e5.trans ez.exT) (hT5.ext ez) (ExT.free e5 (hT5.neT hz5) hz5) upd_same (ExT.free e5 (hT5.neT ht) ht) ((L2.Same.new hz') _ _ upd_same) (hp5.tk ez.tk) s1 s2 P5.good
end
section
variable {P : Program} {w : World} {K : PySem.W.Frag} {mg : Str → Option Value} {base : Heap} {C : Addr}
/-- a web as the law has it -/
def WebT (H : Hp) (p : Addr) (n : Int) (ps : List (Int × Int)) : Prop := ∃ t xs, H p = some (.tup [.int n, .ref t]) ∧ H t = some (.tup xs) ∧ Pairs H xs ps
theorem WebT.same {H H' : Hp} {p : Addr} {n : Int} {ps : List (Int × Int)} (h : WebT H p n ps) (e : Same H H') : WebT H' p n ps := let ⟨t, xs, h1, h2, h3⟩ := h; ⟨t, xs, e _ _ h1, e _ _ h2, h3.tk e.tk⟩
theorem WebT.tk {H H' : Hp} {p : Addr} {n : Int} {ps : List (Int × Int)} (h : WebT H p n ps) (e : TK H H') : WebT H' p n ps := let ⟨t, xs, h1, h2, h3⟩ := h; ⟨t, xs, e _ _ h1, e _ _ h2, h3.tk e⟩
def sp_tiedW : Sp := fun vs H Q _ => ∃ p n ps a b, vs = [.ref p, .int a, .int b] ∧ WebT H p n ps ∧ ∀ H', Same H H' → Q (.bl (decide (norm a b ∈ ps))) H'
abbrev s__law_tied : Stmt := (top 43)
theorem sc__law_tied : FnScope ["web", "one", "other"] ["web", "one", "other"] (defScope s__law_tied) := ⟨rfl, rfl, rfl, by decide +kernel, rfl, by decide +kernel, by decide +kernel⟩

theorem ok_law_tied {f : Addr} {fd : FuncData} (F : Fun K "_law_tied" "_law_tied" s__law_tied f fd) (hm : mg "_law_tied" = some (.ref f)) (B : Bl mg) : Cal P w K mg base 1 "_law_tied" ["web", "one", "other"] sp_tiedW := by
  refine ⟨f, fd, F.ok sc__law_tied (fun vs H Q E h => ?_) (fun cdv A outer s H vs Q E hr h => ?_), hm, F.kp, F.binds (ps := ["web", "one", "other"]) fun _ _ _ _ _ _ us hl => match us, hl with | [_, _, _], _ => rfl⟩
  · obtain ⟨p, n, ps, a, b, rfl, _⟩ := h; rfl
  · obtain ⟨p, n, ps, a, b, rfl, ⟨t, xs, hp, ht, hps⟩, k⟩ := h
    refine ⟨_, (pss_one (ps_ret (pe_cmpR (op_inT (units65 hr)) (pe_tup (pa_cons (pe_callB (call_min2 rfl) (by rfl) B.min (by decide +kernel) (pa_cons (pv 1) (pa_cons (pv 2) pa_nil))) (pa_cons (pe_callB (call_max2 rfl) (by rfl) B.max (by decide +kernel) (pa_cons (pv 1) (pa_cons (pv 2) pa_nil))) pa_nil))) (pe_ix ix_tup (pv 0) pe_int (fun _ _ => rfl)) (by rfl)))), ?_⟩
    refine ⟨_, rfl, _, rfl, _, _, rfl, _, rfl, _, rfl, _, _, rfl, (by show 2 ≤ sizeLine; decide), fun c hc => ?_⟩
    have ec := L2.Same.new (o := .tup [.int (if b < a then b else a), .int (if b > a then b else a)]) hc
    refine ⟨_, rfl, p, _, _, _, rfl, rfl, SqT.of (ec _ _ hp), rfl, ?_⟩
    have hca : PairAt (upd H c (.tup [.int (if b < a then b else a), .int (if b > a then b else a)])) (.ref c) (norm a b) := ⟨c, rfl, upd_same⟩
    refine ⟨_, ps.map pD, dp_pair hca, dp_ties (ec _ _ ht) (hps.tk ec.tk), pD_shaped _, pDs_shapedL _, pDs_shaped _, ?_⟩
    rw [any_pairs]
    exact k _ ec
def sp_saysW : Sp := fun vs H Q _ => ∃ p n ps t l a, vs = [.ref p, .ref t, .int a] ∧ WebT H p n ps ∧ Good n ps ∧ H t = some (.tup (l.map V.int)) ∧ l.length ≤ 1000 ∧ ∀ H', Same H H' → Q (.bl (says ps l a)) H'
theorem says_len {n : Int} {ps : List (Int × Int)} (G : Good n ps) {l : List Int} {a : Int} : decide ((l.filter fun q => !decide (q = a) && decide (norm a q ∈ ps)).length = 0) = says ps l a := by
  cases c : says ps l a with
  | true =>
    refine decide_eq_true (List.length_eq_zero_iff.mpr (List.filter_eq_nil_iff.mpr fun q hq => ?_))
    have := says_iff.mp c q hq
    simp [this]
  | false =>
    refine decide_eq_false fun e => ?_
    have h2 := List.filter_eq_nil_iff.mp (List.length_eq_zero_iff.mp e)
    have : says ps l a = true := says_iff.mpr fun q hq hm => by
      have h3 := h2 q hq
      by_cases e : q = a
      · subst e; exact norm_self G _ hm
      · exact h3 (by simp [e, hm])
    rw [c] at this
    cases this
abbrev s__law_says : Stmt := (top 44)
theorem sc__law_says : FnScope ["web", "stand", "part", "other"] ["web", "stand", "part"] (defScope s__law_says) := ⟨rfl, rfl, rfl, by decide +kernel, rfl, by decide +kernel, by decide +kernel⟩

theorem ok_law_says {f : Addr} {fd : FuncData} (F : Fun K "_law_says" "_law_says" s__law_says f fd) (hm : mg "_law_says" = some (.ref f)) (B : Bl mg) (c__law_tied : Cal P w K mg base 1 "_law_tied" ["web", "one", "other"] sp_tiedW) : Cal P w K mg base 2 "_law_says" ["web", "stand", "part"] sp_saysW := by
  refine ⟨f, fd, F.ok sc__law_says (fun vs H Q E h => ?_) (fun cdv A outer s H vs Q E hr h => ?_), hm, F.kp, F.binds (ps := ["web", "stand", "part"]) fun _ _ _ _ _ _ us hl => match us, hl with | [_, _, _], _ => rfl⟩
  · obtain ⟨p, n, ps, t, l, a, rfl, _⟩ := h; rfl
  · obtain ⟨p, n, ps, t, l, a, rfl, W, G, ht, hl, k⟩ := h
    refine ⟨_, (pss_one (ps_ret (pe_cmpR op_eq (pe_callB call_len_seq (by rfl) B.len (by decide +kernel) (pa_cons (pe_lc (own := [("other", 3)]) (by rfl) sc__law_says.nd (pi_tup (pv 1)) (blkOk_by (own := [("other", 3)]) (N := ["web", "stand", "part", "other"]) (sc := defScope s__law_says) (by decide +kernel)) (fun _ _ _ _ _ => (pg_name (i := 3) sc__law_says.nd rfl (by first | exact Or.inl rfl | exact Or.inr rfl))) (fun _ _ _ _ _ => (pts_one (PW.pt (pw_and (pt_cmpR op_ne (pv 3) (pv 2) (nomark _)) (pw_and1 (pt_val (pe_cal c__law_tied (hr.mono (by first | decide | omega)) (pa_cons (pv 0) (pa_cons (pv 2) (pa_cons (pv 3) pa_nil)))))))))) (fun _ _ _ _ _ => (pv 3))) pa_nil)) pe_int (nomark _)))), ?_⟩
    refine ⟨_, rfl, t, rfl, ⟨_, SqT.of ht⟩, fun D hD => lc_data (walk_tup (K := K) (a := t) (xs := l.map V.int)) l (by rw [List.length_map]) (fun q => !decide (q = a) && decide (norm a q ∈ ps)) (fun _ v q => v = .int q) (fun _ _ _ _ _ q => q) hD (fun H' e => SqT.of (e _ _ ht)) (Nat.lt_of_le_of_lt hl (by decide)) ?_ (fun _ _ _ _ _ y => yat_same y) ?_⟩
    · rintro i q v H3 H4 Ny Nn hq e3 ⟨rfl, hv⟩ kE kN
      obtain ⟨q', hq', rfl⟩ := map_get hv
      rw [hq] at hq'
      cases hq'
      refine ⟨rfl, ?_⟩
      refine ⟨_, rfl, _, rfl, rfl, _, rfl, ?_⟩
      have ed : decide (V.int q = V.int a) = decide (q = a) := dec_iff ⟨fun h => by injection h, fun h => by rw [h]⟩
      rw [ed]
      refine onbN (fun c => ?_) (fun c => kN _ (by simp [c]) (L2.Same.refl _))
      refine ⟨_, rfl, _, rfl, _, rfl, p, n, ps, a, q, rfl, W.same e3, fun H5 e5 => ⟨_, rfl, ?_⟩⟩
      refine onb (fun c2 => ?_) (fun c2 => kN _ (by simp [c2]) e5)
      exact ⟨_, rfl, kE _ _ (by simp [c, c2]) e5 rfl⟩
    · intro zs H3 e3 hzs hpr
      have ez := paired_eq (g := V.int) hpr
      subst ez
      refine ⟨D, _, rfl, .inl (SqL.of hzs), rfl, ?_⟩
      rw [List.length_map]
      have ed : decide (V.int ((l.filter fun q => !decide (q = a) && decide (norm a q ∈ ps)).length : Nat) = V.int 0) = says ps l a := by
        rw [← says_len G]
        exact dec_iff ⟨fun h => by injection h with h; omega, fun h => by rw [h]; rfl⟩
      rw [ed]
      exact k H3 e3
theorem upi_of {l' m : List Int} (h : l'.Perm m) (h1 : l'.Pairwise (· ≤ ·)) (h2 : m.Nodup) : l'.Pairwise (· < ·) :=
  (h1.and (h.nodup_iff.mpr h2)).imp fun {a b} h => by have h3 : a ≠ b := h.2; have := h.1; omega
def sp_calledW : Sp := fun vs H Q _ => ∃ p n ps t l a, vs = [.ref p, .ref t, .int a] ∧ WebT H p n ps ∧ Good n ps ∧ 1 ≤ n ∧ n ≤ 1000 ∧ H t = some (.tup (l.map V.int)) ∧ Lot n l ∧ 0 ≤ a ∧ a < n ∧ ∀ q l' H', Same H H' → H q = none → H' q = some (.tup (l'.map V.int)) → Behind n ps l a l' → Q (.ref q) H'
abbrev s__law_called : Stmt := (top 45)
theorem sc__law_called : FnScope ["web", "stand", "part", "other", "found"] ["web", "stand", "part"] (defScope s__law_called) := ⟨rfl, rfl, rfl, by decide +kernel, rfl, by decide +kernel, by decide +kernel⟩

theorem ok_law_called {f : Addr} {fd : FuncData} (F : Fun K "_law_called" "_law_called" s__law_called f fd) (hm : mg "_law_called" = some (.ref f)) (B : Bl mg) (c__law_says : Cal P w K mg base 2 "_law_says" ["web", "stand", "part"] sp_saysW) : Cal P w K mg base 3 "_law_called" ["web", "stand", "part"] sp_calledW := by
  refine ⟨f, fd, F.ok sc__law_called (fun vs H Q E h => ?_) (fun cdv A outer s H vs Q E hr h => ?_), hm, F.kp, F.binds (ps := ["web", "stand", "part"]) fun _ _ _ _ _ _ us hl => match us, hl with | [_, _, _], _ => rfl⟩
  · obtain ⟨p, n, ps, t, l, a, rfl, _⟩ := h; rfl
  · obtain ⟨p, n, ps, t, l, a, rfl, W, G, n1, n2, ht, hl, a0, a1, k⟩ := h
    have hlen := lot_len hl (by omega)
    refine ⟨_, (pss_cons (ps_setLc (i := 4) (own := [("other", 3)]) (by rfl) sc__law_called.nd rfl rfl (sw_true rfl rfl rfl (by decide +kernel)) (pi_tup (pv 1)) (blkOk_by (own := [("other", 3)]) (N := ["web", "stand", "part", "other", "found"]) (sc := defScope s__law_called) (by decide +kernel)) (fun _ _ _ _ _ => (pg_name (i := 3) sc__law_called.nd rfl (by first | exact Or.inl rfl | exact Or.inr rfl))) (fun _ _ _ _ _ => (pts_one (pt_cmpR op_ne (pv 3) (pv 2) (nomark _)))) (fun _ _ _ _ _ => (pv 3)))
 (pss_cons (ps_if (pt_val (pe_cal c__law_says (hr.mono (by first | decide | omega)) (pa_cons (pv 0) (pa_cons (pv 1) (pa_cons (pv 2) pa_nil))))) (pss_one (ps_expr (pe_bm PySem.F.plainAttrs_list PySem.F.slot_list_append PySem.F.type_list_append mt_append (pv 4) (pa_cons (pv 2) pa_nil)))) pss_nil)
 (pss_one (ps_ret (pe_callTy call_tuple_of (by rfl) B.tuple_ (by decide +kernel) (pa_cons (pe_callB cr_sortedI (by rfl) B.sorted (by decide +kernel) (pa_cons (pv 4) pa_nil)) pa_nil)))))), ?_⟩
    refine ⟨_, rfl, t, rfl, ⟨_, SqT.of ht⟩, fun D hD => lc_data (walk_tup (K := K) (a := t) (xs := l.map V.int)) l (by rw [List.length_map]) (fun q => !decide (q = a)) (fun _ v q => v = .int q) (fun _ _ _ _ _ q => q) hD (fun H' e => SqT.of (e _ _ ht)) (Nat.lt_of_le_of_lt (show l.length ≤ 1000 by omega) (by decide)) ?_ (fun _ _ _ _ _ y => yat_same y) ?_⟩
    · rintro i q v H3 H4 Ny Nn hq e3 ⟨rfl, hv⟩ kE kN
      obtain ⟨q', hq', rfl⟩ := map_get hv
      rw [hq] at hq'
      cases hq'
      refine ⟨rfl, ?_⟩
      refine ⟨_, rfl, _, rfl, rfl, _, rfl, ?_⟩
      have ed : decide (V.int q = V.int a) = decide (q = a) := dec_iff ⟨fun h => by injection h, fun h => by rw [h]⟩
      rw [ed]
      exact onbN (fun c => ⟨_, rfl, kE _ _ (by simp [c]) (L2.Same.refl _) rfl⟩) (fun c => kN _ (by simp [c]) (L2.Same.refl _))
    · intro zs H3 e3 hzs hpr
      have ez := paired_eq (g := V.int) hpr
      subst ez
      have nd : (l.filter fun q => !decide (q = a)).Nodup := upi_nodup (hl.up.filter _)
      have fin : ∀ (m : List Int) (H4 : Hp), Same H H4 → m.Nodup → (∀ x, x ∈ m ↔ (if says ps l a = true then x ∈ l ∨ x = a else x ∈ l ∧ x ≠ a)) → ∀ (ns : List Int) (q1 q2 : Addr), ns.Perm m → ns.Pairwise (· ≤ ·) → H4 q1 = none → (upd H4 q1 (.lst (ns.map V.int))) q2 = none → Q (.ref q2) (upd (upd H4 q1 (.lst (ns.map V.int))) q2 (.tup (ns.map V.int))) := fun m H4 e4 nd' hm ns q1 q2 hp hle h1 h2 => by
        have s1 := e4.new' (o := .lst (ns.map V.int)) h1
        refine k q2 ns _ (s1.new' h2) (L2.Same.free s1 h2) upd_same ⟨⟨upi_of hp hle nd', fun x hx => ?_⟩, fun x => ?_⟩
        · have := (hm x).mp (hp.mem_iff.mp hx)
          by_cases c : says ps l a = true
          · rw [if_pos c] at this
            rcases this with h | rfl
            · exact hl.ok x h
            · exact ⟨a0, a1⟩
          · rw [if_neg c] at this
            exact hl.ok x this.1
        · rw [hp.mem_iff, hm]
      have mem0 : ∀ x, x ∈ (l.filter fun q => !decide (q = a)) ↔ x ∈ l ∧ x ≠ a := fun x => by rw [List.mem_filter]; simp
      refine ⟨_, rfl, _, rfl, _, rfl, p, n, ps, t, l, a, rfl, W.same e3, G, e3 _ _ ht, by omega, fun H4 e4 => ⟨_, rfl, ?_⟩⟩
      have e34 := e3.trans e4
      have hz4 := e4 _ _ hzs
      cases c : says ps l a with
      | true =>
        refine iteT ?_
        refine ⟨_, rfl, .inl ⟨rfl, _, SqL.of hz4⟩, _, rfl, D, _, _, rfl, rfl, hz4, (by rw [List.length_map]; exact Nat.lt_of_le_of_lt (Nat.le_trans (List.length_filter_le _ _) (show l.length ≤ 1000 by omega)) (by decide)), ?_⟩
        have e5 : Same H (upd H4 D (.lst ((l.filter fun q => !decide (q = a)).map V.int ++ [.int a]))) := fun b o hb => by rw [upd_ne (ne_of_none hb hD)]; exact e34 _ _ hb
        have em : (l.filter fun q => !decide (q = a)).map V.int ++ [V.int a] = ((l.filter fun q => !decide (q = a)) ++ [a]).map V.int := by rw [List.map_append]; rfl
        rw [em] at e5 ⊢
        have nd2 : ((l.filter fun q => !decide (q = a)) ++ [a]).Nodup := List.pairwise_append.mpr ⟨nd, by simp, fun x hx y hy => by simp at hy; subst hy; exact ((mem0 x).mp hx).2⟩
        have mm : ∀ x, x ∈ ((l.filter fun q => !decide (q = a)) ++ [a]) ↔ (if says ps l a = true then x ∈ l ∨ x = a else x ∈ l ∧ x ≠ a) := fun x => by
          rw [if_pos c, List.mem_append, mem0]
          by_cases e : x = a
          · simp [e]
          · simp [e]
        exact ⟨_, rfl, D, _, rfl, SqL.of upd_same, fun ns q1 hp hle hq1 => ⟨q1, _, rfl, .inl ⟨SqL.of upd_same, fun q2 hq2 => fin _ _ e5 nd2 mm ns q1 q2 hp hle hq1 hq2⟩⟩⟩
      | false =>
        refine iteF ?_
        have mm : ∀ x, x ∈ (l.filter fun q => !decide (q = a)) ↔ (if says ps l a = true then x ∈ l ∨ x = a else x ∈ l ∧ x ≠ a) := fun x => by
          rw [if_neg (by rw [c]; decide), mem0]
        exact ⟨_, rfl, D, _, rfl, SqL.of hz4, fun ns q1 hp hle hq1 => ⟨q1, _, rfl, .inl ⟨SqL.of upd_same, fun q2 hq2 => fin _ _ e34 nd mm ns q1 q2 hp hle hq1 hq2⟩⟩⟩
def sp_is_restW : Sp := fun vs H Q _ => ∃ p n ps t l, vs = [.ref p, .ref t] ∧ WebT H p n ps ∧ Good n ps ∧ 1 ≤ n ∧ n ≤ 1000 ∧ H t = some (.tup (l.map V.int)) ∧ Lot n l ∧ ∀ H', Same H H' → Q (.bl (decide (chg n ps l = []))) H'
abbrev s__law_is_rest : Stmt := (top 46)
theorem sc__law_is_rest : FnScope ["web", "stand", "part"] ["web", "stand"] (defScope s__law_is_rest) := ⟨rfl, rfl, rfl, by decide +kernel, rfl, by decide +kernel, by decide +kernel⟩

theorem ok_law_is_rest {f : Addr} {fd : FuncData} (F : Fun K "_law_is_rest" "_law_is_rest" s__law_is_rest f fd) (hm : mg "_law_is_rest" = some (.ref f)) (B : Bl mg) (c__law_called : Cal P w K mg base 3 "_law_called" ["web", "stand", "part"] sp_calledW) : Cal P w K mg base 4 "_law_is_rest" ["web", "stand"] sp_is_restW := by
  refine ⟨f, fd, F.ok sc__law_is_rest (fun vs H Q E h => ?_) (fun cdv A outer s H vs Q E hr h => ?_), hm, F.kp, F.binds (ps := ["web", "stand"]) fun _ _ _ _ _ _ us hl => match us, hl with | [_, _], _ => rfl⟩
  · obtain ⟨p, n, ps, t, l, rfl, _⟩ := h; rfl
  · obtain ⟨p, n, ps, t, l, rfl, W, G, n1, n2, ht, hl, k⟩ := h
    obtain ⟨u, us, hp, hu, hps⟩ := id W
    refine ⟨_, (pss_one (ps_ret (pe_callB (cr_all rfl) (by rfl) B.all (by decide +kernel) (pa_cons (pe_lc (own := [("part", 2)]) (te := (tOp (rEqD K) _ _)) (by rfl) sc__law_is_rest.nd (pi_range1 (by rfl) B.range (pa_cons (pe_ix ix_tup (pv 0) pe_int (fun _ _ => rfl)) pa_nil)) (blkOk_by (own := [("part", 2)]) (N := ["web", "stand", "part"]) (sc := defScope s__law_is_rest) (by decide +kernel)) (fun _ _ _ _ _ => (pg_name (i := 2) sc__law_is_rest.nd rfl (by first | exact Or.inl rfl | exact Or.inr rfl))) (fun _ _ _ _ _ => pts_nil) (fun _ _ _ _ _ => (pe_cmpR (op_eqD hr.units) (pe_cal c__law_called (hr.mono (by first | decide | omega)) (pa_cons (pv 0) (pa_cons (pv 1) (pa_cons (pv 2) pa_nil)))) (pv 1) (nomark _)))) pa_nil)))), ?_⟩
    refine ⟨_, rfl, p, _, _, _, rfl, rfl, SqT.of hp, rfl, _, rfl, by omega, by omega, fun D hD => lc_data (walk_range (lo := 0) (n := n.toNat)) (List.range n.toNat) (List.length_range) (fun _ => true) (fun _ v i => v = .bl (says ps l ((i : Nat) : Int) == decide (((i : Nat) : Int) ∈ l))) (fun _ _ _ _ _ q => q) hD (fun _ _ => trivial) (by rw [List.length_range]; exact Nat.lt_of_le_of_lt (show n.toNat ≤ 1000 by omega) (by decide)) ?_ (fun _ _ _ _ _ y => by rw [y.1]; exact L2.Same.refl _) ?_⟩
    · rintro i a v H3 H4 Ny Nn hai e3 ⟨rfl, rfl⟩ kE kN
      have ea : a = i := by
        rw [List.getElem?_range (by have := (List.getElem?_eq_some_iff.mp hai).1; rw [List.length_range] at this; exact this)] at hai
        exact (Option.some.inj hai).symm
      subst ea
      have hi : a < n.toNat := by have := (List.getElem?_eq_some_iff.mp hai).1; rw [List.length_range] at this; exact this
      refine ⟨rfl, yes_if ?_⟩
      have e0 : (0 : Int) + (a : Nat) = (a : Nat) := Int.zero_add _
      refine ⟨_, rfl, _, rfl, _, rfl, p, n, ps, t, l, _, rfl, W.same e3, G, n1, n2, e3 _ _ ht, hl, by omega, by omega, fun q l' H5 e5 nq hq bh => ⟨_, rfl, _, _, dp_lot hq, dp_lot ((e3.trans e5) _ _ ht), iD_shaped _, iD_shaped _, ?_⟩⟩
      rw [e0] at bh
      rw [iD_eqv]
      refine kE _ _ rfl e5 ?_
      have h1 := Behind.same_iff hl bh
      by_cases c : l' = l
      · rw [decide_eq_true c, h1.mp c]; simp
      · rw [decide_eq_false c]
        have : ¬ (says ps l (a : Int) = decide ((a : Int) ∈ l)) := fun e => c (h1.mpr e)
        congr 1
        exact (beq_eq_false_iff_ne.mpr this).symm
    · intro zs H3 e3 hzs hpr
      have ez := paired_eq (g := fun i : Nat => V.bl (says ps l ((i : Nat) : Int) == decide (((i : Nat) : Int) ∈ l))) hpr
      subst ez
      rw [filter_yes] at hzs
      refine ⟨D, (List.range n.toNat).map fun i : Nat => (says ps l ((i : Nat) : Int) == decide (((i : Nat) : Int) ∈ l)), rfl, ?_, ?_⟩
      · rw [List.map_map]
        exact SqL.of hzs
      · have e : (((List.range n.toNat).map fun i : Nat => (says ps l ((i : Nat) : Int) == decide (((i : Nat) : Int) ∈ l))).all id) = decide (chg n ps l = []) := by
          by_cases c : chg n ps l = []
          · rw [decide_eq_true c]
            rw [List.all_map, List.all_eq_true]
            intro i hi
            have := chg_nil.mp c (i : Int) (by omega) (by have := List.mem_range.mp hi; omega)
            simp [this]
          · rw [decide_eq_false c]
            refine Bool.eq_false_iff.mpr fun h => c (chg_nil.mpr fun q q0 q1 => ?_)
            rw [List.all_map, List.all_eq_true] at h
            have := h q.toNat (List.mem_range.mpr (by omega))
            simp only [Function.comp, id, Int.toNat_of_nonneg q0] at this
            exact beq_iff_eq.mp this
        rw [e]
        exact k H3 e3
end
section
variable {P : Program} {w : World} {K : PySem.W.Frag} {mg : Str → Option Value} {base : Heap} {C : Addr}
/-- all lots of the parts below i -/
def subs : Nat → List (List Int)
  | 0 => [[]]
  | i + 1 => subs i ++ (subs i).map fun l => l ++ [(i : Int)]
theorem subs_len : ∀ i, (subs i).length = 2 ^ i
  | 0 => rfl
  | i + 1 => by rw [subs, List.length_append, List.length_map, subs_len i, Nat.pow_succ]; omega
theorem subs_head : ∀ i, ∃ r, subs i = [] :: r
  | 0 => ⟨[], rfl⟩
  | i + 1 => by
    obtain ⟨r, h⟩ := subs_head i
    exact ⟨r ++ (subs i).map fun l => l ++ [(i : Int)], by rw [subs, h]; rfl⟩
theorem subs_mem : ∀ (i : Nat) (l : List Int), l ∈ subs i ↔ Lot (i : Int) l
  | 0, l => by
    rw [subs, List.mem_singleton]
    constructor
    · rintro rfl; exact ⟨.nil, by simp⟩
    · intro h
      cases l with
      | nil => rfl
      | cons x l => have := h.ok x (by simp); omega
  | i + 1, l => by
    rw [subs, List.mem_append, List.mem_map, subs_mem i l]
    constructor
    · rintro (h | ⟨l', h, rfl⟩)
      · exact ⟨h.up, fun x hx => by have := h.ok x hx; omega⟩
      · have h := (subs_mem i l').mp h
        refine ⟨List.pairwise_append.mpr ⟨h.up, by simp, fun a ha b hb => ?_⟩, fun x hx => ?_⟩
        · simp at hb; subst hb; exact (h.ok a ha).2
        · rcases List.mem_append.mp hx with hx | hx
          · have := h.ok x hx; omega
          · simp at hx; subst hx; omega
    · intro h
      by_cases hi : (i : Int) ∈ l
      · refine .inr ⟨l.filter fun q => !decide (q = (i : Int)), (subs_mem i _).mpr ⟨h.up.filter _, fun x hx => ?_⟩, ?_⟩
        · have h1 := List.mem_filter.mp hx
          have h2 : x ≠ (i : Int) := by simpa using h1.2
          have := h.ok x h1.1
          omega
        · refine ups_ext (List.pairwise_append.mpr ⟨h.up.filter _, by simp, fun a ha b hb => ?_⟩) h.up fun x => ?_
          · simp at hb; subst hb
            have h1 := List.mem_filter.mp ha
            have h2 : a ≠ (i : Int) := by simpa using h1.2
            have := h.ok a h1.1
            omega
          · rw [List.mem_append, List.mem_filter]
            by_cases e : x = (i : Int)
            · simp [e, hi]
            · simp [e]
      · refine .inl ⟨h.up, fun x hx => ?_⟩
        have := h.ok x hx
        have h2 : x ≠ (i : Int) := fun e => hi (e ▸ hx)
        omega
def LotAt (H : Hp) (v : V) (l : List Int) : Prop := ∃ a, v = .ref a ∧ H a = some (.tup (l.map V.int))
theorem LotAt.tk {H H' : Hp} {v : V} {l : List Int} (h : LotAt H v l) (e : TK H H') : LotAt H' v l := let ⟨a, h1, h2⟩ := h; ⟨a, h1, e _ _ h2⟩
theorem LotAt.ne {H : Hp} {v : V} {l : List Int} (h : LotAt H v l) : ∃ a, v = .ref a ∧ H a = some (.tup (l.map V.int)) := h
def lotOf (H : Hp) : V → List Int
  | .ref a => match H a with
    | some (.tup ys) => ys.map unI
    | _ => []
  | _ => []
theorem lotOf_at {H : Hp} {v : V} {l : List Int} (h : LotAt H v l) : lotOf H v = l := by
  obtain ⟨a, rfl, h⟩ := h
  unfold lotOf
  simp only [h]
  show (l.map V.int).map unI = l
  rw [List.map_map]
  exact (List.map_congr_left fun x _ => rfl).trans (List.map_id l)
theorem lots_of {H : Hp} : ∀ {xs : List V} {Ls : List (List Int)}, Paired (LotAt H) xs Ls → xs.map (lotOf H) = Ls
  | _, _, .nil => rfl
  | _, _, .cons r t => by rw [List.map_cons, lotOf_at r, lots_of t]
theorem paired_lots {H : Hp} : ∀ {xs : List V}, (∀ x ∈ xs, ∃ l, LotAt H x l) → Paired (LotAt H) xs (xs.map (lotOf H))
  | [], _ => .nil
  | x :: xs, h => by
    obtain ⟨l, hl⟩ := h x List.mem_cons_self
    exact .cons (by rw [lotOf_at hl]; exact hl) (paired_lots fun y hy => h y (List.mem_cons_of_mem _ hy))
theorem paired_all {α β : Type} {F : α → β → Prop} : ∀ {xs : List α} {ys : List β}, Paired F xs ys → ∀ x ∈ xs, ∃ y, F x y
  | _, _, .nil, x, h => by simp at h
  | _, _, .cons r t, x, h => (List.mem_cons.mp h).elim (fun e => ⟨_, e ▸ r⟩) (paired_all t x)
theorem paired_imp {α β : Type} {F G : α → β → Prop} (h : ∀ a b, F a b → G a b) : ∀ {xs : List α} {ys : List β}, Paired F xs ys → Paired G xs ys
  | _, _, .nil => .nil
  | _, _, .cons r t => .cons (h _ _ r) (paired_imp h t)
theorem paired_mapR {α β γ : Type} {F : α → γ → Prop} {g : β → γ} : ∀ {xs : List α} {ys : List β}, Paired (fun a b => F a (g b)) xs ys → Paired F xs (ys.map g)
  | _, _, .nil => .nil
  | _, _, .cons r t => .cons r (paired_mapR t)
end
section
variable {P : Program} {w : World} {K : PySem.W.Frag} {mg : Str → Option Value} {base : Heap} {C : Addr}
def ek (l : List Int) : List L2.Key := l.map Sum.inl
theorem ek_v (l : List Int) : (ek l).map kV = l.map V.int := by unfold ek; rw [List.map_map]; rfl
theorem ek_inj {l m : List Int} (h : ek l = ek m) : l = m := List.map_inj_right (fun a b h => Sum.inl.inj h) |>.mp h
def enc (Ls : List (List Int)) : List (List L2.Key × V) := Ls.map fun l => (ek l, V.bl true)
theorem enc_any (Ls : List (List Int)) (l : List Int) : ((enc Ls).any fun kv => decide (kv.1 = ek l)) = decide (l ∈ Ls) := by
  unfold enc
  rw [List.any_map]
  by_cases h : l ∈ Ls
  · rw [decide_eq_true h, List.any_eq_true]
    exact ⟨l, h, by simp⟩
  · rw [decide_eq_false h, List.any_eq_false]
    intro m hm
    have : ek m ≠ ek l := fun e => h (ek_inj e ▸ hm)
    simp [this]
theorem enc_val (Ls : List (List Int)) (l : List Int) : (valV (enc Ls) (ek l)).isSome = decide (l ∈ Ls) := by rw [← valV_any, enc_any]
theorem enc_put {Ls : List (List Int)} {l : List Int} (h : l ∉ Ls) : putK (enc Ls) (ek l) (.bl true) = enc (Ls ++ [l]) := by
  unfold putK
  rw [enc_any, decide_eq_false h, if_neg (by simp)]
  unfold enc
  rw [List.map_append]
  rfl
theorem subA_len : ∀ {A B : List (List Int)}, A.Nodup → (∀ x ∈ A, x ∈ B) → A.length ≤ B.length
  | [], B, _, _ => Nat.zero_le _
  | a :: A, B, hn, hs => by
    have ha := hs a List.mem_cons_self
    have h2 := subA_len (A := A) (B := B.erase a) (List.nodup_cons.mp hn).2 fun x hx => by
      refine (List.mem_erase_of_ne (fun e => ?_)).mpr (hs x (List.mem_cons_of_mem _ hx))
      subst e
      exact (List.nodup_cons.mp hn).1 hx
    rw [List.length_erase_of_mem ha] at h2
    have := List.length_pos_of_mem ha
    rw [List.length_cons]
    omega
theorem tk_dT {H : Hp} {p : Addr} {o : HO} {kvs : List (List L2.Key × V)} (h : H p = some (.dT kvs)) : TK H (L2.upd H p o) := TK.upd (by rw [h]; rfl)
/-- how far the walk is: known lots, waiting ones -/
structure Walked (n : Int) (ps : List (Int × Int)) (l0 : List Int) (Ls Ws : List (List Int)) : Prop where
  nd : Ls.Nodup
  lot : ∀ l ∈ Ls, Lot n l
  reach : ∀ l ∈ Ls, Reach n ps l0 l
  start : l0 ∈ Ls
  sub : ∀ l ∈ Ws, l ∈ Ls
theorem Walked.len {n : Int} {ps : List (Int × Int)} {l0 : List Int} {Ls Ws : List (List Int)} (h : Walked n ps l0 Ls Ws) (n0 : 0 ≤ n) (n1 : n ≤ 10) : Ls.length ≤ 1024 := by
  have h1 := subA_len h.nd (B := subs n.toNat) fun l hl => (subs_mem _ l).mpr (by rw [Int.toNat_of_nonneg n0]; exact h.lot l hl)
  rw [subs_len] at h1
  exact Nat.le_trans h1 (Nat.le_trans (Nat.pow_le_pow_right (by decide) (show n.toNat ≤ 10 by omega)) (by decide))
def Done (n : Int) (ps : List (Int × Int)) (Ls : List (List Int)) (l : List Int) (k : Int) : Prop := ∀ p l', 0 ≤ p → p < k → Behind n ps l p l' → l' ∈ Ls
theorem Done.more {n : Int} {ps : List (Int × Int)} {Ls : List (List Int)} {l m : List Int} {k : Int} (h : Done n ps Ls l k) : Done n ps (Ls ++ [m]) l k := fun p l' h0 h1 b => List.mem_append.mpr (.inl (h p l' h0 h1 b))
theorem all_reached {n : Int} {ps : List (Int × Int)} {l0 l : List Int} {Ls : List (List Int)} (hW : Walked n ps l0 Ls []) (hD : ∀ l ∈ Ls, Done n ps Ls l n) (r : Reach n ps l0 l) : l ∈ Ls := by
  induction r with
  | refl => exact hW.start
  | step _ h0 h1 b ih => exact hD _ ih _ _ h0 h1 b
theorem rest_ne {n : Int} {ps : List (Int × Int)} {l : List Int} (n1 : 1 ≤ n) (h : chg n ps l = []) : l ≠ [] := by
  rintro rfl
  have := chg_nil.mp h 0 (by omega) (by omega)
  simp [says] at this
theorem mutS {H H' : Hp} {d : Addr} {o : HO} (e : Same H H') (h : H d = none) : Same H (L2.upd H' d o) := fun b q hb => by rw [upd_ne (ne_of_none hb h)]; exact e _ _ hb
theorem lots_front {H : Hp} : ∀ {xs : List V} {x : V} {Ls : List (List Int)}, Paired (LotAt H) (xs ++ [x]) Ls → ∃ Ms l, Ls = Ms ++ [l] ∧ Paired (LotAt H) xs Ms ∧ LotAt H x l
  | [], _, [l], .cons r _ => ⟨[], l, rfl, .nil, r⟩
  | [], _, [], h => by cases h
  | [], _, l :: m :: r, .cons _ t => by cases t
  | y :: ys, x, l :: ls, .cons r t => by
    obtain ⟨Ms, l', rfl, h1, h2⟩ := lots_front t
    exact ⟨l :: Ms, l', rfl, .cons r h1, h2⟩
theorem keys_lots {H : Hp} : ∀ {Ls : List (List Int)} {bs : List Addr}, IsKeys H (enc Ls) bs → Paired (LotAt H) (bs.map V.ref) Ls
  | [], _, h => by
    cases h
    exact .nil
  | l :: Ls, _, h => by
    cases h with
    | cons r t => exact .cons ⟨_, rfl, by rw [← ek_v]; exact r⟩ (keys_lots (Ls := Ls) t)
def sp_ends : Sp := fun vs H Q _ => ∃ p n ps t l, vs = [.ref p, .ref t] ∧ WebT H p n ps ∧ Good n ps ∧ 1 ≤ n ∧ n ≤ 10 ∧ H t = some (.tup (l.map V.int)) ∧ Lot n l ∧ ∀ q ys Ls H', Same H H' → H q = none → H' q = some (.lst ys) → Paired (LotAt H') ys Ls → Ls.Nodup → (∀ m, m ∈ Ls ↔ Reach n ps l m ∧ chg n ps m = []) → Q (.ref q) H'
abbrev s__law_ends : Stmt := (top 47)
theorem sc__law_ends : FnScope ["web", "stand", "known", "waiting", "here", "part", "later", "lot"] ["web", "stand"] (defScope s__law_ends) := ⟨rfl, rfl, rfl, by decide +kernel, rfl, by decide +kernel, by decide +kernel⟩

theorem ok_law_ends {f : Addr} {fd : FuncData} (F : Fun K "_law_ends" "_law_ends" s__law_ends f fd) (hm : mg "_law_ends" = some (.ref f)) (B : Bl mg) (c__law_called : Cal P w K mg base 3 "_law_called" ["web", "stand", "part"] sp_calledW) (c__law_is_rest : Cal P w K mg base 4 "_law_is_rest" ["web", "stand"] sp_is_restW) : Cal P w K mg base 5 "_law_ends" ["web", "stand"] sp_ends := by
  refine ⟨f, fd, F.ok sc__law_ends (fun vs H Q E h => ?_) (fun cdv A outer s H vs Q E hr h => ?_), hm, F.kp, F.binds (ps := ["web", "stand"]) fun _ _ _ _ _ _ us hl => match us, hl with | [_, _], _ => rfl⟩
  · obtain ⟨p, n, ps, t, l, rfl, _⟩ := h; rfl
  · obtain ⟨p, n, ps, t, l, rfl, W, G, n1, n2, ht, hl, k⟩ := h
    obtain ⟨u, us, hp, hu, hps⟩ := id W
    refine ⟨_, (pss_cons (ps_set (i := 2) sc__law_ends.nd rfl (by first | exact Or.inl rfl | exact Or.inr rfl) (pe_disp1T (Nat.lt_of_le_of_lt (Nat.add_le_add_left (by decide) _) (units65 hr)) (pv 1) pe_bl))
 (pss_cons (ps_set (i := 3) sc__law_ends.nd rfl (by first | exact Or.inl rfl | exact Or.inr rfl) (pe_lst (pa_cons (pv 1) pa_nil)))
 (pss_cons (ps_while PassesOwn.never (pt_cmpR op_gt (pe_callB call_len_seq (by rfl) B.len (by decide +kernel) (pa_cons (pv 3) pa_nil)) pe_int (nomark _)) (pss_cons (ps_set (i := 4) sc__law_ends.nd rfl (by first | exact Or.inl rfl | exact Or.inr rfl) (pe_bm0 PySem.F.plainAttrs_list PySem.F.slot_list_pop PySem.F.type_list_pop mt_pop (pv 3)))
 (pss_one (ps_for PassesOwn.never rfl (pi_range1 (by rfl) B.range (pa_cons (pe_ix ix_tup (pv 0) pe_int (fun _ _ => rfl)) pa_nil)) (pg_name (i := 5) sc__law_ends.nd rfl (by first | exact Or.inl rfl | exact Or.inr rfl))
  (pss_cons (ps_set (i := 6) sc__law_ends.nd rfl (by first | exact Or.inl rfl | exact Or.inr rfl) (pe_cal c__law_called (hr.mono (by first | decide | omega)) (pa_cons (pv 0) (pa_cons (pv 4) (pa_cons (pv 5) pa_nil)))))
 (pss_one (ps_if (pt_cmp (pc_dnotin (Nat.lt_of_le_of_lt (Nat.add_le_add_left (by decide) _) (units65 hr)) (pv 6) (pv 2))) (pss_cons (ps_dput (Nat.lt_of_le_of_lt (Nat.add_le_add_left (by decide) _) (units65 hr)) (pv 2) (pv 6) pe_bl rfl)
 (pss_one (ps_expr (pe_bm PySem.F.plainAttrs_list PySem.F.slot_list_append PySem.F.type_list_append mt_append (pv 3) (pa_cons (pv 6) pa_nil))))) pss_nil)))))))
 (pss_one (ps_ret (pe_callB (cr_sortedIt (Nat.lt_of_succ_lt (units65 hr))) (by rfl) B.sorted (by decide +kernel) (pa_cons (pe_lc (own := [("lot", 7)]) (by rfl) sc__law_ends.nd (pi_list (pe_callTy (call_list_dT rfl) (by rfl) B.list_ (by decide +kernel) (pa_cons (pv 2) pa_nil))) (blkOk_by (own := [("lot", 7)]) (N := ["web", "stand", "known", "waiting", "here", "part", "later", "lot"]) (sc := defScope s__law_ends) (by decide +kernel)) (fun _ _ _ _ _ => (pg_name (i := 7) sc__law_ends.nd rfl (by first | exact Or.inl rfl | exact Or.inr rfl))) (fun _ _ _ _ _ => (pts_one (pt_val (pe_cal c__law_is_rest (hr.mono (by first | decide | omega)) (pa_cons (pv 0) (pa_cons (pv 7) pa_nil)))))) (fun _ _ _ _ _ => (pv 7))) pa_nil))))))), ?_⟩
    refine fun d hd => ⟨_, rfl, t, ek l, rfl, ?_, upd_same, ?_⟩
    · rw [ek_v, upd_ne (ne_of_none ht hd)]; exact ht
    refine ⟨_, rfl, (by show 1 ≤ sizeLine; decide), fun wt hwt => ?_⟩
    have wd : wt ≠ d := fun e => by rw [e, upd_same] at hwt; cases hwt
    have hwt0 : H wt = none := by rw [upd_ne wd, upd_ne wd] at hwt; exact hwt
    have s0 : Same H (upd (upd H d (.dT [])) d (.dT [(ek l, .bl true)])) := mutS (mutS (L2.Same.refl H) hd) hd
    have s1 : Same H (upd (upd (upd H d (.dT [])) d (.dT [(ek l, .bl true)])) wt (.lst [.ref t])) := mutS s0 hwt0
    refine ⟨fun m σ H' => ∃ (Ls : List (List Int)) (ws : List V) (Ws : List (List Int)) (v4 v5 v6 v7 : Option V), σ = [some (.ref p), some (.ref t), some (.ref d), some (.ref wt), v4, v5, v6, v7] ∧ Same H H' ∧ H' d = some (.dT (enc Ls)) ∧ H' wt = some (.lst ws) ∧ Paired (LotAt H') ws Ws ∧ Walked n ps l Ls Ws ∧ (∀ x ∈ Ls, x ∉ Ws → Done n ps Ls x n) ∧ m = 2 * (1024 - Ls.length) + Ws.length ∧ 2 * (1024 - Ls.length) + Ws.length ≤ 3000,
      ⟨_, [l], [.ref t], [l], none, none, none, none, rfl, s1, (by rw [upd_ne (Ne.symm wd)]; exact upd_same), upd_same, .cons ⟨t, rfl, s1 _ _ ht⟩ .nil, ⟨by simp, fun x hx => by simp at hx; subst hx; exact hl, fun x hx => by simp at hx; subst hx; exact .refl, by simp, fun x hx => hx⟩, fun x hx hn => absurd hx hn, rfl, by show 2 * (1024 - 1) + 1 ≤ 3000; decide⟩, ?_⟩
    rintro m σ H1 ⟨Ls, ws, Ws, v4, v5, v6, v7, rfl, g1, hd1, hw1, hp1, WK, hD, rfl, hle0⟩
    refine ⟨_, rfl, wt, ws, rfl, .inl (SqL.of hw1), _, _, rfl, rfl, _, rfl, ?_⟩
    have hLs := WK.len (by omega) n2
    rcases List.eq_nil_or_concat ws with rfl | ⟨ws', y, ews⟩
    · -- nothing waits
      cases hp1
      refine iteF ?_
      have fin : ∀ m, Reach n ps l m → m ∈ Ls := fun m r => all_reached WK (fun x hx => hD x hx (by simp)) r
      refine ⟨_, rfl, d, enc Ls, rfl, .inl hd1, fun q bs hq hk => ?_⟩
      have eq := L2.Same.new (o := .lst (bs.map V.ref)) hq
      have hbs := paired_imp (fun _ _ h => LotAt.tk h eq.tk) (keys_lots hk)
      have g2 := g1.trans eq
      refine ⟨q, rfl, ⟨_, SqL.of upd_same⟩, fun D hD' => lc_data (walk_list (K := K) (a := q) (xs := bs.map V.ref)) Ls (Paired.len hbs).symm (fun x => decide (chg n ps x = [])) (fun H' v x => LotAt H' v x) (fun _ _ _ _ t q => q.tk t) hD' (fun H' e => SqL.of (e _ _ upd_same)) (Nat.lt_of_le_of_lt hLs (by decide)) ?_ (fun _ _ _ _ _ y => yat_same y) ?_⟩
      · rintro j x v H3 H4 Ny Nn hx e3 ⟨rfl, hv⟩ kE kN
        obtain ⟨b, rfl, hb⟩ : LotAt _ v x := paired_at hbs hv hx
        have lotx := WK.lot x (List.mem_of_getElem? hx)
        refine ⟨rfl, ?_⟩
        refine ⟨_, rfl, _, rfl, p, n, ps, b, x, rfl, W.same (g2.trans e3), G, n1, by omega, e3 _ _ hb, lotx, fun H5 e5 => ⟨_, rfl, ?_⟩⟩
        refine onb (fun c => ⟨_, rfl, kE _ _ (decide_eq_true c) e5 ⟨b, rfl, e5 _ _ (e3 _ _ hb)⟩⟩) (fun c => kN _ (decide_eq_false c) e5)
      · intro zs H3 e3 hzs hpr
        have g3 := g2.trans e3
        have mem : ∀ x, x ∈ Ls.filter (fun x => decide (chg n ps x = [])) ↔ Reach n ps l x ∧ chg n ps x = [] := fun x => by
          rw [List.mem_filter]
          exact ⟨fun ⟨a, b⟩ => ⟨WK.reach x a, of_decide_eq_true b⟩, fun ⟨a, b⟩ => ⟨fin x a, decide_eq_true b⟩⟩
        refine ⟨D, zs, lotOf H3, rfl, SqL.of hzs, fun x hx => ?_, .inl fun x hx => ?_, fun ys q2 hperm _ hq2 => ?_⟩
        · obtain ⟨m, hm⟩ := paired_all hpr x hx
          obtain ⟨b, e, hb⟩ := id hm
          rw [lotOf_at hm]
          exact ⟨b, e, hb⟩
        · have : lotOf H3 x ∈ zs.map (lotOf H3) := List.mem_map.mpr ⟨x, hx, rfl⟩
          rw [lots_of hpr] at this
          exact rest_ne n1 ((mem _).mp this).2
        · have e2 := L2.Same.new (o := .lst ys) hq2
          have hys : Paired (LotAt H3) ys (ys.map (lotOf H3)) := paired_lots fun y hy => paired_all hpr y (hperm.mem_iff.mp hy)
          have hpl : (ys.map (lotOf H3)).Perm (Ls.filter (fun x => decide (chg n ps x = []))) := by
            have := hperm.map (lotOf H3)
            rw [lots_of hpr] at this
            exact this
          exact k q2 ys (ys.map (lotOf H3)) _ (g3.trans e2) (L2.Same.free g3 hq2) upd_same (paired_imp (fun _ _ h => LotAt.tk h e2.tk) hys) (hpl.nodup_iff.mpr (WK.nd.filter _)) (fun m => by rw [hpl.mem_iff, mem])
    · rw [List.concat_eq_append] at ews
      subst ews
      rw [decide_eq_true (by rw [List.length_append]; simp)]
      obtain ⟨Ws', lh, rfl, hp', a, rfl, ha⟩ := lots_front hp1
      refine iteT ⟨fun σ' H' => ∃ m', m' < 2 * (1024 - Ls.length) + (Ws' ++ [lh]).length ∧ ∃ (Ls : List (List Int)) (ws : List V) (Ws : List (List Int)) (v4 v5 v6 v7 : Option V), σ' = [some (.ref p), some (.ref t), some (.ref d), some (.ref wt), v4, v5, v6, v7] ∧ Same H H' ∧ H' d = some (.dT (enc Ls)) ∧ H' wt = some (.lst ws) ∧ Paired (LotAt H') ws Ws ∧ Walked n ps l Ls Ws ∧ (∀ x ∈ Ls, x ∉ Ws → Done n ps Ls x n) ∧ m' = 2 * (1024 - Ls.length) + Ws.length ∧ 2 * (1024 - Ls.length) + Ws.length ≤ 3000, fun _ _ h => h, ?_⟩
      refine ⟨_, rfl, .inl ⟨rfl, _, SqL.of hw1⟩, wt, _, .ref a, rfl, rfl, hw1, (by simp), ?_⟩
      have hdl : (ws' ++ [V.ref a]).dropLast = ws' := List.dropLast_concat
      rw [hdl]
      have lhL : lh ∈ Ls := WK.sub lh (List.mem_append.mpr (.inr (by simp)))
      have g2 : Same H (upd H1 wt (.lst ws')) := mutS g1 hwt0
      have t2 : TK H1 (upd H1 wt (.lst ws')) := tk_lst hw1
      have nd1 : d ≠ wt := Ne.symm wd
      refine ⟨_, rfl, p, _, _, _, rfl, rfl, SqT.of (g2 _ _ hp), rfl, _, rfl, by omega, by omega, for_range (lo := 0) (n := n.toNat) (fun j σ H' => ∃ (Ms : List (List Int)) (zs : List V) (Zs : List (List Int)) (v5 v6 v7 : Option V), σ = [some (.ref p), some (.ref t), some (.ref d), some (.ref wt), some (.ref a), v5, v6, v7] ∧ Same H H' ∧ H' d = some (.dT (enc Ms)) ∧ H' wt = some (.lst zs) ∧ Paired (LotAt H') zs Zs ∧ H' a = some (.tup (lh.map V.int)) ∧ Walked n ps l Ms Zs ∧ lh ∈ Ms ∧ (∀ x ∈ Ms, x ∉ Zs → x ≠ lh → Done n ps Ms x n) ∧ Done n ps Ms lh j ∧ 2 * (1024 - Ms.length) + Zs.length + 1 ≤ 2 * (1024 - Ls.length) + (Ws' ++ [lh]).length)
        ⟨Ls, ws', Ws', v5, v6, v7, rfl, g2, (by rw [upd_ne nd1]; exact hd1), upd_same, paired_imp (fun _ _ h => LotAt.tk h t2) hp', t2 _ _ ha, ⟨WK.nd, WK.lot, WK.reach, WK.start, fun x hx => WK.sub x (List.mem_append.mpr (.inl hx))⟩, lhL, fun x hx hn hne => hD x hx (fun h => (List.mem_append.mp h).elim hn (fun h => hne (by simpa using h))), fun p l' h0 h1 _ => absurd h1 (by omega), by rw [List.length_append]; simp; omega⟩ ?_ ?_⟩
      · rintro j σ H3 hj ⟨Ms, zs, Zs, v5, v6, v7, rfl, g3, hd3, hw3, hp3, ha3, WK3, lh3, hD3, dn, hle⟩
        have lotlh := WK3.lot lh lh3
        have hMs := WK3.len (by omega) n2
        refine ⟨_, rfl, _, rfl, _, rfl, p, n, ps, a, lh, _, rfl, W.same g3, G, n1, by omega, ha3, lotlh, by omega, by omega, fun q l' H5 e5 nq hq bh => ?_⟩
        rw [Int.zero_add] at bh
        have hd5 := e5 _ _ hd3
        have hw5 := e5 _ _ hw3
        refine ⟨_, rfl, _, rfl, d, _, rfl, DGet.t (k := ek l') hd5 (by rw [ek_v]; exact hq), _, rfl, ?_⟩
        rw [enc_val]
        have dnext : ∀ Ns : List (List Int), (∀ x ∈ Ms, x ∈ Ns) → l' ∈ Ns → Done n ps Ns lh ((j + 1 : Nat) : Int) := fun Ns hsub hin p l'' h0 h1 b => by
          by_cases e : p = (j : Int)
          · subst e
            rw [b.uniq bh]; exact hin
          · exact hsub _ (dn p l'' h0 (by omega) b)
        have g5 := g3.trans e5
        refine onbN (fun c => ?_) (fun c => ?_)
        · refine ⟨_, rfl, _, rfl, d, _, rfl, DPut.t hd5 (by rw [ek_v]; exact hq) (by unfold enc; rw [List.length_map]; exact Nat.lt_of_le_of_lt hMs (by decide)), ?_⟩
          rw [enc_put c]
          have hw6 : (upd H5 d (.dT (enc (Ms ++ [l'])))) wt = some (.lst zs) := by rw [upd_ne wd]; exact hw5
          refine ⟨_, rfl, .inl ⟨rfl, _, SqL.of hw6⟩, _, rfl, wt, _, _, rfl, rfl, hw6, ?_, ?_⟩
          · rw [Paired.len hp3]
            exact Nat.lt_of_le_of_lt (show Zs.length ≤ 3000 by omega) (by decide)
          · have g6 : Same H (upd H5 d (.dT (enc (Ms ++ [l'])))) := mutS g5 hd
            have g7 := mutS (o := .lst (zs ++ [.ref q])) g6 hwt0
            have t6 : TK H5 (upd (upd H5 d (.dT (enc (Ms ++ [l'])))) wt (.lst (zs ++ [.ref q]))) := fun b xs hb => tk_lst hw6 _ _ (tk_dT hd5 _ _ hb)
            have WK4 : Walked n ps l (Ms ++ [l']) (Zs ++ [l']) := by
              refine ⟨?_, ?_, ?_, ?_, ?_⟩
              · exact List.pairwise_append.mpr ⟨WK3.nd, by simp, fun x hx y hy => by simp at hy; subst hy; exact fun e => c (e ▸ hx)⟩
              · intro x hx
                rcases List.mem_append.mp hx with hx | hx
                · exact WK3.lot x hx
                · simp at hx; subst hx; exact bh.1
              · intro x hx
                rcases List.mem_append.mp hx with hx | hx
                · exact WK3.reach x hx
                · simp at hx; subst hx; exact (WK3.reach lh lh3).step (by omega) (by omega) bh
              · exact List.mem_append.mpr (.inl WK3.start)
              · intro x hx
                rcases List.mem_append.mp hx with hx | hx
                · exact List.mem_append.mpr (.inl (WK3.sub x hx))
                · exact List.mem_append.mpr (.inr hx)
            refine ⟨Ms ++ [l'], zs ++ [.ref q], Zs ++ [l'], _, _, _, rfl, g7, (by rw [upd_ne nd1]; exact upd_same), upd_same, Paired.app (paired_imp (fun _ _ h => LotAt.tk (LotAt.tk h e5.tk) t6) hp3) (.cons ⟨q, rfl, t6 _ _ hq⟩ .nil), t6 _ _ (e5 _ _ ha3), WK4, List.mem_append.mpr (.inl lh3), ?_, dnext _ (fun x hx => List.mem_append.mpr (.inl hx)) (List.mem_append.mpr (.inr (by simp))), ?_⟩
            · intro x hx hn hne
              rcases List.mem_append.mp hx with hx | hx
              · exact (hD3 x hx (fun h => hn (List.mem_append.mpr (.inl h))) hne).more
              · exact absurd (List.mem_append.mpr (.inr hx)) hn
            · have h1 := WK4.len (by omega) n2
              have h2 : (Ms ++ [l']).length = Ms.length + 1 := by rw [List.length_append]; rfl
              have h3 : (Zs ++ [l']).length = Zs.length + 1 := by rw [List.length_append]; rfl
              omega
        · exact ⟨Ms, zs, Zs, _, _, _, rfl, g5, hd5, hw5, paired_imp (fun _ _ h => LotAt.tk h e5.tk) hp3, e5 _ _ ha3, WK3, lh3, hD3, dnext Ms (fun _ h => h) c, hle⟩
      · rintro σ H3 ⟨Ms, zs, Zs, v5, v6, v7, rfl, g3, hd3, hw3, hp3, ha3, WK3, lh3, hD3, dn, hle⟩
        rw [Int.toNat_of_nonneg (by omega)] at dn
        refine ⟨_, ?_, Ms, zs, Zs, _, _, _, _, rfl, g3, hd3, hw3, hp3, WK3, fun x hx hn => ?_, rfl, by omega⟩
        · omega
        · by_cases e : x = lh
          · rw [e]; exact dn
          · exact hD3 x hx hn e
end
end Bs

namespace Bs
open PySem PySem.Spec L2
/-! ## x & ~y -/
theorem add_or {a b : Nat} (h : a &&& b = 0) : a + b = a ||| b := by
  have ha : a < 2 ^ (a + b + 1) := Nat.lt_of_le_of_lt (show a ≤ a + b + 1 by omega) Nat.lt_two_pow_self
  have hb : b < 2 ^ (a + b + 1) := Nat.lt_of_le_of_lt (show b ≤ a + b + 1 by omega) Nat.lt_two_pow_self
  have hab : a + b < 2 ^ (a + b + 1) := Nat.lt_of_le_of_lt (show a + b ≤ a + b + 1 by omega) Nat.lt_two_pow_self
  have h2 : BitVec.ofNat (a + b + 1) a &&& BitVec.ofNat (a + b + 1) b = 0#(a + b + 1) := by
    apply BitVec.eq_of_toNat_eq
    rw [BitVec.toNat_and, BitVec.toNat_ofNat, BitVec.toNat_ofNat, Nat.mod_eq_of_lt ha, Nat.mod_eq_of_lt hb, h]
    simp
  have h3 := congrArg BitVec.toNat (BitVec.add_eq_or_of_and_eq_zero _ _ h2)
  rw [BitVec.toNat_add, BitVec.toNat_or, BitVec.toNat_ofNat, BitVec.toNat_ofNat, Nat.mod_eq_of_lt ha, Nat.mod_eq_of_lt hb, Nat.mod_eq_of_lt hab] at h3
  exact h3
def andn (x y : Nat) : Nat := x ^^^ (x &&& y)
theorem andn_bit (x y k : Nat) : (andn x y).testBit k = (x.testBit k && !y.testBit k) := by
  unfold andn
  rw [Nat.testBit_xor, Nat.testBit_and]
  cases x.testBit k <;> cases y.testBit k <;> rfl
theorem andn_sub (x y : Nat) : x - (x &&& y) = andn x y := by
  have h : (x &&& y) &&& andn x y = 0 := Nat.eq_of_testBit_eq fun k => by
    rw [Nat.testBit_and, Nat.testBit_and, andn_bit]
    cases x.testBit k <;> cases y.testBit k <;> simp
  have h2 : (x &&& y) ||| andn x y = x := Nat.eq_of_testBit_eq fun k => by
    rw [Nat.testBit_or, Nat.testBit_and, andn_bit]
    cases x.testBit k <;> cases y.testBit k <;> rfl
  have := add_or h
  omega
theorem and_inv (x y : Nat) : Builtin.bitAnd (x : Int) (Builtin.bitNot (y : Int)) = ((andn x y : Nat) : Int) := by
  unfold Builtin.bitAnd
  rw [decide_eq_true (Int.natCast_nonneg x), decide_eq_false (show ¬ 0 ≤ Builtin.bitNot (y : Int) by unfold Builtin.bitNot; omega)]
  show (x : Int) - (((x : Int).toNat &&& (Builtin.bitNot (Builtin.bitNot (y : Int))).toNat : Nat) : Int) = _
  have e : (Builtin.bitNot (Builtin.bitNot (y : Int))).toNat = y := by
    unfold Builtin.bitNot
    omega
  rw [e, Int.toNat_natCast, ← andn_sub]
  have : x &&& y ≤ x := Nat.and_le_left
  omega
/-! ## sets of parts as bits -/
abbrev Has (b k : Nat) : Prop := b.testBit k = true
def InN (n : Int) (b : Nat) : Prop := ∀ k, Has b k → (k : Int) < n
theorem InN.small {n : Int} {b : Nat} (h : InN n b) (hn : n ≤ 200) : b < 2 ^ 200 := Nat.lt_pow_two_of_testBit _ fun k hk => by
  cases c : b.testBit k with
  | false => rfl
  | true => have := h k c; omega
abbrev T (ps : List (Int × Int)) (q k : Nat) : Prop := norm (q : Int) (k : Int) ∈ ps
theorem T.symm {ps : List (Int × Int)} {q k : Nat} (h : T ps q k) : T ps k q := by
  show norm (k : Int) (q : Int) ∈ ps
  rw [norm_sym]; exact h
theorem T.lt {n : Int} {ps : List (Int × Int)} (G : Good n ps) {q k : Nat} (h : T ps q k) : (k : Int) < n := by
  have h1 := G.ok _ h
  unfold norm at h1
  dsimp only at h1
  split at h1 <;> split at h1 <;> omega
theorem T.irr {n : Int} {ps : List (Int × Int)} (G : Good n ps) {q : Nat} : ¬ T ps q q := norm_self G _
theorem bits_ext {a b : Nat} (h : ∀ k, Has a k ↔ Has b k) : a = b := Nat.eq_of_testBit_eq fun k => by
  cases c : a.testBit k with
  | true => exact ((h k).mp c).symm
  | false =>
    cases d : b.testBit k with
    | false => rfl
    | true => rw [(h k).mpr d] at c; cases c
/-- the parts tied to one of b -/
def Near (ps : List (Int × Int)) (b r : Nat) : Prop := ∀ k, Has r k ↔ ∃ q, Has b q ∧ T ps q k
theorem Near.uniq {ps : List (Int × Int)} {b r r' : Nat} (h : Near ps b r) (h' : Near ps b r') : r = r' := bits_ext fun k => (h k).trans (h' k).symm
/-- what hangs together with s inside i -/
structure Hull (ps : List (Int × Int)) (s i c : Nat) : Prop where
  seed : ∀ k, Has s k → Has c k
  sub : ∀ k, Has c k → Has i k
  shut : ∀ q k, Has c q → Has i k → T ps q k → Has c k
  least : ∀ X : Nat → Prop, (∀ k, Has s k → X k) → (∀ q k, X q → Has i k → T ps q k → X k) → ∀ k, Has c k → X k
theorem Hull.uniq {ps : List (Int × Int)} {s i c d : Nat} (h : Hull ps s i c) (h' : Hull ps s i d) : c = d :=
  bits_ext fun k => ⟨h.least (Has d) h'.seed (fun q k a b t => h'.shut q k a b t) k, h'.least (Has c) h.seed (fun q k a b t => h.shut q k a b t) k⟩
def Low (b k : Nat) : Prop := Has b k ∧ ∀ j, j < k → b.testBit j = false
theorem Low.uniq {b k k' : Nat} (h : Low b k) (h' : Low b k') : k = k' := by
  rcases Nat.lt_trichotomy k k' with c | c | c
  · have := h'.2 k c; rw [h.1] at this; cases this
  · exact c
  · have := h.2 k' c; rw [h'.1] at this; cases this
/-- the pieces of i -/
inductive Pieces (ps : List (Int × Int)) : Nat → List Nat → Prop where
  | nil : Pieces ps 0 []
  | cons {i k c : Nat} {cs : List Nat} (h : Low i k) (hc : Hull ps (2 ^ k) i c) (r : Pieces ps (i ^^^ c) cs) : Pieces ps i (c :: cs)
theorem Pieces.uniq {ps : List (Int × Int)} {i : Nat} {cs ds : List Nat} (h : Pieces ps i cs) (h' : Pieces ps i ds) : cs = ds := by
  induction h generalizing ds with
  | nil =>
    cases h' with
    | nil => rfl
    | cons h _ _ => have := h.1; simp [Has] at this
  | cons h hc r ih =>
    cases h' with
    | nil => have := h.1; simp [Has] at this
    | cons h2 hc2 r2 =>
      have e := h.uniq h2
      subst e
      have e2 := hc.uniq hc2
      subst e2
      rw [ih r2]
end Bs

namespace Bs
open PySem PySem.Spec L2
theorem xor_sub {i c k : Nat} (h : ∀ k, Has c k → Has i k) : Has (i ^^^ c) k ↔ Has i k ∧ ¬ Has c k := by
  unfold Has
  rw [Nat.testBit_xor]
  have := h k
  unfold Has at this
  cases hi : i.testBit k <;> cases hc : c.testBit k <;> simp_all
section
variable {n : Int} {ps : List (Int × Int)}
structure PiecesOk (ps : List (Int × Int)) (i : Nat) (cs : List Nat) : Prop where
  cover : ∀ k, Has i k → ∃ c ∈ cs, Has c k
  sub : ∀ c ∈ cs, ∀ k, Has c k → Has i k
  shut : ∀ c ∈ cs, ∀ q k, Has c q → Has i k → T ps q k → Has c k
  hung : ∀ c ∈ cs, ∃ s, Has c s ∧ ∀ X : Nat → Prop, X s → (∀ q k, X q → Has i k → T ps q k → X k) → ∀ k, Has c k → X k
  one : ∀ c ∈ cs, ∀ d ∈ cs, ∀ k, Has c k → Has d k → c = d
theorem Pieces.ok {i : Nat} {cs : List Nat} (h : Pieces ps i cs) : PiecesOk ps i cs := by
  induction h with
  | nil => exact ⟨fun k hk => by simp [Has] at hk, by simp, by simp, by simp, by simp⟩
  | @cons i k c cs hl hc r ih =>
    have hx : ∀ k, Has (i ^^^ c) k ↔ Has i k ∧ ¬ Has c k := fun k => xor_sub hc.sub
    refine ⟨fun j hj => ?_, fun d hd j hj => ?_, fun d hd q j hq hj ht => ?_, fun d hd => ?_, fun d hd e he j h1 h2 => ?_⟩
    · by_cases e : Has c j
      · exact ⟨c, by simp, e⟩
      · obtain ⟨d, hd, h1⟩ := ih.cover j ((hx j).mpr ⟨hj, e⟩)
        exact ⟨d, List.mem_cons_of_mem _ hd, h1⟩
    · rcases List.mem_cons.mp hd with rfl | hd
      · exact hc.sub j hj
      · exact ((hx j).mp (ih.sub d hd j hj)).1
    · rcases List.mem_cons.mp hd with rfl | hd
      · exact hc.shut q j hq hj ht
      · have hq2 := (hx q).mp (ih.sub d hd q hq)
        by_cases e : Has c j
        · exact absurd (hc.shut j q e hq2.1 ht.symm) hq2.2
        · exact ih.shut d hd q j hq ((hx j).mpr ⟨hj, e⟩) ht
    · rcases List.mem_cons.mp hd with rfl | hd
      · have hs : Has d k := hc.seed k (by simp [Has, Nat.testBit_two_pow])
        refine ⟨k, hs, fun X hX hcl j hj => hc.least X (fun j hj => ?_) hcl j hj⟩
        have : j = k := by simp [Has, Nat.testBit_two_pow] at hj; exact hj.symm
        rw [this]; exact hX
      · obtain ⟨s, h1, h2⟩ := ih.hung d hd
        exact ⟨s, h1, fun X hX hcl => h2 X hX fun q j a b t => hcl q j a ((hx j).mp b).1 t⟩
    · rcases List.mem_cons.mp hd with ed | hd'
      · rcases List.mem_cons.mp he with ee | he'
        · exact ed.trans ee.symm
        · subst ed
          exact absurd h1 ((hx j).mp (ih.sub e he' j h2)).2
      · rcases List.mem_cons.mp he with ee | he'
        · subst ee
          exact absurd h2 ((hx j).mp (ih.sub d hd' j h1)).2
        · exact ih.one d hd' e he' j h1 h2
/-- free parts -/
def FreeB (ps : List (Int × Int)) (b : Nat) : Prop := ∀ x y, Has b x → Has b y → ¬ T ps x y
/-- a part of each other piece -/
def lowN (c : Nat) : Nat := (Builtin.bitAnd (c : Int) (-(c : Int))).toNat
theorem lowN_is {c k : Nat} (h : Low c k) : lowN c = 2 ^ k := by
  unfold lowN
  rw [low_is h.1 h.2]
  have : (2 : Int) ^ k = ((2 ^ k : Nat) : Int) := by rw [Int.natCast_pow]; rfl
  rw [this, Int.toNat_natCast]
def heldF (part : Nat) : List Nat → Nat → Nat
  | [], h => h
  | c :: cs, h => heldF part cs (if c.testBit part = true then h else h ||| lowN c)
theorem has_or {a b k : Nat} : Has (a ||| b) k ↔ Has a k ∨ Has b k := by unfold Has; rw [Nat.testBit_or]; simp
theorem has_pow {a k : Nat} : Has (2 ^ a) k ↔ k = a := by unfold Has; rw [Nat.testBit_two_pow]; simp [eq_comm]
theorem low_of {c : Nat} (h : ∃ k, Has c k) : ∃ k, Low c k := by
  obtain ⟨k, hk⟩ := h
  have : c ≠ 0 := fun e => by rw [e] at hk; simp [Has] at hk
  obtain ⟨k, h1, h2⟩ := low_ex this
  exact ⟨k, h1, h2⟩
theorem heldF_has {part : Nat} : ∀ {cs : List Nat} {h k : Nat}, (∀ c ∈ cs, ∃ k, Has c k) → (Has (heldF part cs h) k ↔ Has h k ∨ ∃ c ∈ cs, ¬ Has c part ∧ Low c k)
  | [], h, k, _ => by simp [heldF]
  | c :: cs, h, k, hne => by
    rw [heldF, heldF_has (fun d hd => hne d (List.mem_cons_of_mem _ hd))]
    by_cases e : c.testBit part = true
    · rw [if_pos e]
      constructor
      · rintro (h1 | ⟨d, hd, h1⟩)
        · exact .inl h1
        · exact .inr ⟨d, List.mem_cons_of_mem _ hd, h1⟩
      · rintro (h1 | ⟨d, hd, h1, h2⟩)
        · exact .inl h1
        · rcases List.mem_cons.mp hd with rfl | hd
          · exact absurd e h1
          · exact .inr ⟨d, hd, h1, h2⟩
    · rw [if_neg e]
      obtain ⟨j, hj⟩ := low_of (hne c List.mem_cons_self)
      rw [has_or, lowN_is hj, has_pow]
      constructor
      · rintro ((h1 | rfl) | ⟨d, hd, h1⟩)
        · exact .inl h1
        · exact .inr ⟨c, List.mem_cons_self, e, hj⟩
        · exact .inr ⟨d, List.mem_cons_of_mem _ hd, h1⟩
      · rintro (h1 | ⟨d, hd, h1, h2⟩)
        · exact .inl (.inl h1)
        · rcases List.mem_cons.mp hd with rfl | hd
          · exact .inl (.inr (h2.uniq hj))
          · exact .inr ⟨d, hd, h1, h2⟩
theorem PiecesOk.ne {i : Nat} {cs : List Nat} (h : PiecesOk ps i cs) : ∀ c ∈ cs, ∃ k, Has c k := fun c hc => let ⟨s, h1, _⟩ := h.hung c hc; ⟨s, h1⟩
theorem held_free (G : Good n ps) {i part : Nat} {cs : List Nat} (h : PiecesOk ps i cs) (hp : Has i part ∨ ∀ k, Has i k → ¬ T ps part k) : FreeB ps (heldF part cs (2 ^ part)) := by
  have key : ∀ c ∈ cs, ¬ Has c part → ∀ k, Has c k → ¬ T ps k part := fun c hc hn k hk ht => by
    rcases hp with hp | hp
    · exact hn (h.shut c hc k part hk hp ht)
    · exact hp k (h.sub c hc k hk) ht.symm
  intro x y hx hy ht
  rcases (heldF_has h.ne).mp hx with hx | ⟨c, hc, c1, c2⟩
  · rw [has_pow] at hx
    subst hx
    rcases (heldF_has h.ne).mp hy with hy | ⟨d, hd, d1, d2⟩
    · rw [has_pow] at hy
      subst hy
      exact T.irr G ht
    · exact key d hd d1 y d2.1 ht.symm
  · rcases (heldF_has h.ne).mp hy with hy | ⟨d, hd, d1, d2⟩
    · rw [has_pow] at hy
      subst hy
      exact key c hc c1 x c2.1 ht
    · have hyc := h.shut c hc x y c2.1 (h.sub d hd y d2.1) ht
      have e := h.one c hc d hd y hyc d2.1
      subst e
      have := c2.uniq d2
      subst this
      exact T.irr G ht
theorem held_meets {i part : Nat} {cs : List Nat} (h : PiecesOk ps i cs) : ∀ c ∈ cs, ∃ k, Has c k ∧ Has (heldF part cs (2 ^ part)) k := fun c hc => by
  by_cases e : Has c part
  · exact ⟨part, e, (heldF_has h.ne).mpr (.inl (has_pow.mpr rfl))⟩
  · obtain ⟨k, hk⟩ := low_of (h.ne c hc)
    exact ⟨k, hk.1, (heldF_has h.ne).mpr (.inr ⟨c, hc, e, hk⟩)⟩
/-- each part that leaves them free, the least first -/
def growN (ts : List Nat) : List Int → Nat → Nat
  | [], b => b
  | q :: l, b => growN ts l (if (ts.getD q.toNat 0 &&& b) = 0 then b ||| 2 ^ q.toNat else b)
theorem and_zero {ts : List Nat} (TB : Tied n ps ts) {q : Nat} (hq : q < ts.length) {b : Nat} : (ts.getD q 0 &&& b) = 0 ↔ ∀ k, Has b k → ¬ T ps q k := by
  constructor
  · intro h k hk ht
    have := congrArg (fun z => z.testBit k) h
    simp only [Nat.testBit_and, TB.bit q k hq, Nat.zero_testBit] at this
    rw [decide_eq_true ht, hk] at this
    cases this
  · intro h
    refine Nat.eq_of_testBit_eq fun k => ?_
    rw [Nat.testBit_and, TB.bit q k hq, Nat.zero_testBit]
    cases c : b.testBit k with
    | false => simp
    | true => rw [decide_eq_false (h k c)]; rfl
theorem grown_ok (G : Good n ps) {ts : List Nat} (TB : Tied n ps ts) : ∀ {l : List Int} {b : Nat}, (∀ q ∈ l, 0 ≤ q ∧ q < n) → FreeB ps b → InN n b →
    (∀ k, Has b k → Has (growN ts l b) k) ∧ FreeB ps (growN ts l b) ∧ InN n (growN ts l b) ∧ ∀ q ∈ l, Has (growN ts l b) q.toNat ∨ ∃ k, Has (growN ts l b) k ∧ T ps q.toNat k
  | [], b, _, hf, hn => ⟨fun _ h => h, hf, hn, by simp⟩
  | q :: l, b, hl, hf, hn => by
    have hq := hl q List.mem_cons_self
    have hlt : q.toNat < ts.length := by have := TB.len; omega
    have hz := and_zero TB hlt (b := b)
    by_cases c : (ts.getD q.toNat 0 &&& b) = 0
    · have hno := hz.mp c
      have hf' : FreeB ps (b ||| 2 ^ q.toNat) := fun x y hx hy ht => by
        rcases has_or.mp hx with hx | hx
        · rcases has_or.mp hy with hy | hy
          · exact hf x y hx hy ht
          · rw [has_pow] at hy; subst hy; exact hno x hx ht.symm
        · rw [has_pow] at hx; subst hx
          rcases has_or.mp hy with hy | hy
          · exact hno y hy ht
          · rw [has_pow] at hy; subst hy; exact T.irr G ht
      have hn' : InN n (b ||| 2 ^ q.toNat) := fun k hk => by
        rcases has_or.mp hk with hk | hk
        · exact hn k hk
        · rw [has_pow] at hk; subst hk; omega
      obtain ⟨h1, h2, h3, h4⟩ := grown_ok G TB (fun x hx => hl x (List.mem_cons_of_mem _ hx)) hf' hn'
      rw [growN, if_pos c]
      refine ⟨fun k hk => h1 k (has_or.mpr (.inl hk)), h2, h3, fun x hx => ?_⟩
      rcases List.mem_cons.mp hx with rfl | hx
      · exact .inl (h1 _ (has_or.mpr (.inr (has_pow.mpr rfl))))
      · exact h4 x hx
    · obtain ⟨h1, h2, h3, h4⟩ := grown_ok G TB (fun x hx => hl x (List.mem_cons_of_mem _ hx)) hf hn
      rw [growN, if_neg c]
      refine ⟨h1, h2, h3, fun x hx => ?_⟩
      rcases List.mem_cons.mp hx with rfl | hx
      · have : ∃ k, Has b k ∧ T ps x.toNat k := Classical.byContradiction fun hno => c (hz.mpr fun k hk ht => hno ⟨k, hk, ht⟩)
        obtain ⟨k, a, t⟩ := this
        exact .inr ⟨k, h1 k a, t⟩
      · exact h4 x hx
/-! ## bits as lots -/
theorem mem_lotL {b : Nat} {x : Int} : x ∈ lotL b ↔ 0 ≤ x ∧ Has b x.toNat := by
  have h := isLot_L b
  constructor
  · intro hx
    have h0 := h.1 x hx
    refine ⟨h0, (h.2.2 x.toNat).mp ?_⟩
    rw [Int.toNat_of_nonneg h0]; exact hx
  · rintro ⟨h0, hx⟩
    have := (h.2.2 x.toNat).mpr hx
    rw [Int.toNat_of_nonneg h0] at this
    exact this
theorem lot_lotL {b : Nat} (h : InN n b) : Lot n (lotL b) := ⟨(isLot_L b).2.1, fun x hx => by
  obtain ⟨h0, h1⟩ := mem_lotL.mp hx
  have := h _ h1
  omega⟩
theorem says_T {b k : Nat} : says ps (lotL b) (k : Int) = true ↔ ∀ q, Has b q → ¬ T ps q k := by
  rw [says_iff]
  constructor
  · intro h q hq ht
    exact h (q : Int) (mem_lotL.mpr ⟨by omega, by simpa using hq⟩) ht.symm
  · intro h x hx ht
    obtain ⟨h0, h1⟩ := mem_lotL.mp hx
    refine h x.toNat h1 ?_
    show norm ((x.toNat : Nat) : Int) (k : Int) ∈ ps
    rw [Int.toNat_of_nonneg h0, norm_sym]; exact ht
theorem free_rest (G : Good n ps) {g : Nat} (hn : InN n g) (hf : FreeB ps g) (hm : ∀ k : Nat, (k : Int) < n → Has g k ∨ ∃ q, Has g q ∧ T ps q k) : RestL n ps (lotL g) := by
  refine ⟨lot_lotL hn, chg_nil.mpr fun p p0 p1 => ?_⟩
  have ep : ((p.toNat : Nat) : Int) = p := Int.toNat_of_nonneg p0
  have hmem : p ∈ lotL g ↔ Has g p.toNat := ⟨fun h => (mem_lotL.mp h).2, fun h => mem_lotL.mpr ⟨p0, h⟩⟩
  by_cases c : Has g p.toNat
  · rw [decide_eq_true (hmem.mpr c), ← ep]
    exact says_T.mpr fun q hq ht => hf q p.toNat hq c ht
  · rw [decide_eq_false (fun h => c (hmem.mp h))]
    rcases hm p.toNat (by omega) with h | ⟨q, hq, ht⟩
    · exact absurd h c
    · refine Bool.eq_false_iff.mpr fun h => ?_
      rw [← ep] at h
      exact says_T.mp h q hq ht
theorem behind_no {b k : Nat} (hn : InN n b) (hk : (k : Int) < n) (h : ∃ q, Has b q ∧ T ps q k) : Behind n ps (lotL b) (k : Int) (lotL (andn b (2 ^ k))) := by
  have hs : ¬ says ps (lotL b) (k : Int) = true := fun e => let ⟨q, a, t⟩ := h; says_T.mp e q a t
  refine ⟨lot_lotL fun j hj => ?_, fun x => ?_⟩
  · have : Has b j := by unfold Has at hj; rw [andn_bit] at hj; simp at hj; exact hj.1
    exact hn j this
  · rw [if_neg hs, mem_lotL, mem_lotL]
    unfold Has
    rw [andn_bit, Nat.testBit_two_pow]
    constructor
    · rintro ⟨h0, h1⟩
      simp at h1
      exact ⟨⟨h0, h1.1⟩, fun e => h1.2 (by rw [e]; simp)⟩
    · rintro ⟨⟨h0, h1⟩, h2⟩
      refine ⟨h0, ?_⟩
      have : ¬ k = x.toNat := fun e => h2 (by omega)
      simp [h1, this]
theorem behind_yes {b k : Nat} (hn : InN n b) (hk : (k : Int) < n) (h : ∀ q, Has b q → ¬ T ps q k) : Behind n ps (lotL b) (k : Int) (lotL (b ||| 2 ^ k)) := by
  have hs : says ps (lotL b) (k : Int) = true := says_T.mpr h
  refine ⟨lot_lotL fun j hj => ?_, fun x => ?_⟩
  · rcases has_or.mp hj with hj | hj
    · exact hn j hj
    · rw [has_pow] at hj; subst hj; exact hk
  · rw [if_pos hs, mem_lotL, mem_lotL, has_or, has_pow]
    constructor
    · rintro ⟨h0, h1 | h1⟩
      · exact .inl ⟨h0, h1⟩
      · exact .inr (by omega)
    · rintro (⟨h0, h1⟩ | rfl)
      · exact ⟨h0, .inl h1⟩
      · exact ⟨by omega, .inr (by simp)⟩
end
end Bs

namespace Bs
open PySem PySem.Spec L2
theorem has_andn {a b k : Nat} : Has (andn a b) k ↔ Has a k ∧ ¬ Has b k := by
  unfold Has
  rw [andn_bit]
  cases a.testBit k <;> cases b.testBit k <;> simp
theorem has_and {a b k : Nat} : Has (a &&& b) k ↔ Has a k ∧ Has b k := by
  unfold Has
  rw [Nat.testBit_and]
  cases a.testBit k <;> cases b.testBit k <;> simp
theorem has_zero {k : Nat} : ¬ Has 0 k := by simp [Has]
theorem has_ex {b : Nat} (h : b ≠ 0) : ∃ k, Has b k := by
  obtain ⟨k, h1, _⟩ := low_ex h
  exact ⟨k, h1⟩
theorem isLot_eq {l : List Int} {b : Nat} (h : IsLot l b) : l = lotL b := by
  have h2 := isLot_L b
  refine ups_ext h.2.1 h2.2.1 fun x => ⟨fun hx => ?_, fun hx => ?_⟩
  · have := (h2.2.2 x.toNat).mpr ((h.2.2 x.toNat).mp (by rw [Int.toNat_of_nonneg (h.1 x hx)]; exact hx))
    rw [Int.toNat_of_nonneg (h.1 x hx)] at this
    exact this
  · have := (h.2.2 x.toNat).mpr ((h2.2.2 x.toNat).mp (by rw [Int.toNat_of_nonneg (h2.1 x hx)]; exact hx))
    rw [Int.toNat_of_nonneg (h2.1 x hx)] at this
    exact this
theorem has_lotL {b k : Nat} : ((k : Int)) ∈ lotL b ↔ Has b k := (isLot_L b).2.2 k
theorem lotL_bits {n : Int} {l : List Int} (h : Lot n l) : lotL (bitsN l) = l := (isLot_eq (isLot_bits h)).symm
theorem Tied.uniq {n : Int} {ps : List (Int × Int)} {ts us : List Nat} (h : Tied n ps ts) (h' : Tied n ps us) : ts = us := by
  have hl : ts.length = us.length := by have := h.len; have := h'.len; omega
  refine List.ext_getElem hl fun i h1 h2 => Nat.eq_of_testBit_eq fun k => ?_
  have a := h.bit i k h1
  have b := h'.bit i k h2
  rw [List.getD_eq_getElem?_getD, List.getElem?_eq_getElem h1] at a
  rw [List.getD_eq_getElem?_getD, List.getElem?_eq_getElem h2] at b
  exact a.trans b.symm
/-- layer by layer: what is to fall, the farthest first -/
inductive Falls (ps : List (Int × Int)) : Nat → Nat → List Int → List Int → Prop where
  | nil {edge : Nat} {acc : List Int} : Falls ps 0 edge acc acc
  | cons {left edge r : Nat} {acc out : List Int} (h : left ≠ 0) (hr : Near ps edge r) (t : Falls ps (andn left (r &&& left)) (r &&& left) (lotL (r &&& left) ++ acc) out) : Falls ps left edge acc out
theorem Falls.uniq {ps : List (Int × Int)} {left edge : Nat} {acc o o' : List Int} (h : Falls ps left edge acc o) (h' : Falls ps left edge acc o') : o = o' := by
  induction h generalizing o' with
  | nil =>
    cases h' with
    | nil => rfl
    | cons h _ _ => exact absurd rfl h
  | cons h hr t ih =>
    cases h' with
    | nil => exact absurd rfl h
    | cons h2 hr2 t2 =>
      have e := hr.uniq hr2
      subst e
      exact ih t2
section
variable {n : Int} {ps : List (Int × Int)}
theorem fall_row {A : Nat} : ∀ (l : List Int) {B : Nat}, InN n B → (∀ p ∈ l, 0 ≤ p ∧ p < n) → (∀ p ∈ l, ∃ q, Has A q ∧ T ps q p.toNat) → (∀ k, Has A k → Has B k) → (∀ k : Nat, Has A k → (k : Int) ∉ l) →
    ∃ B', Row n ps l (lotL B) (lotL B') ∧ InN n B' ∧ ∀ k : Nat, Has B' k ↔ Has B k ∧ (k : Int) ∉ l
  | [], B, hB, _, _, _, _ => ⟨B, rfl, hB, fun k => by simp⟩
  | p :: l, B, hB, ok, hn, hA, hd => by
    have hp := ok p List.mem_cons_self
    have ep : ((p.toNat : Nat) : Int) = p := Int.toNat_of_nonneg hp.1
    obtain ⟨q, q1, q2⟩ := hn p List.mem_cons_self
    have hb := behind_no (ps := ps) hB (k := p.toNat) (by omega) ⟨q, hA q q1, q2⟩
    rw [ep] at hb
    obtain ⟨B', r, h1, h2⟩ := fall_row l (A := A) (B := andn B (2 ^ p.toNat)) (fun k hk => hB k (has_andn.mp hk).1) (fun x hx => ok x (List.mem_cons_of_mem _ hx)) (fun x hx => hn x (List.mem_cons_of_mem _ hx))
      (fun k hk => has_andn.mpr ⟨hA k hk, fun e => by
        rw [has_pow] at e
        refine hd k hk ?_
        rw [e, ep]; exact List.mem_cons_self⟩) (fun k hk hm => hd k hk (List.mem_cons_of_mem _ hm))
    refine ⟨B', ⟨_, hb, r⟩, h1, fun k => ?_⟩
    rw [h2, has_andn, has_pow, List.mem_cons]
    have : k = p.toNat ↔ (k : Int) = p := by omega
    rw [this, not_or, and_assoc]
theorem rise_row {E : Nat} (hE : FreeB ps E) : ∀ (l : List Int) {B : Nat}, InN n B → (∀ p ∈ l, 0 ≤ p ∧ p < n) → (∀ p ∈ l, Has E p.toNat) → (∀ k, Has B k → Has E k) →
    ∃ B', Row n ps l (lotL B) (lotL B') ∧ InN n B' ∧ ∀ k : Nat, Has B' k ↔ Has B k ∨ (k : Int) ∈ l
  | [], B, hB, _, _, _ => ⟨B, rfl, hB, fun k => by simp⟩
  | p :: l, B, hB, ok, hn, hA => by
    have hp := ok p List.mem_cons_self
    have ep : ((p.toNat : Nat) : Int) = p := Int.toNat_of_nonneg hp.1
    have hb := behind_yes (ps := ps) hB (k := p.toNat) (by omega) fun q hq ht => hE q p.toNat (hA q hq) (hn p List.mem_cons_self) ht
    rw [ep] at hb
    obtain ⟨B', r, h1, h2⟩ := rise_row hE l (B := B ||| 2 ^ p.toNat) (fun k hk => by
      rcases has_or.mp hk with hk | hk
      · exact hB k hk
      · rw [has_pow] at hk; subst hk; omega) (fun x hx => ok x (List.mem_cons_of_mem _ hx)) (fun x hx => hn x (List.mem_cons_of_mem _ hx))
      (fun k hk => by
        rcases has_or.mp hk with hk | hk
        · exact hA k hk
        · rw [has_pow] at hk; subst hk; exact hn p List.mem_cons_self)
    refine ⟨B', ⟨_, hb, r⟩, h1, fun k => ?_⟩
    rw [h2, has_or, has_pow, List.mem_cons]
    have : k = p.toNat ↔ (k : Int) = p := by omega
    rw [this, or_assoc]
structure FInv (n : Int) (ps : List (Int × Int)) (S E left edge : Nat) (acc : List Int) : Prop where
  sub : ∀ k, Has left k → Has S k
  ed : ∀ k, Has edge k → Has S k ∧ ¬ Has left k
  off : ∀ q k, Has S q → ¬ Has left q → ¬ Has edge q → Has left k → ¬ T ps q k
  keep : ∀ k, Has S k → Has E k → ¬ Has left k
  row : Row n ps acc (lotL (andn S left)) (lotL (S &&& E))
  ok : ∀ x ∈ acc, 0 ≤ x ∧ x < n
  nd : acc.Nodup
  out : ∀ x ∈ acc, ¬ Has left x.toNat
theorem nodup_len {l : List Int} (nd : l.Nodup) (ok : ∀ x ∈ l, 0 ≤ x ∧ x < n) (h0 : 0 ≤ n) : (l.length : Int) ≤ n := by
  have := sub_len nd (B := (List.range n.toNat).map fun k : Nat => (k : Int)) fun x hx => List.mem_map.mpr ⟨x.toNat, List.mem_range.mpr (by have := ok x hx; omega), Int.toNat_of_nonneg (ok x hx).1⟩
  rw [List.length_map, List.length_range] at this
  omega
theorem FInv.init (n : Int) (ps : List (Int × Int)) (S E : Nat) : FInv n ps S E (andn S E) (S &&& E) [] := by
  refine ⟨fun k hk => (has_andn.mp hk).1, fun k hk => ⟨(has_and.mp hk).1, fun h => (has_andn.mp h).2 (has_and.mp hk).2⟩, fun q k hq hl he _ => ?_, fun k hs he h => (has_andn.mp h).2 he, ?_, by simp, .nil, by simp⟩
  · exact absurd (has_and.mpr ⟨hq, Classical.byContradiction fun h => hl (has_andn.mpr ⟨hq, h⟩)⟩) he
  · have e : andn S (andn S E) = S &&& E := bits_ext fun k => by
      rw [has_andn, has_andn, has_and]
      constructor
      · rintro ⟨h1, h2⟩
        exact ⟨h1, Classical.byContradiction fun h => h2 ⟨h1, h⟩⟩
      · rintro ⟨h1, h2⟩
        exact ⟨h1, fun h => h.2 h2⟩
    rw [e]
    exact rfl
theorem FInv.more {S E left edge r : Nat} {acc : List Int} {cs : List Nat} (h : FInv n ps S E left edge acc) (hS : PiecesOk ps S cs) (hm : ∀ c ∈ cs, ∃ k, Has c k ∧ Has E k) (h0 : left ≠ 0) (hr : Near ps edge r) : r &&& left ≠ 0 := fun e0 => by
  have noT : ∀ q k, Has edge q → Has left k → ¬ T ps q k := fun q k hq hk ht => has_zero (k := k) (e0 ▸ has_and.mpr ⟨(hr k).mpr ⟨q, hq, ht⟩, hk⟩)
  have no : ∀ q k, Has S q → ¬ Has left q → Has left k → ¬ T ps q k := fun q k hq hl hk ht => by
    by_cases he : Has edge q
    · exact noT q k he hk ht
    · exact h.off q k hq hl he hk ht
  obtain ⟨j, hj⟩ := has_ex h0
  obtain ⟨c, hc, hcj⟩ := hS.cover j (h.sub j hj)
  obtain ⟨k, hk, hE⟩ := hm c hc
  have hkS := hS.sub c hc k hk
  obtain ⟨s, hs, hcl⟩ := hS.hung c hc
  by_cases hls : Has left s
  · refine h.keep k hkS hE (hcl (fun x => Has left x) hls (fun q x hq hx ht => ?_) k hk)
    exact Classical.byContradiction fun hno => no x q hx hno hq ht.symm
  · refine (hcl (fun x => Has S x ∧ ¬ Has left x) ⟨hS.sub c hc s hs, hls⟩ (fun q x hq hx ht => ⟨hx, fun hlx => no q x hq.1 hq.2 hlx ht⟩) j hcj).2 hj
theorem FInv.step {S E left edge r : Nat} {acc : List Int} (h : FInv n ps S E left edge acc) (hn : InN n S) (hr : Near ps edge r) : FInv n ps S E (andn left (r &&& left)) (r &&& left) (lotL (r &&& left) ++ acc) := by
  refine ⟨fun k hk => h.sub k (has_andn.mp hk).1, fun k hk => ⟨h.sub k (has_and.mp hk).2, fun h2 => (has_andn.mp h2).2 hk⟩, fun q k hq hl he hk ht => ?_, fun k hs he hl => h.keep k hs he (has_andn.mp hl).1, ?_, fun x hx => ?_, ?_, fun x hx => ?_⟩
  · have hk' := has_andn.mp hk
    have hlq : ¬ Has left q := fun hl2 => hl (has_andn.mpr ⟨hl2, he⟩)
    by_cases c : Has edge q
    · exact hk'.2 (has_and.mpr ⟨(hr k).mpr ⟨q, c, ht⟩, hk'.1⟩)
    · exact h.off q k hq hlq c hk'.1 ht
  · have hnB : InN n (andn S (andn left (r &&& left))) := fun k hk => hn k (has_andn.mp hk).1
    obtain ⟨B', r1, _, r3⟩ := fall_row (n := n) (ps := ps) (A := edge) (lotL (r &&& left)) (B := andn S (andn left (r &&& left))) hnB
      (fun p hp => by
        obtain ⟨p0, p1⟩ := mem_lotL.mp hp
        have := hn _ (h.sub _ (has_and.mp p1).2)
        omega)
      (fun p hp => by
        obtain ⟨p0, p1⟩ := mem_lotL.mp hp
        obtain ⟨q, q1, q2⟩ := (hr _).mp (has_and.mp p1).1
        exact ⟨q, q1, q2⟩)
      (fun k hk => has_andn.mpr ⟨(h.ed k hk).1, fun h2 => (h.ed k hk).2 (has_andn.mp h2).1⟩)
      (fun k hk hm => (h.ed k hk).2 (has_and.mp (has_lotL.mp hm)).2)
    have e : B' = andn S left := bits_ext fun k => by
      rw [r3, has_andn, has_andn, has_andn, has_lotL]
      constructor
      · rintro ⟨⟨a, b⟩, c⟩
        exact ⟨a, fun hl => b ⟨hl, c⟩⟩
      · rintro ⟨a, b⟩
        exact ⟨⟨a, fun hl => b hl.1⟩, fun hl => b (has_and.mp hl).2⟩
    rw [e] at r1
    exact r1.app h.row
  · rcases List.mem_append.mp hx with hx | hx
    · obtain ⟨p0, p1⟩ := mem_lotL.mp hx
      have := hn _ (h.sub _ (has_and.mp p1).2)
      omega
    · exact h.ok x hx
  · refine List.nodup_append.mpr ⟨upi_nodup (isLot_L _).2.1, h.nd, fun x hx y hy e => ?_⟩
    subst e
    exact h.out x hy (has_and.mp (mem_lotL.mp hx).2).2
  · intro hl
    rcases List.mem_append.mp hx with hx | hx
    · exact (has_andn.mp hl).2 (mem_lotL.mp hx).2
    · exact h.out x hx (has_andn.mp hl).1
theorem FInv.fin {S E edge : Nat} {acc : List Int} (h : FInv n ps S E 0 edge acc) (hn : InN n S) (hnE : InN n E) (hE : FreeB ps E) :
    Row n ps (acc ++ lotL (andn E S)) (lotL S) (lotL E) ∧ ∀ x ∈ acc ++ lotL (andn E S), 0 ≤ x ∧ x < n := by
  have e0 : andn S 0 = S := bits_ext fun k => by rw [has_andn]; exact ⟨fun h => h.1, fun h => ⟨h, has_zero⟩⟩
  have hr := h.row
  rw [e0] at hr
  have ok2 : ∀ p ∈ lotL (andn E S), 0 ≤ p ∧ p < n := fun p hp => by
    obtain ⟨p0, p1⟩ := mem_lotL.mp hp
    have := hnE _ (has_andn.mp p1).1
    omega
  obtain ⟨B', r1, _, r3⟩ := rise_row (n := n) (ps := ps) hE (lotL (andn E S)) (B := S &&& E) (fun k hk => hn k (has_and.mp hk).1) ok2
    (fun p hp => (has_andn.mp (mem_lotL.mp hp).2).1) (fun k hk => (has_and.mp hk).2)
  have e : B' = E := bits_ext fun k => by
    rw [r3, has_and, has_lotL, has_andn]
    constructor
    · rintro (h | h)
      · exact h.2
      · exact h.1
    · intro h
      by_cases c : Has S k
      · exact .inl ⟨c, h⟩
      · exact .inr ⟨h, c⟩
  rw [e] at r1
  exact ⟨hr.app r1, fun x hx => (List.mem_append.mp hx).elim (h.ok x) (ok2 x)⟩
theorem andn_lt {a b : Nat} (h : (b &&& a) ≠ 0) : andn a (b &&& a) < a := by
  have e1 := andn_sub a (b &&& a)
  have e2 : a &&& (b &&& a) = b &&& a := bits_ext fun k => by rw [has_and, has_and]; exact ⟨fun h => h.2, fun h => ⟨h.2, h⟩⟩
  have : b &&& a ≤ a := Nat.and_le_right
  omega
/-! ## the row that slips to yes -/
def heldN (part : Nat) (cs : List Nat) : Nat := heldF part cs (2 ^ part)
structure SlipIs (n : Int) (ps : List (Int × Int)) (b part : Nat) (row : List Int) : Prop where
  ex : ∃ ts cs r g out, Tied n ps ts ∧ Pieces ps b cs ∧ Near ps (heldN part cs) r ∧ g = growN ts (lotL (andn (andn (2 ^ n.toNat - 1) (heldN part cs)) r)) (heldN part cs) ∧ Falls ps (andn b g) (b &&& g) [] out ∧ row = out ++ lotL (andn g b)
theorem SlipIs.uniq {b part : Nat} {row row' : List Int} (h : SlipIs n ps b part row) (h' : SlipIs n ps b part row') : row = row' := by
  obtain ⟨ts, cs, r, g, out, a1, a2, a3, rfl, a5, rfl⟩ := h.ex
  obtain ⟨ts', cs', r', g', out', b1, b2, b3, rfl, b5, rfl⟩ := h'.ex
  have e1 := a1.uniq b1
  have e2 := a2.uniq b2
  subst e1 e2
  have e3 := a3.uniq b3
  subst e3
  rw [a5.uniq b5]
end
end Bs

namespace Bs
open PySem PySem.Spec L2
section
variable {n : Int} {ps : List (Int × Int)}
theorem slip_ok (G : Good n ps) {ts : List Nat} (TB : Tied n ps ts) {b part r : Nat} {cs : List Nat} (hb : InN n b) (hp : (part : Int) < n) (P : PiecesOk ps b cs) (hpp : Has b part ∨ ∀ k, Has b k → ¬ T ps part k) (hr : Near ps (heldN part cs) r) :
    let g := growN ts (lotL (andn (andn (2 ^ n.toNat - 1) (heldN part cs)) r)) (heldN part cs)
    RestL n ps (lotL g) ∧ FreeB ps g ∧ InN n g ∧ Has g part ∧ ∀ c ∈ cs, ∃ k, Has c k ∧ Has g k := by
  intro g
  have hf := held_free G P hpp
  have hh : InN n (heldN part cs) := fun k hk => by
    rcases (heldF_has P.ne).mp hk with hk | ⟨c, hc, _, h2⟩
    · rw [has_pow] at hk; subst hk; exact hp
    · exact hb k (P.sub c hc k h2.1)
  have hl : ∀ q ∈ lotL (andn (andn (2 ^ n.toNat - 1) (heldN part cs)) r), 0 ≤ q ∧ q < n := fun q hq => by
    obtain ⟨q0, q1⟩ := mem_lotL.mp hq
    have h1 := (has_andn.mp (has_andn.mp q1).1).1
    unfold Has at h1
    rw [Nat.testBit_two_pow_sub_one] at h1
    have := of_decide_eq_true h1
    omega
  obtain ⟨g1, g2, g3, g4⟩ := grown_ok G TB hl hf hh
  refine ⟨free_rest G g3 g2 fun k hk => ?_, g2, g3, g1 _ ((heldF_has P.ne).mpr (.inl (has_pow.mpr rfl))), fun c hc => ?_⟩
  · by_cases c1 : Has (heldN part cs) k
    · exact .inl (g1 k c1)
    · by_cases c2 : Has r k
      · obtain ⟨q, q1, q2⟩ := (hr k).mp c2
        exact .inr ⟨q, g1 q q1, q2⟩
      · have : (k : Int) ∈ lotL (andn (andn (2 ^ n.toNat - 1) (heldN part cs)) r) := has_lotL.mpr (has_andn.mpr ⟨has_andn.mpr ⟨by
          unfold Has
          rw [Nat.testBit_two_pow_sub_one]
          exact decide_eq_true (by omega), c1⟩, c2⟩)
        rcases g4 _ this with h | ⟨q, q1, q2⟩
        · exact .inl (by rw [Int.toNat_natCast] at h; exact h)
        · exact .inr ⟨q, q1, by rw [Int.toNat_natCast] at q2; exact q2.symm⟩
  · obtain ⟨k, k1, k2⟩ := held_meets P c hc
    exact ⟨k, k1, g1 k k2⟩
end
section
variable {P : Program} {w : World} {K : PySem.W.Frag} {mg : Str → Option Value} {base : Heap} {C : Addr}
def sp_tied_to_any : Sp := fun vs H Q _ => ∃ (tb : Addr) (ts : List Nat) (n : Int) (ps : List (Int × Int)) (b : Nat), vs = [.ref tb, .int (b : Nat)] ∧ H tb = some (.lst (nints ts)) ∧ Tied n ps ts ∧ Good n ps ∧ n ≤ 200 ∧ InN n b ∧ ∀ (r : Nat) H', Same H H' → Near ps b r → InN n r → Q (.int (r : Nat)) H'
abbrev s_tied_to_any : Stmt := (top 15)
theorem sc_tied_to_any : FnScope ["tied", "bits", "found", "part"] ["tied", "bits"] (defScope s_tied_to_any) := ⟨rfl, rfl, rfl, by decide +kernel, rfl, by decide +kernel, by decide +kernel⟩

theorem ok_tied_to_any {f : Addr} {fd : FuncData} (F : Fun K "tied_to_any" "tied_to_any" s_tied_to_any f fd) (hm : mg "tied_to_any" = some (.ref f)) (B : Bl mg) (c_lot_of : Cal P w K mg base 1 "lot_of" ["bits"] sp_lot_of) : Cal P w K mg base 2 "tied_to_any" ["tied", "bits"] sp_tied_to_any := by
  refine ⟨f, fd, F.ok sc_tied_to_any (fun vs H Q E h => ?_) (fun cdv A outer s H vs Q E hr h => ?_), hm, F.kp, F.binds (ps := ["tied", "bits"]) fun _ _ _ _ _ _ us hl => match us, hl with | [_, _], _ => rfl⟩
  · obtain ⟨tb, ts, n, ps, b, rfl, _⟩ := h; rfl
  · obtain ⟨tb, ts, n, ps, b, rfl, htb, TB, G, n2, hb, k⟩ := h
    refine ⟨_, (pss_cons (ps_set (i := 2) sc_tied_to_any.nd rfl (by first | exact Or.inl rfl | exact Or.inr rfl) pe_int)
 (pss_cons (ps_for PassesOwn.never rfl (pi_tup (pe_cal c_lot_of (hr.mono (by first | decide | omega)) (pa_cons (pv 1) pa_nil))) (pg_name (i := 3) sc_tied_to_any.nd rfl (by first | exact Or.inl rfl | exact Or.inr rfl))
  (pss_one (ps_aug (i := 2) sc_tied_to_any.nd rfl (by first | exact Or.inl rfl | exact Or.inr rfl) (pe_ix ix_list (pv 0) (pv 3) (fun _ _ => rfl)) ip_or)))
 (pss_one (ps_ret (pv 2))))), ?_⟩
    refine ⟨_, rfl, b, rfl, hb.small n2, fun p l H1 e1 np hp hl => ?_⟩
    refine ⟨p, rfl, ⟨_, SqT.of hp⟩, for_tup (K := K) (a := p) (xs := l.map V.int) (fun i σ H' => H' = H1 ∧ ∃ (g : Nat) (v : Option V), σ = [some (.ref tb), some (.int (b : Nat)), some (.int (g : Nat)), v] ∧ ∀ j, Has g j ↔ ∃ q ∈ l.take i, T ps q.toNat j)
      ⟨rfl, 0, none, rfl, fun j => by simp [Has]⟩ (fun i σ H' _ p => by rw [p.1]; exact SqT.of hp) ?_ ?_⟩
    · rintro i v σ H' hv ⟨rfl, g, u, rfl, hg⟩
      obtain ⟨y, hy, rfl⟩ := map_get hv
      have hym := List.mem_of_getElem? hy
      have hy0 := hl.1 y hym
      have hyb : Has b y.toNat := (hl.2.2 _).mp (by rw [Int.toNat_of_nonneg hy0]; exact hym)
      have hlt : y.toNat < ts.length := by have := hb _ hyb; have := TB.len; omega
      refine ⟨_, rfl, _, rfl, _, rfl, tb, _, y, _, rfl, rfl, SqL.of (e1 _ _ htb), at_of (j := y.toNat) (by omega) (nints_get hlt), _, _, rfl, rfl, ?_⟩
      dsimp only
      rw [or_pp]
      refine ⟨rfl, _, _, rfl, fun j => ?_⟩
      rw [has_or, hg, take_snoc hy]
      unfold Has
      rw [TB.bit _ _ hlt, decide_eq_true_eq]
      constructor
      · rintro (⟨q, q1, q2⟩ | h)
        · exact ⟨q, List.mem_append_left _ q1, q2⟩
        · exact ⟨y, by simp, h⟩
      · rintro ⟨q, q1, q2⟩
        rcases List.mem_append.mp q1 with q1 | q1
        · exact .inl ⟨q, q1, q2⟩
        · rw [List.mem_singleton] at q1; subst q1; exact .inr q2
    · rintro σ H' ⟨rfl, g, u, rfl, hg⟩
      rw [show (l.map V.int).length = l.length from List.length_map .., List.take_length] at hg
      have hN : Near ps b g := fun j => by
        rw [hg]
        constructor
        · rintro ⟨q, q1, q2⟩
          exact ⟨q.toNat, (hl.2.2 _).mp (by rw [Int.toNat_of_nonneg (hl.1 q q1)]; exact q1), q2⟩
        · rintro ⟨q, q1, q2⟩
          exact ⟨(q : Int), (hl.2.2 _).mpr q1, by simpa using q2⟩
      exact ⟨_, rfl, k g _ e1 hN fun j hj => by obtain ⟨q, _, t⟩ := (hN j).mp hj; exact t.lt G⟩
theorem xor_and {x c : Nat} (h : ∀ k, Has c k → Has x k) : x ^^^ c = andn x c := bits_ext fun k => by rw [xor_sub h, has_andn]
theorem and_neg {c k : Nat} (h : Low c k) : Builtin.bitAnd (c : Int) (-(c : Int)) = ((2 ^ k : Nat) : Int) := by
  rw [low_is h.1 h.2, Int.natCast_pow]; rfl
structure HInv (ps : List (Int × Int)) (s i found edge : Nat) : Prop where
  seed : ∀ k, Has s k → Has found k
  sub : ∀ k, Has found k → Has i k
  edg : ∀ k, Has edge k → Has found k
  off : ∀ q k, Has found q → ¬ Has edge q → Has i k → T ps q k → Has found k
  least : ∀ X : Nat → Prop, (∀ k, Has s k → X k) → (∀ q k, X q → Has i k → T ps q k → X k) → ∀ k, Has found k → X k
theorem HInv.init {ps : List (Int × Int)} {s i : Nat} (h : ∀ k, Has s k → Has i k) : HInv ps s i s s := ⟨fun k h => h, h, fun k h => h, fun q k h1 h2 => absurd h1 h2, fun X h1 _ => h1⟩
theorem HInv.step {ps : List (Int × Int)} {s i found edge r : Nat} (h : HInv ps s i found edge) (hr : Near ps edge r) : HInv ps s i (found ||| andn (r &&& i) found) (andn (r &&& i) found) := by
  refine ⟨fun k hk => has_or.mpr (.inl (h.seed k hk)), fun k hk => ?_, fun k hk => has_or.mpr (.inr hk), fun q k hq he hi ht => ?_, fun X h1 h2 k hk => ?_⟩
  · rcases has_or.mp hk with hk | hk
    · exact h.sub k hk
    · exact (has_and.mp (has_andn.mp hk).1).2
  · rcases has_or.mp hq with hq | hq
    · by_cases c : Has edge q
      · by_cases d : Has found k
        · exact has_or.mpr (.inl d)
        · exact has_or.mpr (.inr (has_andn.mpr ⟨has_and.mpr ⟨(hr k).mpr ⟨q, c, ht⟩, hi⟩, d⟩))
      · exact has_or.mpr (.inl (h.off q k hq c hi ht))
    · exact absurd hq he
  · rcases has_or.mp hk with hk | hk
    · exact h.least X h1 h2 k hk
    · have h3 := has_and.mp (has_andn.mp hk).1
      obtain ⟨q, q1, q2⟩ := (hr k).mp h3.1
      exact h2 q k (h.least X h1 h2 q (h.edg q q1)) h3.2 q2
theorem HInv.fin {ps : List (Int × Int)} {s i found : Nat} (h : HInv ps s i found 0) : Hull ps s i found := ⟨h.seed, h.sub, fun q k hq hi ht => h.off q k hq has_zero hi ht, h.least⟩
theorem or_more {a b : Nat} (h : b ≠ 0) : a < a ||| andn b a ∨ andn b a = 0 := by
  by_cases c : andn b a = 0
  · exact .inr c
  · refine .inl ?_
    have : a &&& andn b a = 0 := bits_ext fun k => by
      rw [has_and, has_andn]
      exact ⟨fun h => absurd h.1 h.2.2, fun h => absurd h has_zero⟩
    have := add_or this
    omega
def sp_hanging : Sp := fun vs H Q _ => ∃ (tb : Addr) (ts : List Nat) (n : Int) (ps : List (Int × Int)) (s i : Nat), vs = [.ref tb, .int (s : Nat), .int (i : Nat)] ∧ H tb = some (.lst (nints ts)) ∧ Tied n ps ts ∧ Good n ps ∧ n ≤ 200 ∧ InN n i ∧ (∀ k, Has s k → Has i k) ∧ ∀ (c : Nat) H', Same H H' → Hull ps s i c → Q (.int (c : Nat)) H'
abbrev s_hanging : Stmt := (top 16)
theorem sc_hanging : FnScope ["tied", "seed", "inside", "found", "edge", "fresh"] ["tied", "seed", "inside"] (defScope s_hanging) := ⟨rfl, rfl, rfl, by decide +kernel, rfl, by decide +kernel, by decide +kernel⟩

theorem ok_hanging {f : Addr} {fd : FuncData} (F : Fun K "hanging" "hanging" s_hanging f fd) (hm : mg "hanging" = some (.ref f)) (B : Bl mg) (c_tied_to_any : Cal P w K mg base 2 "tied_to_any" ["tied", "bits"] sp_tied_to_any) : Cal P w K mg base 3 "hanging" ["tied", "seed", "inside"] sp_hanging := by
  refine ⟨f, fd, F.ok sc_hanging (fun vs H Q E h => ?_) (fun cdv A outer s H vs Q E hr h => ?_), hm, F.kp, F.binds (ps := ["tied", "seed", "inside"]) fun _ _ _ _ _ _ us hl => match us, hl with | [_, _, _], _ => rfl⟩
  · obtain ⟨tb, ts, n, ps, s, i, rfl, _⟩ := h; rfl
  · obtain ⟨tb, ts, n, ps, s0, i, rfl, htb, TB, G, n2, hi, hs, k⟩ := h
    refine ⟨_, (pss_cons (ps_set (i := 3) sc_hanging.nd rfl (by first | exact Or.inl rfl | exact Or.inr rfl) (pv 1))
 (pss_cons (ps_set (i := 4) sc_hanging.nd rfl (by first | exact Or.inl rfl | exact Or.inr rfl) (pv 1))
 (pss_cons (ps_while PassesOwn.never (pt_truth (pv 4) (by intro _; rfl)) (pss_cons (ps_set (i := 5) sc_hanging.nd rfl (by first | exact Or.inl rfl | exact Or.inr rfl) (pe_op op_and (pe_op op_and (pe_cal c_tied_to_any (hr.mono (by first | decide | omega)) (pa_cons (pv 0) (pa_cons (pv 4) pa_nil))) (pv 2)) (pe_un un_inv (pv 3))))
 (pss_cons (ps_aug (i := 3) sc_hanging.nd rfl (by first | exact Or.inl rfl | exact Or.inr rfl) (pv 5) ip_or)
 (pss_one (ps_set (i := 4) sc_hanging.nd rfl (by first | exact Or.inl rfl | exact Or.inr rfl) (pv 5))))))
 (pss_one (ps_ret (pv 3)))))), ?_⟩
    refine ⟨_, rfl, _, rfl, ?_⟩
    refine ⟨fun m σ H' => ∃ (found edge : Nat) (v : Option V), σ = [some (.ref tb), some (.int (s0 : Nat)), some (.int (i : Nat)), some (.int (found : Nat)), some (.int (edge : Nat)), v] ∧ m = 2 * (2 ^ 200 - found) + (if edge = 0 then 0 else 1) ∧ Same H H' ∧ HInv ps s0 i found edge,
      ⟨_, s0, s0, none, rfl, rfl, L2.Same.refl H, HInv.init hs⟩, ?_⟩
    rintro m σ H1 ⟨found, edge, v, rfl, rfl, e1, I⟩
    refine ⟨_, rfl, (((edge : Int)) != 0), rfl, ?_⟩
    by_cases c0 : edge = 0
    · subst c0
      exact iteF ⟨_, rfl, k found H1 e1 I.fin⟩
    · have hne : (((edge : Int)) != 0) = true := by simp [c0]
      rw [hne]
      refine iteT ⟨_, fun σ' H' h => h, ?_⟩
      have hed : InN n edge := fun k hk => hi k (I.sub k (I.edg k hk))
      refine ⟨_, rfl, _, rfl, tb, ts, n, ps, edge, rfl, e1 _ _ htb, TB, G, n2, hed, fun r H2 e2 hr2 hrn => ?_⟩
      refine ⟨_, rfl, _, _, rfl, rfl, _, rfl, _, rfl, _, _, rfl, rfl, ?_⟩
      dsimp only
      rw [and_pp, and_inv]
      refine ⟨_, rfl, _, rfl, _, _, rfl, rfl, ?_⟩
      dsimp only
      rw [or_pp]
      refine ⟨_, rfl, ?_⟩
      have I2 := I.step hr2
      have hsm : (found ||| andn (r &&& i) found) < 2 ^ 200 := (show InN n _ from fun k hk => hi k (I2.sub k hk)).small n2
      refine ⟨_, ?_, _, _, _, rfl, rfl, e1.trans e2, I2⟩
      rcases Nat.eq_zero_or_pos (r &&& i) with hz | hz
      · have : andn (r &&& i) found = 0 := bits_ext fun k => by rw [hz, has_andn]; exact ⟨fun h => h.1, fun h => absurd h has_zero⟩
        rw [this, if_pos rfl, if_neg c0, Nat.or_zero]
        omega
      · rcases or_more (a := found) (b := r &&& i) (by omega) with h | h
        · rw [if_neg c0]
          split <;> omega
        · rw [h, if_pos rfl, if_neg c0, Nat.or_zero]
          omega
end
end Bs

namespace Bs
open PySem PySem.Spec L2
section
variable {P : Program} {w : World} {K : PySem.W.Frag} {mg : Str → Option Value} {base : Heap} {C : Addr}
theorem pow_in {n : Int} {k : Nat} (h : (k : Int) < n) : InN n (2 ^ k) := fun j hj => by rw [has_pow] at hj; subst hj; exact h
def sp_pieces_of : Sp := fun vs H Q _ => ∃ (tb : Addr) (ts : List Nat) (n : Int) (ps : List (Int × Int)) (i : Nat), vs = [.ref tb, .int (i : Nat)] ∧ H tb = some (.lst (nints ts)) ∧ Tied n ps ts ∧ Good n ps ∧ 0 ≤ n ∧ n ≤ 200 ∧ InN n i ∧ ∀ p (cs : List Nat) H', Same H H' → H p = none → H' p = some (.lst (nints cs)) → Pieces ps i cs → Q (.ref p) H'
theorem low_lt {i c : Nat} (h0 : c ≠ 0) (h : ∀ k, Has c k → Has i k) : i ^^^ c < i := by
  have e : c &&& i = c := bits_ext fun k => by rw [has_and]; exact ⟨fun h => h.1, fun hk => ⟨hk, h k hk⟩⟩
  have := andn_lt (a := i) (b := c) (by rw [e]; exact h0)
  rw [e] at this
  rw [xor_and h]
  exact this
abbrev s_pieces_of : Stmt := (top 17)
theorem sc_pieces_of : FnScope ["tied", "inside", "left", "found", "piece"] ["tied", "inside"] (defScope s_pieces_of) := ⟨rfl, rfl, rfl, by decide +kernel, rfl, by decide +kernel, by decide +kernel⟩

theorem ok_pieces_of {f : Addr} {fd : FuncData} (F : Fun K "pieces_of" "pieces_of" s_pieces_of f fd) (hm : mg "pieces_of" = some (.ref f)) (B : Bl mg) (c_hanging : Cal P w K mg base 3 "hanging" ["tied", "seed", "inside"] sp_hanging) : Cal P w K mg base 4 "pieces_of" ["tied", "inside"] sp_pieces_of := by
  refine ⟨f, fd, F.ok sc_pieces_of (fun vs H Q E h => ?_) (fun cdv A outer s H vs Q E hr h => ?_), hm, F.kp, F.binds (ps := ["tied", "inside"]) fun _ _ _ _ _ _ us hl => match us, hl with | [_, _], _ => rfl⟩
  · obtain ⟨tb, ts, n, ps, i, rfl, _⟩ := h; rfl
  · obtain ⟨tb, ts, n, ps, i, rfl, htb, TB, G, n0, n2, hi, k⟩ := h
    refine ⟨_, (pss_cons (ps_set (i := 2) sc_pieces_of.nd rfl (by first | exact Or.inl rfl | exact Or.inr rfl) (pv 1))
 (pss_cons (ps_set (i := 3) sc_pieces_of.nd rfl (by first | exact Or.inl rfl | exact Or.inr rfl) (pe_lst pa_nil))
 (pss_cons (ps_while PassesOwn.never (pt_truth (pv 2) (by intro _; rfl)) (pss_cons (ps_set (i := 4) sc_pieces_of.nd rfl (by first | exact Or.inl rfl | exact Or.inr rfl) (pe_cal c_hanging (hr.mono (by first | decide | omega)) (pa_cons (pv 0) (pa_cons (pe_op op_and (pv 2) (pe_un un_neg (pv 2))) (pa_cons (pv 2) pa_nil)))))
 (pss_cons (ps_expr (pe_bm PySem.F.plainAttrs_list PySem.F.slot_list_append PySem.F.type_list_append mt_append (pv 3) (pa_cons (pv 4) pa_nil)))
 (pss_one (ps_aug (i := 2) sc_pieces_of.nd rfl (by first | exact Or.inl rfl | exact Or.inr rfl) (pv 4) ip_xor)))))
 (pss_one (ps_ret (pv 3)))))), ?_⟩
    refine ⟨_, rfl, ?_⟩
    refine ⟨Nat.zero_le _, fun p hp => ?_⟩
    refine ⟨fun m σ H' => ∃ (left : Nat) (done : List Nat) (v : Option V), σ = [some (.ref tb), some (.int (i : Nat)), some (.int (left : Nat)), some (.ref p), v] ∧ m = left ∧ Same H H' ∧ H' p = some (.lst (nints done)) ∧ (∀ k, Has left k → Has i k) ∧ (∀ cs, Pieces ps left cs → Pieces ps i (done ++ cs)) ∧ done.length + 1 + (lotL left).length ≤ (lotL i).length + 1,
      ⟨i, i, [], none, rfl, rfl, L2.Same.new hp, upd_same, fun k h => h, fun cs h => h, by simp only [List.length_nil]; omega⟩, ?_⟩
    rintro m σ H1 ⟨left, done, v, rfl, rfl, e1, hl, hsub, hcs, hlen⟩
    refine ⟨_, rfl, (((m : Int)) != 0), rfl, ?_⟩
    by_cases c0 : m = 0
    · subst c0
      have := hcs [] .nil
      rw [List.append_nil] at this
      exact iteF ⟨_, rfl, k p done H1 e1 hp hl this⟩
    · have hne : (((m : Int)) != 0) = true := by simp [c0]
      rw [hne]
      refine iteT ⟨_, fun σ' H' h => h, ?_⟩
      obtain ⟨kk, k1, k2⟩ := low_ex c0
      have hlow : Low m kk := ⟨k1, k2⟩
      have hin : InN n m := fun j hj => hi j (hsub j hj)
      refine ⟨_, rfl, _, rfl, _, rfl, _, rfl, _, _, rfl, rfl, ?_⟩
      dsimp only
      rw [and_neg hlow]
      refine ⟨_, rfl, tb, ts, n, ps, 2 ^ kk, m, rfl, e1 _ _ htb, TB, G, n2, hin, fun j hj => by rw [has_pow] at hj; subst hj; exact k1, fun c H2 e2 hc => ?_⟩
      have hcp : Has c kk := hc.seed kk (has_pow.mpr rfl)
      have hc0 : c ≠ 0 := fun e => has_zero (e ▸ hcp)
      have hlenL : (lotL i).length ≤ 200 := by have := lot_len (lot_lotL hi) n0; omega
      refine ⟨_, rfl, .inl ⟨rfl, _, SqL.of (e2 _ _ hl)⟩, _, rfl, p, _, _, rfl, rfl, e2 _ _ hl, (by rw [nints_len]; exact Nat.lt_of_le_of_lt (show done.length ≤ 200 by omega) (by decide)), ?_⟩
      refine ⟨_, rfl, _, rfl, _, _, rfl, rfl, ?_⟩
      dsimp only
      rw [xor_pp]
      have e3 := L2.Same.mut (o := .lst (nints done ++ [V.int (c : Nat)])) (e1.trans e2) hp
      refine ⟨m ^^^ c, low_lt hc0 hc.sub, m ^^^ c, done ++ [c], _, rfl, rfl, e3, ?_, fun j hj => hsub j ((xor_sub hc.sub).mp hj).1, fun cs h => ?_, ?_⟩
      · rw [upd_same]; unfold nints; rw [List.map_append]; rfl
      · rw [List.append_assoc]
        exact hcs _ (.cons hlow hc h)
      · have : (lotL (m ^^^ c)).length < (lotL m).length := by
          have e : lotL (m ^^^ c) = (lotL m).filter fun x => !decide (x ∈ lotL c) := ups_ext (isLot_L _).2.1 ((isLot_L m).2.1.filter _) fun x => by
            rw [List.mem_filter, mem_lotL, mem_lotL, xor_sub hc.sub]
            simp only [Bool.not_eq_true', decide_eq_false_iff_not, mem_lotL]
            constructor
            · rintro ⟨a, b, c⟩; exact ⟨⟨a, b⟩, fun h => c h.2⟩
            · rintro ⟨⟨a, b⟩, c⟩; exact ⟨a, b, fun h => c ⟨a, h⟩⟩
          rw [e]
          exact List.length_filter_lt_length_iff_exists.mpr ⟨(kk : Int), has_lotL.mpr k1, by simpa using has_lotL.mpr hcp⟩
        rw [List.length_append, List.length_singleton]
        omega
def sp_untied_to : Sp := fun vs H Q _ => ∃ (tb : Addr) (ts : List Nat) (n : Int) (ps : List (Int × Int)) (b i : Nat), vs = [.ref tb, .int (b : Nat), .int (i : Nat)] ∧ H tb = some (.lst (nints ts)) ∧ Tied n ps ts ∧ Good n ps ∧ n ≤ 200 ∧ InN n b ∧ ∀ (r : Nat) H', Same H H' → Near ps b r → Q (.int (andn (andn i b) r : Nat)) H'
abbrev s_untied_to : Stmt := (top 18)
theorem sc_untied_to : FnScope ["tied", "bits", "inside"] ["tied", "bits", "inside"] (defScope s_untied_to) := ⟨rfl, rfl, rfl, by decide +kernel, rfl, by decide +kernel, by decide +kernel⟩

theorem ok_untied_to {f : Addr} {fd : FuncData} (F : Fun K "untied_to" "untied_to" s_untied_to f fd) (hm : mg "untied_to" = some (.ref f)) (B : Bl mg) (c_tied_to_any : Cal P w K mg base 2 "tied_to_any" ["tied", "bits"] sp_tied_to_any) : Cal P w K mg base 3 "untied_to" ["tied", "bits", "inside"] sp_untied_to := by
  refine ⟨f, fd, F.ok sc_untied_to (fun vs H Q E h => ?_) (fun cdv A outer s H vs Q E hr h => ?_), hm, F.kp, F.binds (ps := ["tied", "bits", "inside"]) fun _ _ _ _ _ _ us hl => match us, hl with | [_, _, _], _ => rfl⟩
  · obtain ⟨tb, ts, n, ps, b, i, rfl, _⟩ := h; rfl
  · obtain ⟨tb, ts, n, ps, b, i, rfl, htb, TB, G, n2, hb, k⟩ := h
    refine ⟨_, (pss_one (ps_ret (pe_op op_and (pe_op op_and (pv 2) (pe_un un_inv (pv 1))) (pe_un un_inv (pe_cal c_tied_to_any (hr.mono (by first | decide | omega)) (pa_cons (pv 0) (pa_cons (pv 1) pa_nil))))))), ?_⟩
    refine ⟨_, rfl, _, rfl, _, rfl, _, _, rfl, rfl, ?_⟩
    dsimp only
    rw [and_inv]
    refine ⟨_, rfl, _, rfl, tb, ts, n, ps, b, rfl, htb, TB, G, n2, hb, fun r H2 e2 hr2 hrn => ?_⟩
    refine ⟨_, rfl, _, _, rfl, rfl, ?_⟩
    dsimp only
    rw [and_inv]
    exact k r H2 e2 hr2
def sp_grown : Sp := fun vs H Q _ => ∃ (tb : Addr) (ts : List Nat) (n : Int) (ps : List (Int × Int)) (b i : Nat), vs = [.ref tb, .int (b : Nat), .int (i : Nat)] ∧ H tb = some (.lst (nints ts)) ∧ Tied n ps ts ∧ Good n ps ∧ n ≤ 200 ∧ InN n b ∧ InN n i ∧ ∀ (r : Nat) H', Same H H' → Near ps b r → Q (.int (growN ts (lotL (andn (andn i b) r)) b : Nat)) H'
theorem growN_snoc {ts : List Nat} {q : Int} : ∀ {l : List Int} {b : Nat}, growN ts (l ++ [q]) b = (if (ts.getD q.toNat 0 &&& growN ts l b) = 0 then growN ts l b ||| 2 ^ q.toNat else growN ts l b)
  | [], b => rfl
  | p :: l, b => growN_snoc (l := l)
abbrev s_grown : Stmt := (top 19)
theorem sc_grown : FnScope ["tied", "bits", "inside", "found", "part"] ["tied", "bits", "inside"] (defScope s_grown) := ⟨rfl, rfl, rfl, by decide +kernel, rfl, by decide +kernel, by decide +kernel⟩

theorem ok_grown {f : Addr} {fd : FuncData} (F : Fun K "grown" "grown" s_grown f fd) (hm : mg "grown" = some (.ref f)) (B : Bl mg) (c_lot_of : Cal P w K mg base 1 "lot_of" ["bits"] sp_lot_of) (c_untied_to : Cal P w K mg base 3 "untied_to" ["tied", "bits", "inside"] sp_untied_to) : Cal P w K mg base 4 "grown" ["tied", "bits", "inside"] sp_grown := by
  refine ⟨f, fd, F.ok sc_grown (fun vs H Q E h => ?_) (fun cdv A outer s H vs Q E hr h => ?_), hm, F.kp, F.binds (ps := ["tied", "bits", "inside"]) fun _ _ _ _ _ _ us hl => match us, hl with | [_, _, _], _ => rfl⟩
  · obtain ⟨tb, ts, n, ps, b, i, rfl, _⟩ := h; rfl
  · obtain ⟨tb, ts, n, ps, b, i, rfl, htb, TB, G, n2, hb, hi, k⟩ := h
    refine ⟨_, (pss_cons (ps_set (i := 3) sc_grown.nd rfl (by first | exact Or.inl rfl | exact Or.inr rfl) (pv 1))
 (pss_cons (ps_for PassesOwn.never rfl (pi_tup (pe_cal c_lot_of (hr.mono (by first | decide | omega)) (pa_cons (pe_cal c_untied_to (hr.mono (by first | decide | omega)) (pa_cons (pv 0) (pa_cons (pv 1) (pa_cons (pv 2) pa_nil)))) pa_nil))) (pg_name (i := 4) sc_grown.nd rfl (by first | exact Or.inl rfl | exact Or.inr rfl))
  (pss_one (ps_if (pt_not (pt_truth (pe_op op_and (pe_ix ix_list (pv 0) (pv 4) (fun _ _ => rfl)) (pv 3)) (by intro _; rfl))) (pss_one (ps_aug (i := 3) sc_grown.nd rfl (by first | exact Or.inl rfl | exact Or.inr rfl) (pe_op op_shl pe_int (pv 4)) ip_or)) pss_nil)))
 (pss_one (ps_ret (pv 3))))), ?_⟩
    refine ⟨_, rfl, _, rfl, _, rfl, _, rfl, tb, ts, n, ps, b, i, rfl, htb, TB, G, n2, hb, fun r H1 e1 hr2 => ?_⟩
    have hin : InN n (andn (andn i b) r) := fun k hk => hi k (has_andn.mp (has_andn.mp hk).1).1
    refine ⟨_, rfl, hin.small n2, fun p l H2 e2 np hp hl => ?_⟩
    have e12 := e1.trans e2
    refine ⟨p, rfl, ⟨_, SqT.of hp⟩, for_tup (K := K) (a := p) (xs := l.map V.int) (fun i' σ H' => H' = H2 ∧ ∃ (v : Option V), σ = [some (.ref tb), some (.int (b : Nat)), some (.int (i : Nat)), some (.int (growN ts (l.take i') b : Nat)), v])
      ⟨rfl, none, rfl⟩ (fun i σ H' _ p => by rw [p.1]; exact SqT.of hp) ?_ ?_⟩
    · rintro i' v σ H' hv ⟨rfl, u, rfl⟩
      obtain ⟨y, hy, rfl⟩ := map_get hv
      have hym := List.mem_of_getElem? hy
      have hy0 := hl.1 y hym
      have hyb : Has (andn (andn i b) r) y.toNat := (hl.2.2 _).mp (by rw [Int.toNat_of_nonneg hy0]; exact hym)
      have hlt : y.toNat < ts.length := by have := hin _ hyb; have := TB.len; omega
      have hl' := TB.len
      refine ⟨_, rfl, _, rfl, tb, _, y, _, rfl, rfl, SqL.of (e12 _ _ htb), at_of (j := y.toNat) (by omega) (nints_get hlt), _, rfl, _, _, rfl, rfl, ?_⟩
      dsimp only
      rw [and_pp]
      refine ⟨_, rfl, ?_⟩
      rw [take_snoc hy, growN_snoc]
      by_cases c : (ts.getD y.toNat 0 &&& growN ts (l.take i') b) = 0
      · rw [c, if_pos rfl]
        refine iteT ?_
        refine ⟨_, rfl, _, rfl, _, _, rfl, rfl, ⟨hy0, by omega, by decide⟩, _, _, rfl, rfl, ?_⟩
        dsimp only
        rw [p2i hy0, or_pp]
        exact ⟨rfl, _, rfl⟩
      · rw [if_neg c]
        have : (((ts.getD y.toNat 0 &&& growN ts (l.take i') b : Nat) : Int) != 0) = true := by simp only [bne_iff_ne, ne_eq]; omega
        rw [this]
        exact iteF ⟨rfl, _, rfl⟩
    · rintro σ H' ⟨rfl, u, rfl⟩
      rw [show (l.map V.int).length = l.length from List.length_map .., List.take_length, isLot_eq hl]
      exact ⟨_, rfl, k r _ e12 hr2⟩
end
end Bs

namespace Bs
open PySem PySem.Spec L2

section
variable {P : Program} {w : World} {K : PySem.W.Frag} {mg : Str → Option Value} {base : Heap} {C : Addr}
theorem and_pw0 {b k : Nat} : ((b &&& 2 ^ k : Nat) = 0) ↔ ¬ Has b k := by
  constructor
  · intro h hk
    exact has_zero (k := k) (h ▸ has_and.mpr ⟨hk, has_pow.mpr rfl⟩)
  · intro h
    exact bits_ext fun j => by
      rw [has_and, has_pow]
      constructor
      · rintro ⟨a, rfl⟩; exact absurd a h
      · intro a; exact absurd a has_zero
theorem heldF_snoc {part c : Nat} : ∀ {cs : List Nat} {h : Nat}, heldF part (cs ++ [c]) h = (if c.testBit part = true then heldF part cs h else heldF part cs h ||| lowN c)
  | [], h => rfl
  | d :: cs, h => heldF_snoc (cs := cs)
theorem held_in {n : Int} {i part : Nat} {ps : List (Int × Int)} {cs : List Nat} (P : PiecesOk ps i cs) (hi : InN n i) (hp : (part : Int) < n) : InN n (heldN part cs) := fun k hk => by
  rcases (heldF_has P.ne).mp hk with hk | ⟨c, hc, _, h2⟩
  · rw [has_pow] at hk; subst hk; exact hp
  · exact hi k (P.sub c hc k h2.1)
def sp_end_with : Sp := fun vs H Q _ => ∃ (tb : Addr) (ts : List Nat) (n : Int) (ps : List (Int × Int)) (b part i : Nat), vs = [.ref tb, .int (b : Nat), .int (part : Nat), .int (i : Nat)] ∧ H tb = some (.lst (nints ts)) ∧ Tied n ps ts ∧ Good n ps ∧ 0 ≤ n ∧ n ≤ 200 ∧ InN n b ∧ (part : Int) < n ∧ InN n i ∧ ∀ (cs : List Nat) (r : Nat) H', Same H H' → Pieces ps b cs → Near ps (heldN part cs) r → Q (.int (growN ts (lotL (andn (andn i (heldN part cs)) r)) (heldN part cs) : Nat)) H'
abbrev s_end_with : Stmt := (top 35)
theorem sc_end_with : FnScope ["tied", "stand", "part", "every", "held", "lump"] ["tied", "stand", "part", "every"] (defScope s_end_with) := ⟨rfl, rfl, rfl, by decide +kernel, rfl, by decide +kernel, by decide +kernel⟩

theorem ok_end_with {f : Addr} {fd : FuncData} (F : Fun K "end_with" "end_with" s_end_with f fd) (hm : mg "end_with" = some (.ref f)) (B : Bl mg) (c_pieces_of : Cal P w K mg base 4 "pieces_of" ["tied", "inside"] sp_pieces_of) (c_grown : Cal P w K mg base 4 "grown" ["tied", "bits", "inside"] sp_grown) : Cal P w K mg base 5 "end_with" ["tied", "stand", "part", "every"] sp_end_with := by
  refine ⟨f, fd, F.ok sc_end_with (fun vs H Q E h => ?_) (fun cdv A outer s H vs Q E hr h => ?_), hm, F.kp, F.binds (ps := ["tied", "stand", "part", "every"]) fun _ _ _ _ _ _ us hl => match us, hl with | [_, _, _, _], _ => rfl⟩
  · obtain ⟨tb, ts, n, ps, b, part, i, rfl, _⟩ := h; rfl
  · obtain ⟨tb, ts, n, ps, b, part, i, rfl, htb, TB, G, n0, n2, hb, hp, hi, k⟩ := h
    have p0 : (0 : Int) ≤ (part : Int) := Int.natCast_nonneg _
    refine ⟨_, (pss_cons (ps_set (i := 4) sc_end_with.nd rfl (by first | exact Or.inl rfl | exact Or.inr rfl) (pe_op op_shl pe_int (pv 2)))
 (pss_cons (ps_for PassesOwn.never rfl (pi_list (pe_cal c_pieces_of (hr.mono (by first | decide | omega)) (pa_cons (pv 0) (pa_cons (pv 1) pa_nil)))) (pg_name (i := 5) sc_end_with.nd rfl (by first | exact Or.inl rfl | exact Or.inr rfl))
  (pss_one (ps_if (pt_not (pt_truth (pe_op op_and (pv 5) (pe_op op_shl pe_int (pv 2))) (by intro _; rfl))) (pss_one (ps_aug (i := 4) sc_end_with.nd rfl (by first | exact Or.inl rfl | exact Or.inr rfl) (pe_op op_and (pv 5) (pe_un un_neg (pv 5))) ip_or)) pss_nil)))
 (pss_one (ps_ret (pe_cal c_grown (hr.mono (by first | decide | omega)) (pa_cons (pv 0) (pa_cons (pv 4) (pa_cons (pv 3) pa_nil)))))))), ?_⟩
    refine ⟨_, rfl, _, _, rfl, rfl, ⟨p0, by omega, by decide⟩, ?_⟩
    dsimp only
    rw [p2 part]
    refine ⟨_, rfl, _, rfl, tb, ts, n, ps, b, rfl, htb, TB, G, n0, n2, hb, fun p cs H1 e1 np hp1 hcs => ?_⟩
    have PK := hcs.ok
    refine ⟨p, rfl, ⟨_, SqL.of hp1⟩, for_list (K := K) (a := p) (xs := nints cs) (fun i' σ H' => H' = H1 ∧ ∃ (v : Option V), σ = [some (.ref tb), some (.int (b : Nat)), some (.int (part : Nat)), some (.int (i : Nat)), some (.int (heldF part (cs.take i') (2 ^ part) : Nat)), v])
      ⟨rfl, none, rfl⟩ (fun i σ H' _ p => by rw [p.1]; exact SqL.of hp1) ?_ ?_⟩
    · rintro i' v σ H' hv ⟨rfl, u, rfl⟩
      have hlt : i' < cs.length := by have := (List.getElem?_eq_some_iff.mp hv).1; rw [nints_len] at this; exact this
      rw [nints_get hlt] at hv
      cases hv
      have hc : cs[i']? = some (cs.getD i' 0) := by rw [List.getD_eq_getElem?_getD, List.getElem?_eq_getElem hlt]; rfl
      generalize cs.getD i' 0 = c at hc ⊢
      have hcm := List.mem_of_getElem? hc
      obtain ⟨kk, hlow⟩ := low_of (PK.ne c hcm)
      refine ⟨_, rfl, _, rfl, _, _, rfl, rfl, ⟨p0, by omega, by decide⟩, _, _, rfl, rfl, ?_⟩
      dsimp only
      rw [p2 part, and_pp]
      refine ⟨_, rfl, ?_⟩
      rw [take_snoc hc, heldF_snoc]
      by_cases cc : Has c part
      · rw [if_pos cc]
        have : (((c &&& 2 ^ part : Nat) : Int) != 0) = true := by
          have := (not_congr (and_pw0 (b := c) (k := part))).mpr (fun h => h cc)
          simp only [bne_iff_ne, ne_eq]; omega
        rw [this]
        exact iteF ⟨rfl, _, rfl⟩
      · rw [if_neg cc, and_pw0.mpr cc]
        refine iteT ?_
        refine ⟨_, rfl, _, rfl, _, rfl, _, rfl, _, _, rfl, rfl, _, _, rfl, rfl, ?_⟩
        dsimp only
        rw [and_neg hlow, or_pp, lowN_is hlow]
        exact ⟨rfl, _, rfl⟩
    · rintro σ H' ⟨rfl, u, rfl⟩
      rw [nints_len, List.take_length]
      refine ⟨_, rfl, _, rfl, _, rfl, tb, ts, n, ps, heldN part cs, i, rfl, e1 _ _ htb, TB, G, n2, held_in PK hb hp, hi, fun r H2 e2 hr2 => ?_⟩
      exact k cs r H2 (e1.trans e2) hcs hr2
def sp_row_between : Sp := fun vs H Q _ => ∃ (tb : Addr) (ts : List Nat) (n : Int) (ps : List (Int × Int)) (S E : Nat) (cs : List Nat), vs = [.ref tb, .int (S : Nat), .int (E : Nat)] ∧ H tb = some (.lst (nints ts)) ∧ Tied n ps ts ∧ Good n ps ∧ 0 ≤ n ∧ n ≤ 200 ∧ InN n S ∧ InN n E ∧ FreeB ps E ∧ PiecesOk ps S cs ∧ (∀ c ∈ cs, ∃ k, Has c k ∧ Has E k) ∧
  ∀ q (out : List Int) H', Same H H' → H' q = some (.tup ((out ++ lotL (andn E S)).map V.int)) → Falls ps (andn S E) (S &&& E) [] out → Row n ps (out ++ lotL (andn E S)) (lotL S) (lotL E) → (∀ x ∈ out ++ lotL (andn E S), 0 ≤ x ∧ x < n) → (out ++ lotL (andn E S)).length ≤ 400 → Q (.ref q) H'
abbrev s_row_between : Stmt := (top 34)
theorem sc_row_between : FnScope ["tied", "stand", "rest", "falling", "left", "edge"] ["tied", "stand", "rest"] (defScope s_row_between) := ⟨rfl, rfl, rfl, by decide +kernel, rfl, by decide +kernel, by decide +kernel⟩

theorem ok_row_between {f : Addr} {fd : FuncData} (F : Fun K "row_between" "row_between" s_row_between f fd) (hm : mg "row_between" = some (.ref f)) (B : Bl mg) (c_tied_to_any : Cal P w K mg base 2 "tied_to_any" ["tied", "bits"] sp_tied_to_any) (c_lot_of : Cal P w K mg base 1 "lot_of" ["bits"] sp_lot_of) : Cal P w K mg base 3 "row_between" ["tied", "stand", "rest"] sp_row_between := by
  refine ⟨f, fd, F.ok sc_row_between (fun vs H Q E h => ?_) (fun cdv A outer s H vs Q E hr h => ?_), hm, F.kp, F.binds (ps := ["tied", "stand", "rest"]) fun _ _ _ _ _ _ us hl => match us, hl with | [_, _, _], _ => rfl⟩
  · obtain ⟨tb, ts, n, ps, S, E1, cs, rfl, _⟩ := h; rfl
  · obtain ⟨tb, ts, n, ps, S, E1, cs, rfl, htb, TB, G, n0, n2, hS, hE, hf, PK, hmeet, k⟩ := h
    refine ⟨_, (pss_cons (ps_set (i := 3) sc_row_between.nd rfl (by first | exact Or.inl rfl | exact Or.inr rfl) (pe_tup pa_nil))
 (pss_cons (ps_set (i := 4) sc_row_between.nd rfl (by first | exact Or.inl rfl | exact Or.inr rfl) (pe_op op_and (pv 1) (pe_un un_inv (pv 2))))
 (pss_cons (ps_set (i := 5) sc_row_between.nd rfl (by first | exact Or.inl rfl | exact Or.inr rfl) (pe_op op_and (pv 1) (pv 2)))
 (pss_cons (ps_while PassesOwn.never (pt_truth (pv 4) (by intro _; rfl)) (pss_cons (ps_set (i := 5) sc_row_between.nd rfl (by first | exact Or.inl rfl | exact Or.inr rfl) (pe_op op_and (pe_cal c_tied_to_any (hr.mono (by first | decide | omega)) (pa_cons (pv 0) (pa_cons (pv 5) pa_nil))) (pv 4)))
 (pss_cons (ps_aug (i := 4) sc_row_between.nd rfl (by first | exact Or.inl rfl | exact Or.inr rfl) (pe_un un_inv (pv 5)) ip_and)
 (pss_one (ps_set (i := 3) sc_row_between.nd rfl (by first | exact Or.inl rfl | exact Or.inr rfl) (pe_op op_catA (pe_cal c_lot_of (hr.mono (by first | decide | omega)) (pa_cons (pv 5) pa_nil)) (pv 3)))))))
 (pss_one (ps_ret (pe_op op_catA (pv 3) (pe_cal c_lot_of (hr.mono (by first | decide | omega)) (pa_cons (pe_op op_and (pv 2) (pe_un un_inv (pv 1))) pa_nil))))))))), ?_⟩
    refine ⟨(by show 0 ≤ sizeLine; exact Nat.zero_le _), fun z hz => ?_⟩
    have e1 := L2.Same.new (o := .tup []) hz
    generalize hH1 : upd H z (.tup []) = H1 at e1 ⊢
    have hz1 : H1 z = some (.tup []) := by rw [← hH1]; exact upd_same
    refine ⟨_, rfl, _, rfl, _, rfl, _, _, rfl, rfl, ?_⟩
    dsimp only
    rw [and_inv]
    refine ⟨_, rfl, _, rfl, _, _, rfl, rfl, ?_⟩
    dsimp only
    rw [and_pp]
    refine ⟨fun m σ H' => ∃ (left edge : Nat) (acc : List Int) (q : Addr), σ = [some (.ref tb), some (.int (S : Nat)), some (.int (E1 : Nat)), some (.ref q), some (.int (left : Nat)), some (.int (edge : Nat))] ∧ m = left ∧ Same H H' ∧ H' q = some (.tup (acc.map V.int)) ∧ FInv n ps S E1 left edge acc ∧ (∀ out, Falls ps left edge acc out → Falls ps (andn S E1) (S &&& E1) [] out),
      ⟨_, andn S E1, S &&& E1, [], z, rfl, rfl, e1, hz1, FInv.init n ps S E1, fun _ h => h⟩, ?_⟩
    rintro m σ H2 ⟨left, edge, acc, q, rfl, rfl, e2, hq, I, hout⟩
    have hacc := nodup_len I.nd I.ok n0
    refine ⟨_, rfl, (((m : Int)) != 0), rfl, ?_⟩
    by_cases c0 : m = 0
    · subst c0
      refine iteF ?_
      have hl2 := lot_len (lot_lotL (n := n) (b := andn E1 S) fun k hk => hE k (has_andn.mp hk).1) n0
      refine ⟨_, rfl, _, rfl, _, rfl, _, rfl, _, _, rfl, rfl, ?_⟩
      dsimp only
      rw [and_inv]
      refine ⟨_, rfl, (show InN n (andn E1 S) from fun k hk => hE k (has_andn.mp hk).1).small n2, fun p l H3 e3 np hp hl => ?_⟩
      have hll := isLot_eq hl
      subst hll
      refine cat_any (e3 _ _ hq) hp (by rw [List.length_map, List.length_map]; exact Nat.le_trans (show acc.length + (lotL (andn E1 S)).length ≤ 400 by omega) (by decide)) fun c H4 e4 hc => ?_
      rw [← List.map_append] at hc
      have hfin := I.fin hS hE hf
      exact k c acc H4 ((e2.trans e3).trans e4) hc (hout acc .nil) hfin.1 hfin.2 (by rw [List.length_append]; omega)
    · have hne : (((m : Int)) != 0) = true := by simp [c0]
      rw [hne]
      refine iteT ⟨_, fun σ' H' h => h, ?_⟩
      have hed : InN n edge := fun k hk => hS k (I.ed k hk).1
      refine ⟨_, rfl, _, rfl, tb, ts, n, ps, edge, rfl, e2 _ _ htb, TB, G, n2, hed, fun r H3 e3 hr2 hrn => ?_⟩
      refine ⟨_, rfl, _, _, rfl, rfl, ?_⟩
      dsimp only
      rw [and_pp]
      have hmore := I.more PK hmeet c0 hr2
      have I2 := I.step hS hr2
      refine ⟨_, rfl, _, rfl, _, rfl, _, _, rfl, rfl, ?_⟩
      dsimp only
      rw [and_inv]
      have hrl : InN n (r &&& m) := fun k hk => hrn k (has_and.mp hk).1
      refine ⟨_, rfl, _, rfl, hrl.small n2, fun p l H4 e4 np hp hl => ?_⟩
      have hll := isLot_eq hl
      subst hll
      have hl2 := lot_len (lot_lotL hrl) n0
      have e34 := e3.trans e4
      refine ⟨_, rfl, ?_⟩
      refine cat_any hp (e34 _ _ hq) (by rw [List.length_map, List.length_map]; exact Nat.le_trans (show (lotL (r &&& m)).length + acc.length ≤ 400 by omega) (by decide)) fun c H5 e5 hc => ?_
      rw [← List.map_append] at hc
      exact ⟨andn m (r &&& m), andn_lt hmore, andn m (r &&& m), r &&& m, _, c, rfl, rfl, (e2.trans e34).trans e5, hc, I2, fun out h => hout out (.cons c0 hr2 h)⟩
end
end Bs

namespace Bs
open PySem PySem.Spec L2
section
variable {P : Program} {w : World} {K : PySem.W.Frag} {mg : Str → Option Value} {base : Heap} {C : Addr}
theorem every_in {n : Int} (n0 : 0 ≤ n) : InN n (2 ^ n.toNat - 1) := fun k hk => by
  unfold Has at hk
  rw [Nat.testBit_two_pow_sub_one] at hk
  have := of_decide_eq_true hk
  omega
theorem slip_eq {n : Int} {ps : List (Int × Int)} {ts cs : List Nat} {b part r g : Nat} {out : List Int} (TB : Tied n ps ts) (hcs : Pieces ps b cs) (hr : Near ps (heldN part cs) r) (hg : g = growN ts (lotL (andn (andn (2 ^ n.toNat - 1) (heldN part cs)) r)) (heldN part cs)) (hout : Falls ps (andn b g) (b &&& g) [] out) : SlipIs n ps b part (out ++ lotL (andn g b)) := ⟨⟨ts, cs, r, g, out, TB, hcs, hr, hg, hout, rfl⟩⟩
def sp_row_with : Sp := fun vs H Q _ => ∃ (tb : Addr) (ts : List Nat) (n : Int) (ps : List (Int × Int)) (b part : Nat), vs = [.ref tb, .int (b : Nat), .int (part : Nat)] ∧ H tb = some (.lst (nints ts)) ∧ Tied n ps ts ∧ Good n ps ∧ 0 ≤ n ∧ n ≤ 200 ∧ InN n b ∧ (part : Int) < n ∧ (Has b part ∨ ∀ k, Has b k → ¬ T ps part k) ∧
  ∀ q (row : List Int) (g : Nat) H', Same H H' → H' q = some (.tup (row.map V.int)) → SlipIs n ps b part row → Row n ps row (lotL b) (lotL g) → RestL n ps (lotL g) → Has g part → (∀ x ∈ row, 0 ≤ x ∧ x < n) → row.length ≤ 400 → Q (.ref q) H'
abbrev s_row_with : Stmt := (top 37)
theorem sc_row_with : FnScope ["tied", "stand", "part"] ["tied", "stand", "part"] (defScope s_row_with) := ⟨rfl, rfl, rfl, by decide +kernel, rfl, by decide +kernel, by decide +kernel⟩

theorem ok_row_with {f : Addr} {fd : FuncData} (F : Fun K "row_with" "row_with" s_row_with f fd) (hm : mg "row_with" = some (.ref f)) (B : Bl mg) (c_row_between : Cal P w K mg base 3 "row_between" ["tied", "stand", "rest"] sp_row_between) (c_end_with : Cal P w K mg base 5 "end_with" ["tied", "stand", "part", "every"] sp_end_with) : Cal P w K mg base 6 "row_with" ["tied", "stand", "part"] sp_row_with := by
  refine ⟨f, fd, F.ok sc_row_with (fun vs H Q E h => ?_) (fun cdv A outer s H vs Q E hr h => ?_), hm, F.kp, F.binds (ps := ["tied", "stand", "part"]) fun _ _ _ _ _ _ us hl => match us, hl with | [_, _, _], _ => rfl⟩
  · obtain ⟨tb, ts, n, ps, b, part, rfl, _⟩ := h; rfl
  · obtain ⟨tb, ts, n, ps, b, part, rfl, htb, TB, G, n0, n2, hb, hp, hpp, k⟩ := h
    have hlen := TB.len
    have hln : ((nints ts).length : Int) = n := by rw [nints_len]; exact hlen
    refine ⟨_, (pss_one (ps_ret (pe_cal c_row_between (hr.mono (by first | decide | omega)) (pa_cons (pv 0) (pa_cons (pv 1) (pa_cons (pe_cal c_end_with (hr.mono (by first | decide | omega)) (pa_cons (pv 0) (pa_cons (pv 1) (pa_cons (pv 2) (pa_cons (pe_op op_sub (pe_op op_shl pe_int (pe_callB call_len_seq (by rfl) B.len (by decide +kernel) (pa_cons (pv 0) pa_nil))) pe_int) pa_nil))))) pa_nil)))))), ?_⟩
    refine ⟨_, rfl, _, rfl, _, rfl, _, rfl, _, rfl, _, rfl, tb, _, rfl, .inl (SqL.of htb), _, _, rfl, rfl, ⟨by omega, by rw [hln]; omega, by decide⟩, _, _, rfl, rfl, ?_⟩
    dsimp only
    rw [hln]
    have e2 : (1 : Int) * 2 ^ n.toNat - 1 = ((2 ^ n.toNat - 1 : Nat) : Int) := by
      have : 0 < 2 ^ n.toNat := Nat.pow_pos (by decide)
      rw [p2i n0]; omega
    rw [e2]
    refine ⟨tb, ts, n, ps, b, part, _, rfl, htb, TB, G, n0, n2, hb, hp, every_in n0, fun cs r H1 e1 hcs hr2 => ?_⟩
    have PK := hcs.ok
    have ok := slip_ok G TB hb hp PK hpp hr2
    dsimp only at ok
    refine ⟨tb, ts, n, ps, b, _, cs, rfl, e1 _ _ htb, TB, G, n0, n2, hb, ok.2.2.1, ok.2.1, PK, ok.2.2.2.2, fun q out H2 e2 hq hout hrow hok hle => ?_⟩
    exact k q _ _ H2 (e1.trans e2) hq (slip_eq TB hcs hr2 rfl hout) hrow ok.1 ok.2.2.2.1 hok hle
def sp_check_part_beside (C : Addr) : Sp := fun vs H Q _ => ∃ x n u ps t R part, vs = [.ref x, .ref t, .int ((part : Nat) : Int)] ∧ WebAt C H x n u ps ∧ Good n ps ∧ 1 ≤ n ∧ n ≤ 200 ∧ H t = some (.tup (R.map V.int)) ∧ RestL n ps R ∧ (part : Int) < n ∧ (part : Int) ∉ R ∧ ∀ H', Same H H' → Q .non H'
abbrev s_check_part_beside : Stmt := (top 32)
theorem sc_check_part_beside : FnScope ["web", "rest", "part"] ["web", "rest", "part"] (defScope s_check_part_beside) := ⟨rfl, rfl, rfl, by decide +kernel, rfl, by decide +kernel, by decide +kernel⟩

theorem ok_check_part_beside {f : Addr} {fd : FuncData} (F : Fun K "check_part_beside" "check_part_beside" s_check_part_beside f fd) (hm : mg "check_part_beside" = some (.ref f)) (B : Bl mg) (c_check_rest : Cal P w K mg base 7 "check_rest" ["web", "thing"] (sp_check_rest C)) (c_check_part : Cal P w K mg base 4 "check_part" ["web", "thing"] (sp_check_part C)) : Cal P w K mg base 8 "check_part_beside" ["web", "rest", "part"] (sp_check_part_beside C) := by
  refine ⟨f, fd, F.ok sc_check_part_beside (fun vs H Q E h => ?_) (fun cdv A outer s H vs Q E hr h => ?_), hm, F.kp, F.binds (ps := ["web", "rest", "part"]) fun _ _ _ _ _ _ us hl => match us, hl with | [_, _, _], _ => rfl⟩
  · obtain ⟨x, n, u, ps, t, R, part, rfl, _⟩ := h; rfl
  · obtain ⟨x, n, u, ps, t, R, part, rfl, W, G, n1, n2, ht, hR, hp, hpR, k⟩ := h
    have p0 : (0 : Int) ≤ (part : Int) := Int.natCast_nonneg _
    refine ⟨_, (pss_cons (ps_expr (pe_cal c_check_rest (hr.mono (by first | decide | omega)) (pa_cons (pv 0) (pa_cons (pv 1) pa_nil))))
 (pss_cons (ps_expr (pe_cal c_check_part (hr.mono (by first | decide | omega)) (pa_cons (pv 0) (pa_cons (pv 2) pa_nil))))
 (pss_one (ps_if (pt_cmpR op_in_seq (pv 2) (pv 1) (by rfl)) (pss_one ps_never) pss_nil)))), ?_⟩
    refine ⟨_, rfl, _, rfl, x, n, u, ps, t, R, rfl, W, G, n1, n2, ht, hR, fun H1 e1 => ?_⟩
    refine ⟨_, rfl, _, rfl, x, n, u, ps, _, rfl, W.same e1, p0, hp, ?_⟩
    refine ⟨_, rfl, _, rfl, t, _, rfl, .inr (SqT.of (e1 _ _ ht)), rfl, flat_ints R, _, rfl, ?_⟩
    rw [inV_ints, decide_eq_false hpR]
    exact iteF (k _ e1)
def sp_slip (C : Addr) : Sp := fun vs H Q _ => ∃ x n u ps t R part, vs = [.ref x, .ref t, .int ((part : Nat) : Int)] ∧ WebAt C H x n u ps ∧ Good n ps ∧ 1 ≤ n ∧ n ≤ 200 ∧ H t = some (.tup (R.map V.int)) ∧ RestL n ps R ∧ (part : Int) < n ∧ (part : Int) ∉ R ∧
  ∀ q (row : List Int) (g : Nat) H', Same H H' → H' q = some (.tup (row.map V.int)) → SlipIs n ps (bitsN R ||| 2 ^ part) part row → Row n ps row (lotL (bitsN R ||| 2 ^ part)) (lotL g) → RestL n ps (lotL g) → Has g part → (∀ x ∈ row, 0 ≤ x ∧ x < n) → row.length ≤ 400 → Q (.ref q) H'
abbrev s_slip : Stmt := (top 38)
theorem sc_slip : FnScope ["web", "rest", "part"] ["web", "rest", "part"] (defScope s_slip) := ⟨rfl, rfl, rfl, by decide +kernel, rfl, by decide +kernel, by decide +kernel⟩

theorem ok_slip {f : Addr} {fd : FuncData} (F : Fun K "slip" "slip" s_slip f fd) (hm : mg "slip" = some (.ref f)) (B : Bl mg) (c_check_part_beside : Cal P w K mg base 8 "check_part_beside" ["web", "rest", "part"] (sp_check_part_beside C)) (c_row_with : Cal P w K mg base 6 "row_with" ["tied", "stand", "part"] sp_row_with) (c_tied_bits : Cal P w K mg base 1 "tied_bits" ["web"] (sp_tied_bits C)) (c_bits_of : Cal P w K mg base 1 "bits_of" ["lot"] sp_bits_of) : Cal P w K mg base 9 "slip" ["web", "rest", "part"] (sp_slip C) := by
  refine ⟨f, fd, F.ok sc_slip (fun vs H Q E h => ?_) (fun cdv A outer s H vs Q E hr h => ?_), hm, F.kp, F.binds (ps := ["web", "rest", "part"]) fun _ _ _ _ _ _ us hl => match us, hl with | [_, _, _], _ => rfl⟩
  · obtain ⟨x, n, u, ps, t, R, part, rfl, _⟩ := h; rfl
  · obtain ⟨x, n, u, ps, t, R, part, rfl, W, G, n1, n2, ht, hR, hp, hpR, k⟩ := h
    have p0 : (0 : Int) ≤ (part : Int) := Int.natCast_nonneg _
    refine ⟨_, (pss_cons (ps_expr (pe_cal c_check_part_beside (hr.mono (by first | decide | omega)) (pa_cons (pv 0) (pa_cons (pv 1) (pa_cons (pv 2) pa_nil)))))
 (pss_one (ps_ret (pe_cal c_row_with (hr.mono (by first | decide | omega)) (pa_cons (pe_cal c_tied_bits (hr.mono (by first | decide | omega)) (pa_cons (pv 0) pa_nil)) (pa_cons (pe_op op_or (pe_cal c_bits_of (hr.mono (by first | decide | omega)) (pa_cons (pv 1) pa_nil)) (pe_op op_shl pe_int (pv 2))) (pa_cons (pv 2) pa_nil))))))), ?_⟩
    refine ⟨_, rfl, _, rfl, _, rfl, x, n, u, ps, t, R, part, rfl, W, G, n1, n2, ht, hR, hp, hpR, fun H1 e1 => ?_⟩
    refine ⟨_, rfl, x, n, u, ps, rfl, W.same e1, G, n1, n2, fun tb ts H2 e2 ntb htb TB => ?_⟩
    have e12 := e1.trans e2
    refine ⟨_, rfl, t, R, rfl, e12 _ _ ht, (fun y hy => by have := hR.lot.ok y hy; omega), ?_⟩
    refine ⟨_, rfl, _, _, rfl, rfl, ⟨p0, by omega, by decide⟩, _, _, rfl, rfl, ?_⟩
    dsimp only
    rw [p2 part, or_pp]
    have hbit : ∀ k : Nat, Has (bitsN R ||| 2 ^ part) k ↔ (k : Int) ∈ R ∨ k = part := fun k => by
      rw [has_or, has_pow]
      unfold Has
      rw [bitsN_bit (fun x hx => (hR.lot.ok x hx).1), decide_eq_true_eq]
    have hin : InN n (bitsN R ||| 2 ^ part) := fun k hk => by
      rcases (hbit k).mp hk with h | rfl
      · exact (hR.lot.ok _ h).2
      · exact hp
    refine ⟨_, rfl, tb, ts, n, ps, _, part, rfl, htb, TB, G, by omega, n2, hin, hp, .inl ((hbit part).mpr (.inr rfl)), fun q row g H3 e3 hq hs hrow hg hgp hok hle => ?_⟩
    exact k q row g H3 (e12.trans e3) hq hs hrow hg hgp hok hle
end
end Bs

namespace Bs
open PySem PySem.Spec L2
theorem rg_map (n : Nat) : (List.range n).map (fun i : Nat => V.int ((0 : Int) + i)) = ((List.range n).map fun i : Nat => (i : Int)).map V.int := by
  rw [List.map_map]; exact List.map_congr_left fun i _ => by simp
theorem rest_of {n : Int} {ps : List (Int × Int)} {R : List Int} (hR : Lot n R) (hf : ∀ x ∈ R, ∀ y ∈ R, norm x y ∉ ps) (hm : ∀ p, 0 ≤ p → p < n → p ∈ R ∨ ∃ q ∈ R, norm p q ∈ ps) : RestL n ps R := ⟨hR, chg_nil.mpr fun p p0 p1 => by
  by_cases c : p ∈ R
  · rw [decide_eq_true c]; exact says_iff.mpr fun q hq => hf p c q hq
  · rw [decide_eq_false c]
    rcases hm p p0 p1 with h | ⟨q, h1, h2⟩
    · exact absurd h c
    · exact Bool.eq_false_iff.mpr fun h => says_iff.mp h q h1 h2⟩
section
variable {P : Program} {w : World} {K : PySem.W.Frag} {mg : Str → Option Value} {base : Heap} {C : Addr}
def sp_is_num : Sp := fun vs H Q _ => ∃ i m, vs = [.int i, .int m] ∧ Q (.bl (decide (0 ≤ i ∧ i < m))) H
abbrev s__law_is_number : Stmt := (top 48)
theorem sc__law_is_number : FnScope ["thing", "many"] ["thing", "many"] (defScope s__law_is_number) := ⟨rfl, rfl, rfl, by decide +kernel, rfl, by decide +kernel, by decide +kernel⟩

theorem ok_law_is_number {f : Addr} {fd : FuncData} (F : Fun K "_law_is_number" "_law_is_number" s__law_is_number f fd) (hm : mg "_law_is_number" = some (.ref f)) (B : Bl mg) : Cal P w K mg base 1 "_law_is_number" ["thing", "many"] sp_is_num := by
  refine ⟨f, fd, F.ok sc__law_is_number (fun vs H Q E h => ?_) (fun cdv A outer s H vs Q E hr h => ?_), hm, F.kp, F.binds (ps := ["thing", "many"]) fun _ _ _ _ _ _ us hl => match us, hl with | [_, _], _ => rfl⟩
  · obtain ⟨i, m, rfl, _⟩ := h; rfl
  · obtain ⟨i, m, rfl, k⟩ := h
    refine ⟨_, (pss_one (ps_ret (pe_and (pe_callB call_isi (by rfl) B.isinstance (by decide +kernel) (pa_cons (pv 0) (pa_cons (pe_bltn (v := .ty "int") (by rfl) B.int_ (by decide +kernel) rfl) pa_nil))) (pe_and (pe_not (pe_callB call_isi (by rfl) B.isinstance (by decide +kernel) (pa_cons (pv 0) (pa_cons (pe_bltn (v := .ty "bool") (by rfl) B.bool_ (by decide +kernel) rfl) pa_nil)))) (pe_one (pe_chain op_le op_lt pe_int (pv 0) (pv 1))))))), ?_⟩
    refine ⟨_, rfl, _, _, _, _, true, rfl, .ty "int", .base (.int i), kit_ty (by decide +kernel), true, rfl, iteT ?_⟩
    refine ⟨_, rfl, _, _, _, _, false, rfl, .ty "bool", .base (.int i), kit_ty (by decide +kernel), false, rfl, true, rfl, iteT ?_⟩
    refine ⟨_, rfl, _, _, rfl, rfl, _, rfl, ?_⟩
    by_cases h1 : 0 ≤ i
    · rw [if_pos (decide_eq_true h1)]
      refine ⟨_, rfl, _, _, rfl, rfl, ?_⟩
      have e : decide (0 ≤ i ∧ i < m) = decide (i < m) := by simp [h1]
      rw [e] at k
      exact k
    · rw [if_neg (by simpa using h1)]
      have e : decide (0 ≤ i ∧ i < m) = false := by simp [h1]
      rw [e] at k
      exact k
theorem cons_erase {α : Type} : ∀ {l : List α} {i : Nat} (h : i < l.length), (l[i] :: l.eraseIdx i).Perm l
  | [], _, h => by simp at h
  | a :: l, 0, _ => .refl _
  | a :: l, i + 1, h => by
    have h' : i < l.length := by simpa using h
    exact (List.Perm.swap a l[i] _).trans ((cons_erase h').cons a)
theorem map_erase {α β : Type} (f : α → β) : ∀ (l : List α) (i : Nat), (l.map f).eraseIdx i = (l.eraseIdx i).map f
  | [], _ => rfl
  | a :: l, 0 => rfl
  | a :: l, i + 1 => by rw [List.map_cons, List.eraseIdx_cons_succ, List.eraseIdx_cons_succ, List.map_cons, map_erase f l i]
structure SomeI (n : Int) (ps : List (Int × Int)) (l R : List Int) : Prop where
  nd : l.Nodup
  ok : ∀ x ∈ l, 0 ≤ x ∧ x < n
  lot : Lot n R
  free : ∀ x ∈ R, ∀ y ∈ R, norm x y ∉ ps
  off : ∀ x ∈ l, x ∉ R
  all : ∀ p, 0 ≤ p → p < n → p ∈ l ∨ p ∈ R ∨ ∃ q ∈ R, norm p q ∈ ps
theorem erase_mem {l : List Int} {k : Nat} {y : Int} (nd : l.Nodup) (h : l[k]? = some y) : (l.eraseIdx k).Nodup ∧ ∀ x, x ∈ l ↔ x = y ∨ x ∈ l.eraseIdx k := by
  obtain ⟨hk, e⟩ := List.getElem?_eq_some_iff.mp h
  have hp := cons_erase hk
  rw [e] at hp
  have h2 := (hp.nodup_iff).mpr nd
  exact ⟨(List.nodup_cons.mp h2).2, fun x => by rw [← hp.mem_iff, List.mem_cons]⟩
theorem SomeI.skip {n : Int} {ps : List (Int × Int)} {l R : List Int} {k : Nat} {y : Int} (h : SomeI n ps l R) (hy : l[k]? = some y) (hs : ¬ says ps R y = true) : SomeI n ps (l.eraseIdx k) R := by
  obtain ⟨e1, e2⟩ := erase_mem h.nd hy
  refine ⟨e1, fun x hx => h.ok x ((e2 x).mpr (.inr hx)), h.lot, h.free, fun x hx => h.off x ((e2 x).mpr (.inr hx)), fun p p0 p1 => ?_⟩
  rcases h.all p p0 p1 with hp | hp
  · rcases (e2 p).mp hp with rfl | hp
    · refine .inr (.inr ?_)
      apply Classical.byContradiction
      intro hno
      exact hs (says_iff.mpr fun q hq hm => hno ⟨q, hq, hm⟩)
    · exact .inl hp
  · exact .inr hp
theorem SomeI.take {n : Int} {ps : List (Int × Int)} {l R R' : List Int} {k : Nat} {y : Int} (G : Good n ps) (h : SomeI n ps l R) (hy : l[k]? = some y) (hs : says ps R y = true) (hl : R'.Pairwise (· < ·)) (hm : ∀ x, x ∈ R' ↔ x ∈ R ∨ x = y) : SomeI n ps (l.eraseIdx k) R' := by
  obtain ⟨e1, e2⟩ := erase_mem h.nd hy
  have hyl := List.mem_of_getElem? hy
  have hno := says_iff.mp hs
  have yno : y ∉ l.eraseIdx k := by
    obtain ⟨hk, e⟩ := List.getElem?_eq_some_iff.mp hy
    have hp := cons_erase hk
    rw [e] at hp
    exact (List.nodup_cons.mp ((hp.nodup_iff).mpr h.nd)).1
  refine ⟨e1, fun x hx => h.ok x ((e2 x).mpr (.inr hx)), ⟨hl, fun x hx => ?_⟩, fun a ha b hb => ?_, fun x hx hxR => ?_, fun p p0 p1 => ?_⟩
  · rcases (hm x).mp hx with hx | rfl
    · exact h.lot.ok x hx
    · exact h.ok _ hyl
  · rcases (hm a).mp ha with ha | rfl
    · rcases (hm b).mp hb with hb | rfl
      · exact h.free a ha b hb
      · rw [norm_sym]; exact hno a ha
    · rcases (hm b).mp hb with hb | rfl
      · exact hno b hb
      · exact norm_self G _
  · rcases (hm x).mp hxR with hxR | rfl
    · exact h.off x ((e2 x).mpr (.inr hx)) hxR
    · exact yno hx
  · rcases h.all p p0 p1 with hp | hp | ⟨q, hq, ht⟩
    · rcases (e2 p).mp hp with rfl | hp
      · exact .inr (.inl ((hm p).mpr (.inr rfl)))
      · exact .inl hp
    · exact .inr (.inl ((hm p).mpr (.inl hp)))
    · exact .inr (.inr ⟨q, (hm q).mpr (.inl hq), ht⟩)
theorem SomeI.init {n : Int} {ps : List (Int × Int)} : SomeI n ps ((List.range n.toNat).map fun i : Nat => (i : Int)) [] := by
  refine ⟨?_, fun x hx => ?_, ⟨.nil, by simp⟩, by simp, by simp, fun p p0 p1 => .inl (List.mem_map.mpr ⟨p.toNat, List.mem_range.mpr (by omega), by omega⟩)⟩
  · exact List.nodup_iff_pairwise_ne.mpr (List.pairwise_map.mpr ((List.pairwise_lt_range).imp fun {a b} h => by omega))
  · obtain ⟨i, hi, rfl⟩ := List.mem_map.mp hx
    have := List.mem_range.mp hi
    omega
def sp_some (K : PySem.W.Frag) : Sp := fun vs H Q _ => ∃ T L p n ps, vs = [.ref T, .ref p] ∧ Tp H T L ∧ WebT H p n ps ∧ Good n ps ∧ 1 ≤ n ∧ n ≤ 200 ∧ ∀ q R H', ExT T H H' → Tp H' T L → H' q = some (.tup (R.map V.int)) → RestL n ps R → Q (.ref q) H'
abbrev s__law_some_rest : Stmt := (top 50)
theorem sc__law_some_rest : FnScope ["tape", "web", "left", "found", "part"] ["tape", "web"] (defScope s__law_some_rest) := ⟨rfl, rfl, rfl, by decide +kernel, rfl, by decide +kernel, by decide +kernel⟩

theorem ok_law_some_rest {f : Addr} {fd : FuncData} (F : Fun K "_law_some_rest" "_law_some_rest" s__law_some_rest f fd) (hm : mg "_law_some_rest" = some (.ref f)) (B : Bl mg) (c__law_pick : Cal P w K mg base 1 "_law_pick" ["tape", "size"] spPick) (c__law_says : Cal P w K mg base 2 "_law_says" ["web", "stand", "part"] sp_saysW) : Cal P w K mg base 3 "_law_some_rest" ["tape", "web"] (sp_some K) := by
  refine ⟨f, fd, F.ok sc__law_some_rest (fun vs H Q E h => ?_) (fun cdv A outer s H vs Q E hr h => ?_), hm, F.kp, F.binds (ps := ["tape", "web"]) fun _ _ _ _ _ _ us hl => match us, hl with | [_, _], _ => rfl⟩
  · obtain ⟨T, L, p, n, ps, rfl, _⟩ := h; rfl
  · obtain ⟨T, L, p, n, ps, rfl, hT, W, G, n1, n2, k⟩ := h
    obtain ⟨t, xs, hp, ht, hP⟩ := id W
    refine ⟨_, (pss_cons (ps_set (i := 2) sc__law_some_rest.nd rfl (by first | exact Or.inl rfl | exact Or.inr rfl) (pe_listRg (by rfl) (by rfl) B.list_ (prg_1 (by rfl) B.range (pe_ix ix_tup (pv 1) pe_int (fun _ _ => rfl)))))
 (pss_cons (ps_set (i := 3) sc__law_some_rest.nd rfl (by first | exact Or.inl rfl | exact Or.inr rfl) (pe_tup pa_nil))
 (pss_cons (ps_while PassesOwn.never (pt_cmpR op_gt (pe_callB call_len_seq (by rfl) B.len (by decide +kernel) (pa_cons (pv 2) pa_nil)) pe_int (nomark _)) (pss_cons (ps_set (i := 4) sc__law_some_rest.nd rfl (by first | exact Or.inl rfl | exact Or.inr rfl) (pe_bm PySem.F.plainAttrs_list PySem.F.slot_list_pop PySem.F.type_list_pop mt_popAt (pv 2) (pa_cons (pe_cal c__law_pick (hr.mono (by first | decide | omega)) (pa_cons (pv 0) (pa_cons (pe_callB call_len_seq (by rfl) B.len (by decide +kernel) (pa_cons (pv 2) pa_nil)) pa_nil))) pa_nil)))
 (pss_one (ps_if (pt_val (pe_cal c__law_says (hr.mono (by first | decide | omega)) (pa_cons (pv 1) (pa_cons (pv 3) (pa_cons (pv 4) pa_nil))))) (pss_one (ps_set (i := 3) sc__law_some_rest.nd rfl (by first | exact Or.inl rfl | exact Or.inr rfl) (pe_callTy call_tuple_of (by rfl) B.tuple_ (by decide +kernel) (pa_cons (pe_callB cr_sortedIT (by rfl) B.sorted (by decide +kernel) (pa_cons (pe_op op_catA (pv 3) (pe_tup (pa_cons (pv 4) pa_nil))) pa_nil)) pa_nil)))) pss_nil))))
 (pss_one (ps_ret (pv 3)))))), ?_⟩
    refine ⟨_, rfl, p, _, _, _, rfl, rfl, SqT.of hp, rfl, _, rfl, ⟨by omega, by omega, by omega, by omega, by omega⟩, fun D hD => ?_⟩
    have eV : rgV 0 n = ((List.range n.toNat).map fun i : Nat => (i : Int)).map V.int := by unfold rgV; rw [Int.sub_zero, rg_map]
    rw [eV]
    have s1 := L2.Same.new (o := .lst (((List.range n.toNat).map fun i : Nat => (i : Int)).map V.int)) hD
    have DT := hT.neT hD
    have DL := hT.neL hD
    refine ⟨(by show 0 ≤ sizeLine; exact Nat.zero_le _), fun z hz => ?_⟩
    have s2 := s1.new' (o := .tup []) hz
    have zD : D ≠ z := fun e => by rw [← e, upd_same] at hz; cases hz
    refine ⟨fun m σ H' => ∃ (l R : List Int) (q : Addr) (v : Option V), σ = [some (.ref T), some (.ref p), some (.ref D), some (.ref q), v] ∧ m = l.length ∧ ExT T H H' ∧ Tp H' T L ∧ H' D = some (.lst (l.map V.int)) ∧ H' q = some (.tup (R.map V.int)) ∧ WebT H' p n ps ∧ SomeI n ps l R,
      ⟨_, _, [], z, none, rfl, rfl, s2.exT, hT.ext s2, by rw [upd_ne zD]; exact upd_same, upd_same, W.same s2, SomeI.init⟩, ?_⟩
    rintro m σ H1 ⟨l, R, q, v, rfl, rfl, e1, hT1, hD1, hq1, W1, I⟩
    have hll := nodup_len I.nd I.ok (by omega)
    have hRl := lot_len I.lot (by omega)
    refine ⟨_, rfl, D, _, rfl, .inl (SqL.of hD1), _, _, rfl, rfl, _, rfl, ?_⟩
    rw [List.length_map]
    by_cases c0 : l = []
    · subst c0
      refine iteF ⟨_, rfl, k q R H1 e1 hT1 hq1 (rest_of I.lot I.free fun p p0 p1 => ?_)⟩
      rcases I.all p p0 p1 with h | h
      · cases h
      · exact h
    · have hpos : 0 < l.length := List.length_pos_iff.mpr c0
      rw [decide_eq_true (show ((l.length : Nat) : Int) > 0 by omega)]
      refine iteT ⟨_, fun σ' H' h => h, ?_⟩
      refine ⟨_, rfl, .inl ⟨rfl, _, SqL.of hD1⟩, _, rfl, _, rfl, D, _, rfl, .inl (SqL.of hD1), T, L, _, rfl, by rw [List.length_map]; omega, by rw [List.length_map]; omega, hT1, fun r H2 r0 r1 e2 hT2 => ?_⟩
      rw [List.length_map] at r1
      have t2 := hT1.tk e2
      have hD2 := e2 _ _ DT hD1
      have hlt : r.toNat < l.length := by omega
      have hy : l[r.toNat]? = some (l.getD r.toNat 0) := by rw [List.getD_eq_getElem?_getD, List.getElem?_eq_getElem hlt]; rfl
      generalize l.getD r.toNat 0 = y at hy
      refine ⟨D, _, r, r.toNat, .int y, rfl, rfl, hD2, by omega, by omega, (by rw [List.length_map]; exact seq_ix r0 (by omega)), (by rw [List.getElem?_map, hy]; rfl), ?_⟩
      have eE : (l.map V.int).eraseIdx r.toNat = (l.eraseIdx r.toNat).map V.int := map_erase _ _ _
      rw [eE]
      have t3 := tk_lst (o := .lst ((l.eraseIdx r.toNat).map V.int)) hD2
      have W3 := (W1.tk t2).tk t3
      have hq3 := t3 _ _ (t2 _ _ hq1)
      have hT3 := hT2.upd (o := .lst ((l.eraseIdx r.toNat).map V.int)) DT DL
      have e3 : ExT T H (upd H2 D (.lst ((l.eraseIdx r.toNat).map V.int))) := (e1.trans e2).mut hD
      have hD3 : (upd H2 D (.lst ((l.eraseIdx r.toNat).map V.int))) D = some (.lst ((l.eraseIdx r.toNat).map V.int)) := upd_same
      generalize upd H2 D (.lst ((l.eraseIdx r.toNat).map V.int)) = H3 at W3 hq3 hT3 e3 hD3 ⊢
      have hless : (l.eraseIdx r.toNat).length < l.length := by rw [List.length_eraseIdx, if_pos hlt]; omega
      refine ⟨_, rfl, _, rfl, _, rfl, p, n, ps, q, R, y, rfl, W3, G, hq3, by omega, fun H4 e4 => ⟨_, rfl, ?_⟩⟩
      cases cs : says ps R y with
      | false => exact iteF ⟨_, hless, _, R, q, _, rfl, rfl, e3.trans e4.exT, hT3.ext e4, e4 _ _ hD3, e4 _ _ hq3, W3.same e4, I.skip hy (by rw [cs]; simp)⟩
      | true =>
        refine iteT ?_
        refine ⟨_, rfl, _, rfl, (by show 1 ≤ sizeLine; decide), fun z1 hz1 => ?_⟩
        have e5 := e4.new' (o := .tup [.int y]) hz1
        refine cat_any (e5 _ _ hq3) upd_same (by rw [List.length_map]; exact Nat.le_trans (show R.length + 1 ≤ 400 by omega) (by decide)) fun c H5 e6 hc => ?_
        have em : R.map V.int ++ [V.int y] = (R ++ [y]).map V.int := by rw [List.map_append]; rfl
        rw [em] at hc
        have yR : y ∉ R := I.off y (List.mem_of_getElem? hy)
        have nd2 : (R ++ [y]).Nodup := List.nodup_append.mpr ⟨upi_nodup I.lot.up, by simp, fun a ha b hb e => by simp at hb; subst hb; subst e; exact yR ha⟩
        refine ⟨c, _, rfl, hc, fun ns q1 hp hle hq1' => ⟨q1, _, rfl, .inl ⟨SqL.of upd_same, fun q2 hq2 => ?_⟩⟩⟩
        have s6 := (e5.trans e6).new' (o := .lst (ns.map V.int)) hq1'
        have s7 := s6.new' (o := .tup (ns.map V.int)) hq2
        have up := upi_of hp hle nd2
        have mem : ∀ x, x ∈ ns ↔ x ∈ R ∨ x = y := fun x => by rw [hp.mem_iff, List.mem_append, List.mem_singleton]
        exact ⟨_, hless, _, ns, q2, _, rfl, rfl, e3.trans s7.exT, hT3.ext s7, s7 _ _ hD3, upd_same, W3.same s7, I.take G hy cs up mem⟩
end
end Bs

namespace Bs
open PySem PySem.Spec L2
def tD (l : List Int) : PyData := .tuple (l.map PyData.int)
theorem tD_lay (l : List Int) : (tD l).canLay0 = true := by unfold tD; simp only [PyData.canLay0]; exact iD_lay l
theorem tD_depth (l : List Int) : (tD l).depth = 1 := by
  have := iD_depth l
  unfold tD
  simp only [PyData.depth]
  omega
theorem tDs_lay : ∀ Ls : List (List Int), PyData.canLayAll0 (Ls.map tD) = true
  | [] => by simp [PyData.canLayAll0]
  | l :: Ls => by simp [PyData.canLayAll0, tD_lay l, tDs_lay Ls]
theorem tDs_depth : ∀ Ls : List (List Int), PyData.depthAll (Ls.map tD) ≤ 1
  | [] => by simp [PyData.depthAll]
  | l :: Ls => by
    have h1 := tDs_depth Ls
    have h2 := tD_depth l
    simp only [List.map_cons, PyData.depthAll]
    omega
theorem tDs_shaped (Ls : List (List Int)) : SeqAt.shaped (.list (Ls.map tD)) = true := by
  have h1 := tDs_depth Ls
  have h2 : PyData.depth (.list (Ls.map tD)) ≤ 64 := by
    simp only [PyData.depth]
    omega
  show (PyData.canLay0 (.list (Ls.map tD)) && decide (PyData.depth (.list (Ls.map tD)) ≤ 64)) = true
  rw [Bool.and_eq_true]
  exact ⟨by simp only [PyData.canLay0]; exact tDs_lay Ls, decide_eq_true h2⟩
theorem dp_lots {K : PySem.W.Frag} {H : Hp} : ∀ {xs : List V} {Ls : List (List Int)}, Paired (LotAt H) xs Ls → DpAll K H xs (Ls.map tD)
  | _, _, .nil => .nil
  | _, _, .cons ⟨a, e, h⟩ t => .cons (e ▸ dp_lot h) (dp_lots t)
theorem tD_shaped (l : List Int) : SeqAt.shaped (.tuple (l.map PyData.int)) = true := iD_shaped l
theorem any_tD (l : List Int) : ∀ Ls : List (List Int), ((Ls.map tD).any fun z => PyData.eqv z (.tuple (l.map PyData.int))) = decide (l ∈ Ls)
  | [] => rfl
  | m :: Ls => by
    rw [List.map_cons, List.any_cons, any_tD l Ls, show PyData.eqv (tD m) (.tuple (l.map PyData.int)) = decide (m = l) from iD_eqv m l]
    by_cases h1 : m = l
    · subst h1; simp
    · by_cases h2 : l ∈ Ls
      · simp [h2]
      · have : ¬ l = m := fun e => h1 e.symm
        simp [h1, h2, this]
theorem Row.reach {n : Int} {ps : List (Int × Int)} : ∀ {cs l l' : List Int}, (∀ x ∈ cs, 0 ≤ x ∧ x < n) → Row n ps cs l l' → Reach n ps l l'
  | [], l, l', _, h => by rw [show _ = _ from h]; exact .refl
  | p :: cs, l, l', hok, ⟨m, b, r⟩ => by
    have hp := hok p List.mem_cons_self
    exact (Reach.refl.step hp.1 hp.2 b).trans (Row.reach (fun x hx => hok x (List.mem_cons_of_mem _ hx)) r)
theorem back_reach {n : Int} {ps : List (Int × Int)} {R l : List Int} {p : Int} (G : Good n ps) (hR : RestL n ps R) (p0 : 0 ≤ p) (p1 : p < n) (hp : p ∉ R) (hl : Lot n l) (hm : ∀ x, x ∈ l ↔ x ∈ R ∨ x = p) : Reach n ps l R := by
  have h2 := chg_nil.mp hR.no p p0 p1
  rw [decide_eq_false hp] at h2
  have hs : ¬ says ps l p = true := fun h => by
    have : says ps R p = true := says_iff.mpr fun q hq => says_iff.mp h q ((hm q).mpr (.inl hq))
    rw [this] at h2; cases h2
  refine Reach.refl.step p0 p1 ⟨hR.lot, fun x => ?_⟩
  rw [if_neg hs, hm]
  constructor
  · intro hx; exact ⟨.inl hx, fun e => hp (e ▸ hx)⟩
  · rintro ⟨hx | hx, hne⟩
    · exact hx
    · exact absurd hx hne
section
variable {P : Program} {w : World} {K : PySem.W.Frag} {mg : Str → Option Value} {base : Heap} {C : Addr}
def sp_law (K : PySem.W.Frag) : Sp := fun vs H Q _ => ∃ (a : Addr) (ns : List Int), vs = [.ref a] ∧ SqL K H a (ns.map V.int) ∧ ∀ H', Q (.bl true) H'
abbrev s_law : Stmt := (top 51)
theorem sc_law : FnScope ["script", "tape", "web", "made", "rest", "part", "row", "one", "begin", "stand", "ends"] ["script"] (defScope s_law) := ⟨rfl, rfl, rfl, by decide +kernel, rfl, by decide +kernel, by decide +kernel⟩

theorem ok_law {f : Addr} {fd : FuncData} (F : Fun K "law" "law" s_law f fd) (B : Bl mg) (T : Txt K mg C) (m_Web : Mkc P w K mg base 5 C "Web" ["self", "size", "ties"] (sp_Web_init C))
    (c_slip : Cal P w K mg base 9 "slip" ["web", "rest", "part"] (sp_slip C))
    (c__law_tape : Cal P w K mg base 1 "_law_tape" ["script"] (sp_tape K)) (c__law_pick : Cal P w K mg base 1 "_law_pick" ["tape", "size"] spPick) (c__law_web : Cal P w K mg base 3 "_law_web" ["tape", "most"] sp_web)
    (c__law_some_rest : Cal P w K mg base 3 "_law_some_rest" ["tape", "web"] (sp_some K)) (c__law_is_number : Cal P w K mg base 1 "_law_is_number" ["thing", "many"] sp_is_num)
    (c__law_called : Cal P w K mg base 3 "_law_called" ["web", "stand", "part"] sp_calledW) (c__law_is_rest : Cal P w K mg base 4 "_law_is_rest" ["web", "stand"] sp_is_restW) (c__law_ends : Cal P w K mg base 5 "_law_ends" ["web", "stand"] sp_ends) :
    FnOk P w K mg base CX0 10 f fd ["script"] (sp_law K) := by
  refine F.ok sc_law (fun vs H Q E h => ?_) (fun cdv A outer s H vs Q E hr h => ?_)
  · obtain ⟨a, ns, rfl, _⟩ := h; rfl
  · obtain ⟨a, ns, rfl, hS, k⟩ := h
    refine ⟨_, (pss_cons (ps_set (i := 1) sc_law.nd rfl (by first | exact Or.inl rfl | exact Or.inr rfl) (pe_cal c__law_tape (hr.mono (by first | decide | omega)) (pa_cons (pv 0) pa_nil)))
 (pss_cons (ps_set (i := 2) sc_law.nd rfl (by first | exact Or.inl rfl | exact Or.inr rfl) (pe_cal c__law_web (hr.mono (by first | decide | omega)) (pa_cons (pv 1) (pa_cons (pe_ix ix_list (pe_lst (pa_cons pe_int (pa_cons pe_int (pa_cons pe_int (pa_cons pe_int pa_nil))))) (pe_cal c__law_pick (hr.mono (by first | decide | omega)) (pa_cons (pv 1) (pa_cons pe_int pa_nil))) (fun _ _ => rfl)) pa_nil))))
 (pss_cons (ps_set (i := 3) sc_law.nd rfl (by first | exact Or.inl rfl | exact Or.inr rfl) (pe_mkc m_Web (hr.mono (by first | decide | omega)) (pa_cons (pe_ix ix_tup (pv 2) pe_int (fun _ _ => rfl)) (pa_cons (pe_ix ix_tup (pv 2) pe_int (fun _ _ => rfl)) pa_nil))))
 (pss_cons (ps_set (i := 4) sc_law.nd rfl (by first | exact Or.inl rfl | exact Or.inr rfl) (pe_cal c__law_some_rest (hr.mono (by first | decide | omega)) (pa_cons (pv 1) (pa_cons (pv 2) pa_nil))))
 (pss_cons (ps_for PassesOwn.never rfl (pi_range1 (by rfl) B.range (pa_cons (pe_ix ix_tup (pv 2) pe_int (fun _ _ => rfl)) pa_nil)) (pg_name (i := 5) sc_law.nd rfl (by first | exact Or.inl rfl | exact Or.inr rfl))
  (pss_one (ps_if (pt_cmpR op_notIn_seq (pv 5) (pv 4) (by rfl)) (pss_cons (ps_set (i := 6) sc_law.nd rfl (by first | exact Or.inl rfl | exact Or.inr rfl) (pe_cal c_slip (hr.mono (by first | decide | omega)) (pa_cons (pv 3) (pa_cons (pv 4) (pa_cons (pv 5) pa_nil)))))
 (pss_cons (ps_if (PW.pt (pw_or (pt_not (pt_val (pe_callB call_isi (by rfl) B.isinstance (by decide +kernel) (pa_cons (pv 6) (pa_cons (pe_bltn (v := .ty "tuple") (by rfl) B.tuple_ (by decide +kernel) rfl) pa_nil))))) (pw_or1 (pt_not (pt_val (pe_callB (cr_all rfl) (by rfl) B.all (by decide +kernel) (pa_cons (pe_lc (own := [("one", 7)]) (te := (tCall sp_is_num [] E0 (tCons (tVar 7) (tCons (tOp (rIxT K) (tVar 2) (tC (.int 0))) tNil)))) (by rfl) sc_law.nd (pi_tup (pv 6)) (blkOk_by (own := [("one", 7)]) (N := ["script", "tape", "web", "made", "rest", "part", "row", "one", "begin", "stand", "ends"]) (sc := defScope s_law) (by decide +kernel)) (fun _ _ _ _ _ => (pg_name (i := 7) sc_law.nd rfl (by first | exact Or.inl rfl | exact Or.inr rfl))) (fun _ _ _ _ _ => pts_nil) (fun _ _ _ _ _ => (pe_cal c__law_is_number (hr.mono (by first | decide | omega)) (pa_cons (pv 7) (pa_cons (pe_ix ix_tup (pv 2) pe_int (fun _ _ => rfl)) pa_nil))))) pa_nil))))))) (pss_one (ps_ret pe_bl)) pss_nil)
 (pss_cons (ps_set (i := 8) sc_law.nd rfl (by first | exact Or.inl rfl | exact Or.inr rfl) (pe_callTy call_tuple_of (by rfl) B.tuple_ (by decide +kernel) (pa_cons (pe_callB cr_sortedI (by rfl) B.sorted (by decide +kernel) (pa_cons (pe_op op_cat (pe_callTy call_list_of (by rfl) B.list_ (by decide +kernel) (pa_cons (pv 4) pa_nil)) (pe_lst (pa_cons (pv 5) pa_nil))) pa_nil)) pa_nil)))
 (pss_cons (ps_set (i := 9) sc_law.nd rfl (by first | exact Or.inl rfl | exact Or.inr rfl) (pv 8))
 (pss_cons (ps_for PassesOwn.never rfl (pi_tup (pv 6)) (pg_name (i := 7) sc_law.nd rfl (by first | exact Or.inl rfl | exact Or.inr rfl))
  (pss_one (ps_set (i := 9) sc_law.nd rfl (by first | exact Or.inl rfl | exact Or.inr rfl) (pe_cal c__law_called (hr.mono (by first | decide | omega)) (pa_cons (pv 2) (pa_cons (pv 9) (pa_cons (pv 7) pa_nil)))))))
 (pss_cons (ps_if (PW.pt (pw_or (pt_cmpR (op_eqD hr.units) (pv 9) (pv 4) (nomark _)) (pw_or (pt_not (pt_val (pe_cal c__law_is_rest (hr.mono (by first | decide | omega)) (pa_cons (pv 2) (pa_cons (pv 9) pa_nil))))) (pw_or1 (pt_cmpR (op_neD hr.units) (pe_cal c_slip (hr.mono (by first | decide | omega)) (pa_cons (pv 3) (pa_cons (pv 4) (pa_cons (pv 5) pa_nil)))) (pv 6) (nomark _)))))) (pss_one (ps_ret pe_bl)) pss_nil)
 (pss_one (ps_if (pt_cmpR op_lt (pe_ix ix_tup (pv 2) pe_int (fun _ _ => rfl)) pe_int (nomark _)) (pss_cons (ps_set (i := 10) sc_law.nd rfl (by first | exact Or.inl rfl | exact Or.inr rfl) (pe_cal c__law_ends (hr.mono (by first | decide | omega)) (pa_cons (pv 2) (pa_cons (pv 8) pa_nil))))
 (pss_one (ps_if (PW.pt (pw_or (pt_cmpR (op_notInL (units65 hr)) (pv 9) (pv 10) (by rfl)) (pw_or1 (pt_cmpR (op_notInL (units65 hr)) (pv 4) (pv 10) (by rfl))))) (pss_one (ps_ret pe_bl)) pss_nil))) pss_nil)))))))) pss_nil)))
 (pss_one (ps_ret pe_bl))))))), ?_⟩
    refine ⟨_, rfl, a, ns, rfl, hS, fun TT L H0 e0 nT nL hT0 => ?_⟩
    refine ⟨_, rfl, (by show 4 ≤ sizeLine; decide), fun fr hfr => ?_⟩
    have s0 := L2.Same.new (o := .lst [.int 5, .int 5, .int 8, .int 24]) hfr
    have frT := hT0.neT hfr
    refine ⟨_, rfl, TT, L, 4, rfl, by decide, by decide, hT0.ext s0, fun r H1 r0 r1 e1 hT1 => ?_⟩
    have hfr1 := e1 _ _ frT upd_same
    obtain ⟨m, hm, m1, m2⟩ : ∃ m : Int, [V.int 5, .int 5, .int 8, .int 24][r.toNat]? = some (.int m) ∧ 1 ≤ m ∧ m ≤ 24 := by
      rcases (show r.toNat = 0 ∨ r.toNat = 1 ∨ r.toNat = 2 ∨ r.toNat = 3 by omega) with e | e | e | e <;> rw [e]
      · exact ⟨5, rfl, by decide, by decide⟩
      · exact ⟨5, rfl, by decide, by decide⟩
      · exact ⟨8, rfl, by decide, by decide⟩
      · exact ⟨24, rfl, by decide, by decide⟩
    refine ⟨fr, _, r, _, rfl, rfl, SqL.of hfr1, at_of (j := r.toNat) (by omega) hm, ?_⟩
    refine ⟨TT, L, m, rfl, hT1, m1, m2, fun p t n xs ps H2 e2 hT2 np hp nt ht hP n1 n5 G => ?_⟩
    refine ⟨_, rfl, p, _, _, _, rfl, rfl, SqT.of hp, rfl, _, rfl, p, _, _, _, rfl, rfl, SqT.of hp, rfl, make_web (C := C) n1 (by omega) ht hP G fun x H3 e3 nx W hx => ?_⟩
    have WT : WebT H2 p n ps := ⟨t, xs, hp, ht, hP⟩
    refine ⟨_, rfl, _, rfl, TT, L, p, n, ps, rfl, hT2.ext e3, WT.same e3, G, n1, by omega, fun q R H4 e4 hT4 hq hR => ?_⟩
    obtain ⟨l3, hl3⟩ := (hT2.ext e3).lst
    have W4 := W.exT e4 hl3
    have t4 := (hT2.ext e3).tk e4
    have WT4 := (WT.same e3).tk t4
    have hp4 := t4 _ _ (e3 _ _ hp)
    refine ⟨_, rfl, p, _, _, _, rfl, rfl, SqT.of hp4, rfl, _, rfl, by omega, by omega, for_range (lo := 0) (n := n.toNat) (fun i σ H' => Same H4 H' ∧ ∃ v5 v6 v7 v8 v9 v10 : Option V, σ = [some (.ref a), some (.ref TT), some (.ref p), some (.ref x), some (.ref q), v5, v6, v7, v8, v9, v10])
      ⟨L2.Same.refl _, none, none, none, none, none, none, rfl⟩ ?_ ?_⟩
    · rintro i σ H5 hi ⟨e5, v5, v6, v7, v8, v9, v10, rfl⟩
      rw [show (0 : Int) + (i : Nat) = (i : Nat) from Int.zero_add _]
      have i0 : (0 : Int) ≤ (i : Int) := Int.natCast_nonneg _
      have i1 : (i : Int) < n := by omega
      refine ⟨_, rfl, _, rfl, q, _, rfl, .inr (SqT.of (e5 _ _ hq)), rfl, flat_ints R, _, rfl, ?_⟩
      show (if (!inV (V.int (i : Nat)) (R.map V.int)) = true then _ else _)
      rw [inV_ints]
      refine onbN (fun hiR => ?_) (fun _ => ⟨e5, _, _, _, _, _, _, rfl⟩)
      refine ⟨_, rfl, _, rfl, _, rfl, x, n, t, ps, q, R, i, rfl, W4.same e5, G, n1, by omega, e5 _ _ hq, hR, i1, hiR, fun rq row g H6 e6 hrq hsl hrow hg hgp hok hle => ?_⟩
      have e46 := e5.trans e6
      have hrow1 := SqT.of (K := K) hrq
      refine ⟨_, rfl, _, _, _, _, true, rfl, .ty "tuple", .base (.tup hrq), kit_ty (by decide +kernel), true, rfl, iteF ?_⟩
      refine ⟨_, rfl, rq, rfl, ⟨_, SqT.of hrq⟩, fun D hD => lc_data (walk_tup (K := K) (a := rq) (xs := row.map V.int)) row (by rw [List.length_map]) (fun _ => true) (fun _ v x => v = .bl true) (fun _ _ _ _ _ q => q) hD (fun H' e => SqT.of (e _ _ hrq)) (Nat.lt_of_le_of_lt (show row.length ≤ 400 by omega) (by decide)) ?_ (fun _ _ _ _ _ y => yat_same y) ?_⟩
      · rintro j y v H7 H8 Ny Nn hy e7 ⟨rfl, hv⟩ kE kN
        obtain ⟨y', hy', rfl⟩ := map_get hv
        rw [hy] at hy'
        cases hy'
        have ok := hok y (List.mem_of_getElem? hy)
        refine ⟨rfl, yes_if ?_⟩
        refine ⟨_, rfl, _, rfl, p, _, _, _, rfl, rfl, SqT.of ((e46.trans e7) _ _ hp4), rfl, y, n, rfl, ?_⟩
        rw [decide_eq_true ok]
        exact kE _ _ rfl (L2.Same.refl _) rfl
      intro zs H7 e7 hzs hpr
      have ez := paired_eq (g := fun _ : Int => V.bl true) hpr
      subst ez
      rw [filter_yes] at hzs
      refine ⟨D, row.map fun _ => true, rfl, (by rw [List.map_map]; exact SqL.of hzs), ?_⟩
      have hall : (row.map fun _ => true).all id = true := by rw [List.all_map, List.all_eq_true]; intro _ _; rfl
      rw [hall]
      refine ⟨true, rfl, iteF ?_⟩
      have e47 := e46.trans e7
      have hq7 := e47 _ _ hq
      have hRl := lot_len hR.lot (by omega)
      refine ⟨_, rfl, q, _, rfl, .inr (SqT.of hq7), fun l1 hl1 => ?_⟩
      have a1 := L2.Same.new (o := .lst (R.map V.int)) hl1
      refine ⟨_, rfl, (by show 1 ≤ sizeLine; decide), fun l2 hl2 => ?_⟩
      have a2 := L2.Same.new (o := .lst [.int (i : Nat)]) hl2
      refine ⟨l1, l2, _, _, rfl, rfl, a2 _ _ upd_same, upd_same, (by rw [List.length_map]; exact Nat.le_trans (show R.length + 1 ≤ 400 by omega) (by decide)), fun l3 hl3 => ?_⟩
      have em : R.map V.int ++ [V.int (i : Nat)] = (R ++ [(i : Int)]).map V.int := by rw [List.map_append]; rfl
      rw [em]
      have a3 := (a1.trans a2).new' (o := .lst ((R ++ [(i : Int)]).map V.int)) hl3
      refine ⟨l3, _, rfl, SqL.of upd_same, fun bs l4 hperm hle hl4 => ⟨l4, _, rfl, .inl ⟨SqL.of upd_same, fun b hb => ?_⟩⟩⟩
      have a4 := (a3.new' (o := .lst (bs.map V.int)) hl4).new' (o := .tup (bs.map V.int)) hb
      have hb8 : (upd (upd (upd (upd (upd H7 l1 (.lst (R.map V.int))) l2 (.lst [.int (i : Nat)])) l3 (.lst ((R ++ [(i : Int)]).map V.int))) l4 (.lst (bs.map V.int))) b (.tup (bs.map V.int))) b = some (.tup (bs.map V.int)) := upd_same
      generalize upd (upd (upd (upd (upd H7 l1 (.lst (R.map V.int))) l2 (.lst [.int (i : Nat)])) l3 (.lst ((R ++ [(i : Int)]).map V.int))) l4 (.lst (bs.map V.int))) b (.tup (bs.map V.int)) = H8 at a4 hb8 ⊢
      have nd2 : (R ++ [(i : Int)]).Nodup := List.nodup_append.mpr ⟨upi_nodup hR.lot.up, by simp, fun a ha b hb e => by simp at hb; subst hb; subst e; exact hiR ha⟩
      have mem : ∀ x, x ∈ bs ↔ x ∈ R ∨ x = (i : Int) := fun x => by rw [hperm.mem_iff, List.mem_append, List.mem_singleton]
      have lotb : Lot n bs := ⟨upi_of hperm hle nd2, fun x hx => by
        rcases (mem x).mp hx with hx | rfl
        · exact hR.lot.ok x hx
        · exact ⟨i0, i1⟩⟩
      have ebs : bs = lotL (bitsN R ||| 2 ^ i) := ups_ext lotb.up (isLot_L _).2.1 fun x => by
        rw [mem, mem_lotL, has_or, has_pow]
        constructor
        · rintro (hx | rfl)
          · have := (hR.lot.ok x hx).1
            refine ⟨this, .inl ?_⟩
            unfold Has
            rw [bitsN_bit (fun y hy => (hR.lot.ok y hy).1), Int.toNat_of_nonneg this]
            exact decide_eq_true hx
          · exact ⟨i0, .inr (by simp)⟩
        · rintro ⟨x0, hx | hx⟩
          · unfold Has at hx
            rw [bitsN_bit (fun y hy => (hR.lot.ok y hy).1), Int.toNat_of_nonneg x0] at hx
            exact .inl (of_decide_eq_true hx)
          · exact .inr (by omega)
      rw [← ebs] at hrow
      have e48 := e47.trans a4
      have e68 := e7.trans a4
      refine ⟨_, rfl, _, rfl, rq, rfl, ⟨_, SqT.of (e68 _ _ hrq)⟩, for_tup (K := K) (a := rq) (xs := row.map V.int) (fun j σ H' => Same H8 H' ∧ ∃ (sd : Addr) (md : List Int) (v7 v10 : Option V), σ = [some (.ref a), some (.ref TT), some (.ref p), some (.ref x), some (.ref q), some (.int (i : Nat)), some (.ref rq), v7, some (.ref b), some (.ref sd), v10] ∧ H' sd = some (.tup (md.map V.int)) ∧ Lot n md ∧ Row n ps (row.take j) bs md)
        ⟨L2.Same.refl _, b, bs, _, _, rfl, hb8, lotb, rfl⟩ (fun j σ H' _ p => SqT.of ((e68.trans p.1) _ _ hrq)) ?_ ?_⟩
      · rintro j v σ H9 hv ⟨e9, sd, md, v7, v10, rfl, hsd, lotm, hrm⟩
        obtain ⟨y, hy, rfl⟩ := map_get hv
        have ok := hok y (List.mem_of_getElem? hy)
        refine ⟨_, rfl, _, rfl, _, rfl, p, n, ps, sd, md, y, rfl, WT4.same (e48.trans e9), G, n1, by omega, hsd, lotm, ok.1, ok.2, fun q' l' H10 e10 nq hq' bh => ?_⟩
        refine ⟨e9.trans e10, q', l', _, _, rfl, hq', bh.1, ?_⟩
        rw [take_snoc hy]
        exact hrm.snoc bh
      rintro σ H9 ⟨e9, sd, md, v7, v10, rfl, hsd, lotm, hrm⟩
      rw [List.length_map, List.take_length] at hrm
      have emd := hrm.uniq hrow
      subst emd
      have e49 := e48.trans e9
      have gi : (i : Int) ∈ lotL g := has_lotL.mpr hgp
      have hne : ¬ lotL g = R := fun e => hiR (e ▸ gi)
      refine ⟨_, rfl, _, rfl, _, _, dp_lot hsd, dp_lot (e49 _ _ hq), iD_shaped _, iD_shaped _, _, rfl, ?_⟩
      rw [iD_eqv, decide_eq_false hne]
      refine iteF ?_
      refine ⟨_, rfl, _, rfl, p, n, ps, sd, _, rfl, WT4.same e49, G, n1, by omega, hsd, lotm, fun H10 e10 => ?_⟩
      rw [decide_eq_true hg.no]
      have e410 := e49.trans e10
      refine ⟨true, rfl, iteF ?_⟩
      refine ⟨_, rfl, _, rfl, _, rfl, x, n, t, ps, q, R, i, rfl, W4.same e410, G, n1, by omega, e410 _ _ hq, hR, i1, hiR, fun rq' row' g' H11 e11 hrq' hsl' _ _ _ _ _ => ?_⟩
      have er := hsl'.uniq hsl
      subst er
      have e411 := e410.trans e11
      refine ⟨_, rfl, _, _, dp_lot hrq', dp_lot (((e68.trans e9).trans (e10.trans e11)) _ _ hrq), iD_shaped _, iD_shaped _, _, rfl, ?_⟩
      rw [iD_eqv, decide_eq_true rfl]
      refine iteF ?_
      refine ⟨_, rfl, p, _, _, _, rfl, rfl, SqT.of (e411 _ _ hp4), rfl, _, _, rfl, rfl, _, rfl, ?_⟩
      refine onb (fun c6 => ?_) (fun _ => ⟨e411, _, _, _, _, _, _, rfl⟩)
      have n6 : n < 6 := c6
      refine ⟨_, rfl, _, rfl, p, n, ps, b, bs, rfl, WT4.same e411, G, n1, by omega, ((e9.trans (e10.trans e11)) _ _ hb8), lotb, fun qe ys Ls H12 e12 nqe hqe hys hnd hmem => ?_⟩
      have inS : lotL g ∈ Ls := (hmem _).mpr ⟨Row.reach hok hrow, hg.no⟩
      have inR : R ∈ Ls := (hmem _).mpr ⟨back_reach G hR i0 i1 hiR lotb mem, hR.no⟩
      have hdp : Dp K H12 (.ref qe) (.list (Ls.map tD)) := .lst (SqL.of hqe) (dp_lots hys)
      refine ⟨_, rfl, _, rfl, _, _, dp_lot ((e10.trans (e11.trans e12)) _ _ hsd), hdp, tD_shaped _, tDs_shaped _, _, rfl, ?_⟩
      rw [any_tD, decide_eq_true inS]
      refine iteF ?_
      refine ⟨_, rfl, _, rfl, _, _, dp_lot ((e411.trans e12) _ _ hq), hdp, tD_shaped _, tDs_shaped _, _, rfl, ?_⟩
      rw [any_tD, decide_eq_true inR]
      exact iteF ⟨e411.trans e12, _, _, _, _, _, _, rfl⟩
    · rintro σ H5 ⟨e5, v5, v6, v7, v8, v9, v10, rfl⟩
      exact k _
end
end Bs

namespace Bs
open PySem PySem.Spec L2
theorem all_mk {l : PySem.W.OpenLaw} {w : World} {K : PySem.W.Frag} {h : Heap} {mg : Str → Option Value} {fa C_Web : Addr} {tk : Tok} (X : K.In h) (G : h.Ns mainGlobals mg) (hfa : mg "law" = some (.ref fa))
    {f_is_integer : Addr} {oc_is_integer kV_is_integer dc_is_integer pm_is_integer cd_is_integer ct_is_integer : Value} {od_is_integer an_is_integer : Option Addr} {sl_is_integer : Array (Option Value)}
    {f_is_number : Addr} {oc_is_number kV_is_number dc_is_number pm_is_number cd_is_number ct_is_number : Value} {od_is_number an_is_number : Option Addr} {sl_is_number : Array (Option Value)}
    {f_is_part : Addr} {oc_is_part kV_is_part dc_is_part pm_is_part cd_is_part ct_is_part : Value} {od_is_part an_is_part : Option Addr} {sl_is_part : Array (Option Value)}
    {f_is_lot_below : Addr} {oc_is_lot_below kV_is_lot_below dc_is_lot_below pm_is_lot_below cd_is_lot_below ct_is_lot_below : Value} {od_is_lot_below an_is_lot_below : Option Addr} {sl_is_lot_below : Array (Option Value)}
    {f_is_lot : Addr} {oc_is_lot kV_is_lot dc_is_lot pm_is_lot cd_is_lot ct_is_lot : Value} {od_is_lot an_is_lot : Option Addr} {sl_is_lot : Array (Option Value)}
    {f_check_part : Addr} {oc_check_part kV_check_part dc_check_part pm_check_part cd_check_part ct_check_part : Value} {od_check_part an_check_part : Option Addr} {sl_check_part : Array (Option Value)}
    {f_bits_of : Addr} {oc_bits_of kV_bits_of dc_bits_of pm_bits_of cd_bits_of ct_bits_of : Value} {od_bits_of an_bits_of : Option Addr} {sl_bits_of : Array (Option Value)}
    {f_lot_of : Addr} {oc_lot_of kV_lot_of dc_lot_of pm_lot_of cd_lot_of ct_lot_of : Value} {od_lot_of an_lot_of : Option Addr} {sl_lot_of : Array (Option Value)}
    {f_tied_bits : Addr} {oc_tied_bits kV_tied_bits dc_tied_bits pm_tied_bits cd_tied_bits ct_tied_bits : Value} {od_tied_bits an_tied_bits : Option Addr} {sl_tied_bits : Array (Option Value)}
    {f_tied_to_any : Addr} {oc_tied_to_any kV_tied_to_any dc_tied_to_any pm_tied_to_any cd_tied_to_any ct_tied_to_any : Value} {od_tied_to_any an_tied_to_any : Option Addr} {sl_tied_to_any : Array (Option Value)}
    {f_hanging : Addr} {oc_hanging kV_hanging dc_hanging pm_hanging cd_hanging ct_hanging : Value} {od_hanging an_hanging : Option Addr} {sl_hanging : Array (Option Value)}
    {f_pieces_of : Addr} {oc_pieces_of kV_pieces_of dc_pieces_of pm_pieces_of cd_pieces_of ct_pieces_of : Value} {od_pieces_of an_pieces_of : Option Addr} {sl_pieces_of : Array (Option Value)}
    {f_untied_to : Addr} {oc_untied_to kV_untied_to dc_untied_to pm_untied_to cd_untied_to ct_untied_to : Value} {od_untied_to an_untied_to : Option Addr} {sl_untied_to : Array (Option Value)}
    {f_grown : Addr} {oc_grown kV_grown dc_grown pm_grown cd_grown ct_grown : Value} {od_grown an_grown : Option Addr} {sl_grown : Array (Option Value)}
    {f_told_by : Addr} {oc_told_by kV_told_by dc_told_by pm_told_by cd_told_by ct_told_by : Value} {od_told_by an_told_by : Option Addr} {sl_told_by : Array (Option Value)}
    {f_behind_call : Addr} {oc_behind_call kV_behind_call dc_behind_call pm_behind_call cd_behind_call ct_behind_call : Value} {od_behind_call an_behind_call : Option Addr} {sl_behind_call : Array (Option Value)}
    {f_changed_by : Addr} {oc_changed_by kV_changed_by dc_changed_by pm_changed_by cd_changed_by ct_changed_by : Value} {od_changed_by an_changed_by : Option Addr} {sl_changed_by : Array (Option Value)}
    {f_is_rest : Addr} {oc_is_rest kV_is_rest dc_is_rest pm_is_rest cd_is_rest ct_is_rest : Value} {od_is_rest an_is_rest : Option Addr} {sl_is_rest : Array (Option Value)}
    {f_is_tie : Addr} {oc_is_tie kV_is_tie dc_is_tie pm_is_tie cd_is_tie ct_is_tie : Value} {od_is_tie an_is_tie : Option Addr} {sl_is_tie : Array (Option Value)}
    {f_wrong_tie : Addr} {oc_wrong_tie kV_wrong_tie dc_wrong_tie pm_wrong_tie cd_wrong_tie ct_wrong_tie : Value} {od_wrong_tie an_wrong_tie : Option Addr} {sl_wrong_tie : Array (Option Value)}
    {f_check_rest : Addr} {oc_check_rest kV_check_rest dc_check_rest pm_check_rest cd_check_rest ct_check_rest : Value} {od_check_rest an_check_rest : Option Addr} {sl_check_rest : Array (Option Value)}
    {f_check_part_beside : Addr} {oc_check_part_beside kV_check_part_beside dc_check_part_beside pm_check_part_beside cd_check_part_beside ct_check_part_beside : Value} {od_check_part_beside an_check_part_beside : Option Addr} {sl_check_part_beside : Array (Option Value)}
    {f_end_with : Addr} {oc_end_with kV_end_with dc_end_with pm_end_with cd_end_with ct_end_with : Value} {od_end_with an_end_with : Option Addr} {sl_end_with : Array (Option Value)}
    {f_row_between : Addr} {oc_row_between kV_row_between dc_row_between pm_row_between cd_row_between ct_row_between : Value} {od_row_between an_row_between : Option Addr} {sl_row_between : Array (Option Value)}
    {f_row_with : Addr} {oc_row_with kV_row_with dc_row_with pm_row_with cd_row_with ct_row_with : Value} {od_row_with an_row_with : Option Addr} {sl_row_with : Array (Option Value)}
    {f_slip : Addr} {oc_slip kV_slip dc_slip pm_slip cd_slip ct_slip : Value} {od_slip an_slip : Option Addr} {sl_slip : Array (Option Value)}
    {f__law_tape : Addr} {oc__law_tape kV__law_tape dc__law_tape pm__law_tape cd__law_tape ct__law_tape : Value} {od__law_tape an__law_tape : Option Addr} {sl__law_tape : Array (Option Value)}
    {f__law_pick : Addr} {oc__law_pick kV__law_pick dc__law_pick pm__law_pick cd__law_pick ct__law_pick : Value} {od__law_pick an__law_pick : Option Addr} {sl__law_pick : Array (Option Value)}
    {f__law_web : Addr} {oc__law_web kV__law_web dc__law_web pm__law_web cd__law_web ct__law_web : Value} {od__law_web an__law_web : Option Addr} {sl__law_web : Array (Option Value)}
    {f__law_tied : Addr} {oc__law_tied kV__law_tied dc__law_tied pm__law_tied cd__law_tied ct__law_tied : Value} {od__law_tied an__law_tied : Option Addr} {sl__law_tied : Array (Option Value)}
    {f__law_says : Addr} {oc__law_says kV__law_says dc__law_says pm__law_says cd__law_says ct__law_says : Value} {od__law_says an__law_says : Option Addr} {sl__law_says : Array (Option Value)}
    {f__law_called : Addr} {oc__law_called kV__law_called dc__law_called pm__law_called cd__law_called ct__law_called : Value} {od__law_called an__law_called : Option Addr} {sl__law_called : Array (Option Value)}
    {f__law_is_rest : Addr} {oc__law_is_rest kV__law_is_rest dc__law_is_rest pm__law_is_rest cd__law_is_rest ct__law_is_rest : Value} {od__law_is_rest an__law_is_rest : Option Addr} {sl__law_is_rest : Array (Option Value)}
    {f__law_ends : Addr} {oc__law_ends kV__law_ends dc__law_ends pm__law_ends cd__law_ends ct__law_ends : Value} {od__law_ends an__law_ends : Option Addr} {sl__law_ends : Array (Option Value)}
    {f__law_is_number : Addr} {oc__law_is_number kV__law_is_number dc__law_is_number pm__law_is_number cd__law_is_number ct__law_is_number : Value} {od__law_is_number an__law_is_number : Option Addr} {sl__law_is_number : Array (Option Value)}
    {f__law_some_rest : Addr} {oc__law_some_rest kV__law_some_rest dc__law_some_rest pm__law_some_rest cd__law_some_rest ct__law_some_rest : Value} {od__law_some_rest an__law_some_rest : Option Addr} {sl__law_some_rest : Array (Option Value)}
    {f_law : Addr} {oc_law kV_law dc_law pm_law cd_law ct_law : Value} {od_law an_law : Option Addr} {sl_law : Array (Option Value)}
    {f_Web_init : Addr} {oc_Web_init kV_Web_init dc_Web_init pm_Web_init cd_Web_init ct_Web_init : Value} {od_Web_init an_Web_init : Option Addr} {sl_Web_init : Array (Option Value)}
    (a_Web : PySem.W.nsIn K mainGlobals "Web" = some (some (.ref C_Web)))
    (a_MP : PySem.W.nsIn K mainGlobals "MOST_PARTS" = some (some (.int 24 tk)))
    (pg : PySem.W.plainGet K C_Web Str.empty = true)
    (hd : PySem.W.hasDictIn K C_Web = true)
    (po : PySem.W.plainOver K C_Web = true)
    (sa : PySem.W.findIn K (.ref C_Web) "__setattr__" = some (some (.builtin "object.__setattr__")))
    (mk : PySem.W.makesIn K C_Web = true)
    (kc : PySem.W.keepIn K (.ref C_Web) = true)
    (nS : PySem.W.findIn K (.ref C_Web) "size" = some none)
    (nT : PySem.W.findIn K (.ref C_Web) "ties" = some none)
    (xc : PySem.W.findIn K (.ref C_Web) "__class__" = some (some (.builtin "object.__class__")))
    (xg : PySem.W.specialIn K (.builtin "object.__class__") "__get__" = some (some (.builtin "getset_descriptor.__get__")))
    (xt : PySem.W.takesIn K (.builtin "object.__class__") = some true)
    (xm : PySem.W.mroIn K C_Web (.type "object") = some true)
    (a_is_integer : PySem.W.nsIn K mainGlobals "is_integer" = some (some (.ref f_is_integer)))
    (l_is_integer : K.lookup f_is_integer = some ⟨oc_is_integer, od_is_integer, .func (PySem.W.fnOf "is_integer" "is_integer" (defArgs s_is_integer) (defBody s_is_integer) (defScope s_is_integer) .none kV_is_integer dc_is_integer pm_is_integer an_is_integer cd_is_integer ct_is_integer), sl_is_integer⟩)
    (c_is_integer : PySem.W.codeIn K cd_is_integer "is_integer" = true)
    (k_is_integer : PySem.W.keepIn K (.ref f_is_integer) = true)
    (a_is_number : PySem.W.nsIn K mainGlobals "is_number" = some (some (.ref f_is_number)))
    (l_is_number : K.lookup f_is_number = some ⟨oc_is_number, od_is_number, .func (PySem.W.fnOf "is_number" "is_number" (defArgs s_is_number) (defBody s_is_number) (defScope s_is_number) .none kV_is_number dc_is_number pm_is_number an_is_number cd_is_number ct_is_number), sl_is_number⟩)
    (c_is_number : PySem.W.codeIn K cd_is_number "is_number" = true)
    (k_is_number : PySem.W.keepIn K (.ref f_is_number) = true)
    (a_is_part : PySem.W.nsIn K mainGlobals "is_part" = some (some (.ref f_is_part)))
    (l_is_part : K.lookup f_is_part = some ⟨oc_is_part, od_is_part, .func (PySem.W.fnOf "is_part" "is_part" (defArgs s_is_part) (defBody s_is_part) (defScope s_is_part) .none kV_is_part dc_is_part pm_is_part an_is_part cd_is_part ct_is_part), sl_is_part⟩)
    (c_is_part : PySem.W.codeIn K cd_is_part "is_part" = true)
    (k_is_part : PySem.W.keepIn K (.ref f_is_part) = true)
    (a_is_lot_below : PySem.W.nsIn K mainGlobals "is_lot_below" = some (some (.ref f_is_lot_below)))
    (l_is_lot_below : K.lookup f_is_lot_below = some ⟨oc_is_lot_below, od_is_lot_below, .func (PySem.W.fnOf "is_lot_below" "is_lot_below" (defArgs s_is_lot_below) (defBody s_is_lot_below) (defScope s_is_lot_below) .none kV_is_lot_below dc_is_lot_below pm_is_lot_below an_is_lot_below cd_is_lot_below ct_is_lot_below), sl_is_lot_below⟩)
    (c_is_lot_below : PySem.W.codeIn K cd_is_lot_below "is_lot_below" = true)
    (k_is_lot_below : PySem.W.keepIn K (.ref f_is_lot_below) = true)
    (a_is_lot : PySem.W.nsIn K mainGlobals "is_lot" = some (some (.ref f_is_lot)))
    (l_is_lot : K.lookup f_is_lot = some ⟨oc_is_lot, od_is_lot, .func (PySem.W.fnOf "is_lot" "is_lot" (defArgs s_is_lot) (defBody s_is_lot) (defScope s_is_lot) .none kV_is_lot dc_is_lot pm_is_lot an_is_lot cd_is_lot ct_is_lot), sl_is_lot⟩)
    (c_is_lot : PySem.W.codeIn K cd_is_lot "is_lot" = true)
    (k_is_lot : PySem.W.keepIn K (.ref f_is_lot) = true)
    (a_check_part : PySem.W.nsIn K mainGlobals "check_part" = some (some (.ref f_check_part)))
    (l_check_part : K.lookup f_check_part = some ⟨oc_check_part, od_check_part, .func (PySem.W.fnOf "check_part" "check_part" (defArgs s_check_part) (defBody s_check_part) (defScope s_check_part) .none kV_check_part dc_check_part pm_check_part an_check_part cd_check_part ct_check_part), sl_check_part⟩)
    (c_check_part : PySem.W.codeIn K cd_check_part "check_part" = true)
    (k_check_part : PySem.W.keepIn K (.ref f_check_part) = true)
    (a_bits_of : PySem.W.nsIn K mainGlobals "bits_of" = some (some (.ref f_bits_of)))
    (l_bits_of : K.lookup f_bits_of = some ⟨oc_bits_of, od_bits_of, .func (PySem.W.fnOf "bits_of" "bits_of" (defArgs s_bits_of) (defBody s_bits_of) (defScope s_bits_of) .none kV_bits_of dc_bits_of pm_bits_of an_bits_of cd_bits_of ct_bits_of), sl_bits_of⟩)
    (c_bits_of : PySem.W.codeIn K cd_bits_of "bits_of" = true)
    (k_bits_of : PySem.W.keepIn K (.ref f_bits_of) = true)
    (a_lot_of : PySem.W.nsIn K mainGlobals "lot_of" = some (some (.ref f_lot_of)))
    (l_lot_of : K.lookup f_lot_of = some ⟨oc_lot_of, od_lot_of, .func (PySem.W.fnOf "lot_of" "lot_of" (defArgs s_lot_of) (defBody s_lot_of) (defScope s_lot_of) .none kV_lot_of dc_lot_of pm_lot_of an_lot_of cd_lot_of ct_lot_of), sl_lot_of⟩)
    (c_lot_of : PySem.W.codeIn K cd_lot_of "lot_of" = true)
    (k_lot_of : PySem.W.keepIn K (.ref f_lot_of) = true)
    (a_tied_bits : PySem.W.nsIn K mainGlobals "tied_bits" = some (some (.ref f_tied_bits)))
    (l_tied_bits : K.lookup f_tied_bits = some ⟨oc_tied_bits, od_tied_bits, .func (PySem.W.fnOf "tied_bits" "tied_bits" (defArgs s_tied_bits) (defBody s_tied_bits) (defScope s_tied_bits) .none kV_tied_bits dc_tied_bits pm_tied_bits an_tied_bits cd_tied_bits ct_tied_bits), sl_tied_bits⟩)
    (c_tied_bits : PySem.W.codeIn K cd_tied_bits "tied_bits" = true)
    (k_tied_bits : PySem.W.keepIn K (.ref f_tied_bits) = true)
    (a_tied_to_any : PySem.W.nsIn K mainGlobals "tied_to_any" = some (some (.ref f_tied_to_any)))
    (l_tied_to_any : K.lookup f_tied_to_any = some ⟨oc_tied_to_any, od_tied_to_any, .func (PySem.W.fnOf "tied_to_any" "tied_to_any" (defArgs s_tied_to_any) (defBody s_tied_to_any) (defScope s_tied_to_any) .none kV_tied_to_any dc_tied_to_any pm_tied_to_any an_tied_to_any cd_tied_to_any ct_tied_to_any), sl_tied_to_any⟩)
    (c_tied_to_any : PySem.W.codeIn K cd_tied_to_any "tied_to_any" = true)
    (k_tied_to_any : PySem.W.keepIn K (.ref f_tied_to_any) = true)
    (a_hanging : PySem.W.nsIn K mainGlobals "hanging" = some (some (.ref f_hanging)))
    (l_hanging : K.lookup f_hanging = some ⟨oc_hanging, od_hanging, .func (PySem.W.fnOf "hanging" "hanging" (defArgs s_hanging) (defBody s_hanging) (defScope s_hanging) .none kV_hanging dc_hanging pm_hanging an_hanging cd_hanging ct_hanging), sl_hanging⟩)
    (c_hanging : PySem.W.codeIn K cd_hanging "hanging" = true)
    (k_hanging : PySem.W.keepIn K (.ref f_hanging) = true)
    (a_pieces_of : PySem.W.nsIn K mainGlobals "pieces_of" = some (some (.ref f_pieces_of)))
    (l_pieces_of : K.lookup f_pieces_of = some ⟨oc_pieces_of, od_pieces_of, .func (PySem.W.fnOf "pieces_of" "pieces_of" (defArgs s_pieces_of) (defBody s_pieces_of) (defScope s_pieces_of) .none kV_pieces_of dc_pieces_of pm_pieces_of an_pieces_of cd_pieces_of ct_pieces_of), sl_pieces_of⟩)
    (c_pieces_of : PySem.W.codeIn K cd_pieces_of "pieces_of" = true)
    (k_pieces_of : PySem.W.keepIn K (.ref f_pieces_of) = true)
    (a_untied_to : PySem.W.nsIn K mainGlobals "untied_to" = some (some (.ref f_untied_to)))
    (l_untied_to : K.lookup f_untied_to = some ⟨oc_untied_to, od_untied_to, .func (PySem.W.fnOf "untied_to" "untied_to" (defArgs s_untied_to) (defBody s_untied_to) (defScope s_untied_to) .none kV_untied_to dc_untied_to pm_untied_to an_untied_to cd_untied_to ct_untied_to), sl_untied_to⟩)
    (c_untied_to : PySem.W.codeIn K cd_untied_to "untied_to" = true)
    (k_untied_to : PySem.W.keepIn K (.ref f_untied_to) = true)
    (a_grown : PySem.W.nsIn K mainGlobals "grown" = some (some (.ref f_grown)))
    (l_grown : K.lookup f_grown = some ⟨oc_grown, od_grown, .func (PySem.W.fnOf "grown" "grown" (defArgs s_grown) (defBody s_grown) (defScope s_grown) .none kV_grown dc_grown pm_grown an_grown cd_grown ct_grown), sl_grown⟩)
    (c_grown : PySem.W.codeIn K cd_grown "grown" = true)
    (k_grown : PySem.W.keepIn K (.ref f_grown) = true)
    (a_told_by : PySem.W.nsIn K mainGlobals "told_by" = some (some (.ref f_told_by)))
    (l_told_by : K.lookup f_told_by = some ⟨oc_told_by, od_told_by, .func (PySem.W.fnOf "told_by" "told_by" (defArgs s_told_by) (defBody s_told_by) (defScope s_told_by) .none kV_told_by dc_told_by pm_told_by an_told_by cd_told_by ct_told_by), sl_told_by⟩)
    (c_told_by : PySem.W.codeIn K cd_told_by "told_by" = true)
    (k_told_by : PySem.W.keepIn K (.ref f_told_by) = true)
    (a_behind_call : PySem.W.nsIn K mainGlobals "behind_call" = some (some (.ref f_behind_call)))
    (l_behind_call : K.lookup f_behind_call = some ⟨oc_behind_call, od_behind_call, .func (PySem.W.fnOf "behind_call" "behind_call" (defArgs s_behind_call) (defBody s_behind_call) (defScope s_behind_call) .none kV_behind_call dc_behind_call pm_behind_call an_behind_call cd_behind_call ct_behind_call), sl_behind_call⟩)
    (c_behind_call : PySem.W.codeIn K cd_behind_call "behind_call" = true)
    (k_behind_call : PySem.W.keepIn K (.ref f_behind_call) = true)
    (a_changed_by : PySem.W.nsIn K mainGlobals "changed_by" = some (some (.ref f_changed_by)))
    (l_changed_by : K.lookup f_changed_by = some ⟨oc_changed_by, od_changed_by, .func (PySem.W.fnOf "changed_by" "changed_by" (defArgs s_changed_by) (defBody s_changed_by) (defScope s_changed_by) .none kV_changed_by dc_changed_by pm_changed_by an_changed_by cd_changed_by ct_changed_by), sl_changed_by⟩)
    (c_changed_by : PySem.W.codeIn K cd_changed_by "changed_by" = true)
    (k_changed_by : PySem.W.keepIn K (.ref f_changed_by) = true)
    (a_is_rest : PySem.W.nsIn K mainGlobals "is_rest" = some (some (.ref f_is_rest)))
    (l_is_rest : K.lookup f_is_rest = some ⟨oc_is_rest, od_is_rest, .func (PySem.W.fnOf "is_rest" "is_rest" (defArgs s_is_rest) (defBody s_is_rest) (defScope s_is_rest) .none kV_is_rest dc_is_rest pm_is_rest an_is_rest cd_is_rest ct_is_rest), sl_is_rest⟩)
    (c_is_rest : PySem.W.codeIn K cd_is_rest "is_rest" = true)
    (k_is_rest : PySem.W.keepIn K (.ref f_is_rest) = true)
    (a_is_tie : PySem.W.nsIn K mainGlobals "is_tie" = some (some (.ref f_is_tie)))
    (l_is_tie : K.lookup f_is_tie = some ⟨oc_is_tie, od_is_tie, .func (PySem.W.fnOf "is_tie" "is_tie" (defArgs s_is_tie) (defBody s_is_tie) (defScope s_is_tie) .none kV_is_tie dc_is_tie pm_is_tie an_is_tie cd_is_tie ct_is_tie), sl_is_tie⟩)
    (c_is_tie : PySem.W.codeIn K cd_is_tie "is_tie" = true)
    (k_is_tie : PySem.W.keepIn K (.ref f_is_tie) = true)
    (a_wrong_tie : PySem.W.nsIn K mainGlobals "wrong_tie" = some (some (.ref f_wrong_tie)))
    (l_wrong_tie : K.lookup f_wrong_tie = some ⟨oc_wrong_tie, od_wrong_tie, .func (PySem.W.fnOf "wrong_tie" "wrong_tie" (defArgs s_wrong_tie) (defBody s_wrong_tie) (defScope s_wrong_tie) .none kV_wrong_tie dc_wrong_tie pm_wrong_tie an_wrong_tie cd_wrong_tie ct_wrong_tie), sl_wrong_tie⟩)
    (c_wrong_tie : PySem.W.codeIn K cd_wrong_tie "wrong_tie" = true)
    (k_wrong_tie : PySem.W.keepIn K (.ref f_wrong_tie) = true)
    (a_check_rest : PySem.W.nsIn K mainGlobals "check_rest" = some (some (.ref f_check_rest)))
    (l_check_rest : K.lookup f_check_rest = some ⟨oc_check_rest, od_check_rest, .func (PySem.W.fnOf "check_rest" "check_rest" (defArgs s_check_rest) (defBody s_check_rest) (defScope s_check_rest) .none kV_check_rest dc_check_rest pm_check_rest an_check_rest cd_check_rest ct_check_rest), sl_check_rest⟩)
    (c_check_rest : PySem.W.codeIn K cd_check_rest "check_rest" = true)
    (k_check_rest : PySem.W.keepIn K (.ref f_check_rest) = true)
    (a_check_part_beside : PySem.W.nsIn K mainGlobals "check_part_beside" = some (some (.ref f_check_part_beside)))
    (l_check_part_beside : K.lookup f_check_part_beside = some ⟨oc_check_part_beside, od_check_part_beside, .func (PySem.W.fnOf "check_part_beside" "check_part_beside" (defArgs s_check_part_beside) (defBody s_check_part_beside) (defScope s_check_part_beside) .none kV_check_part_beside dc_check_part_beside pm_check_part_beside an_check_part_beside cd_check_part_beside ct_check_part_beside), sl_check_part_beside⟩)
    (c_check_part_beside : PySem.W.codeIn K cd_check_part_beside "check_part_beside" = true)
    (k_check_part_beside : PySem.W.keepIn K (.ref f_check_part_beside) = true)
    (a_end_with : PySem.W.nsIn K mainGlobals "end_with" = some (some (.ref f_end_with)))
    (l_end_with : K.lookup f_end_with = some ⟨oc_end_with, od_end_with, .func (PySem.W.fnOf "end_with" "end_with" (defArgs s_end_with) (defBody s_end_with) (defScope s_end_with) .none kV_end_with dc_end_with pm_end_with an_end_with cd_end_with ct_end_with), sl_end_with⟩)
    (c_end_with : PySem.W.codeIn K cd_end_with "end_with" = true)
    (k_end_with : PySem.W.keepIn K (.ref f_end_with) = true)
    (a_row_between : PySem.W.nsIn K mainGlobals "row_between" = some (some (.ref f_row_between)))
    (l_row_between : K.lookup f_row_between = some ⟨oc_row_between, od_row_between, .func (PySem.W.fnOf "row_between" "row_between" (defArgs s_row_between) (defBody s_row_between) (defScope s_row_between) .none kV_row_between dc_row_between pm_row_between an_row_between cd_row_between ct_row_between), sl_row_between⟩)
    (c_row_between : PySem.W.codeIn K cd_row_between "row_between" = true)
    (k_row_between : PySem.W.keepIn K (.ref f_row_between) = true)
    (a_row_with : PySem.W.nsIn K mainGlobals "row_with" = some (some (.ref f_row_with)))
    (l_row_with : K.lookup f_row_with = some ⟨oc_row_with, od_row_with, .func (PySem.W.fnOf "row_with" "row_with" (defArgs s_row_with) (defBody s_row_with) (defScope s_row_with) .none kV_row_with dc_row_with pm_row_with an_row_with cd_row_with ct_row_with), sl_row_with⟩)
    (c_row_with : PySem.W.codeIn K cd_row_with "row_with" = true)
    (k_row_with : PySem.W.keepIn K (.ref f_row_with) = true)
    (a_slip : PySem.W.nsIn K mainGlobals "slip" = some (some (.ref f_slip)))
    (l_slip : K.lookup f_slip = some ⟨oc_slip, od_slip, .func (PySem.W.fnOf "slip" "slip" (defArgs s_slip) (defBody s_slip) (defScope s_slip) .none kV_slip dc_slip pm_slip an_slip cd_slip ct_slip), sl_slip⟩)
    (c_slip : PySem.W.codeIn K cd_slip "slip" = true)
    (k_slip : PySem.W.keepIn K (.ref f_slip) = true)
    (a__law_tape : PySem.W.nsIn K mainGlobals "_law_tape" = some (some (.ref f__law_tape)))
    (l__law_tape : K.lookup f__law_tape = some ⟨oc__law_tape, od__law_tape, .func (PySem.W.fnOf "_law_tape" "_law_tape" (defArgs s__law_tape) (defBody s__law_tape) (defScope s__law_tape) .none kV__law_tape dc__law_tape pm__law_tape an__law_tape cd__law_tape ct__law_tape), sl__law_tape⟩)
    (c__law_tape : PySem.W.codeIn K cd__law_tape "_law_tape" = true)
    (k__law_tape : PySem.W.keepIn K (.ref f__law_tape) = true)
    (a__law_pick : PySem.W.nsIn K mainGlobals "_law_pick" = some (some (.ref f__law_pick)))
    (l__law_pick : K.lookup f__law_pick = some ⟨oc__law_pick, od__law_pick, .func (PySem.W.fnOf "_law_pick" "_law_pick" (defArgs s__law_pick) (defBody s__law_pick) (defScope s__law_pick) .none kV__law_pick dc__law_pick pm__law_pick an__law_pick cd__law_pick ct__law_pick), sl__law_pick⟩)
    (c__law_pick : PySem.W.codeIn K cd__law_pick "_law_pick" = true)
    (k__law_pick : PySem.W.keepIn K (.ref f__law_pick) = true)
    (a__law_web : PySem.W.nsIn K mainGlobals "_law_web" = some (some (.ref f__law_web)))
    (l__law_web : K.lookup f__law_web = some ⟨oc__law_web, od__law_web, .func (PySem.W.fnOf "_law_web" "_law_web" (defArgs s__law_web) (defBody s__law_web) (defScope s__law_web) .none kV__law_web dc__law_web pm__law_web an__law_web cd__law_web ct__law_web), sl__law_web⟩)
    (c__law_web : PySem.W.codeIn K cd__law_web "_law_web" = true)
    (k__law_web : PySem.W.keepIn K (.ref f__law_web) = true)
    (a__law_tied : PySem.W.nsIn K mainGlobals "_law_tied" = some (some (.ref f__law_tied)))
    (l__law_tied : K.lookup f__law_tied = some ⟨oc__law_tied, od__law_tied, .func (PySem.W.fnOf "_law_tied" "_law_tied" (defArgs s__law_tied) (defBody s__law_tied) (defScope s__law_tied) .none kV__law_tied dc__law_tied pm__law_tied an__law_tied cd__law_tied ct__law_tied), sl__law_tied⟩)
    (c__law_tied : PySem.W.codeIn K cd__law_tied "_law_tied" = true)
    (k__law_tied : PySem.W.keepIn K (.ref f__law_tied) = true)
    (a__law_says : PySem.W.nsIn K mainGlobals "_law_says" = some (some (.ref f__law_says)))
    (l__law_says : K.lookup f__law_says = some ⟨oc__law_says, od__law_says, .func (PySem.W.fnOf "_law_says" "_law_says" (defArgs s__law_says) (defBody s__law_says) (defScope s__law_says) .none kV__law_says dc__law_says pm__law_says an__law_says cd__law_says ct__law_says), sl__law_says⟩)
    (c__law_says : PySem.W.codeIn K cd__law_says "_law_says" = true)
    (k__law_says : PySem.W.keepIn K (.ref f__law_says) = true)
    (a__law_called : PySem.W.nsIn K mainGlobals "_law_called" = some (some (.ref f__law_called)))
    (l__law_called : K.lookup f__law_called = some ⟨oc__law_called, od__law_called, .func (PySem.W.fnOf "_law_called" "_law_called" (defArgs s__law_called) (defBody s__law_called) (defScope s__law_called) .none kV__law_called dc__law_called pm__law_called an__law_called cd__law_called ct__law_called), sl__law_called⟩)
    (c__law_called : PySem.W.codeIn K cd__law_called "_law_called" = true)
    (k__law_called : PySem.W.keepIn K (.ref f__law_called) = true)
    (a__law_is_rest : PySem.W.nsIn K mainGlobals "_law_is_rest" = some (some (.ref f__law_is_rest)))
    (l__law_is_rest : K.lookup f__law_is_rest = some ⟨oc__law_is_rest, od__law_is_rest, .func (PySem.W.fnOf "_law_is_rest" "_law_is_rest" (defArgs s__law_is_rest) (defBody s__law_is_rest) (defScope s__law_is_rest) .none kV__law_is_rest dc__law_is_rest pm__law_is_rest an__law_is_rest cd__law_is_rest ct__law_is_rest), sl__law_is_rest⟩)
    (c__law_is_rest : PySem.W.codeIn K cd__law_is_rest "_law_is_rest" = true)
    (k__law_is_rest : PySem.W.keepIn K (.ref f__law_is_rest) = true)
    (a__law_ends : PySem.W.nsIn K mainGlobals "_law_ends" = some (some (.ref f__law_ends)))
    (l__law_ends : K.lookup f__law_ends = some ⟨oc__law_ends, od__law_ends, .func (PySem.W.fnOf "_law_ends" "_law_ends" (defArgs s__law_ends) (defBody s__law_ends) (defScope s__law_ends) .none kV__law_ends dc__law_ends pm__law_ends an__law_ends cd__law_ends ct__law_ends), sl__law_ends⟩)
    (c__law_ends : PySem.W.codeIn K cd__law_ends "_law_ends" = true)
    (k__law_ends : PySem.W.keepIn K (.ref f__law_ends) = true)
    (a__law_is_number : PySem.W.nsIn K mainGlobals "_law_is_number" = some (some (.ref f__law_is_number)))
    (l__law_is_number : K.lookup f__law_is_number = some ⟨oc__law_is_number, od__law_is_number, .func (PySem.W.fnOf "_law_is_number" "_law_is_number" (defArgs s__law_is_number) (defBody s__law_is_number) (defScope s__law_is_number) .none kV__law_is_number dc__law_is_number pm__law_is_number an__law_is_number cd__law_is_number ct__law_is_number), sl__law_is_number⟩)
    (c__law_is_number : PySem.W.codeIn K cd__law_is_number "_law_is_number" = true)
    (k__law_is_number : PySem.W.keepIn K (.ref f__law_is_number) = true)
    (a__law_some_rest : PySem.W.nsIn K mainGlobals "_law_some_rest" = some (some (.ref f__law_some_rest)))
    (l__law_some_rest : K.lookup f__law_some_rest = some ⟨oc__law_some_rest, od__law_some_rest, .func (PySem.W.fnOf "_law_some_rest" "_law_some_rest" (defArgs s__law_some_rest) (defBody s__law_some_rest) (defScope s__law_some_rest) .none kV__law_some_rest dc__law_some_rest pm__law_some_rest an__law_some_rest cd__law_some_rest ct__law_some_rest), sl__law_some_rest⟩)
    (c__law_some_rest : PySem.W.codeIn K cd__law_some_rest "_law_some_rest" = true)
    (k__law_some_rest : PySem.W.keepIn K (.ref f__law_some_rest) = true)
    (a_law : PySem.W.nsIn K mainGlobals "law" = some (some (.ref f_law)))
    (l_law : K.lookup f_law = some ⟨oc_law, od_law, .func (PySem.W.fnOf "law" "law" (defArgs s_law) (defBody s_law) (defScope s_law) .none kV_law dc_law pm_law an_law cd_law ct_law), sl_law⟩)
    (c_law : PySem.W.codeIn K cd_law "law" = true)
    (k_law : PySem.W.keepIn K (.ref f_law) = true)
    (a_Web_init : PySem.W.findIn K (.ref C_Web) "__init__" = some (some (.ref f_Web_init)))
    (i_Web_init : PySem.W.isFn K (.ref f_Web_init) = true)
    (l_Web_init : K.lookup f_Web_init = some ⟨oc_Web_init, od_Web_init, .func (PySem.W.fnOf "__init__" "Web.__init__" (defArgs s_Web_init) (defBody s_Web_init) (defScope s_Web_init) .none kV_Web_init dc_Web_init pm_Web_init an_Web_init cd_Web_init ct_Web_init), sl_Web_init⟩)
    (c_Web_init : PySem.W.codeIn K cd_Web_init "Web.__init__" = true)
    (k_Web_init : PySem.W.keepIn K (.ref f_Web_init) = true)
    (z_isinstance : PySem.W.nsIn K mainGlobals "isinstance" = some none)
    (z_len : PySem.W.nsIn K mainGlobals "len" = some none)
    (z_sorted : PySem.W.nsIn K mainGlobals "sorted" = some none)
    (z_min : PySem.W.nsIn K mainGlobals "min" = some none)
    (z_max : PySem.W.nsIn K mainGlobals "max" = some none)
    (z_all : PySem.W.nsIn K mainGlobals "all" = some none)
    (z_zip : PySem.W.nsIn K mainGlobals "zip" = some none)
    (z_range : PySem.W.nsIn K mainGlobals "range" = some none)
    (z_enumerate : PySem.W.nsIn K mainGlobals "enumerate" = some none)
    (z_int : PySem.W.nsIn K mainGlobals "int" = some none)
    (z_bool : PySem.W.nsIn K mainGlobals "bool" = some none)
    (z_str : PySem.W.nsIn K mainGlobals "str" = some none)
    (z_list : PySem.W.nsIn K mainGlobals "list" = some none)
    (z_tuple : PySem.W.nsIn K mainGlobals "tuple" = some none) :
    ∃ fd : FuncData, (∀ (s : Shared) (v : Value), BindsTo s fd ⟨[v], []⟩ [("script", v)]) ∧ ∀ base : Heap, K.In base → base.Ns mainGlobals mg → FnOk l.prog w K mg base CX0 10 fa fd ["script"] (sp_law (K := K)) := by
  have e := hfa.symm.trans (PySem.W.mg_of X G a_law)
  cases e
  have B : Bl mg := ⟨PySem.W.mg_none_of X G z_isinstance, PySem.W.mg_none_of X G z_len, PySem.W.mg_none_of X G z_sorted, PySem.W.mg_none_of X G z_min, PySem.W.mg_none_of X G z_max, PySem.W.mg_none_of X G z_all, PySem.W.mg_none_of X G z_zip, PySem.W.mg_none_of X G z_range, PySem.W.mg_none_of X G z_enumerate, PySem.W.mg_none_of X G z_int, PySem.W.mg_none_of X G z_bool, PySem.W.mg_none_of X G z_str, PySem.W.mg_none_of X G z_list, PySem.W.mg_none_of X G z_tuple⟩
  have T : Txt K mg C_Web := ⟨⟨pg, hd, po, sa⟩, nS, nT, PySem.W.mg_of X G a_Web, ⟨_, PySem.W.mg_of X G a_MP⟩, xc, xg, xt, xm⟩
  have F_is_integer := fun_mk (st := s_is_integer) l_is_integer c_is_integer k_is_integer
  have m_is_integer := PySem.W.mg_of X G a_is_integer
  have F_is_number := fun_mk (st := s_is_number) l_is_number c_is_number k_is_number
  have m_is_number := PySem.W.mg_of X G a_is_number
  have F_is_part := fun_mk (st := s_is_part) l_is_part c_is_part k_is_part
  have m_is_part := PySem.W.mg_of X G a_is_part
  have F_is_lot_below := fun_mk (st := s_is_lot_below) l_is_lot_below c_is_lot_below k_is_lot_below
  have m_is_lot_below := PySem.W.mg_of X G a_is_lot_below
  have F_is_lot := fun_mk (st := s_is_lot) l_is_lot c_is_lot k_is_lot
  have m_is_lot := PySem.W.mg_of X G a_is_lot
  have F_check_part := fun_mk (st := s_check_part) l_check_part c_check_part k_check_part
  have m_check_part := PySem.W.mg_of X G a_check_part
  have F_bits_of := fun_mk (st := s_bits_of) l_bits_of c_bits_of k_bits_of
  have m_bits_of := PySem.W.mg_of X G a_bits_of
  have F_lot_of := fun_mk (st := s_lot_of) l_lot_of c_lot_of k_lot_of
  have m_lot_of := PySem.W.mg_of X G a_lot_of
  have F_tied_bits := fun_mk (st := s_tied_bits) l_tied_bits c_tied_bits k_tied_bits
  have m_tied_bits := PySem.W.mg_of X G a_tied_bits
  have F_tied_to_any := fun_mk (st := s_tied_to_any) l_tied_to_any c_tied_to_any k_tied_to_any
  have m_tied_to_any := PySem.W.mg_of X G a_tied_to_any
  have F_hanging := fun_mk (st := s_hanging) l_hanging c_hanging k_hanging
  have m_hanging := PySem.W.mg_of X G a_hanging
  have F_pieces_of := fun_mk (st := s_pieces_of) l_pieces_of c_pieces_of k_pieces_of
  have m_pieces_of := PySem.W.mg_of X G a_pieces_of
  have F_untied_to := fun_mk (st := s_untied_to) l_untied_to c_untied_to k_untied_to
  have m_untied_to := PySem.W.mg_of X G a_untied_to
  have F_grown := fun_mk (st := s_grown) l_grown c_grown k_grown
  have m_grown := PySem.W.mg_of X G a_grown
  have F_told_by := fun_mk (st := s_told_by) l_told_by c_told_by k_told_by
  have m_told_by := PySem.W.mg_of X G a_told_by
  have F_behind_call := fun_mk (st := s_behind_call) l_behind_call c_behind_call k_behind_call
  have m_behind_call := PySem.W.mg_of X G a_behind_call
  have F_changed_by := fun_mk (st := s_changed_by) l_changed_by c_changed_by k_changed_by
  have m_changed_by := PySem.W.mg_of X G a_changed_by
  have F_is_rest := fun_mk (st := s_is_rest) l_is_rest c_is_rest k_is_rest
  have m_is_rest := PySem.W.mg_of X G a_is_rest
  have F_is_tie := fun_mk (st := s_is_tie) l_is_tie c_is_tie k_is_tie
  have m_is_tie := PySem.W.mg_of X G a_is_tie
  have F_wrong_tie := fun_mk (st := s_wrong_tie) l_wrong_tie c_wrong_tie k_wrong_tie
  have m_wrong_tie := PySem.W.mg_of X G a_wrong_tie
  have F_check_rest := fun_mk (st := s_check_rest) l_check_rest c_check_rest k_check_rest
  have m_check_rest := PySem.W.mg_of X G a_check_rest
  have F_check_part_beside := fun_mk (st := s_check_part_beside) l_check_part_beside c_check_part_beside k_check_part_beside
  have m_check_part_beside := PySem.W.mg_of X G a_check_part_beside
  have F_end_with := fun_mk (st := s_end_with) l_end_with c_end_with k_end_with
  have m_end_with := PySem.W.mg_of X G a_end_with
  have F_row_between := fun_mk (st := s_row_between) l_row_between c_row_between k_row_between
  have m_row_between := PySem.W.mg_of X G a_row_between
  have F_row_with := fun_mk (st := s_row_with) l_row_with c_row_with k_row_with
  have m_row_with := PySem.W.mg_of X G a_row_with
  have F_slip := fun_mk (st := s_slip) l_slip c_slip k_slip
  have m_slip := PySem.W.mg_of X G a_slip
  have F__law_tape := fun_mk (st := s__law_tape) l__law_tape c__law_tape k__law_tape
  have m__law_tape := PySem.W.mg_of X G a__law_tape
  have F__law_pick := fun_mk (st := s__law_pick) l__law_pick c__law_pick k__law_pick
  have m__law_pick := PySem.W.mg_of X G a__law_pick
  have F__law_web := fun_mk (st := s__law_web) l__law_web c__law_web k__law_web
  have m__law_web := PySem.W.mg_of X G a__law_web
  have F__law_tied := fun_mk (st := s__law_tied) l__law_tied c__law_tied k__law_tied
  have m__law_tied := PySem.W.mg_of X G a__law_tied
  have F__law_says := fun_mk (st := s__law_says) l__law_says c__law_says k__law_says
  have m__law_says := PySem.W.mg_of X G a__law_says
  have F__law_called := fun_mk (st := s__law_called) l__law_called c__law_called k__law_called
  have m__law_called := PySem.W.mg_of X G a__law_called
  have F__law_is_rest := fun_mk (st := s__law_is_rest) l__law_is_rest c__law_is_rest k__law_is_rest
  have m__law_is_rest := PySem.W.mg_of X G a__law_is_rest
  have F__law_ends := fun_mk (st := s__law_ends) l__law_ends c__law_ends k__law_ends
  have m__law_ends := PySem.W.mg_of X G a__law_ends
  have F__law_is_number := fun_mk (st := s__law_is_number) l__law_is_number c__law_is_number k__law_is_number
  have m__law_is_number := PySem.W.mg_of X G a__law_is_number
  have F__law_some_rest := fun_mk (st := s__law_some_rest) l__law_some_rest c__law_some_rest k__law_some_rest
  have m__law_some_rest := PySem.W.mg_of X G a__law_some_rest
  have F_law := fun_mk (st := s_law) l_law c_law k_law
  have m_law := PySem.W.mg_of X G a_law
  have F_Web_init := fun_mk (st := s_Web_init) l_Web_init c_Web_init k_Web_init
  refine ⟨PySem.W.fnOf "law" "law" (defArgs s_law) (defBody s_law) (defScope s_law) .none kV_law dc_law pm_law an_law cd_law ct_law, fun s v => .of_eq rfl, fun base _ _ => ?_⟩
  have c1 := ok_is_integer (P := l.prog) (w := w) (base := base) F_is_integer m_is_integer B
  have c2 := ok_is_number F_is_number m_is_number B c1
  have c3 := ok_is_part F_is_part m_is_part B T c2
  have c4 := ok_check_part F_check_part m_check_part B T c3
  have c5 := ok_is_tie F_is_tie m_is_tie B c2
  have c6 := ok_wrong_tie F_wrong_tie m_wrong_tie B c5
  have wI := ok_Web_init F_Web_init B T c2 c6
  have bI := F_Web_init.binds (ps := ["self", "size", "ties"]) fun _ _ _ _ _ _ us hl => match us, hl with | [_, _, _], _ => rfl
  have mW : Mkc l.prog w K mg base 5 C_Web "Web" ["self", "size", "ties"] (sp_Web_init C_Web) := ⟨f_Web_init, _, ⟨mk, a_Web_init, i_Web_init, kc⟩, wI, T.mg_Web, bI⟩
  have b3 := ok_bits_of (P := l.prog) (w := w) (base := base) F_bits_of m_bits_of B
  have b4 := ok_lot_of (P := l.prog) (w := w) (base := base) F_lot_of m_lot_of B
  have b5 := ok_tied_bits (P := l.prog) (w := w) (base := base) F_tied_bits m_tied_bits B T
  have b6 := ok_told_by (P := l.prog) (w := w) (base := base) F_told_by m_told_by B
  have b7 := ok_behind_call F_behind_call m_behind_call B b6
  have b8 := ok_changed_by F_changed_by m_changed_by B b7
  have g1 := ok_is_integerA (P := l.prog) (w := w) (base := base) F_is_integer m_is_integer B
  have g2 := ok_is_numberA F_is_number m_is_number B g1
  have g4a := ok_is_lot_belowA F_is_lot_below m_is_lot_below B g2
  have g4 := ok_is_lotA F_is_lot m_is_lot B T g4a
  have g7 := ok_is_rest F_is_rest m_is_rest B g4 b8 b5 b3
  have h3 := ok_check_rest F_check_rest m_check_rest B g7
  have p1 := ok_tied_to_any F_tied_to_any m_tied_to_any B b4
  have p2 := ok_hanging F_hanging m_hanging B p1
  have p3 := ok_pieces_of F_pieces_of m_pieces_of B p2
  have p4 := ok_untied_to F_untied_to m_untied_to B p1
  have p5 := ok_grown F_grown m_grown B b4 p4
  have p6 := ok_end_with F_end_with m_end_with B p3 p5
  have p7 := ok_row_between F_row_between m_row_between B p1 b4
  have p8 := ok_row_with F_row_with m_row_with B p7 p6
  have p9a := ok_check_part_beside F_check_part_beside m_check_part_beside B h3 c4
  have p9 := ok_slip F_slip m_slip B p9a p8 b5 b3
  have t1 := ok_law_tape (P := l.prog) (w := w) (base := base) F__law_tape m__law_tape B
  have t2 := ok_law_pick (P := l.prog) (w := w) (base := base) F__law_pick m__law_pick B
  have e2 := ok_law_web F__law_web m__law_web B t2
  have e3 := ok_law_tied (P := l.prog) (w := w) (base := base) F__law_tied m__law_tied B
  have e4 := ok_law_says F__law_says m__law_says B e3
  have e5 := ok_law_called F__law_called m__law_called B e4
  have e6 := ok_law_is_rest F__law_is_rest m__law_is_rest B e5
  have e9 := ok_law_ends F__law_ends m__law_ends B e5 e6
  have e10 := ok_law_is_number (P := l.prog) (w := w) (base := base) F__law_is_number m__law_is_number B
  have e11 := ok_law_some_rest F__law_some_rest m__law_some_rest B t2 e4
  exact ok_law F_law B T mW p9 t1 t2 e2 e11 e10 e5 e6 e9
theorem walk {l : PySem.W.OpenLaw} {q : Program} {loose : List Str} {XP : (Str → Option Value) → Heap → Prop} {YP : World → Heap → Prop} {d : DefRec} {K : Params → PySem.W.Frag} (hn : l.most = some 63) (hdf : d.params.defaults = [])
    (hY : ∀ (w : World) (h : Heap), YP w h → (K w.params).In h)
    (F : ∀ (w : World) (mg : Str → Option Value) (fa : Addr) (h : Heap), (K w.params).In h → h.Ns mainGlobals mg → mg d.name = some (.ref fa) →
      ∃ fd : FuncData, (∀ (s : Shared) (u : Value), BindsTo s fd ⟨[u], []⟩ [("script", u)]) ∧ ∀ base : Heap, (K w.params).In base → base.Ns mainGlobals mg → FnOk l.prog w (K w.params) mg base CX0 10 fa fd ["script"] (sp_law (K w.params))) :
    PySem.W.WalkO q loose XP YP l.row.toRowW d [] (fun f vs => PySem.call f vs) :=
  L2.walk_of (n := 63) (k := 10) (x := "script") (CX := fun _ => CX0) (sp := fun w => sp_law (K w.params)) hn (by decide) hdf ⟨rfl, by decide, by decide⟩ hY F (fun _ _ a ns hl _ hS => ⟨a, ns, rfl, hS, fun _ => rfl⟩) fun _ _ _ _ _ z => z
end Bs

open PySem PySem.W PyProof.Rows in
set_option maxRecDepth 100000 in
set_option maxHeartbeats 0 in
theorem PySem.Challenge.cw_silencers_k66_whole_slips_to_yes_holds : PySem.Challenge.rw_silencers_k66_whole_slips_to_yes.Holds := by
  w_on; o_law; k_head; (case hw => w_witness2)
  k_fill
  refine Bs.walk (l := PySem.Challenge.rw_silencers_k66_whole_slips_to_yes) rfl rfl (fun w h Y => PySem.W.kIn_of Y) ?F
  case F =>
    intro w mg fa h KX G hmg
    refine' Bs.all_mk KX G hmg ?a_Web ?a_MP ?pg ?hd ?po ?sa ?mk ?kc ?nS ?nT ?xc ?xg ?xt ?xm ?a_is_integer ?l_is_integer ?c_is_integer ?k_is_integer ?a_is_number ?l_is_number ?c_is_number ?k_is_number ?a_is_part ?l_is_part ?c_is_part ?k_is_part ?a_is_lot_below ?l_is_lot_below ?c_is_lot_below ?k_is_lot_below ?a_is_lot ?l_is_lot ?c_is_lot ?k_is_lot ?a_check_part ?l_check_part ?c_check_part ?k_check_part ?a_bits_of ?l_bits_of ?c_bits_of ?k_bits_of ?a_lot_of ?l_lot_of ?c_lot_of ?k_lot_of ?a_tied_bits ?l_tied_bits ?c_tied_bits ?k_tied_bits ?a_tied_to_any ?l_tied_to_any ?c_tied_to_any ?k_tied_to_any ?a_hanging ?l_hanging ?c_hanging ?k_hanging ?a_pieces_of ?l_pieces_of ?c_pieces_of ?k_pieces_of ?a_untied_to ?l_untied_to ?c_untied_to ?k_untied_to ?a_grown ?l_grown ?c_grown ?k_grown ?a_told_by ?l_told_by ?c_told_by ?k_told_by ?a_behind_call ?l_behind_call ?c_behind_call ?k_behind_call ?a_changed_by ?l_changed_by ?c_changed_by ?k_changed_by ?a_is_rest ?l_is_rest ?c_is_rest ?k_is_rest ?a_is_tie ?l_is_tie ?c_is_tie ?k_is_tie ?a_wrong_tie ?l_wrong_tie ?c_wrong_tie ?k_wrong_tie ?a_check_rest ?l_check_rest ?c_check_rest ?k_check_rest ?a_check_part_beside ?l_check_part_beside ?c_check_part_beside ?k_check_part_beside ?a_end_with ?l_end_with ?c_end_with ?k_end_with ?a_row_between ?l_row_between ?c_row_between ?k_row_between ?a_row_with ?l_row_with ?c_row_with ?k_row_with ?a_slip ?l_slip ?c_slip ?k_slip ?a__law_tape ?l__law_tape ?c__law_tape ?k__law_tape ?a__law_pick ?l__law_pick ?c__law_pick ?k__law_pick ?a__law_web ?l__law_web ?c__law_web ?k__law_web ?a__law_tied ?l__law_tied ?c__law_tied ?k__law_tied ?a__law_says ?l__law_says ?c__law_says ?k__law_says ?a__law_called ?l__law_called ?c__law_called ?k__law_called ?a__law_is_rest ?l__law_is_rest ?c__law_is_rest ?k__law_is_rest ?a__law_ends ?l__law_ends ?c__law_ends ?k__law_ends ?a__law_is_number ?l__law_is_number ?c__law_is_number ?k__law_is_number ?a__law_some_rest ?l__law_some_rest ?c__law_some_rest ?k__law_some_rest ?a_law ?l_law ?c_law ?k_law ?a_Web_init ?i_Web_init ?l_Web_init ?c_Web_init ?k_Web_init ?z_isinstance ?z_len ?z_sorted ?z_min ?z_max ?z_all ?z_zip ?z_range ?z_enumerate ?z_int ?z_bool ?z_str ?z_list ?z_tuple
    (case a_Web => k_is)
    (case a_MP => k_is)
    (case pg => k_is)
    (case hd => k_is)
    (case po => k_is)
    (case sa => k_is)
    (case mk => k_is)
    (case kc => k_is)
    (case nS => k_is)
    (case nT => k_is)
    (case xc => k_is)
    (case xg => k_is)
    (case xt => k_is)
    (case xm => k_is)
    (case a_is_integer => k_is)
    (case l_is_integer => k_is)
    (case c_is_integer => k_is)
    (case k_is_integer => k_is)
    (case a_is_number => k_is)
    (case l_is_number => k_is)
    (case c_is_number => k_is)
    (case k_is_number => k_is)
    (case a_is_part => k_is)
    (case l_is_part => k_is)
    (case c_is_part => k_is)
    (case k_is_part => k_is)
    (case a_is_lot_below => k_is)
    (case l_is_lot_below => k_is)
    (case c_is_lot_below => k_is)
    (case k_is_lot_below => k_is)
    (case a_is_lot => k_is)
    (case l_is_lot => k_is)
    (case c_is_lot => k_is)
    (case k_is_lot => k_is)
    (case a_check_part => k_is)
    (case l_check_part => k_is)
    (case c_check_part => k_is)
    (case k_check_part => k_is)
    (case a_bits_of => k_is)
    (case l_bits_of => k_is)
    (case c_bits_of => k_is)
    (case k_bits_of => k_is)
    (case a_lot_of => k_is)
    (case l_lot_of => k_is)
    (case c_lot_of => k_is)
    (case k_lot_of => k_is)
    (case a_tied_bits => k_is)
    (case l_tied_bits => k_is)
    (case c_tied_bits => k_is)
    (case k_tied_bits => k_is)
    (case a_tied_to_any => k_is)
    (case l_tied_to_any => k_is)
    (case c_tied_to_any => k_is)
    (case k_tied_to_any => k_is)
    (case a_hanging => k_is)
    (case l_hanging => k_is)
    (case c_hanging => k_is)
    (case k_hanging => k_is)
    (case a_pieces_of => k_is)
    (case l_pieces_of => k_is)
    (case c_pieces_of => k_is)
    (case k_pieces_of => k_is)
    (case a_untied_to => k_is)
    (case l_untied_to => k_is)
    (case c_untied_to => k_is)
    (case k_untied_to => k_is)
    (case a_grown => k_is)
    (case l_grown => k_is)
    (case c_grown => k_is)
    (case k_grown => k_is)
    (case a_told_by => k_is)
    (case l_told_by => k_is)
    (case c_told_by => k_is)
    (case k_told_by => k_is)
    (case a_behind_call => k_is)
    (case l_behind_call => k_is)
    (case c_behind_call => k_is)
    (case k_behind_call => k_is)
    (case a_changed_by => k_is)
    (case l_changed_by => k_is)
    (case c_changed_by => k_is)
    (case k_changed_by => k_is)
    (case a_is_rest => k_is)
    (case l_is_rest => k_is)
    (case c_is_rest => k_is)
    (case k_is_rest => k_is)
    (case a_is_tie => k_is)
    (case l_is_tie => k_is)
    (case c_is_tie => k_is)
    (case k_is_tie => k_is)
    (case a_wrong_tie => k_is)
    (case l_wrong_tie => k_is)
    (case c_wrong_tie => k_is)
    (case k_wrong_tie => k_is)
    (case a_check_rest => k_is)
    (case l_check_rest => k_is)
    (case c_check_rest => k_is)
    (case k_check_rest => k_is)
    (case a_check_part_beside => k_is)
    (case l_check_part_beside => k_is)
    (case c_check_part_beside => k_is)
    (case k_check_part_beside => k_is)
    (case a_end_with => k_is)
    (case l_end_with => k_is)
    (case c_end_with => k_is)
    (case k_end_with => k_is)
    (case a_row_between => k_is)
    (case l_row_between => k_is)
    (case c_row_between => k_is)
    (case k_row_between => k_is)
    (case a_row_with => k_is)
    (case l_row_with => k_is)
    (case c_row_with => k_is)
    (case k_row_with => k_is)
    (case a_slip => k_is)
    (case l_slip => k_is)
    (case c_slip => k_is)
    (case k_slip => k_is)
    (case a__law_tape => k_is)
    (case l__law_tape => k_is)
    (case c__law_tape => k_is)
    (case k__law_tape => k_is)
    (case a__law_pick => k_is)
    (case l__law_pick => k_is)
    (case c__law_pick => k_is)
    (case k__law_pick => k_is)
    (case a__law_web => k_is)
    (case l__law_web => k_is)
    (case c__law_web => k_is)
    (case k__law_web => k_is)
    (case a__law_tied => k_is)
    (case l__law_tied => k_is)
    (case c__law_tied => k_is)
    (case k__law_tied => k_is)
    (case a__law_says => k_is)
    (case l__law_says => k_is)
    (case c__law_says => k_is)
    (case k__law_says => k_is)
    (case a__law_called => k_is)
    (case l__law_called => k_is)
    (case c__law_called => k_is)
    (case k__law_called => k_is)
    (case a__law_is_rest => k_is)
    (case l__law_is_rest => k_is)
    (case c__law_is_rest => k_is)
    (case k__law_is_rest => k_is)
    (case a__law_ends => k_is)
    (case l__law_ends => k_is)
    (case c__law_ends => k_is)
    (case k__law_ends => k_is)
    (case a__law_is_number => k_is)
    (case l__law_is_number => k_is)
    (case c__law_is_number => k_is)
    (case k__law_is_number => k_is)
    (case a__law_some_rest => k_is)
    (case l__law_some_rest => k_is)
    (case c__law_some_rest => k_is)
    (case k__law_some_rest => k_is)
    (case a_law => k_is)
    (case l_law => k_is)
    (case c_law => k_is)
    (case k_law => k_is)
    (case a_Web_init => k_is)
    (case i_Web_init => k_is)
    (case l_Web_init => k_is)
    (case c_Web_init => k_is)
    (case k_Web_init => k_is)
    (case z_isinstance => k_is)
    (case z_len => k_is)
    (case z_sorted => k_is)
    (case z_min => k_is)
    (case z_max => k_is)
    (case z_all => k_is)
    (case z_zip => k_is)
    (case z_range => k_is)
    (case z_enumerate => k_is)
    (case z_int => k_is)
    (case z_bool => k_is)
    (case z_str => k_is)
    (case z_list => k_is)
    (case z_tuple => k_is)

