import PyProof.Rows.All
import Wide.All
import OpenK.AllK
import Wide.FinOn
import PyProof.EnumMake
import PyProof.Draws
import PyProof.InstNe
import HandS.ForMost
import HandS.IsInst
import HandS.Zip0
import HandS.Zip
import HandS.Conv
import HandS.Deep
import HandS.SortRule
import HandS.SortInts
import HandS.TupLe
import HandS.OwnEq
import HandS.Walk
import HandS.Evl
import OpenK.KMake
import HandS.WideBits
import HandS.TupAny
import HandS.Style
import HandS.NamedTupSort
import HandS.FStr
import HandS.Text
import KE.KxField
import KE.KDictDisplayH
import HandS.SetFor
import HandS.Strs
import HandS.TupSets
import HandS.ForExc
import HandS.ExcInit
import HandS.TryMany
import HandS.ExcIs
import HandS.ExcField
import HandS.Lambda
import HandS.Flow
import PySem.Challenge.RW_silencers_k38_lacks_judged
set_option Elab.async false
set_option linter.all false
set_option maxRecDepth 100000
set_option maxHeartbeats 4000000
namespace Bs
open PySem PySem.Spec PyProof.Rows L2
/-! ## enumerate over a tuple -/
theorem draws_tup {prog : Program} {w : World} {A : Around} (hh : A.handled = none) (it l : Addr) (hne : l ≠ it) (items : Array Value) :
    Draws prog w A it [it, l] items.size (fun i v => items[i]? = some v) (fun i h => h.IsTupleIter it l i ∧ h.IsTuple l items) where
  live := fun i h st => let ⟨⟨o, e, _⟩, _⟩ := st; ⟨o, e⟩
  frame := fun i h h' st k => ⟨st.1.at fun o e => k it (by simp) o e, st.2.at fun o e => k l (by simp) o e⟩
  item := fun i s Q E hi st hQ => by
    refine RZ.nextOf_tuple_item st.1 st.2 (x := items[i]) (by simp [hi]) fun h' hit' hs' => ?_
    exact hQ _ h' s.toks (by simp [hi]) ⟨hit', st.2.at fun o e => hs'.extBut l o hne e⟩ hs'
  done := fun s Q E st hQ => RZ.nextOf_tuple_end hh st.1 st.2 (by simp) hQ
theorem meets_enumerate_newT (l : Addr) (items : Array Value) (n : Nat) (dct : Option Addr) (sl : Array (Option Value)) :
    Meets (Builtin.«enumerate.__new__» ⟨[.type "enumerate", .ref l], []⟩) (fun _ R s => s.heap.get? l = some { cls := .type "tuple", dict := dct, data := .seq items n, slots := sl } ∧
      R (.ok (.ret (.ref (s.heap.push { cls := .type "tuple_iterator", data := .fields #[.ref l, .int 0 0] }).objs.size)))
        { s with heap := (s.heap.push { cls := .type "tuple_iterator", data := .fields #[.ref l, .int 0 0] }).push { cls := .type "enumerate", data := .fields #[.none, .bool false, .ref s.heap.objs.size, rawInt 0, .none, .none] } }) :=
  .of_wp fun prog w A R s h => by
    obtain ⟨hp, g, d, tk, os⟩ := s; obtain ⟨hl, h⟩ := h
    have hsub := sub_enumerate
    have hL : Heap.IsTuple (Shared.heap ⟨hp, g, d, tk, os⟩) l items := ⟨_, hl, rfl, n, rfl⟩
    wp_walk using AutoSeq1.wpAny_loadPart' hl
    refine wpAny_stack_any fun st => wpAny_pure ?_
    split
    · rename_i c _ _ _ _ _
      cases (c == Value.type "enumerate")
      · wp_walk using AutoSeq1.wpAny_loadPart' hl, wpAny_pyIter_tuple hL
        exact ⟨_, rfl, h⟩
      · wp_walk using AutoSeq1.wpAny_loadPart' hl, wpAny_pyIter_tuple hL
        exact ⟨_, rfl, h⟩
    · wp_walk using AutoSeq1.wpAny_loadPart' hl, wpAny_pyIter_tuple hL
      exact ⟨_, rfl, h⟩
section
variable {prog : Program} {w : World} {A : Around} {E : Value → Shared → Prop} {s : Shared}
theorem call_enumerate_tup {l : Addr} {items : Array Value} {Q : Value → Shared → Prop} (hL : s.heap.IsTuple l items)
    (h : ∀ h', IsEnum h' (s.heap.objs.size + 1) s.heap.objs.size 0 .none → h'.IsTupleIter s.heap.objs.size l 0 → h'.objs.size = s.heap.objs.size + 2 →
      (∀ b o, s.heap.get? b = some o → h'.get? b = some o) → Q (.ref (s.heap.objs.size + 1)) { s with heap := h' }) :
    wpAny (model prog w) A (call (.type "enumerate") [.ref l]) Q E s := by
  obtain ⟨⟨c, dct, dt, sl⟩, hl, hc, n, hd⟩ := hL
  replace hc : c = .type "tuple" := hc
  replace hd : dt = .seq items n := hd
  subst hc hd
  refine callType_new F.called_enumerate (by decide) (F.typeCall_enumerate_1 _) (F.newCall_enumerate_1 _) (fun obj => F.args_object_init_2 obj _) F.entry_enumerate_new
    (meets_enumerate_newT l items n dct sl) ⟨hl, ?_⟩
  have hz : (s.heap.push { cls := .type "tuple_iterator", data := .fields #[.ref l, .int 0 0] }).objs.size = s.heap.objs.size + 1 := Heap.size_push ..
  show _ ∧ _
  rw [hz]
  have he : IsEnum ((s.heap.push { cls := .type "tuple_iterator", data := .fields #[.ref l, .int 0 0] }).push
      { cls := .type "enumerate", data := .fields #[.none, .bool false, .ref s.heap.objs.size, rawInt 0, .none, .none] }) (s.heap.objs.size + 1) s.heap.objs.size 0 .none := by
    have := Heap.get?_push_size (s.heap.push { cls := .type "tuple_iterator", data := .fields #[.ref l, .int 0 0] })
      (o := { cls := .type "enumerate", data := .fields #[.none, .bool false, .ref s.heap.objs.size, rawInt 0, .none, .none] }) rfl
    rw [hz] at this; exact this
  refine ⟨⟨_, he, rfl⟩, h _ he ⟨_, Heap.get?_push_of_some _ (Heap.get?_push_size _ rfl), rfl, rfl⟩ (by rw [Heap.size_push, hz]) fun b o x => Heap.get?_push_of_some _ (Heap.get?_push_of_some _ x)⟩
end
/-- the tuple at a as it stands at each turn, each item in a new pair -/
def IteT (K : PySem.W.Frag) (a : Addr) : It :=
  ⟨fun i H => ∃ (xs : List V) (x : V), SqT K H a xs ∧ xs[i]? = some x, fun i H v H' => ∃ T x, v = .ref T ∧ H T = none ∧ H' = upd H T (.tup [.int (i : Nat), x]) ∧ ∀ xs, SqT K H a xs → xs[i]? = some x, fun i H => ∃ xs : List V, SqT K H a xs ∧ xs.length ≤ i⟩
theorem turn_enumT {P : Program} {w : World} {K : PySem.W.Frag} {elts : List Expr} {kk : Nat} {tpos : Pos} (a e it : Addr) :
    Turn P w K (.Tuple elts kk tpos) (IteT K a) [e, it] e (fun i h => (∃ old, IsEnum h e it ((i : Nat) : Int) old) ∧ h.IsTupleIter it a i ∧ e ≠ it ∧ a ≠ it ∧ a ≠ e) where
  mem := by simp
  obj := fun i h st b hb => by
    obtain ⟨⟨old, he⟩, ⟨o, ho, hc, hd⟩, _⟩ := st
    have e' : b = e ∨ b = it := by simpa using hb
    rcases e' with z | z
    · rw [z]; exact ⟨_, he, fun v q => nomatch q⟩
    · rw [z]; exact ⟨o, ho, fun v q => by rw [hd] at q; cases q⟩
  keep := fun i h h' st k => let ⟨⟨old, he⟩, hi, hne⟩ := st; ⟨⟨old, k e (by simp) _ he⟩, hi.at fun o q => k it (by simp) o q, hne⟩
  item := by
    intro X hP hw hK hc i pins s σ H E I hf st hg
    subst hP hw hK
    obtain ⟨⟨old, he⟩, hit, hne, hne2, hne3⟩ := st
    obtain ⟨xs, x, hq, hx⟩ := hg
    obtain ⟨its, rv, p, hz⟩ := I.tuple hq
    obtain ⟨u, hu, ru⟩ := rv.get hx
    have hel : e < s.heap.objs.size := Heap.lt_size he
    have hil : it < s.heap.objs.size := by obtain ⟨_, q, _⟩ := hit; exact Heap.lt_size q
    have hlt : i < its.toArray.size := by
      have := (List.getElem?_eq_some_iff.mp hu).1
      simpa using this
    refine wpAny_pyNext_enum_itemD (draws_tup (show X.A.in1.handled = none from I.ok.hd hc) it a hne2 its.toArray) he ⟨hit, p⟩ hlt hne (by simp [hne, Ne.symm hne3]) fun y h' tk hy ho hit' hT hsz hk => ?_
    have hyu : y = u := by
      have h2 : its.toArray[i]? = some u := by simpa using hu
      rw [h2] at hy
      exact (Option.some.inj hy).symm
    subst hyu
    refine ⟨_, rfl, wpAny_letOwnedTupleGo_enum (s := { s with heap := h', toks := tk + 1 }) ho fun h'' he' sb => ?_⟩
    have hT2 : h''.get? s.heap.objs.size = some { cls := .type "tuple", data := .seq #[.int i tk, y] } := (sb.2 _ (Nat.ne_of_gt hel)).trans hT
    have new : ObjOk X.prog X.w (upd H s.heap.objs.size (.tup [.int (i : Nat), x])) h'' s.heap.objs.size (.tup [.int (i : Nat), x]) :=
      ⟨by show 2 ≤ sizeLine; decide, [.int i tk, y], .cons ⟨_, rfl⟩ (.cons ru .nil), ⟨_, hT2, rfl, _, rfl⟩⟩
    have I1 : Inv X pins σ (upd H s.heap.objs.size (.tup [.int (i : Nat), x])) { s with heap := h'', toks := tk + 1 } :=
      I.turnedNew (ch := [e, it]) (fun b ob hb q => (sb.2 b (fun z => hb (by simp [z]))).trans (hk b ob (fun z => hb (by simp [z])) (fun z => hb (by simp [z])) q)) hf (Nat.le_refl _) new
    refine ⟨.ref s.heap.objs.size, _, I1, rfl, ⟨_, x, rfl, I.hok.fresh (Nat.le_refl _), rfl, fun ys hy => by rw [I.tuple_inj hy hq]; exact hx⟩, ⟨⟨y, ?_⟩, hit'.1.at fun o q => (sb.2 it (Ne.symm hne)).trans q, hne, hne2, hne3⟩, fun b hb => ?_⟩
    · have e1 : ((i + 1 : Nat) : Int) = (i : Int) + 1 := by omega
      rw [e1]; exact he'
    · have hb' : b < s.heap.objs.size := by
        have e' : b = e ∨ b = it := by simpa using hb
        rcases e' with z | z
        · rw [z]; exact hel
        · rw [z]; exact hil
      rw [upd_ne (Nat.ne_of_lt hb')]
      exact (hf b hb).1
  done := by
    intro X hP hw hK hc i pins s σ H E I hf st hg
    subst hP hw hK
    obtain ⟨⟨old, he⟩, hit, hne, hne2, hne3⟩ := st
    obtain ⟨xs, hq, hx⟩ := hg
    obtain ⟨its, rv, p, hz⟩ := I.tuple hq
    obtain ⟨f0, f1, f2, f3, f4, f5⟩ := hf it (by simp)
    have hl := rv.length
    have hT : s.TypeIs (.ref e) "enumerate" := ⟨_, he, rfl⟩
    unfold pyNext
    refine wpAny_bind (wpAny_attempt (wpAny_callSpecial?_slot (name := Str.ofString "__next__") hT F.slot_enumerate_next
      (wpAny_call_entry F.slot_enumerate_next hT F.entry_enumerate_next ?_ (F.args_enumerate_next_1 _))))
    show wpAny _ _ (field (.ref e) 2 >>= _) _ _ _
    refine wpAny_bind (wpAny_field he rfl (x := .ref it) rfl ?_)
    refine wpAny_bind (RZ.nextOf_tuple_end (show X.A.in1.handled = none from I.ok.hd hc) hit p (by simp; omega) fun h' x he' hx' => ?_)
    obtain ⟨o, ho, hc⟩ := hx'
    refine wpAny_bind (wpAny_isInstance (T := "StopIteration") (b := true) ⟨o, ho, hc⟩ isSubtype_stop ?_)
    exact wpAny_pure ⟨rfl, I.turned (t' := s.toks) (fun b o hb q => he' b o hb q) f0 f1 f3 f4 f5⟩
  self := fun A i s Q E st h => let ⟨⟨_, he⟩, _⟩ := st; wpAny_pyIter_enum he h
def iEnumT (K : PySem.W.Frag) (ta : TA) : TI := fun σ H R => ta σ H fun vs H1 => ∃ a xs, vs = [.ref a] ∧ SqT K H1 a xs ∧ R (IteT K a) H1
theorem pi_enumT {X : Cx} {e : Expr} {ta : TA} {p pos tpos : Pos} {elts : List Expr} {kk : Nat} (hg : Gl X "enumerate") (hm : X.mg "enumerate" = none) (ha : PA X [e] ta) (hs : starEach [e] X.env = [(false, eval e X.env)] := by rfl) :
    PI X (.Tuple elts kk tpos) (.Call (.Name "enumerate" p) [e] [] pos) (iEnumT X.K ta) := by
  refine ⟨fun pins s σ H R I h => ?_⟩
  refine Call_ (ld_blt I hg hm boot_enumerate (PyProof.Rows.callWith_type1 (thn (ha.run pos pins s σ H _ I h) fun us s1 ⟨vs, H1, I1, r1, q1⟩ => ?_) hs rfl))
  obtain ⟨a, xs, ex, hq, q⟩ := q1
  subst ex
  cases r1 with
  | cons r rr =>
    cases rr
    cases r
    obtain ⟨its, rv, p', hz⟩ := I1.tuple hq
    have hal : a < s1.heap.objs.size := by obtain ⟨_, q, _⟩ := p'; exact Heap.lt_size q
    refine call_enumerate_tup p' fun h' he hit hsz hk => wpAny_pyIter_enum he ?_
    have I2 : Inv X pins σ H1 { s1 with heap := h' } := I1.kept (t' := s1.toks) hk
    refine ⟨s1.heap.objs.size + 1, [s1.heap.objs.size + 1, s1.heap.objs.size], _, _, H1, rfl, I2, turn_enumT a (s1.heap.objs.size + 1) s1.heap.objs.size, ⟨⟨.none, he⟩, hit, Nat.succ_ne_self _, Nat.ne_of_lt hal, Nat.ne_of_lt (Nat.lt_succ_of_lt hal)⟩, fun b hb => ?_, q⟩
    have e' : b = s1.heap.objs.size + 1 ∨ b = s1.heap.objs.size := by simpa using hb
    have hle : s1.heap.objs.size ≤ b := by
      rcases e' with z | z
      · rw [z]; exact Nat.le_add_right _ _
      · rw [z]; exact Nat.le_refl _
    exact I1.fpOk hle (I1.hok.fresh hle)
theorem walk_enumT {K : PySem.W.Frag} {a : Addr} {xs : List V} : Walk (IteT K a) xs.length (fun H => SqT K H a xs) (YPair (fun i => some (.int (i : Nat))) (fun i => xs[i]?)) := by
  refine ⟨fun i _ hi q => ⟨xs, xs[i], q, by simp [hi]⟩, fun _ q => ⟨xs, q, Nat.le_refl _⟩, fun i H v H' _ q y => ?_⟩
  obtain ⟨T, x, h1, h2, h3, h4⟩ := y
  exact ⟨T, .int (i : Nat), x, h1, h2, h3, rfl, h4 xs q⟩
theorem walk_zipT {K : PySem.W.Frag} {a b : Addr} {xs ys : List V} {n : Nat} (hn : n = min xs.length ys.length) : Walk (RZ.ItzT K a b) n (fun H => SqT K H a xs ∧ SqT K H b ys) (YPair (fun i => xs[i]?) (fun i => ys[i]?)) := by
  subst hn
  refine ⟨fun i _ hi q => ?_, fun _ q => ⟨xs, ys, q.1, q.2, by omega⟩, fun i H v H' _ q y => ?_⟩
  · have h1 : i < xs.length := by omega
    have h2 : i < ys.length := by omega
    exact ⟨xs, ys, xs[i], ys[i], q.1, q.2, by simp [h1], by simp [h2]⟩
  · obtain ⟨T, x, z, h1, h2, h3, h4, h5⟩ := y
    exact ⟨T, x, z, h1, h2, h3, h4 xs q.1, h5 ys q.2⟩
end Bs

namespace Bs
open PySem PySem.Spec PyProof.Rows L2
/-! ## != of two instances of one own class with its own == and no != of its own -/
section
variable {prog : Program} {w : World} {A : Around} {E : Value → Shared → Prop} {s : Shared} {K : PySem.W.Frag} {x y C : Addr} {ox oy : Obj} {od oe : Option Obj} {f : Addr}
theorem objNe_K (X : K.In s.heap) (I : PySem.W.InstAt s.heap x ox C od) (hs : PySem.W.findIn K (.ref C) "__eq__" = some (some (.ref f))) (hf : PySem.W.isFn K (.ref f) = true) (hu : A.units < cLine) {Q : Fin → Shared → Prop}
    (hcall : wpAny (model prog w) A (call (.ref f) [.ref x, .ref y]) (fun v s' => ∃ b, v = .bool b ∧ Q (.done (.ret (.bool (!b)))) s') E s) :
    wpAny (model prog w) A (Builtin.«object.__ne__» ⟨[.ref x, .ref y], []⟩) Q E s := by
  obtain ⟨hp, g, d, t, os⟩ := s
  unfold Builtin.«object.__ne__»
  repeat (first
    | with_reducible refine wpAny_cRoomFor hu ?_
    | (refine wpAny_bind (m := callSpecialIfBound? (.ref x) (Str.ofString "__eq__") [.ref y])
        (PySem.W.ifBound_K X I hs hf (wpAny_mono hcall (fun v s' hv => by
          obtain ⟨b, rfl, hq⟩ := hv
          repeat (first | exact hq | exact wpAny_pure hq | exact wpAny_truthy_bool hq | (refine wpAny_bind (m := truthy (.bool _)) (wpAny_truthy_bool ?_)) | wp_step)) fun _ _ e => e)))
    | wp_step)
theorem ifBound_ne (X : K.In s.heap) (I : PySem.W.InstAt s.heap x ox C od) (hn : PySem.W.findIn K (.ref C) "__ne__" = some (some (.builtin "object.__ne__"))) {args : List Value} {Q : Option Value → Shared → Prop} {M : Model}
    (h : wpAny M A (call (.builtin "object.__ne__") (.ref x :: args)) (fun v => Q (some v)) E s) : wpAny M A (callSpecialIfBound? (.ref x) "__ne__" args) Q E s := by
  simp only [callSpecialIfBound?, bindSpecialIfBound?]
  refine wpAny_holding (wpAny_bind (wpAny_bind (wpAny_bind (I.type.here ((PySem.W.looks_findIn X hn).here ?_)))))
  refine wpAny_bind (wpAny_askSetting (wpAny_ite ?_))
  have fin : wpAny M A (call (.builtin "object.__ne__") ([.ref x] ++ args) >>= fun v => pure (some v)) Q E s := wpAny_bind (wpAny_mono h (fun v s' h' => wpAny_pure h') fun _ _ h' => h')
  have hb : bindSpecial (.builtin "object.__ne__") (.ref x) = pure (.builtin "object.__ne__", [.ref x]) := (F.slot_object_ne).bind (.ref x)
  split
  · rw [hb]
    exact wpAny_bind (wpAny_pure (wpAny_pure fin))
  · rw [hb]
    exact wpAny_tryCatch (wpAny_bind (wpAny_pure (wpAny_pure fin)))
theorem tryNe_K (X : K.In s.heap) (I : PySem.W.InstAt s.heap x ox C od) (hs : PySem.W.findIn K (.ref C) "__eq__" = some (some (.ref f))) (hf : PySem.W.isFn K (.ref f) = true)
    (hn : PySem.W.findIn K (.ref C) "__ne__" = some (some (.builtin "object.__ne__"))) (hsub : PySem.W.subIn K (.ref C) (.type "object") = some true) (hu : A.units + 1 < cLine) {Q : Option Value → Shared → Prop}
    (hcall : wpAny (model prog w) A.in1 (call (.ref f) [.ref x, .ref y]) (fun v s' => ∃ b, v = .bool b ∧ Q (some (.bool (!b))) s') E s) :
    wpAny (model prog w) A (tryCompare (.ref x) "__ne__" (.ref y)) Q E s := by
  simp only [tryCompare]
  refine wpAny_bind (ifBound_ne X I hn (wpAny_call (codeAny_call_builtin (F.slot_object_ne).plain F.cmpEntry_ne
    (PySem.W.check_slot F.cmpKind_ne F.cmpSplit_ne (I.type.andThen (PySem.W.looks_subIn X hsub)) (F.cmpArgs_ne _ _)
      (objNe_K (A := A.in1) X I hs hf hu (wpAny_mono hcall (fun v s' hv => ?_) fun _ _ e => e))))))
  obtain ⟨b, rfl, hq⟩ := hv
  first | exact ⟨b, rfl, wpAny_pure hq⟩ | exact ⟨b, rfl, wpAny_pure (wpAny_pure hq)⟩ | exact ⟨b, rfl, hq⟩
theorem richNe_K (X : K.In s.heap) (I : PySem.W.InstAt s.heap x ox C od) (J : PySem.W.InstAt s.heap y oy C oe) (hs : PySem.W.findIn K (.ref C) "__eq__" = some (some (.ref f))) (hf : PySem.W.isFn K (.ref f) = true)
    (hn : PySem.W.findIn K (.ref C) "__ne__" = some (some (.builtin "object.__ne__"))) (hsub : PySem.W.subIn K (.ref C) (.type "object") = some true) (hu : A.units + 1 < cLine) {Q : Value → Shared → Prop}
    (hcall : wpAny (model prog w) A.in1 (call (.ref f) [.ref x, .ref y]) (fun v s' => ∃ b, v = .bool b ∧ Q (.bool (!b)) s') E s) :
    wpAny (model prog w) A (richCompare .NotEq (.ref x) (.ref y)) Q E s := by
  have one : wpAny (model prog w) A (tryCompare (.ref x) "__ne__" (.ref y)) (fun r s' => ∃ v, r = some v ∧ Q v s') E s :=
    tryNe_K X I hs hf hn hsub hu (wpAny_mono hcall (fun v s' ⟨b, e, q⟩ => ⟨b, e, _, rfl, q⟩) fun _ _ e => e)
  unfold richCompare
  simp only [oneThing_ref]
  refine wpAny_holding (wpAny_bind (wpAny_cRoomFor (Nat.lt_of_succ_lt hu) ?_))
  rw [cmpInfo_NotEq]
  dsimp only
  refine wpAny_bind (I.type.here (wpAny_bind (J.type.here ?_)))
  rw [show (Value.ref C != Value.ref C) = false from by simp]
  simp only [Bool.false_eq_true, if_false]
  refine wpAny_bind (wpAny_pure ?_)
  simp only [Bool.false_eq_true, if_false]
  refine wpAny_bind (wpAny_mono one (fun r s' z => ?_) fun _ _ e => e)
  obtain ⟨v, rfl, hq⟩ := z
  exact wpAny_pure hq
end
/-- what != asks of two instances of C: the promise of C's own == -/
def rNeOwn (C : Addr) (sp : Sp) : R2 := fun x y H Q => ∃ a b dx dy fs gs, x = .ref a ∧ y = .ref b ∧ H a = some (.ins C dx fs) ∧ H b = some (.ins C dy gs) ∧ sp [.ref a, .ref b] H (fun v H' => ∃ r, v = .bl r ∧ Q (.bl (!r)) H') E0
structure OwnNe (K : PySem.W.Frag) (C f : Addr) : Prop where
  eq : PySem.W.findIn K (.ref C) "__eq__" = some (some (.ref f))
  fn : PySem.W.isFn K (.ref f) = true
  ne : PySem.W.findIn K (.ref C) "__ne__" = some (some (.builtin "object.__ne__"))
  sub : PySem.W.subIn K (.ref C) (.type "object") = some true
theorem op_neOwn {X : Cx} {C f : Addr} {fd : FuncData} {ps : List Str} {sp : Sp} {n : Nat} (N : OwnNe X.K C f) (F : FnOk X.prog X.w X.K X.mg X.base CX0 n f fd ps sp) (hr : Room (n + 1) X.A) (hb : Binds X.K fd ps []) : OpR X (compareOp .NotEq) (rNeOwn C sp) := by
  intro pins s σ H x y v u Q I rx ry h
  obtain ⟨a, b, dx, dy, fs, gs, rfl, rfl, ha, hb', hsp⟩ := h
  cases rx
  cases ry
  obtain ⟨mA, J, _⟩ := ins_get I.hok ha
  obtain ⟨mB, J', _⟩ := ins_get I.hok hb'
  obtain ⟨od, J, _⟩ := J.look
  obtain ⟨od', J', _⟩ := J'.look
  have hu : X.A.units + 1 < cLine := hu_of hr
  have hr1 : Room n X.A.in1 := hr.in1
  have e0 : Env0 X.prog X.w X.K X.mg X.base X.A.in1 X.stack s H := I.env0.in1
  have hl := F.len _ _ _ _ hsp
  have r2 : Vals [V.ref a, V.ref b] [Value.ref a, Value.ref b] := .cons rfl (.cons rfl .nil)
  show wpAny (model X.prog X.w) X.A (richCompare .NotEq (.ref a) (.ref b)) (EP X pins σ Q) X.xe s
  refine richNe_K I.kIn J J' N.eq N.fn N.ne N.sub hu ?_
  refine wpAny_call (codeAny_mono (F.run X.A.in1 X.stack s H ⟨[.ref a, .ref b], []⟩ [.ref a, .ref b] [.ref a, .ref b] _ E0 hr1 e0 (by
    have := hb s [.ref a, .ref b] I.kIn (by simpa using hl)
    simpa using this) r2 hsp) fun r s' hq => ?_)
  cases r with
  | error e => exact hq.elim
  | ok fl =>
    cases fl with
    | ret w =>
      obtain ⟨z, H', I', rz, r, ez, q⟩ := I.after hq
      subst ez
      cases rz
      exact ⟨r, rfl, .bl (!r), H', I', rfl, q⟩
    | next => exact False.elim hq
    | brk => exact False.elim hq
    | cont => exact False.elim hq
/-! ## calls in short -/
structure Cal (P : Program) (w : World) (K : PySem.W.Frag) (mg : Str → Option Value) (base : Heap) (k : Nat) (x : Str) (ps : List Str) (sp : Sp) : Prop where
  ex : ∃ (f : Addr) (fd : FuncData), FnOk P w K mg base CX0 k f fd ps sp ∧ mg x = some (.ref f) ∧ PySem.W.keepIn K (.ref f) = true ∧ Binds K fd ps []
theorem pe_cal {X : Cx} {k : Nat} {x : Str} {ps : List Str} {sp : Sp} {e : Expr} {es : List Expr} {t : TA} {p pos : Pos} (c : Cal X.prog X.w X.K X.mg X.base k x ps sp) (hr : Room k X.A) (ha : PA X (e :: es) t) (hg : Gl X x := by rfl)
    (hdb : (x == ("__debug__" : Str)) = false := by decide) (he : starEach (e :: es) X.env = (false, eval e X.env) :: starEach es X.env := by rfl) (hpl : (backTo pos (starEach es X.env)).any (·.1) = false := by rfl) :
    PE X (.Call (.Name x p) (e :: es) [] pos) (tCall sp [] E0 t) := by
  obtain ⟨f, fd, F, hm, hk, hb⟩ := c.ex
  exact pe_call F hr hg hm hk hb .nil pass0 ha hdb he hpl
theorem pe_cal0 {X : Cx} {k : Nat} {x : Str} {ps : List Str} {sp : Sp} {p pos : Pos} (c : Cal X.prog X.w X.K X.mg X.base k x ps sp) (hr : Room k X.A) (hg : Gl X x := by rfl)
    (hdb : (x == ("__debug__" : Str)) = false := by decide) :
    PE X (.Call (.Name x p) [] [] pos) (tCall sp [] E0 tNil) := by
  obtain ⟨f, fd, F, hm, hk, hb⟩ := c.ex
  exact pe_call0 F hr hg hm hk hb .nil pass0 hdb
/-- C(..) -/
structure Mkc (P : Program) (w : World) (K : PySem.W.Frag) (mg : Str → Option Value) (base : Heap) (k : Nat) (C : Addr) (x : Str) (ps : List Str) (sp : Sp) : Prop where
  ex : ∃ (f : Addr) (fd : FuncData), Mk K C f ∧ FnOk P w K mg base CX0 k f fd ps sp ∧ mg x = some (.ref C) ∧ Binds K fd ps []
theorem pe_mkc {X : Cx} {k : Nat} {C : Addr} {x : Str} {ps : List Str} {sp : Sp} {e : Expr} {es : List Expr} {t : TA} {p pos : Pos} (c : Mkc X.prog X.w X.K X.mg X.base k C x ps sp) (hr : Room (k + 1) X.A) (ha : PA X (e :: es) t) (hg : Gl X x := by rfl)
    (hdb : (x == ("__debug__" : Str)) = false := by decide) (he : starEach (e :: es) X.env = (false, eval e X.env) :: starEach es X.env := by rfl) (hpl : (backTo pos (starEach es X.env)).any (·.1) = false := by rfl) :
    PE X (.Call (.Name x p) (e :: es) [] pos) (tMake C sp [] E0 t) := by
  obtain ⟨f, fd, M, F, hm, hb⟩ := c.ex
  exact pe_make M F hr hg hm hb .nil pass0 ha hdb he hpl
/-- a global that is a class or a def, as a value -/
theorem pe_globR {X : Cx} {x : Str} {C : Addr} {pos : Pos} (hm : X.mg x = some (.ref C)) (hg : Gl X x := by rfl) (hn : (x == ("__debug__" : Str)) = false := by decide) : PE X (.Name x pos) (tC (.ref C)) := by
  exact pe_glob hg hm rfl hn
/-- the built-ins that no name of the program hides -/
structure Bl (mg : Str → Option Value) : Prop where
  isinstance : mg "isinstance" = none
  len : mg "len" = none
  sorted : mg "sorted" = none
  min : mg "min" = none
  max : mg "max" = none
  all : mg "all" = none
  zip : mg "zip" = none
  range : mg "range" = none
  enumerate : mg "enumerate" = none
  int_ : mg "int" = none
  bool_ : mg "bool" = none
  str_ : mg "str" = none
  list_ : mg "list" = none
  tuple_ : mg "tuple" = none
end Bs

namespace Bs
open PySem PySem.Spec PyProof.Rows L2
/-! ## heaps: what never changes, all but one object -/
/-- tuples stay -/
def TK (H H' : Hp) : Prop := ∀ a xs, H a = some (.tup xs) → H' a = some (.tup xs)
theorem TK.rfl' {H : Hp} : TK H H := fun _ _ h => h
theorem TK.trans {H H1 H2 : Hp} (a : TK H H1) (b : TK H1 H2) : TK H H2 := fun x o h => b x o (a x o h)
theorem _root_.L2.Same.tk {H H' : Hp} (e : Same H H') : TK H H' := fun a xs h => e a _ h
theorem _root_.L2.Same.new {H : Hp} {p : Addr} {o : HO} (h : H p = none) : Same H (upd H p o) := fun a u e => by rw [upd_ne (ne_of_none e h)]; exact e
theorem _root_.L2.Same.new' {H H1 : Hp} {p : Addr} {o : HO} (x : Same H H1) (h : H1 p = none) : Same H (upd H1 p o) := x.trans (Same.new h)
/-- an object that H does not know may change -/
theorem _root_.L2.Same.mut {H H' : Hp} {p : Addr} {o : HO} (e : Same H H') (h : H p = none) : Same H (upd H' p o) := fun a u ha => by
  rw [upd_ne (ne_of_none ha h)]
  exact e a u ha
def isTupO : Option HO → Bool
  | some (.tup _) => true
  | _ => false
theorem TK.upd {H : Hp} {p : Addr} {o : HO} (h : isTupO (H p) = false) : TK H (L2.upd H p o) := fun a xs e => by
  have hn : a ≠ p := fun q => by rw [q] at e; rw [e] at h; cases h
  rw [upd_ne hn]; exact e
theorem tk_lst {H : Hp} {p : Addr} {o : HO} {xs : List V} (h : H p = some (.lst xs)) : TK H (L2.upd H p o) := TK.upd (by rw [h]; rfl)
theorem tk_new {H : Hp} {p : Addr} {o : HO} (h : H p = none) : TK H (L2.upd H p o) := TK.upd (by rw [h]; rfl)
/-- all but the object at T stay -/
def ExT (T : Addr) (H H' : Hp) : Prop := ∀ a o, a ≠ T → H a = some o → H' a = some o
theorem ExT.rfl' {T : Addr} {H : Hp} : ExT T H H := fun _ _ _ h => h
theorem ExT.trans {T : Addr} {H H1 H2 : Hp} (a : ExT T H H1) (b : ExT T H1 H2) : ExT T H H2 := fun x o n h => b x o n (a x o n h)
theorem _root_.L2.Same.exT {T : Addr} {H H' : Hp} (e : Same H H') : ExT T H H' := fun a o _ h => e a o h
theorem ExT.tk {T : Addr} {H H' : Hp} {l : List V} (e : ExT T H H') (h : H T = some (.lst l)) : TK H H' := fun a xs q => e a _ (ne_of q h (by intro z; cases z)) q
theorem ExT.upd {T : Addr} {H H1 : Hp} {o : HO} (e : ExT T H H1) : ExT T H (L2.upd H1 T o) := fun a u n h => by rw [upd_ne n]; exact e a u n h
theorem ExT.new {T p : Addr} {H H1 : Hp} {o : HO} (e : ExT T H H1) (h : H1 p = none) : ExT T H (L2.upd H1 p o) := fun a u n q => by
  have q' := e a u n q
  rw [upd_ne (ne_of_none q' h)]; exact q'
/-- one more object, unknown at first, that may change -/
theorem ExT.mut {T p : Addr} {H H1 : Hp} {o : HO} (e : ExT T H H1) (h : H p = none) : ExT T H (L2.upd H1 p o) := fun a u n q => by
  rw [upd_ne (ne_of_none q h)]; exact e a u n q
theorem ExT.free {T : Addr} {H H' : Hp} (e : ExT T H H') {l : Addr} (hl : l ≠ T) (h : H' l = none) : H l = none := by
  cases q : H l with
  | none => rfl
  | some o => rw [e l o hl q] at h; cases h
/-! ## pairs of ints -/
def PairAt (H : Hp) (v : V) (p : Int × Int) : Prop := ∃ a, v = .ref a ∧ H a = some (.tup [.int p.1, .int p.2])
theorem PairAt.tk {H H' : Hp} {v : V} {p : Int × Int} (e : TK H H') (h : PairAt H v p) : PairAt H' v p := let ⟨a, h1, h2⟩ := h; ⟨a, h1, e _ _ h2⟩
theorem PairAt.inj {H : Hp} {v : V} {p q : Int × Int} (h : PairAt H v p) (h' : PairAt H v q) : p = q := by
  obtain ⟨a, rfl, h2⟩ := h
  obtain ⟨b, e, h3⟩ := h'
  cases e
  rw [h2] at h3
  injection h3 with h3
  injection h3 with h3
  injection h3 with h4 h5
  injection h4 with h4
  injection h5 with h5
  injection h5 with h5
  exact Prod.ext h4 h5
abbrev Pairs (H : Hp) (xs : List V) (ps : List (Int × Int)) : Prop := Paired (PairAt H) xs ps
theorem Paired.imp' {α β : Type} {F G : α → β → Prop} : ∀ {l₁ : List α} {l₂ : List β}, Paired F l₁ l₂ → (∀ a b, F a b → G a b) → Paired G l₁ l₂
  | _, _, .nil, _ => .nil
  | _, _, .cons r t, f => .cons (f _ _ r) (Paired.imp' t f)
theorem Pairs.tk {H H' : Hp} {xs : List V} {ps : List (Int × Int)} (e : TK H H') (h : Pairs H xs ps) : Pairs H' xs ps := Paired.imp' h fun _ _ q => q.tk e
theorem Paired.get {α β : Type} {F : α → β → Prop} : ∀ {l₁ : List α} {l₂ : List β} {i : Nat} {a : α}, Paired F l₁ l₂ → l₁[i]? = some a → ∃ b, l₂[i]? = some b ∧ F a b
  | _, _, _, _, .nil, h => by simp at h
  | _, _, 0, _, .cons r _, h => by simp at h; subst h; exact ⟨_, by simp, r⟩
  | _, _, i + 1, a, .cons _ t, h => by
    obtain ⟨b, h1, h2⟩ := Paired.get (i := i) (a := a) t (by simpa using h)
    exact ⟨b, by simpa using h1, h2⟩
theorem Paired.len {α β : Type} {F : α → β → Prop} : ∀ {l₁ : List α} {l₂ : List β}, Paired F l₁ l₂ → l₁.length = l₂.length
  | _, _, .nil => rfl
  | _, _, .cons _ t => by simp [Paired.len t]
theorem Paired.app {α β : Type} {F : α → β → Prop} : ∀ {l₁ m₁ : List α} {l₂ m₂ : List β}, Paired F l₁ l₂ → Paired F m₁ m₂ → Paired F (l₁ ++ m₁) (l₂ ++ m₂)
  | _, _, _, _, .nil, h => h
  | _, _, _, _, .cons r t, h => .cons r (Paired.app t h)
/-- the pair that a value is -/
def pairOf (H : Hp) (v : V) : Int × Int := match v with
  | .ref a => match H a with
    | some (.tup [.int i, .int j]) => (i, j)
    | _ => (0, 0)
  | _ => (0, 0)
theorem pairOf_of {H : Hp} {v : V} {p : Int × Int} (h : PairAt H v p) : pairOf H v = p := by
  obtain ⟨a, rfl, h2⟩ := h
  unfold pairOf
  simp only [h2]
theorem pairs_map {H : Hp} : ∀ {xs : List V} {ps : List (Int × Int)}, Pairs H xs ps → xs.map (pairOf H) = ps
  | _, _, .nil => rfl
  | _, _, .cons r t => by rw [List.map_cons, pairOf_of r, pairs_map t]
theorem pairs_mem {H : Hp} : ∀ {xs : List V} {ps : List (Int × Int)}, Pairs H xs ps → ∀ x ∈ xs, PairAt H x (pairOf H x)
  | _, _, .nil, _, h => by simp at h
  | _, _, .cons r t, x, h => by
    rcases List.mem_cons.mp h with e | h
    · subst e; rw [pairOf_of r]; exact r
    · exact pairs_mem t x h
theorem pairs_self {H : Hp} : ∀ {xs : List V}, (∀ x ∈ xs, PairAt H x (pairOf H x)) → Pairs H xs (xs.map (pairOf H))
  | [], _ => .nil
  | x :: xs, h => .cons (h x (by simp)) (pairs_self fun y hy => h y (by simp [hy]))
/-- before, or the same -/
def le2 (p q : Int × Int) : Prop := p.1 < q.1 ∨ (p.1 = q.1 ∧ p.2 ≤ q.2)
def lt2 (p q : Int × Int) : Prop := p.1 < q.1 ∨ (p.1 = q.1 ∧ p.2 < q.2)
/-- sorted(xs), xs a list of pairs -/
theorem sorted_pairs {K : PySem.W.Frag} {H : Hp} {a : Addr} {xs : List V} {ps : List (Int × Int)} {Q : VK} (hs : SqL K H a xs) (hp : Pairs H xs ps)
    (k : ∀ p ys qs, H p = none → Pairs H ys qs → qs.Perm ps → qs.Pairwise le2 → Q (.ref p) (upd H p (.lst ys))) : rSortedPO K [.ref a] H Q := by
  refine ⟨a, xs, pairOf H, rfl, hs, fun x hx => pairs_mem hp x hx, fun ys p h1 h2 hn => ?_⟩
  have hm : ∀ y ∈ ys, PairAt H y (pairOf H y) := fun y hy => pairs_mem hp y (h2.perm.mem_iff.mp hy)
  refine k p ys (ys.map (pairOf H)) hn (pairs_self hm) ?_ ?_
  · rw [← pairs_map hp]
    exact h2.perm.map _
  · refine List.pairwise_map.mpr (h1.imp fun {x y} h => ?_)
    have h' := SrtO.lexB_no.mp h
    unfold le2
    omega
theorem sorted_post {H : Hp} {xs ys : List V} {ps : List (Int × Int)} (hp : Pairs H xs ps) (h1 : SrtO.Srtd (ltP (pairOf H)) ys) (h2 : SrtO.Stb (ltP (pairOf H)) ys xs) : ∃ qs, Pairs H ys qs ∧ qs.Perm ps ∧ qs.Pairwise le2 := by
  have hm : ∀ y ∈ ys, PairAt H y (pairOf H y) := fun y hy => pairs_mem hp y (h2.perm.mem_iff.mp hy)
  refine ⟨ys.map (pairOf H), pairs_self hm, ?_, ?_⟩
  · rw [← pairs_map hp]
    exact h2.perm.map _
  · refine List.pairwise_map.mpr (h1.imp fun {x y} h => ?_)
    have h' := SrtO.lexB_no.mp h
    unfold le2
    omega
/-! ## comprehensions -/
theorem lc_data {J : It} {n : Nat} {G : Hp → Prop} {Y : Nat → Hp → V → Hp → Prop} (w : Walk J n G Y) {α : Type} (as : List α) (hn : as.length = n) (f : α → Bool) (P : Hp → V → α → Prop) (hP : ∀ H H' v a, TK H H' → P H v a → P H' v a)
    {g : TG} {tt : TT} {te : TE} {vs : List Nat} {σ : L2.St} {H1 : Hp} {D : Addr} {Qd : Hp → Prop} (hD : H1 D = none) (hG : ∀ H', Same H1 H' → G H') (hsz : as.length < sizeLine)
    (hs : ∀ i a x H H' (Ny : V → Hp → Prop) (Nn : Hp → Prop), as[i]? = some a → Same H1 H → Y i H x H' →
      (∀ y H4, f a = true → Same H' H4 → P H4 y a → Ny y H4) → (∀ H3, f a = false → Same H' H3 → Nn H3) →
      g x (wipe σ vs) H' fun σ2 H2 => wipe σ2 vs = wipe σ vs ∧ tt σ2 H2 fun b H3 => if b = true then te σ2 H3 fun y H4 => Ny y H4 else Nn H3)
    (hY : ∀ i H x H', H D = some (.lst []) ∨ True → Y i H x H' → Same H H')
    (hd : ∀ ys H', Same H1 H' → H' D = some (.lst ys) → Paired (P H') ys (as.filter f) → Qd H') :
    ∃ W : Nat → Nat → Hp → Prop, (∃ m, W 0 m (upd H1 D (.lst []))) ∧ ∀ i m H, W i m H →
      (J.stop i H ∧ Qd H) ∨ (J.go i H ∧ ∃ Nx : Hp → Prop, (∀ H', Nx H' → ∃ m', m' < m ∧ W (i + 1) m' H') ∧ ∀ x H', J.yld i H x H' → g x (wipe σ vs) H' fun σ2 H2 => wipe σ2 vs = wipe σ vs ∧ tt σ2 H2 fun b H3 =>
        if b = true then te σ2 H3 fun y H4 => ∃ acc, H4 D = some (.lst acc) ∧ acc.length < sizeLine ∧ Nx (upd H4 D (.lst (acc ++ [y]))) else Nx H3) := by
  refine lc_it w (Pv := fun i H => Same H1 H ∧ ∃ ys, H D = some (.lst ys) ∧ Paired (P H) ys ((as.take i).filter f)) ⟨L2.Same.new hD, [], upd_same, by simp; exact .nil⟩ (fun i H hi p => hG H p.1) ?_ ?_
  · intro i x H H' hi p hy
    obtain ⟨e1, ys, hys, hpr⟩ := p
    have hi' : i < as.length := by omega
    have ha : as[i]? = some as[i] := List.getElem?_eq_getElem hi'
    have eY := hY i H x H' (.inr trivial) hy
    have htk : (as.take (i + 1)).filter f = (as.take i).filter f ++ [as[i]].filter f := by
      rw [List.take_succ, ha, List.filter_append]; rfl
    have hlen : ys.length ≤ i := by
      have := Paired.len hpr
      have h2 := List.length_filter_le f (as.take i)
      have h3 := List.length_take_le i as
      omega
    refine hs i as[i] x H H' _ _ ha e1 hy ?_ ?_
    · intro y H4 hf e4 hPy
      refine ⟨ys, e4 _ _ (eY _ _ hys), by omega, ?_, _, upd_same, ?_⟩
      · exact Same.mut (e1.trans (eY.trans e4)) hD
      · rw [htk, List.filter_cons, if_pos hf]
        refine Paired.app (Paired.imp' hpr fun v a q => hP _ _ _ _ ?_ q) (.cons (hP _ _ _ _ ?_ hPy) .nil)
        · exact (Same.tk (eY.trans e4)).trans (tk_lst (e4 _ _ (eY _ _ hys)))
        · exact tk_lst (e4 _ _ (eY _ _ hys))
    · intro H3 hf e3
      refine ⟨e1.trans (eY.trans e3), ys, e3 _ _ (eY _ _ hys), ?_⟩
      rw [htk, List.filter_cons, if_neg (by simp [hf])]
      simp only [List.filter_nil, List.append_nil]
      exact Paired.imp' hpr fun v a q => hP _ _ _ _ (Same.tk (eY.trans e3)) q
  · intro H p
    obtain ⟨e1, ys, hys, hpr⟩ := p
    rw [← hn, List.take_length] at hpr
    exact hd ys H e1 hys hpr
theorem yes_if {σ : L2.St} {H : Hp} {A B : Hp → Prop} (h : A H) : tYes σ H (fun b H3 => if b = true then A H3 else B H3) := by
  show (if true = true then A H else B H)
  exact iteT h
theorem yat_same {xs : List V} {i : Nat} {H H' : Hp} {x : V} (h : YAt xs i H x H') : Same H H' := by rw [h.1]; exact Same.refl H
theorem ypair_same {xs ys : Nat → Option V} {i : Nat} {H H' : Hp} {x : V} (h : YPair xs ys i H x H') : Same H H' := by
  obtain ⟨T, x, y, _, h2, h3, _⟩ := h
  rw [h3]; exact Same.new h2
/-! ## the tape -/
structure Tape where
  ns : List Int
  i1 : Int
  i2 : Int
  i3 : Int
  i4 : Int
def Tp (H : Hp) (T L : Addr) : Prop := ∃ t : Tape, H T = some (.lst [.ref L, .int t.i1, .int t.i2, .int t.i3, .int t.i4]) ∧ H L = some (.lst (t.ns.map V.int)) ∧ L ≠ T ∧ 0 ≤ t.i1 ∧ 0 ≤ t.i3 ∧ t.i3 < 2147483648
theorem Tp.ext {T L : Addr} {H H' : Hp} (h : Tp H T L) (e : Same H H') : Tp H' T L := by
  obtain ⟨t, h1, h2, h3⟩ := h
  exact ⟨t, e _ _ h1, e _ _ h2, h3⟩
theorem Tp.lst {T L : Addr} {H : Hp} (h : Tp H T L) : ∃ l, H T = some (.lst l) := let ⟨t, h1, _⟩ := h; ⟨_, h1⟩
theorem Tp.lst2 {T L : Addr} {H : Hp} (h : Tp H T L) : ∃ l, H L = some (.lst l) := let ⟨t, _, h1, _⟩ := h; ⟨_, h1⟩
theorem Tp.tk {T L : Addr} {H H' : Hp} (h : Tp H T L) (e : ExT T H H') : TK H H' := let ⟨_, q⟩ := h.lst; e.tk q
/-- another object changes -/
theorem Tp.upd {T L p : Addr} {H : Hp} {o : HO} (h : Tp H T L) (h1 : p ≠ T) (h2 : p ≠ L) : Tp (L2.upd H p o) T L := by
  obtain ⟨t, a1, a2, a3⟩ := h
  exact ⟨t, by rw [upd_ne h1.symm]; exact a1, by rw [upd_ne h2.symm]; exact a2, a3⟩
theorem Tp.neT {T L p : Addr} {H : Hp} (h : Tp H T L) (hp : H p = none) : p ≠ T := fun q => by
  obtain ⟨l, h1⟩ := h.lst
  rw [← q, hp] at h1; cases h1
theorem Tp.neL {T L p : Addr} {H : Hp} (h : Tp H T L) (hp : H p = none) : p ≠ L := fun q => by
  obtain ⟨l, h1⟩ := h.lst2
  rw [← q, hp] at h1; cases h1
/-- what a draw promises -/
def spPick : Sp := fun vs H Q _ => ∃ (T L : Addr) (m : Int), vs = [.ref T, .int m] ∧ 0 < m ∧ m < 1073741824 ∧ Tp H T L ∧ ∀ r H', 0 ≤ r → r < m → ExT T H H' → Tp H' T L → Q (.int r) H'
end Bs

namespace Bs
open PySem PySem.Spec PyProof.Rows L2
/-! ## bits -/
theorem and_pp (x y : Nat) : Builtin.bitAnd (x : Int) (y : Int) = ((x &&& y : Nat) : Int) := by
  unfold Builtin.bitAnd
  rw [decide_eq_true (Int.natCast_nonneg x), decide_eq_true (Int.natCast_nonneg y)]
  simp
theorem or_pp (x y : Nat) : Builtin.bitOr (x : Int) (y : Int) = ((x ||| y : Nat) : Int) := by
  rw [Bits.bitOr_pp (Int.natCast_nonneg x) (Int.natCast_nonneg y)]; simp
theorem xor_pp (x y : Nat) : Builtin.bitXor (x : Int) (y : Int) = ((x ^^^ y : Nat) : Int) := by
  rw [Bits.bitXor_pp (Int.natCast_nonneg x) (Int.natCast_nonneg y)]; simp
/-- one bit less -/
def clr (x k : Nat) : Nat := x - (x &&& 2 ^ k)
theorem and_pow (x k : Nat) : x &&& 2 ^ k = if x.testBit k = true then 2 ^ k else 0 := by
  apply Nat.eq_of_testBit_eq
  intro j
  rw [Nat.testBit_and, Nat.testBit_two_pow]
  by_cases h : k = j
  · subst h
    cases hb : x.testBit k <;> simp
  · cases hb : x.testBit k <;> simp [h, Nat.testBit_two_pow]
theorem clr_bit (x k j : Nat) : (clr x k).testBit j = (x.testBit j && !decide (j = k)) := by
  unfold clr
  rw [and_pow]
  cases hb : x.testBit k with
  | false =>
    simp only [Bool.false_eq_true, if_false, Nat.sub_zero]
    by_cases h : j = k
    · subst h; simp [hb]
    · simp [h]
  | true =>
    rw [if_pos rfl]
    have h1 : x = 2 ^ (k + 1) * (x / 2 ^ (k + 1)) + x % 2 ^ (k + 1) := (Nat.div_add_mod x _).symm
    have hr : x % 2 ^ (k + 1) < 2 ^ (k + 1) := Nat.mod_lt _ (Nat.pow_pos (by decide))
    generalize x / 2 ^ (k + 1) = a at h1
    generalize x % 2 ^ (k + 1) = r at h1 hr
    have hrk : r.testBit k = true := by
      rw [h1, Nat.testBit_two_pow_mul_add _ hr, if_pos (Nat.lt_succ_self k)] at hb
      exact hb
    have hge : 2 ^ k ≤ r := by
      rcases Nat.lt_or_ge r (2 ^ k) with h | h
      · rw [Nat.testBit_lt_two_pow h] at hrk; cases hrk
      · exact h
    have hp : 2 ^ (k + 1) = 2 ^ k + 2 ^ k := by rw [Nat.pow_succ]; omega
    have hb' : r - 2 ^ k < 2 ^ k := by omega
    have hb2 : r - 2 ^ k < 2 ^ (k + 1) := by omega
    have e1 : x - 2 ^ k = 2 ^ (k + 1) * a + (r - 2 ^ k) := by omega
    have e2 : r = 2 ^ k * 1 + (r - 2 ^ k) := by omega
    rw [e1, Nat.testBit_two_pow_mul_add _ hb2]
    conv => rhs; rw [h1]
    rw [Nat.testBit_two_pow_mul_add _ hr]
    by_cases c : j < k + 1
    · rw [if_pos c, if_pos c]
      conv => rhs; rw [e2]
      rw [Nat.testBit_two_pow_mul_add _ hb']
      by_cases d : j < k
      · rw [if_pos d]; simp [show j ≠ k by omega]
      · have : j = k := by omega
        subst this
        rw [if_neg d, Nat.testBit_lt_two_pow hb']
        simp
    · rw [if_neg c, if_neg c]; simp [show j ≠ k by omega]
theorem bitNot_pow (k : Nat) : Builtin.bitNot ((2 : Int) ^ k) = -(2 ^ k) - 1 := rfl
theorem two_pow_pos (k : Nat) : (0 : Int) < 2 ^ k := Int.pow_pos (by decide)
theorem and_not (x k : Nat) : Builtin.bitAnd (x : Int) (Builtin.bitNot ((2 : Int) ^ k)) = ((clr x k : Nat) : Int) := by
  have h2 := two_pow_pos k
  unfold Builtin.bitAnd
  rw [decide_eq_true (Int.natCast_nonneg x), decide_eq_false (show ¬ 0 ≤ Builtin.bitNot ((2 : Int) ^ k) by rw [bitNot_pow]; omega)]
  show (x : Int) - (((x : Int).toNat &&& (Builtin.bitNot (Builtin.bitNot ((2 : Int) ^ k))).toNat : Nat) : Int) = _
  have e : (Builtin.bitNot (Builtin.bitNot ((2 : Int) ^ k))).toNat = 2 ^ k := by
    have : Builtin.bitNot (Builtin.bitNot ((2 : Int) ^ k)) = ((2 ^ k : Nat) : Int) := by
      unfold Builtin.bitNot
      rw [Int.natCast_pow]
      show -(-(2 : Int) ^ k - 1) - 1 = 2 ^ k
      omega
    rw [this]; exact Int.toNat_natCast _
  rw [e]
  unfold clr
  have hle : x &&& 2 ^ k ≤ x := Nat.and_le_left
  have e3 : ((x : Int).toNat &&& 2 ^ k) = x &&& 2 ^ k := by simp
  rw [e3]
  omega
/-- the lowest bit -/
theorem low_ex {n : Nat} (h : n ≠ 0) : ∃ k, n.testBit k = true ∧ ∀ j, j < k → n.testBit j = false := by
  obtain ⟨i, hi⟩ := Nat.exists_testBit_of_ne_zero h
  induction i using Nat.strongRecOn with
  | ind i ih =>
    by_cases c : ∃ j, j < i ∧ n.testBit j = true
    · obtain ⟨j, hj, hb⟩ := c
      exact ih j hj hb
    · refine ⟨i, hi, fun j hj => ?_⟩
      cases hb : n.testBit j with
      | false => rfl
      | true => exact absurd ⟨j, hj, hb⟩ c
theorem low_is {n k : Nat} (h1 : n.testBit k = true) (h2 : ∀ j, j < k → n.testBit j = false) : Builtin.bitAnd (n : Int) (-(n : Int)) = 2 ^ k := by
  have hn : n ≠ 0 := fun e => by rw [e] at h1; simp at h1
  have hm : n % 2 ^ k = 0 := by
    apply Nat.eq_of_testBit_eq
    intro j
    rw [Nat.testBit_mod_two_pow]
    by_cases c : j < k
    · rw [h2 j c]; simp
    · simp [c]
  have e1 : n = 2 ^ k * (n / 2 ^ k) := by
    have := Nat.div_add_mod n (2 ^ k)
    omega
  generalize hc : n / 2 ^ k = c at e1
  have hodd : c.testBit 0 = true := by
    rw [e1, Nat.testBit_two_pow_mul] at h1
    simpa using h1
  have hodd2 : c % 2 = 1 := by simpa using hodd
  obtain ⟨m, hm2⟩ : ∃ m, c = 2 * m + 1 := ⟨c / 2, by omega⟩
  have hp : 0 < 2 ^ k := Nat.pow_pos (by decide)
  have e2 : n - 1 = 2 ^ k * (2 * m) + (2 ^ k - 1) := by
    have : 2 ^ k * c = 2 ^ k * (2 * m) + 2 ^ k := by rw [hm2, Nat.mul_add, Nat.mul_one]
    omega
  have e3 : n &&& (n - 1) = clr n k := by
    apply Nat.eq_of_testBit_eq
    intro j
    rw [Nat.testBit_and, clr_bit]
    conv => lhs; rhs; rw [e2]
    rw [Nat.testBit_two_pow_mul_add _ (show 2 ^ k - 1 < 2 ^ k by omega)]
    by_cases c1 : j < k
    · rw [if_pos c1, h2 j c1]; simp
    · rw [if_neg c1]
      by_cases c2 : j = k
      · subst c2; simp
      · have e4 : n.testBit j = (2 * m + 1).testBit (j - k) := by
          rw [e1, hm2, Nat.testBit_two_pow_mul]
          simp [show k ≤ j by omega]
        rw [e4]
        obtain ⟨i, hi⟩ : ∃ i, j - k = i + 1 := ⟨j - k - 1, by omega⟩
        rw [hi, Nat.testBit_succ, Nat.testBit_succ]
        have a1 : (2 * m + 1) / 2 = m := by omega
        have a2 : 2 * m / 2 = m := by omega
        rw [a1, a2]
        simp [c2]
  unfold Builtin.bitAnd
  rw [decide_eq_true (Int.natCast_nonneg n), decide_eq_false (show ¬ 0 ≤ -(n : Int) by omega)]
  show (n : Int) - (((n : Int).toNat &&& (Builtin.bitNot (-(n : Int))).toNat : Nat) : Int) = _
  have e5 : (Builtin.bitNot (-(n : Int))).toNat = n - 1 := by unfold Builtin.bitNot; omega
  have e6 : ((n : Int).toNat &&& (n - 1)) = clr n k := by rw [Int.toNat_natCast]; exact e3
  rw [e5, e6]
  unfold clr
  rw [and_pow, if_pos h1]
  have hle : 2 ^ k ≤ n := by
    have := Nat.and_le_left (n := n) (m := 2 ^ k)
    rw [and_pow, if_pos h1] at this
    exact this
  have e7 : ((2 : Int) ^ k) = ((2 ^ k : Nat) : Int) := by rw [Int.natCast_pow]; rfl
  rw [e7]
  omega
theorem xor_low {n k : Nat} (h1 : n.testBit k = true) : n ^^^ 2 ^ k = clr n k := by
  apply Nat.eq_of_testBit_eq
  intro j
  rw [Nat.testBit_xor, clr_bit, Nat.testBit_two_pow]
  by_cases c : k = j
  · subst c; simp [h1]
  · simp [c, show j ≠ k from fun e => c e.symm]
theorem clr_lt {n k : Nat} (h1 : n.testBit k = true) : clr n k < n := by
  unfold clr
  rw [and_pow, if_pos h1]
  have hp : 0 < 2 ^ k := Nat.pow_pos (by decide)
  have hle : 2 ^ k ≤ n := by
    have := Nat.and_le_left (n := n) (m := 2 ^ k)
    rw [and_pow, if_pos h1] at this
    exact this
  omega
theorem bits_pow (k : Nat) : Builtin.Int.intBits ((2 : Int) ^ k) = k + 1 := by
  have h1 := natAbs_lt_pow_bits ((2 : Int) ^ k)
  have e : ((2 : Int) ^ k).natAbs = 2 ^ k := by rw [Int.natAbs_pow]; rfl
  rw [e] at h1
  have h2 : Builtin.Int.intBits ((2 : Int) ^ k) ≤ k + 1 := intBits_le (by rw [e, Nat.pow_succ]; have := Nat.pow_pos (n := k) (show 0 < 2 by decide); omega)
  have h3 : k < Builtin.Int.intBits ((2 : Int) ^ k) := (Nat.pow_lt_pow_iff_right (by decide)).mp h1
  omega
/-! ## rules -/
section
variable {X : Cx}
theorem ip_or : PIp X .BitOr (rI0 fun i j => .int (Builtin.bitOr i j)) := fun pins s σ H x y v u Q I rx ry h => iop_or pins s σ H x y v u Q I rx ry h
theorem ip_xor : PIp X .BitXor (rI0 fun i j => .int (Builtin.bitXor i j)) := fun pins s σ H x y v u Q I rx ry h => iop_xor pins s σ H x y v u Q I rx ry h
/-- xs[i] read, ahead of xs[i] op= e -/
def gGetL (K : PySem.W.Frag) : V → V → Hp → VK → Prop := fun o i H Q => ∃ p xs k v, o = .ref p ∧ i = .int k ∧ SqL K H p xs ∧ 0 ≤ k ∧ xs[k.toNat]? = some v ∧ Q v H
theorem get_listP : PGet X (gGetL X.K) := by
  intro pins s σ H o i ov iv Q I ro ri h
  obtain ⟨p, xs, k, v, rfl, rfl, hs, h0, hv, q⟩ := h
  cases ro
  obtain ⟨t, rfl⟩ := ri
  obtain ⟨its, r, pl, hz⟩ := I.list hs
  obtain ⟨u, hu, ru⟩ := r.get hv
  have hl := r.length
  have hk : k.toNat < xs.length := (List.getElem?_eq_some_iff.mp hv).1
  have hn := line63
  exact wpAny_getItem_list pl.isList h0 (by omega) (by simpa using hu) ⟨v, H, I, ru, q⟩
/-- a thing that is in no place of a tuple of data -/
def rNotInT (K : PySem.W.Frag) : R2 := fun x y H Q => ∃ d ds, Dp K H x d ∧ Dp K H y (.tuple ds) ∧ SeqAt.shaped d = true ∧ SeqAt.shaped (.list ds) = true ∧ SeqAt.shaped (.tuple ds) = true ∧ Q (.bl (!ds.any fun z => PyData.eqv z d)) H
def rInT (K : PySem.W.Frag) : R2 := fun x y H Q => ∃ d ds, Dp K H x d ∧ Dp K H y (.tuple ds) ∧ SeqAt.shaped d = true ∧ SeqAt.shaped (.list ds) = true ∧ SeqAt.shaped (.tuple ds) = true ∧ Q (.bl (ds.any fun z => PyData.eqv z d)) H
theorem op_inT (hu : X.A.units + 65 < cLine) : OpR X (compareOp .In) (rInT X.K) := by
  intro pins s σ H x y v u Q I rx ry ⟨d, ds, hd, he, sd, sl, se, q⟩
  obtain ⟨as, r1⟩ := Dp.reads I d x v hd rx
  obtain ⟨bs, r2⟩ := Dp.reads I (.tuple ds) y u he ry
  exact SeqAt.in_tuple_reads r2 r1 (by have := SeqAt.canLay_of_shaped sl; exact this) (SeqAt.canLay_of_shaped sd) (room_in_shaped sd hu) ⟨.bl _, H, I, rfl, q⟩
theorem op_notInT (hu : X.A.units + 65 < cLine) : OpR X (compareOp .NotIn) (rNotInT X.K) := by
  intro pins s σ H x y v u Q I rx ry ⟨d, ds, hd, he, sd, sl, se, q⟩
  obtain ⟨as, r1⟩ := Dp.reads I d x v hd rx
  obtain ⟨bs, r2⟩ := Dp.reads I (.tuple ds) y u he ry
  exact SeqAt.notIn_tuple_reads r2 r1 (by have := SeqAt.canLay_of_shaped sl; exact this) (SeqAt.canLay_of_shaped sd) (room_in_shaped sd hu) ⟨.bl _, H, I, rfl, q⟩
end
end Bs

namespace Bs
open PySem PySem.Spec PyProof.Rows L2 HT
/-! ## t[::-1], t a tuple -/
theorem fm_congr {α β : Type} {f g : α → Option β} : ∀ {l : List α}, (∀ x ∈ l, f x = g x) → l.filterMap f = l.filterMap g
  | [], _ => rfl
  | a :: l, h => by rw [List.filterMap_cons, List.filterMap_cons, h a (by simp), fm_congr fun x hx => h x (by simp [hx])]
theorem rev_all {α : Type} (xs : Array α) : (List.range xs.size).filterMap (fun m : Nat => xs[(((xs.size : Int) - 1) + (m : Int) * -1).toNat]?) = xs.toList.reverse := by
  rw [← PySem.W.krv_all xs, ← List.filterMap_reverse, ← PySem.W.krv_range, List.filterMap_map]
  refine fm_congr fun m hm => ?_
  have := List.mem_range.mp hm
  show _ = xs[xs.size - 1 - m]?
  congr 1
  omega
section
variable {prog : Program} {w : World} {A : Around} {E : Value → Shared → Prop} {s : Shared}
theorem sliceApplied_rev {sl : Addr} {tk : Tok} {n : Nat} {Q : Int × Int × Nat → Shared → Prop} (hs : s.heap.IsSliceOf sl .none .none (.int (-1) tk))
    (h : Q ((n : Int) - 1, -1, n) s) : wpAny (model prog w) A (Builtin.Slice.sliceApplied (.ref sl) (pure (n : Int))) Q E s := by
  obtain ⟨os, hos, hcs, hds⟩ := id hs
  unfold Builtin.Slice.sliceApplied Builtin.Slice.sliceFields
  refine wpAny_bind (wpAny_bind (wpAny_field hos hds (x := .none) rfl (wpAny_bind (wpAny_field hos hds (x := .none) rfl (wpAny_bind (wpAny_field hos hds (x := .int (-1) tk) rfl (wpAny_pure ?_)))))))
  refine wpAny_bind (slicePart_ (.int (-1) tk) ?_)
  show wpAny _ _ (if ((-1 : Int) == 0) = true then _ else _) _ _ s
  rw [if_neg (by decide)]
  refine wpAny_bind (slicePart_none (wpAny_bind (slicePart_none (wpAny_bind (wpAny_pure ?_)))))
  show wpAny _ _ (pure ((n : Int) - 1, (-1 : Int), Builtin.Slice.slicePlaces ((n : Int) - 1) (-1) (-1))) _ _ s
  have e : Builtin.Slice.slicePlaces ((n : Int) - 1) (-1) (-1) = n := by
    show (if (-1 : Int) > 0 then _ else if (n : Int) - 1 > -1 then ((n : Int) - 1 - -1 - 1) / - -1 + 1 else 0).toNat = n
    rw [if_neg (by decide)]
    by_cases h : (n : Int) - 1 > -1
    · rw [if_pos h, show (- -1 : Int) = 1 by decide, Int.ediv_one]; omega
    · rw [if_neg h]; omega
  rw [e]
  exact wpAny_pure h
theorem getItem_tuple_rev {t sl : Addr} {items : Array Value} {tk : Tok} {Q : Value → Shared → Prop} (ht : IsTup s.heap t items) (hs : s.heap.IsSliceOf sl .none .none (.int (-1) tk))
    (h : Q (.ref s.heap.objs.size) { s with heap := s.heap.push { cls := .type "tuple", data := .seq items.toList.reverse.toArray } })
    (hsz : items.size ≤ sizeLine) : wpAny (model prog w) A (getItem (.ref t) (.ref sl)) Q E s := by
  have hok : sizeOk (.seq items.toList.reverse.toArray) := by
    show items.toList.reverse.toArray.size ≤ sizeLine
    rw [List.size_toArray, List.length_reverse, Array.length_toList]
    exact hsz
  obtain ⟨os, hos, hcs, hds⟩ := id hs
  have hTs : s.TypeIs (.ref sl) "slice" := ⟨os, hos, hcs⟩
  unfold getItem
  try with_reducible refine wpAny_holding ?_
  first | refine wpAny_bind (wpAny_pure ?_) | skip
  refine wpAny_bind (wpAny_sequenceKey ht.typeIs (by decide) ?_)
  refine wpAny_bind (wpAny_callSpecial?_slot (name := Str.ofString "__getitem__") ht.typeIs PyProof.Rows.slot_tuple_getitem
    (wpAny_call_entry PyProof.Rows.slot_tuple_getitem ht.typeIs entry_tuple_getitem ?_ (args_tuple_getitem _ _)))
  show wpAny _ _ (Builtin.Tuple.tupleItemsOf (.ref t) >>= _) _ _ s
  refine wpAny_bind (tupleItemsOf_ ht ?_)
  refine wpAny_bind (wpAny_typeOf hTs ?_)
  rw [if_pos (by decide)]
  refine wpAny_bind (sliceApplied_rev hs ?_)
  have hno : ¬ ((((items.size : Int) - 1) == 0 && (-1 : Int) == 1 && items.size == items.size) = true) := by
    intro q
    rw [Bool.and_eq_true, Bool.and_eq_true] at q
    exact absurd q.1.2 (by decide)
  show wpAny _ _ (if (((items.size : Int) - 1) == 0 && (-1 : Int) == 1 && items.size == items.size) = true then _ else _) _ _ s
  rw [if_neg hno, rev_all]
  first
    | exact wpAny_bind (m := Builtin.Tuple.tupleExact _) (wpAny_newObj_type (wpAny_pure ⟨_, rfl, wpAny_pure h⟩) hok)
    | exact wpAny_bind (m := Builtin.Tuple.tupleExact _) (wpAny_newObj_type (wpAny_bind (wpAny_pure (wpAny_pure ⟨_, rfl, wpAny_pure h⟩))) hok)
    | exact wpAny_bind (wpAny_bind (m := Builtin.Tuple.tupleExact _) (wpAny_newObj_type (wpAny_pure (wpAny_pure ⟨_, rfl, wpAny_pure h⟩)) hok))
    | exact wpAny_bind (wpAny_bind (m := Builtin.Tuple.tupleExact _) (wpAny_newObj_type (wpAny_pure ⟨_, rfl, wpAny_pure h⟩) hok))
end
def tRevT (K : PySem.W.Frag) (te : TE) : TE := fun σ H Q => te σ H fun x H1 => ∃ a xs, x = .ref a ∧ SqT K H1 a xs ∧ ∀ p, H1 p = none → Q (.ref p) (upd H1 p (.tup xs.reverse))
theorem pe_revT {X : Cx} {e : Expr} {te : TE} {k : Nat} {p1 p2 p3 pos : Pos} (he : PE X e te) : PE X (.Subscript e (.Slice none none (some (.UnaryOp .USub (.Constant (.int 1) k p1) p2)) p3) pos) (tRevT X.K te) := by
  refine ⟨fun pins s σ H Q I h => ?_⟩
  refine Subscript_ (thn (he.run pins s σ H _ I h) fun v s1 ⟨x, H1, I1, r1, q1⟩ => ?_)
  obtain ⟨a, xs, ex, hx, q⟩ := q1
  subst ex
  cases r1
  have hst : PO X (some (.UnaryOp .USub (.Constant (.int 1) k p1) p2)) (tPart (tUn (rU fun i => .int (-i)) (tC (.int 1)))) := po_some (pe_un un_neg pe_int)
  refine wpAny_Slice (thn (po_none.run pins s1 σ H1 (fun o H2 => o = none ∧ H2 = H1) I1 ⟨rfl, rfl⟩) fun vl s2 ⟨l, H2, I2, pl, el, e2⟩ => ?_)
  subst el e2
  refine thn (po_none.run pins s2 σ H2 (fun o H3 => o = none ∧ H3 = H2) I2 ⟨rfl, rfl⟩) fun vu s3 ⟨u, H3, I3, pu, eu, e3⟩ => ?_
  subst eu e3
  refine thn (hst.run pins s3 σ H3 (fun o H4 => o = some (-1) ∧ H4 = H3) I3 ⟨1, rfl, -1, rfl, rfl, rfl⟩) fun vs s4 ⟨o, H4, I4, ps, eo, e4⟩ => ?_
  subst eo e4
  cases pl
  cases pu
  obtain ⟨tk, ev⟩ : ∃ tk, vs = .int (-1) tk := by
    cases ps with
    | int i t => exact ⟨t, rfl⟩
  subst ev
  have I5 : Inv X pins σ H4 { s4 with heap := s4.heap.push { cls := .type "slice", data := .fields #[.none, .none, .int (-1) tk] } } := I4.kept (t' := s4.toks) fun b ob q => Heap.get?_push_of_some _ q
  obtain ⟨its, r, ht, hz⟩ := I5.tuple hx
  have hlen := r.length
  show wpAny (model X.prog X.w) X.A (subscriptTail e (.Slice none none (some (.UnaryOp .USub (.Constant (.int 1) k p1) p2)) p3) (.ref a) (.ref s4.heap.objs.size)) (EP X pins σ Q) X.xe { s4 with heap := s4.heap.push { cls := .type "slice", data := .fields #[.none, .none, .int (-1) tk] } }
  refine tail_any (ops := [.ref a, .ref s4.heap.objs.size]) ht.typeIs (PyProof.Rows.slot_tuple_getitem.lookup) ?_ (by with_unfolding_all rfl)
  refine getItem_tuple_rev ht (Heap.IsSliceOf.new _ .none .none (.int (-1) tk)) ?_ (by rw [List.size_toArray]; omega)
  refine ⟨.ref _, _, I5.laid (t' := s4.toks) (o := .tup xs.reverse) (fun b ob q => Heap.get?_push_of_some _ q) (Nat.le_refl _) ?_, rfl, q _ (I5.hok.fresh (Nat.le_refl _))⟩
  exact ⟨by rw [List.length_reverse]; exact hz, _, r.reverse, ⟨_, Heap.get?_push_size _ rfl, rfl, _, rfl⟩⟩
/-! ## things of any kind -/
/-- the type of a thing, as far as isinstance asks for it -/
def Typ (K : PySem.W.Frag) (H : Hp) (v : V) (c : String) (b : Bool) : Prop := ∃ t, TyX K H v t ∧ PySem.W.kitOne K t (.type c) = some b
/-- an int, a flag, or neither -/
inductive Item (K : PySem.W.Frag) (H : Hp) : V → Prop where
  | int (i : Int) : Item K H (.int i)
  | bl (b : Bool) : Item K H (.bl b)
  | els {v : V} (h : Typ K H v "int" false) (h1 : ∀ i, v ≠ .int i) : Item K H v
def isI : V → Bool
  | .int _ => true
  | _ => false
def inI (a b : Int) : V → Bool
  | .int i => decide (a ≤ i ∧ i ≤ b)
  | _ => false
theorem TyX.same {K : PySem.W.Frag} {H H' : Hp} {v : V} {t : Value} (hk : ∀ a xs, H a = some (.tup xs) → H' a = some (.tup xs)) (h : TyX K H v t) (hl : ∀ a xs, v = .ref a → H a = some (.lst xs) → ∃ ys, H' a = some (.lst ys)) (ho : ∀ a o, v = .ref a → H a = some o → isTupO (some o) = false → (∀ xs, o ≠ .lst xs) → H' a = some o) : TyX K H' v t := by
  cases h with
  | base b =>
    cases b with
    | non => exact .base .non
    | bl x => exact .base (.bl x)
    | int x => exact .base (.int x)
    | str x => exact .base (.str x)
    | flt x => exact .base (.flt x)
    | @lst a xs e => obtain ⟨ys, h⟩ := hl a xs rfl e; exact .base (.lst h)
    | @frz a o xs e => exact .base (.frz (ho a _ rfl e rfl (fun _ => HO.noConfusion)))
    | @tup a xs e => exact .base (.tup (hk _ _ e))
    | @dK a kvs e => exact .base (.dK (ho a _ rfl e rfl (fun _ => HO.noConfusion)))
    | @dT a kvs e => exact .base (.dT (ho a _ rfl e rfl (fun _ => HO.noConfusion)))
    | @ins a C dx fs e cl ha hn htk hm => exact .base (.ins (ho a _ rfl e rfl (fun _ => HO.noConfusion)) cl ha hn htk hm)
  | byt b => exact .byt b
  | @set a S n e => exact .set (ho a _ rfl e rfl (fun _ => HO.noConfusion))
  | kList e c => exact .kList e c
  | kTuple e c => exact .kTuple e c
  | kDict e c => exact .kDict e c
  | @fTuple a o xs e => exact .fTuple (ho a _ rfl e rfl (fun _ => HO.noConfusion))
  | @fDict a o kvs e => exact .fDict (ho a _ rfl e rfl (fun _ => HO.noConfusion))
theorem TyX.ext {K : PySem.W.Frag} {H H' : Hp} {v : V} {t : Value} (h : TyX K H v t) (e : Same H H') : TyX K H' v t :=
  TyX.same (fun a xs q => e _ _ q) h (fun a xs _ q => ⟨xs, e _ _ q⟩) (fun a o _ q _ _ => e _ _ q)
theorem TyX.exT {K : PySem.W.Frag} {H H' : Hp} {T : Addr} {l l' : List V} {v : V} {t : Value} (h : TyX K H v t) (e : ExT T H H') (hT : H T = some (.lst l)) (hT' : H' T = some (.lst l')) : TyX K H' v t :=
  TyX.same (fun a xs q => e.tk hT _ _ q) h (fun a xs _ q => by
    by_cases c : a = T
    · exact ⟨l', by rw [c]; exact hT'⟩
    · exact ⟨xs, e _ _ c q⟩) (fun a o _ q _ n => e _ _ (fun c => by rw [c, hT] at q; exact n l (Option.some.inj q).symm) q)
theorem Typ.ext {K : PySem.W.Frag} {H H' : Hp} {v : V} {c : String} {b : Bool} (h : Typ K H v c b) (e : Same H H') : Typ K H' v c b := let ⟨t, h1, h2⟩ := h; ⟨t, TyX.ext h1 e, h2⟩
theorem Typ.exT {K : PySem.W.Frag} {H H' : Hp} {T : Addr} {l l' : List V} {v : V} {c : String} {b : Bool} (h : Typ K H v c b) (e : ExT T H H') (hT : H T = some (.lst l)) (hT' : H' T = some (.lst l')) : Typ K H' v c b := let ⟨t, h1, h2⟩ := h; ⟨t, TyX.exT h1 e hT hT', h2⟩
theorem Item.ext {K : PySem.W.Frag} {H H' : Hp} {v : V} (h : Item K H v) (e : Same H H') : Item K H' v := by
  cases h with
  | int i => exact .int i
  | bl b => exact .bl b
  | els h h1 => exact .els (h.ext e) h1
theorem Item.exT {K : PySem.W.Frag} {H H' : Hp} {T : Addr} {l l' : List V} {v : V} (h : Item K H v) (e : ExT T H H') (hT : H T = some (.lst l)) (hT' : H' T = some (.lst l')) : Item K H' v := by
  cases h with
  | int i => exact .int i
  | bl b => exact .bl b
  | els h h1 => exact .els (h.exT e hT hT') h1
/-- a tuple of items, or no tuple -/
inductive Thing (K : PySem.W.Frag) (H : Hp) : V → Prop where
  | tup {a : Addr} {xs : List V} (h : H a = some (.tup xs)) (h1 : ∀ x ∈ xs, Item K H x) (h2 : xs.length ≤ 100000) : Thing K H (.ref a)
  | els {v : V} (h : Typ K H v "tuple" false) (h1 : ∀ a xs, v = .ref a → H a ≠ some (.tup xs)) : Thing K H v
theorem Thing.ext {K : PySem.W.Frag} {H H' : Hp} {v : V} (h : Thing K H v) (e : Same H H') (hv : ∀ a, v = .ref a → H a ≠ none) : Thing K H' v := by
  cases h with
  | tup h h1 h2 => exact .tup (e _ _ h) (fun x hx => (h1 x hx).ext e) h2
  | els h h1 =>
    refine .els (h.ext e) fun a xs ea q => ?_
    cases c : H a with
    | none => exact hv a ea c
    | some o =>
      rw [e _ _ c] at q
      cases q
      exact h1 a xs ea c
theorem Thing.exT {K : PySem.W.Frag} {H H' : Hp} {T : Addr} {l l' : List V} {v : V} (h : Thing K H v) (e : ExT T H H') (hT : H T = some (.lst l)) (hT' : H' T = some (.lst l')) (hv : ∀ a, v = .ref a → H a ≠ none) : Thing K H' v := by
  cases h with
  | tup h h1 h2 => exact .tup (e.tk hT _ _ h) (fun x hx => (h1 x hx).exT e hT hT') h2
  | els h h1 =>
    refine .els (h.exT e hT hT') fun a xs ea q => ?_
    by_cases ca : a = T
    · rw [ca, hT'] at q; cases q
    · cases c : H a with
      | none => exact hv a ea c
      | some o =>
        rw [e _ _ ca c] at q
        cases q
        exact h1 a xs ea c
theorem typ_tup {K : PySem.W.Frag} {H : Hp} {a : Addr} {xs : List V} {c : String} {b : Bool} (h : H a = some (.tup xs)) (hb : kitB "tuple" c = some b) : Typ K H (.ref a) c b := ⟨_, .base (.tup h), kit_ty hb⟩
theorem typ_lst {K : PySem.W.Frag} {H : Hp} {a : Addr} {xs : List V} {c : String} {b : Bool} (h : H a = some (.lst xs)) (hb : kitB "list" c = some b) : Typ K H (.ref a) c b := ⟨_, .base (.lst h), kit_ty hb⟩
theorem typ_dK {K : PySem.W.Frag} {H : Hp} {a : Addr} {xs : List (L2.Key × V)} {c : String} {b : Bool} (h : H a = some (.dK xs)) (hb : kitB "dict" c = some b) : Typ K H (.ref a) c b := ⟨_, .base (.dK h), kit_ty hb⟩
theorem typ_non {K : PySem.W.Frag} {H : Hp} {c : String} {b : Bool} (hb : kitB "NoneType" c = some b) : Typ K H .non c b := ⟨_, .base .non, kit_ty hb⟩
theorem typ_str {K : PySem.W.Frag} {H : Hp} {c : String} {x : Str} {b : Bool} (hb : kitB "str" c = some b) : Typ K H (.str x) c b := ⟨_, .base (.str x), kit_ty hb⟩
theorem typ_int {K : PySem.W.Frag} {H : Hp} {c : String} {x : Int} {b : Bool} (hb : kitB "int" c = some b) : Typ K H (.int x) c b := ⟨_, .base (.int x), kit_ty hb⟩
theorem typ_bl {K : PySem.W.Frag} {H : Hp} {c : String} {x : Bool} {b : Bool} (hb : kitB "bool" c = some b) : Typ K H (.bl x) c b := ⟨_, .base (.bl x), kit_ty hb⟩
theorem Item.non {K : PySem.W.Frag} {H : Hp} : Item K H .non := .els (typ_non (by decide +kernel)) (fun _ => V.noConfusion)
theorem Item.str {K : PySem.W.Frag} {H : Hp} (x : Str) : Item K H (.str x) := .els (typ_str (by decide +kernel)) (fun _ => V.noConfusion)
theorem Item.tup {K : PySem.W.Frag} {H : Hp} {a : Addr} {xs : List V} (h : H a = some (.tup xs)) : Item K H (.ref a) := .els (typ_tup h (by decide +kernel)) (fun _ => V.noConfusion)
theorem Item.lst {K : PySem.W.Frag} {H : Hp} {a : Addr} {xs : List V} (h : H a = some (.lst xs)) : Item K H (.ref a) := .els (typ_lst h (by decide +kernel)) (fun _ => V.noConfusion)
theorem Item.dK {K : PySem.W.Frag} {H : Hp} {a : Addr} {xs : List (L2.Key × V)} (h : H a = some (.dK xs)) : Item K H (.ref a) := .els (typ_dK h (by decide +kernel)) (fun _ => V.noConfusion)
theorem Thing.non {K : PySem.W.Frag} {H : Hp} : Thing K H .non := .els (typ_non (by decide +kernel)) (fun _ _ => V.noConfusion)
theorem Thing.str {K : PySem.W.Frag} {H : Hp} (x : Str) : Thing K H (.str x) := .els (typ_str (by decide +kernel)) (fun _ _ => V.noConfusion)
theorem Thing.int {K : PySem.W.Frag} {H : Hp} (x : Int) : Thing K H (.int x) := .els (typ_int (by decide +kernel)) (fun _ _ => V.noConfusion)
theorem Thing.bl {K : PySem.W.Frag} {H : Hp} (x : Bool) : Thing K H (.bl x) := .els (typ_bl (by decide +kernel)) (fun _ _ => V.noConfusion)
theorem Thing.lst {K : PySem.W.Frag} {H : Hp} {a : Addr} {xs : List V} (h : H a = some (.lst xs)) : Thing K H (.ref a) := .els (typ_lst h (by decide +kernel)) (fun b ys e q => by cases e; rw [h] at q; cases q)
theorem Thing.dK {K : PySem.W.Frag} {H : Hp} {a : Addr} {xs : List (L2.Key × V)} (h : H a = some (.dK xs)) : Thing K H (.ref a) := .els (typ_dK h (by decide +kernel)) (fun b ys e q => by cases e; rw [h] at q; cases q)
/-- what isinstance asks of a class of one's own -/
structure ClsTy (K : PySem.W.Frag) (C : Addr) : Prop where
  int : PySem.W.kitOne K (.ref C) (.type "int") = some false
  tup : PySem.W.kitOne K (.ref C) (.type "tuple") = some false
end Bs

namespace Bs
open PySem PySem.Spec PyProof.Rows L2 HT
/-! ## sorted(xs), tuples of ints of any length -/
section
variable {prog : Program} {w : World} {A : Around} {E : Value → Shared → Prop} {s : Shared}
def IsIt (h : Heap) (v : Value) (ns : List Int) : Prop := ∃ (a : Addr) (o : Obj) (items : Array Value) (n : Nat), v = .ref a ∧ h.get? a = some o ∧ o.cls = .type "tuple" ∧ o.data = .seq items n ∧ IntsAre items.toList ns
theorem IsIt.keeps {h h' : Heap} {v : Value} {ns : List Int} (x : IsIt h v ns) (k : ∀ b o, v = .ref b → h.get? b = some o → h'.get? b = some o) : IsIt h' v ns := by
  obtain ⟨a, o, items, n, e, g, c, d, i⟩ := x
  exact ⟨a, o, items, n, e, k _ _ e g, c, d, i⟩
theorem lt_it {v u : Value} {ns ms : List Int} {Q : Bool → Shared → Prop} (hu : A.units < cLine) (hv : IsIt s.heap v ns) (hw : IsIt s.heap u ms) (h : Q (HT.lexLt ns ms) s) : wpAny (model prog w) A (keyLt' oneType' v u) Q E s := by
  obtain ⟨a, ⟨c1, dd, d1, sl⟩, items, n, rfl, ga, ca, da, ia⟩ := hv
  obtain ⟨b, ⟨c2, dd2, d2, sl2⟩, items2, n2, rfl, gb, cb, db, ib⟩ := hw
  simp only at ca da cb db
  subst ca da cb db
  rw [keyLt'_oneType, oneLt'_eq]
  simp only [if_true]
  refine wpAny_bind (wpAny_cRoomFor hu ?_)
  refine wpAny_bind (wpAny_callSpecialIfBound?_slot (name := PySem.Str.ofString "__lt__") ⟨_, ga, rfl⟩ PySem.F.slot_tuple_lt ?_)
  refine call_meets PySem.F.slot_tuple_lt ⟨_, ga, rfl⟩ PySem.F.entry_tuple_lt (PySem.F.args_tuple_lt_2 _ _) (tuple_lt_ints a b items items2 n n2 dd dd2 sl sl2 ns ms ia ib) ⟨ga, gb, ?_⟩
  exact wpAny_truthy_bool h
/-- of tuples, one by one -/
theorem lex_it (b : Bool) {Q : Bool → Shared → Prop} : ∀ {xs ys : List Value} {ns ms : List Int} (i : Nat) (d : Bool), IntsAre xs ns → IntsAre ys ms → (ns.length < ms.length ↔ d = true) → Q (HT.lexLt ns ms) s → PySem.W.KatLex prog w A b d Q (xs.zip ys) i s
  | _, _, _, _, i, d, .nil, .nil, e, h => by
    have : d = false := by
      cases d with
      | false => rfl
      | true => exact absurd (e.mpr rfl) (by simp)
    subst this
    exact PySem.W.kat_nil h
  | _, _, _, _, i, d, .nil, .cons m t r, e, h => by
    have : d = true := e.mp (by simp)
    subst this
    exact PySem.W.kat_nil h
  | _, _, _, _, i, d, .cons n t r, .nil, e, h => by
    have : d = false := by
      cases d with
      | false => rfl
      | true => exact absurd (e.mpr rfl) (by simp)
    subst this
    exact PySem.W.kat_nil h
  | _, _, _, _, i, d, .cons (vs := xs) (ns := ns) n t r, .cons (vs := ys) (ns := ms) m u r', e, h => by
    rw [HT.lexLt_cons] at h
    refine PySem.W.kat_cons (SeqAt.EqAt.int_int n t m u prog w _ _ ?_)
    refine PySem.W.kat_go (fun e1 => ?_) (fun e1 => ?_)
    · have ex : n = m := by simpa using e1
      rw [if_pos ex] at h
      exact PySem.W.kat_yes (lex_it b (i + 1) d r r' (by simpa using e) h)
    · have ex : ¬ n = m := by simpa using e1
      rw [if_neg ex] at h
      exact PySem.W.kat_no (TS.oneLt_ints _ h)
theorem kat_it {vs : List Value} (h : Heap) : (∀ v ∈ vs, ∃ ns, IsIt h v ns ∧ ns ≠ []) → ∃ fs, PySem.W.KatTups h vs fs ∧ fs.length = vs.length ∧ ∀ f ∈ fs, ∃ x t, f = Value.int x t := by
  induction vs with
  | nil => intro _; exact ⟨[], .nil, rfl, by simp⟩
  | cons v vs ih =>
    intro hv
    obtain ⟨fs, h1, h2, h3⟩ := ih fun u hu => hv u (List.mem_cons_of_mem _ hu)
    obtain ⟨ns, ⟨a, o, items, n, rfl, g, c, d, i⟩, hne⟩ := hv v List.mem_cons_self
    obtain ⟨its, rfl⟩ : ∃ its, items = List.toArray its := ⟨items.toList, by simp⟩
    cases its with
    | nil => cases i; exact absurd rfl hne
    | cons x its =>
      cases i with
      | cons k t r => exact ⟨.int k t :: fs, .cons g c d (by simp) h1, by simp [h2], fun f hf => (List.mem_cons.mp hf).elim (fun e => ⟨k, t, e⟩) (h3 f)⟩
theorem firsts_it {M : Model} : ∀ (vs : List Value) {Q : List (Option Value) → Shared → Prop}, (∀ v ∈ vs, ∃ ns, IsIt s.heap v ns) → (∀ l, Q l s) → wpAny M A (vs.mapM firstOfTuple') Q E s
  | [], Q, _, h => by rw [List.mapM_nil]; exact wpAny_pure (h _)
  | v :: vs, Q, hv, h => by
    obtain ⟨ns, ⟨a, o, items, n, rfl, g, c, d, i⟩⟩ := hv v List.mem_cons_self
    rw [List.mapM_cons]
    refine wpAny_bind ?_
    rw [PySem.W.kas_first_eq]
    refine wpAny_bind (PySem.W.Looks.here (show PySem.W.Looks M s.heap (typeOf (.ref a)) o.cls from (PySem.W.Looks.ld g).andThen .now) ?_)
    rw [c, if_neg (by first | decide | simp)]
    refine wpAny_bind (listItems_at g d (wpAny_pure ?_))
    exact wpAny_bind (firsts_it vs (fun u hu => hv u (List.mem_cons_of_mem _ hu)) fun l => wpAny_pure (h _))
theorem kind_one {v : Value} {vs : List Value} {Q : SortKind → Shared → Prop} (h0 : IsIt s.heap v []) (hv : ∀ u ∈ vs, ∃ ns, IsIt s.heap u ns) (h : Q oneType' s) {M : Model} : wpAny M A (keyKind' (v :: vs).toArray) Q E s := by
  rw [kat_kind_eq, List.mapM_toArray, map_eq_pure_bind]
  obtain ⟨a, o, items, n, rfl, g, c, d, i⟩ := id h0
  rw [List.mapM_cons]
  refine wpAny_bind (wpAny_bind (wpAny_bind ?_))
  rw [PySem.W.kas_first_eq]
  refine wpAny_bind (PySem.W.Looks.here (show PySem.W.Looks M s.heap (typeOf (.ref a)) o.cls from (PySem.W.Looks.ld g).andThen .now) ?_)
  rw [c, if_neg (by first | decide | simp)]
  refine wpAny_bind (listItems_at g d (wpAny_pure ?_))
  have e0 : items[0]? = none := by
    cases hl : items.toList with
    | nil => simp [Array.toList_eq_nil_iff.mp hl]
    | cons x r => rw [hl] at i; cases i
  rw [e0]
  refine wpAny_bind (firsts_it vs hv fun l => wpAny_pure (wpAny_pure ?_))
  have hall : ((none :: l : List (Option Value)).toArray.all fun x => x.isSome) = false := by simp
  rw [hall, if_neg (by simp)]
  have hb : (((none :: l : List (Option Value)).toArray[0]?.bind id).isSome) = false := by simp
  rw [hb, if_neg (by simp)]
  rw [oneTypeOnly'_eq, List.mapM_toArray, map_eq_pure_bind]
  have ht : ∀ u ∈ Value.ref a :: vs, PySem.W.Looks M s.heap (typeOf u) (.type "tuple") := fun u hu => by
    obtain ⟨ns, ⟨b, o', _, _, rfl, g', c', _, _⟩⟩ : ∃ ns, IsIt s.heap u ns := by
      rcases List.mem_cons.mp hu with rfl | hu
      · exact ⟨_, h0⟩
      · exact hv u hu
    rw [← c']
    exact (PySem.W.Looks.ld g').andThen .now
  refine wpAny_bind (wpAny_bind (wpAny_bind (PySem.W.kas_mapM (r := Value.type "tuple") _ (fun v hv Q' hq => (ht v hv).here hq) (wpAny_pure ?_))))
  have hall2 : ((List.map (fun _ => Value.type "tuple") (Value.ref a :: vs)).toArray.all fun x => x == Value.type "tuple") = true := by
    simp only [List.all_toArray, List.all_map, List.all_eq_true]
    intro _ _
    rfl
  have h00 : (List.map (fun _ => Value.type "tuple") (Value.ref a :: vs)).toArray[0]? = some (Value.type "tuple") := by simp
  rw [h00]
  simp only [hall2, if_true]
  exact wpAny_pure (wpAny_pure h)
theorem it_sortable {a : Addr} {vs : List Value} {k : Value → List Int} (h2 : 2 ≤ vs.length) (hu : A.units < cLine) (hv : ∀ v ∈ vs, IsIt s.heap v (k v)) (ha : ∀ v ∈ vs, v ≠ .ref a) (hk : (∀ v ∈ vs, k v ≠ []) ∨ ∃ v r, vs = v :: r ∧ k v = []) :
    SrtO.SortableO prog w A s a vs fun v u => HT.lexLt (k v) (k u) := by
  intro h' keep
  have hv' : ∀ v ∈ vs, IsIt h' v (k v) := fun v hm => (hv v hm).keeps fun b o e g => keep b o (fun z => ha v hm (by rw [e, z])) g
  rcases hk with hk | ⟨v0, r, rfl, hk⟩
  · obtain ⟨fs, h1, h3, h4⟩ := kat_it h' fun v hm => ⟨k v, hv' v hm, hk v hm⟩
    refine ⟨tuples' true, fun Q E hq => ?_, fun p q hp hq => ?_⟩
    · refine PySem.W.kat_kind (T := .type "int") h1 (by omega) (fun f hm => ?_) (by rfl) ?_
      · obtain ⟨x, t, rfl⟩ := h4 f hm
        exact PySem.W.Looks.now
      · have e : (Value.type "int" != Value.type "tuple") = true := by first | decide +kernel | rfl | decide
        rw [e]
        exact hq
    · obtain ⟨a1, o1, i1, n1, e1, g1, c1, d1, ii1⟩ := hv' _ hp
      obtain ⟨a2, o2, i2, n2, e2, g2, c2, d2, ii2⟩ := hv' _ hq
      show wpAny (model prog w) A (keyLt' (tuples' true) p.1 q.1) (fun r s' => s' = { s with heap := h' } ∧ r = HT.lexLt (k p.1) (k q.1)) (fun _ _ => False) { s with heap := h' }
      generalize k p.1 = ns at ii1 ⊢
      generalize k q.1 = ms at ii2 ⊢
      rw [e1, e2]
      refine PySem.W.kat_lt g1 d1 g2 d2 (lex_it true 0 _ ii1 ii2 ?_ ⟨rfl, rfl⟩)
      rw [← ii1.length, ← ii2.length, decide_eq_true_eq]
      simp
  · refine ⟨oneType', fun Q E hq => ?_, fun p q hp hq => lt_it (Q := fun r s' => s' = { s with heap := h' } ∧ r = HT.lexLt (k p.1) (k q.1)) (E := fun _ _ => False) hu (hv' p.1 hp) (hv' q.1 hq) ⟨rfl, rfl⟩⟩
    have h0 := hv' v0 List.mem_cons_self
    rw [hk] at h0
    exact kind_one (s := { s with heap := h' }) h0 (fun u hm => ⟨_, hv' u (List.mem_cons_of_mem _ hm)⟩) hq
end
/-- sorted(xs), tuples of ints: none empty, or the first one -/
def rSortedIt (K : PySem.W.Frag) : List V → Hp → VK → Prop := fun vs H Q => ∃ (a : Addr) (xs : List V) (k : V → List Int), vs = [V.ref a] ∧ SqL K H a xs ∧ (∀ x ∈ xs, ∃ t, x = V.ref t ∧ H t = some (.tup ((k x).map V.int))) ∧ ((∀ x ∈ xs, k x ≠ []) ∨ ∃ x r, xs = x :: r ∧ k x = []) ∧
  ∀ ys p, ys.Perm xs → ys.Pairwise (fun x y => HT.lexLt (k y) (k x) = false) → H p = none → Q (.ref p) (upd H p (.lst ys))
theorem cr_sortedIt {X : Cx} (hu : X.A.units + 64 < cLine) : CallR X (.builtin "sorted") (rSortedIt X.K) := by
  intro pins s σ H vs us Q I r h
  obtain ⟨a, xs, k, rfl, hs, hx, hk, q⟩ := h
  obtain ⟨its, rv, hl, hz⟩ := I.list hs
  obtain ⟨u, rfl, ru⟩ := vals1 r
  obtain rfl : u = Value.ref a := ru
  obtain ⟨e1, e2⟩ := refs_back rv fun x m => by
    obtain ⟨t, e, _⟩ := hx x m
    exact ⟨t, e⟩
  have hp : ∀ v ∈ its, IsIt s.heap v (k (backV v)) := fun v hv => by
    obtain ⟨t, rfl⟩ := e2 v hv
    have hm : V.ref t ∈ xs := by rw [e1]; exact List.mem_map.mpr ⟨_, hv, rfl⟩
    obtain ⟨t', e, ht⟩ := hx _ hm
    cases e
    obtain ⟨_, its2, r2, o, ho, hc, n, hd⟩ := I.hok _ _ ht
    exact ⟨t, o, its2.toArray, n, rfl, ho, hc, hd, intsAre_of r2⟩
  have hk' : (∀ v ∈ its, k (backV v) ≠ []) ∨ ∃ v r, its = v :: r ∧ k (backV v) = [] := by
    rcases hk with hk | ⟨x, r, ex, hk⟩
    · refine .inl fun v hv => hk _ ?_
      rw [e1]; exact List.mem_map.mpr ⟨_, hv, rfl⟩
    · rw [e1] at ex
      cases its with
      | nil => cases ex
      | cons v r' =>
        rw [List.map_cons] at ex
        injection ex with h1 h2
        exact .inr ⟨v, r', rfl, by rw [h1]; exact hk⟩
  refine SrtO.sorted_ord (NtL.swo_lexL fun u => k (backV u)) hl.isList (by rw [← rv.length]; exact hz) (fun h2 h₁ a' ha' keep => it_sortable (s := { s with heap := h₁ }) h2 (by show X.A.units + 1 + 1 < cLine; omega) (fun v hv => (hp v hv).keeps fun b o _ g => (keep b o g).2) (fun v hv => ?_) hk') fun out h1 h2 => ?_
  · obtain ⟨t, o, _, _, rfl, g, c, _, _⟩ := hp v hv
    exact fun e => (keep t o g).1 (Value.ref.inj e)
  · have h3 : ∀ u ∈ out, ∃ a, u = Value.ref a := fun u hu => e2 u (h2.perm.mem_iff.mp hu)
    obtain ⟨ep, he'⟩ := PyProof.Rows.sortedAll_at s.heap its out.toArray
    have hb : (out.map backV).Perm xs := by rw [e1]; exact h2.perm.map backV
    refine ⟨.ref _, upd H (s.heap.objs.size + 1) (.lst (out.map backV)), I.laid (t' := s.toks) (fun _ _ => PyProof.Rows.sortedAll_old) (Nat.le_succ _) ⟨?_, out, ep, vals_back h3, he'⟩, rfl, q _ _ hb ?_ (I.hok.fresh (Nat.le_succ _))⟩
    · rw [hb.length_eq]
      exact hz
    · exact List.pairwise_map.mpr h1
end Bs

namespace Bs
open PySem PySem.Spec PyProof.Rows L2 HT PySem.W
open Builtin Builtin.Str Builtin.Int Builtin.Float
/-! ## f'{n:b}' -/
def binL (n : Nat) : List Nat := (Nat.toDigits 2 n).map Char.toNat
def binText (n : Nat) : PySem.Str := ⟨(binL n).toArray⟩
theorem field_b (f : FormatSpec) (L : List Nat) (h5 : f.width = none) (h6 : f.grouping = none) (h7 : f.sign = none) (h8 : f.align = 62) (hL : L.isEmpty = false) : intField' f false [] L [] 4 = ⟨L.toArray⟩ := by
  unfold intField'
  simp only [h5, h6, h7, h8, hL, Bool.false_eq_true, if_false, List.length_nil, List.nil_append, List.append_nil, show ((62 : Nat) == 61) = false from rfl, show ((62 : Nat) == 60) = false from rfl, show ((62 : Nat) == 94) = false from rfl, Bool.and_false]
  have h0 : ((-1 : Int) - ((0 + 0 + 0 : Nat) : Int) - ((List.replicate ((0 : Int).toNat - L.length) 48 ++ L).length : Int)).toNat = 0 := by
    simp
  simp
theorem binL_ne (n : Nat) : (binL n).isEmpty = false := by
  unfold binL
  have := tDigits_len_ge 2 n
  cases h : Nat.toDigits 2 n with
  | nil => rw [h] at this; simp at this
  | cons a l => rfl
theorem parse_b : ∃ f : FormatSpec, parseFormatSpec (⟨#[98]⟩ : PySem.Str).cps.toList "int" 62 = .ok f ∧ f.type = some 98 ∧ f.precision = none ∧ f.noNeg0 = false ∧ f.alt = false ∧ f.width = none ∧ f.grouping = none ∧ f.sign = none ∧ f.align = 62 := ⟨_, rfl, rfl, rfl, rfl, rfl, rfl, rfl, rfl, rfl⟩
theorem meets_b (a : Int) (L : List Nat) (T : PySem.Str) (t u : Tok) (h0 : decide (a < 0) = false) (hL : ((Nat.toDigits 2 a.natAbs).map fun c => (if ((98 : Nat) == 88) = true then c.toUpper else c).toNat) = L) (hne : L.isEmpty = false) (hT : (⟨L.toArray⟩ : PySem.Str) = T) (hn : T.length ≤ sizeLine) :
    Meets («int.__format__» ⟨[.int a t, .str (⟨#[98]⟩ : PySem.Str) u], []⟩) (fun _ R s => ∀ t' k, R (.ok (.ret (.str T t'))) { s with toks := k }) := by
  apply KPc.meets_of
  intro prog w A s Q E hR
  unfold Builtin.«int.__format__»
  refine wpAny_bind (wpAny_of_eq (a := (_, _)) rfl ?_)
  refine wpAny_bind (wpAny_of_eq (a := _) rfl ?_)
  refine wpAny_ite (KPc.ite_no (fun h => nomatch h) ?_)
  refine wpAny_bind (wpAny_typeNameOf (T := "str") (typeIs_str _ _ _) (by decide) fun _ => ?_)
  refine wpAny_bind (wpAny_of_eq (a := some _) rfl ?_)
  refine wpAny_ite (KPc.ite_no (by decide +kernel) ?_)
  refine wpAny_ite (KPc.ite_no (by decide +kernel) ?_)
  refine wpAny_bind (wpAny_typeNameOfCut_int ?_)
  obtain ⟨f, hp, h1, h2, h3, h4, h5, h6, h7, h8⟩ := parse_b
  simp only [hp, h1, Option.getD_some]
  rw [if_pos (by decide +kernel)]
  show wpAny _ _ (if _ then _ else _) _ _ _
  rw [if_neg (by simp [h2])]
  show wpAny _ _ (if _ then _ else _) _ _ _
  rw [if_neg (by simp [h3])]
  show wpAny _ _ (if ((98 : Nat) == 99) = true then _ else _) _ _ _
  rw [if_neg (by decide)]
  show wpAny _ _ (if ((2 : Nat) == 10) = true then _ else _) _ _ _
  rw [if_neg (by decide)]
  show wpAny _ _ (if _ then _ else _) _ _ _
  rw [if_neg (by rw [h5]; decide)]
  rw [h4]
  rw [h0, hL, if_neg Bool.false_ne_true, if_neg (by decide)]
  have e : ∀ X : PySem.Str, X = T → wpAny (model prog w) A (retStr X) Q E s := fun X e => KXf.ret_text e (by rw [e]; exact hn) hR
  refine e _ ?_
  conv => lhs; whnf
  rw [← hT]
  simp only [h5, h6, h7, h8, hne, Bool.false_eq_true, if_false, List.length_nil, List.nil_append, List.append_nil, show ((62 : Nat) == 61) = false from rfl, show ((62 : Nat) == 60) = false from rfl, show ((62 : Nat) == 94) = false from rfl, Bool.and_false]
  simp
  generalize instDecidableEqBool (f.align == 60) true = d
  cases d <;> simp
theorem bin_digits (n : Nat) : ((Nat.toDigits 2 (n : Int).natAbs).map fun c => (if ((98 : Nat) == 88) = true then c.toUpper else c).toNat) = binL n := by
  unfold binL
  rw [Int.natAbs_natCast]
  refine List.map_congr_left fun c _ => ?_
  rw [if_neg (by decide)]
def tFmtB (te : TE) : TE := fun σ H Q => te σ H fun x H1 => ∃ n : Nat, x = .int (n : Nat) ∧ (binL n).length ≤ 1000 ∧ Q (.str (binText n)) H1
/-- f'{n:b}' -/
theorem pe_fmtB {X : Cx} {e : Expr} {te : TE} {k : Nat} {p1 p2 pos pos2 : Pos} (he : PE X e te) : PE X (.JoinedStr [.FormattedValue e (-1) (some (.JoinedStr [.Constant (.str (PySem.Str.ofString "b")) k p1] p2)) pos] pos2) (tFmtB te) := by
  refine pe_joined1 ⟨fun pins s σ H Q I h => ?_⟩
  refine wpAny_FormattedValue_spec (thn (he.run pins s σ H _ I h) fun v s1 hv => ?_)
  obtain ⟨x, H1, I1, r1, n, rfl, hl, q⟩ := hv
  obtain ⟨t, rfl⟩ := r1
  refine wpAny_JoinedStr_one (thn ((pe_str (X := X) (x := PySem.Str.ofString "b")).run pins s1 σ H1 (fun y H2 => y = .str (PySem.Str.ofString "b") ∧ H2 = H1) I1 ⟨rfl, rfl⟩) fun w s2 hw => ?_)
  obtain ⟨y, H2, I2, r2, rfl, rfl⟩ := hw
  obtain ⟨t2, rfl⟩ := r2
  refine ⟨_, t2, rfl, ?_⟩
  have hz : (binText n).length ≤ sizeLine := by show (binL n).toArray.size ≤ sizeLine; rw [List.size_toArray]; exact Nat.le_trans hl (by decide)
  exact KXf.field_int (spec' := ⟨#[98]⟩) (y := binText n) rfl (by decide) (by decide) (fun u => meets_b n (binL n) (binText n) t u (decide_eq_false (by omega)) (bin_digits n) (binL_ne n) rfl hz) (fun t' k => ⟨.str (binText n), _, I2.tok _, ⟨_, rfl⟩, q⟩)
end Bs

namespace Bs
open PySem PySem.Spec PyProof.Rows L2 HT
open Builtin Builtin.Str StrLaws
/-! ## text.count(one sign); the ones of f'{n:b}' -/
theorem occ_run (x : PySem.Str) (c limit : Nat) : ∀ (k lo : Nat) (A : Array Nat) (free : Nat), free ≤ lo → A.size + k ≤ limit → lo + k = x.length + 1 →
    (forIn (List.range' lo k) (A, free) (occBody x ⟨#[c]⟩ x.length limit)).run.fst.size = A.size + ((x.cps.toList.drop lo).filter (· == c)).length
  | 0, lo, A, free, _, _, h => by
    have : x.cps.toList.drop lo = [] := List.drop_eq_nil_of_le (by show x.cps.toList.length ≤ lo; simp only [PySem.Str.length] at h; simp; omega)
    rw [this]
    simp
  | k + 1, lo, A, free, hf, hl, h => by
    rw [List.range'_succ, List.forIn_cons]
    have hc := subAt_one x c lo
    have hd : ((x.cps.toList.drop lo).filter (· == c)).length = (if x.cps.toList[lo]? = some c then 1 else 0) + ((x.cps.toList.drop (lo + 1)).filter (· == c)).length := by
      by_cases hlt : lo < x.cps.toList.length
      · rw [List.drop_eq_getElem_cons hlt, List.getElem?_eq_getElem hlt]
        by_cases e : x.cps.toList[lo] = c
        · rw [List.filter_cons_of_pos (by simpa using e), if_pos (by rw [e])]
          simp; omega
        · rw [List.filter_cons_of_neg (by simpa using e), if_neg (by simpa using e)]
          simp
      · rw [List.drop_eq_nil_of_le (by omega), List.drop_eq_nil_of_le (by omega), List.getElem?_eq_none (by omega)]
        simp
    unfold occBody
    by_cases e : x.cps.toList[lo]? = some c
    · obtain ⟨h1, h2⟩ := hc.mpr e
      rw [if_pos ⟨⟨⟨by show A.size < limit; omega, hf⟩, h1⟩, h2⟩]
      have ih := occ_run x c limit k (lo + 1) (A.push lo) (lo + 1) (Nat.le_refl _) (by rw [Array.size_push]; omega) (by omega)
      rw [hd, if_pos e]
      refine Eq.trans ih ?_
      rw [Array.size_push]
      omega
    · rw [if_neg (fun q => e (hc.mp ⟨q.1.2, q.2⟩))]
      have ih := occ_run x c limit k (lo + 1) A free (by omega) (by omega) (by omega)
      rw [hd, if_neg e]
      refine Eq.trans ih ?_
      omega
theorem count_one (x : PySem.Str) (c : Nat) : (occurrences x ⟨#[c]⟩ 0 x.length (x.length + 1)).length = (x.cps.toList.filter (· == c)).length := by
  rw [occ_eq, Array.length_toList]
  have := occ_run x c (x.length + 1) (x.length + 1 - 0) 0 #[] 0 (Nat.le_refl _) (by simp) (by omega)
  rw [this]
  simp
/-- how many of the first m bits are set -/
def popF (m n : Nat) : Nat := ((List.range m).filter fun k => n.testBit k).length
theorem popF_succ (m n : Nat) : popF (m + 1) n = n % 2 + popF m (n / 2) := by
  unfold popF
  rw [List.range_succ_eq_map, List.filter_cons]
  have h : ((List.range m).map Nat.succ).filter (fun k => n.testBit k) = ((List.range m).filter fun k => (n / 2).testBit k).map Nat.succ := by
    rw [List.filter_map]
    congr 1
    refine List.filter_congr fun k _ => ?_
    show n.testBit (k + 1) = _
    rw [Nat.testBit_succ]
  rw [h]
  have h0 : n.testBit 0 = decide (n % 2 = 1) := Nat.testBit_zero n
  rw [h0]
  by_cases e : n % 2 = 1
  · rw [if_pos (decide_eq_true e)]
    simp
    omega
  · rw [if_neg (by simpa using e)]
    simp
    omega
theorem popF_zero (m : Nat) : popF m 0 = 0 := by
  unfold popF
  simp
def ones (l : List Char) : Nat := (l.filter fun c => c.toNat == 49).length
theorem ones_digit (n : Nat) (ds : List Char) : ones (Nat.digitChar (n % 2) :: ds) = n % 2 + ones ds := by
  unfold ones
  rcases Nat.mod_two_eq_zero_or_one n with e | e <;> rw [e] <;> simp [Nat.digitChar, List.filter_cons] <;> first | rfl | omega | skip
theorem core_ones : ∀ (fuel m n : Nat) (ds : List Char), n < 2 ^ m → n < fuel → 1 ≤ m → ones (Nat.toDigitsCore 2 fuel n ds) = ones ds + popF m n ∧ (Nat.toDigitsCore 2 fuel n ds).length ≤ ds.length + m
  | 0, _, _, _, _, h, _ => by omega
  | fuel + 1, m, n, ds, hm, hf, h1 => by
    obtain ⟨m, rfl⟩ : ∃ k, m = k + 1 := ⟨m - 1, by omega⟩
    unfold Nat.toDigitsCore
    by_cases h0 : n / 2 = 0
    · simp only [h0, if_true]
      rw [ones_digit, popF_succ, h0, popF_zero]
      refine ⟨by omega, ?_⟩
      rw [List.length_cons]
      omega
    · simp only [h0, if_false]
      have hm1 : 1 ≤ m := by
        cases m with
        | zero => exfalso; apply h0; have : n < 2 := by simpa using hm
                  omega
        | succ m => omega
      have ih := core_ones fuel m (n / 2) (Nat.digitChar (n % 2) :: ds) (by rw [Nat.pow_succ] at hm; omega) (by omega) hm1
      rw [ones_digit, List.length_cons] at ih
      rw [popF_succ]
      exact ⟨by omega, by omega⟩
theorem bin_ones {m n : Nat} (h : n < 2 ^ m) (h1 : 1 ≤ m) : ((binL n).filter (· == 49)).length = popF m n ∧ (binL n).length ≤ m := by
  obtain ⟨a, b⟩ := core_ones (n + 1) m n [] h (Nat.lt_succ_self _) h1
  refine ⟨?_, ?_⟩
  · unfold binL
    rw [List.filter_map, List.length_map]
    have : ones (Nat.toDigits 2 n) = popF m n := by
      show ones (Nat.toDigitsCore 2 (n + 1) n []) = _
      rw [a]; unfold ones; simp
    rw [← this]
    rfl
  · unfold binL
    rw [List.length_map]
    show (Nat.toDigitsCore 2 (n + 1) n []).length ≤ m
    simpa using b
end Bs

namespace Bs
open PySem PySem.Spec PyProof.Rows L2 HT
/-! ## {t: v}, t a tuple -/
section
variable {prog : Program} {w : World} {A : Around} {E : Value → Shared → Prop} {s : Shared} {κ : Type} [DecidableEq κ] {knd : HeapKind prog w κ}
theorem dict_oneH {env : Env} {keys : List (Option Expr)} {values : List Expr} {pos : Pos} {pairs : List (Sem Value × Sem Value)} {Q : Value → Shared → Prop} (hu : knd.room A)
    (hshape : (evalEachOpt keys env).zip ((evalEach values env).map fun v => do let x ← v; standAt pos; pure x) = pairs.map fun p => (some p.1, p.2)) (h0 : pairs ≠ []) (hlen : pairs.length ≤ 15)
    (h : wpAny (model prog w) A (evalPairs pairs) (fun vs s₁ => ∃ ps, CarriesH knd s₁.heap vs ps ∧ s₁.heap.DictOfH knd s.heap.objs.size [] ∧
      ∀ h' tk, h'.DictOfH knd s.heap.objs.size (storedAllH [] ps) → Heap.SameBut s.heap.objs.size s₁.heap h' → Q (.ref s.heap.objs.size) { s₁ with heap := h', toks := tk }) E
      { s with heap := s.heap.push { cls := .type "dict", data := .dict #[] } }) :
    wpAny (model prog w) A (eval (.Dict keys values pos) env) Q E s := by
  rw [arm_eval_Dict, hshape, dictDisplay_pairs pairs h0 (by omega)]
  exact wpAny_bind (wpAny_standAt (wpAny_bind (wpAny_subDictH (knd := knd) (Q := fun d s' => wpAny (model prog w) A (pure (Value.ref d)) Q E s') hu hlen
    (wpAny_mono h (fun vs s₁ h₁ => by obtain ⟨ps, hc, hm, hq⟩ := h₁; exact ⟨ps, hc, hm, fun h' tk a b => wpAny_pure (hq h' tk a b)⟩) fun _ _ e => e))))
end
/-- {t: v}; the new dict stands empty while t and v are made -/
def tDisp1T (tk tv : TE) : TE := fun σ H Q => ∀ p, H p = none → tk σ (upd H p (.dT [])) fun x H1 => tv σ H1 fun y H2 => ∃ (b : Addr) (k : List L2.Key), x = .ref b ∧ H2 b = some (.tup (k.map kV)) ∧ H2 p = some (.dT []) ∧ Q (.ref p) (upd H2 p (.dT [(k, y)]))
theorem pe_disp1T {X : Cx} {pos : Pos} {k v : Expr} {tk tv : TE} (hu : X.A.units + 1 < cLine) (hk : PE X k tk) (hv : PE X v tv) : PE X (.Dict [some k] [v] pos) (tDisp1T tk tv) := by
  refine ⟨fun pins s σ H Q I q => ?_⟩
  have hn := I.hok.fresh (Nat.le_refl s.heap.objs.size)
  have I1 := I.laid (a := s.heap.objs.size) (o := .dT []) (h' := s.heap.push { cls := .type "dict", data := .dict #[] }) (t' := s.toks) (fun _ _ q => Heap.get?_push_of_some _ q) (Nat.le_refl _) (dt_empty s.heap I.big)
  have hl := pairTrees_length [some k] [v] X.env pos rfl rfl
  refine dict_oneH (knd := tupleKind (mixKind X.prog X.w)) (pairs := pairTrees [some k] [v] X.env pos) (show X.A.units < cLine by omega) (zip_pairTrees _ _ _ _ rfl rfl) (fun e => by rw [e] at hl; cases hl) (by rw [hl]; exact (by decide : 1 ≤ 15)) ?_
  refine pairTrees_cons_walk (thn (hk.run pins _ σ _ _ I1 (q _ hn)) fun u s1 ⟨x, H1, I2, rx, q1⟩ => thn (hv.run pins s1 σ H1 _ I2 q1) fun w2 s2 ⟨y, H2, I3, ry, b, ks, ex, hb, hd, q2⟩ => pairTrees_nil_walk ?_)
  subst ex
  cases rx
  obtain ⟨z, hsys, xs, rel, dd⟩ := dt_of I3.hok hd
  cases rel
  refine ⟨[(ks, b, w2)], ⟨rfl, rfl, key_of I3.hok hb, trivial⟩, dd, fun h' tk' dd' hs => ⟨.ref s.heap.objs.size, _, ?_, rfl, q2⟩⟩
  have es : storedAllH [] [(ks, b, w2)] = [(ks, b, w2)] := rfl
  rw [es] at dd'
  obtain ⟨o, es2, ep, hq, h2, h3, h4, _, h5⟩ := dd'
  refine d_write I3 (by rw [hd]; exact True.intro) hs ⟨o, hq⟩ ⟨by rw [sizeLine_eq]; exact (by decide : 1 ≤ 16777216), hsys, [(ks, b, w2)], .cons ⟨rfl, ?_, ry⟩ .nil, o, es2, ep, hq, h2, h3, h4, h5⟩
  rw [upd_ne (ne_of hb hd (fun z => nomatch z))]
  exact hb
end Bs

/-! sorted(t), t a tuple of ints; x not in xs, xs a list of data; a &= b -/
namespace Bs
open PySem PySem.Spec L2 PyProof PyProof.Rows SrtO
section
variable {prog : Program} {w : World} {A : Around} {E : Value → Shared → Prop} {s : Shared}
/-- the items of a tuple, gathered in a new list -/
theorem gather_tup {p : Addr} {vs : List Value} {Q : List Value → Shared → Prop} {o : Obj} {n : Nat} (g : s.heap.get? p = some o) (hc : o.cls = .type "tuple") (hd : o.data = .seq vs.toArray n) (hz : vs.length ≤ sizeLine)
    (k : Q vs { s with heap := (s.heap.push (seqObj "list" #[] 0)).update s.heap.objs.size (Obj.mapSeq (· ++ vs.toArray)) }) : wpAny (model prog w) A (collect (.ref p)) Q E s := by
  have fresh : (s.heap.push (seqObj "list" #[] 0)).get? s.heap.objs.size = some (seqObj "list" #[] 0) := Heap.get?_push_size _ rfl
  have g2 : (s.heap.push (seqObj "list" #[] 0)).get? p = some o := Heap.get?_push_of_some _ g
  unfold collect
  refine wpAny_bind (wpAny_runValue (codeAny_builtin entry_proto_collect' ?_))
  show wpAny _ _ (do again (.builtin "list.__iadd__" ⟨[← newList [], .ref p], []⟩)) _ _ s
  refine wpAny_bind (wpAny_newList (wpAny_pure ⟨Code.quiet_builtin _ (by decide +kernel), codeAny_builtin entry_list_iadd' ?_⟩))
  show wpAny _ _ (Builtin.List.listExtendWith (.ref s.heap.objs.size) (.ref p) (.ref s.heap.objs.size)) _ _ { s with heap := s.heap.push (seqObj "list" #[] 0) }
  unfold Builtin.List.listExtendWith
  refine wpAny_bind (wpAny_typeOf (T := "tuple") ⟨o, g2, hc⟩ ?_)
  rw [if_pos (show (_ || Value.type "tuple" == Value.type "list" || Value.type "tuple" == Value.type "tuple") = true by
    rw [show (Value.type "tuple" == Value.type "tuple") = true from rfl, Bool.or_true])]
  refine wpAny_bind (listItems_at g2 hd (wpAny_bind (listItems_at (xs := #[]) (n := 0) fresh rfl ?_)))
  rw [if_neg (by simp)]
  refine wpAny_bind (listUpdate_at (xs := #[]) (n := 0) fresh rfl (wpAny_pure ?_) (Nat.zero_le _) (by show (#[] ++ vs.toArray).size ≤ sizeLine + 1; simp only [Array.size_append, List.size_toArray, List.length_nil]; omega))
  refine wpAny_bind (wpAny_load (get?_update_seq fresh _) ?_)
  show wpAny _ _ (pure ((#[] : Array Value) ++ vs.toArray).toList) Q E _
  rw [show ((#[] : Array Value) ++ vs.toArray).toList = vs by simp]
  exact wpAny_pure k
theorem sorted_tup {p : Addr} {vs : List Value} {ns : List Int} {Q : Value → Shared → Prop} {o : Obj} {n : Nat} (g : s.heap.get? p = some o) (hc : o.cls = .type "tuple") (hd : o.data = .seq vs.toArray n) (hz : vs.length ≤ sizeLine) (hi : IntsAre vs ns)
    (k : ∀ out : List Value, Srtd ltIv out → Stb ltIv out vs → Q (.ref (s.heap.objs.size + 1)) { s with heap := sortedAll s.heap vs out.toArray }) : wpAny (model prog w) A (call (.builtin "sorted") [.ref p]) Q E s := by
  refine Calls.call_function_entry kind_sorted plain_sorted entry_sorted (args_sorted1 _) ?_
  unfold Builtin.«sorted»
  refine wpAny_bind (m := checkCount "sorted" 1 1 _) (wpAny_pure (wpAny_bind (gather_tup g hc hd hz (wpAny_bind (wpAny_newList ?_ hz)))))
  generalize hT : (s.heap.push (seqObj "list" #[] 0)).update s.heap.objs.size (Obj.mapSeq (· ++ vs.toArray)) = T
  have sz : T.objs.size = s.heap.objs.size + 1 := by rw [← hT, Heap.size_update, size_push']
  have at1 : (T.push (seqObj "list" vs.toArray 0)).get? (s.heap.objs.size + 1) = some (seqObj "list" vs.toArray 0) := by rw [← sz]; exact Heap.get?_push_size _ rfl
  show wpAny _ _ _ _ _ { s with heap := T.push (seqObj "list" vs.toArray 0) }
  rw [sz]
  refine wpAny_bind (wpAny_holding (wpAny_call_entry slot_list_sort ⟨_, at1, rfl⟩ entry_list_sort (list_sort_ord swo_int at1 hz (fun h2 => ints_sortable hi h2) fun out h1 h2 => ⟨_, rfl, wpAny_pure ⟨_, rfl, ?_⟩⟩) (args_list_sort _)))
  have := k out h1 h2
  unfold sortedAll at this
  rw [hT] at this
  exact this
end
section
variable {X : Cx}
def rSortedIT : List V → Hp → VK → Prop := fun vs H Q => ∃ (a : Addr) (ns : List Int), vs = [V.ref a] ∧ H a = some (.tup (ns.map V.int)) ∧
  ∀ (ns' : List Int) (p : Addr), ns'.Perm ns → ns'.Pairwise (· ≤ ·) → H p = none → Q (.ref p) (upd H p (.lst (ns'.map V.int)))
theorem cr_sortedIT : CallR X (.builtin "sorted") rSortedIT := by
  intro pins s σ H vs us Q I r h
  obtain ⟨a, ns, rfl, ha, q⟩ := h
  obtain ⟨hz, its, rv, o, g, hc, n, hd⟩ := I.hok a _ ha
  rw [Vals.ref1 r]
  have hi := rv.ints
  refine sorted_tup (vs := its) g hc hd (by rw [← rv.length]; exact hz) hi fun out h1 h2 => ?_
  obtain ⟨k1, k2, k3⟩ := ints_out hi h1 h2
  obtain ⟨ep, he'⟩ := sortedAll_at s.heap its out.toArray
  have hlen : ((out.map iv).map V.int).length ≤ sizeLine := by
    rw [List.length_map, k2.length_eq, ← List.length_map (as := ns) (f := V.int)]
    exact hz
  exact ⟨.ref _, upd H (s.heap.objs.size + 1) (.lst ((out.map iv).map V.int)), I.laid (t' := s.toks) (fun _ _ => sortedAll_old) (Nat.le_succ _) ⟨hlen, out, ep, vals_of_ints k1, he'⟩, rfl, q _ _ k2 k3 (I.hok.fresh (Nat.le_succ _))⟩
/-- a thing that is in no place of a list of data -/
def rNotInL (K : PySem.W.Frag) : R2 := fun x y H Q => ∃ d ds, Dp K H x d ∧ Dp K H y (.list ds) ∧ SeqAt.shaped d = true ∧ SeqAt.shaped (.list ds) = true ∧ Q (.bl (!ds.any fun z => PyData.eqv z d)) H
theorem op_notInL (hu : X.A.units + 65 < cLine) : OpR X (compareOp .NotIn) (rNotInL X.K) := by
  intro pins s σ H x y v u Q I rx ry ⟨d, ds, hd, he, sd, sl, q⟩
  obtain ⟨as, r1⟩ := Dp.reads I d x v hd rx
  obtain ⟨bs, r2⟩ := Dp.reads I (.list ds) y u he ry
  exact SeqAt.notIn_list_reads r2 r1 (by have := SeqAt.canLay_of_shaped sl; exact this) (SeqAt.canLay_of_shaped sd) (room_in_shaped sd hu) ⟨.bl _, H, I, rfl, q⟩
theorem ip_and : PIp X .BitAnd (rI0 fun i j => .int (Builtin.bitAnd i j)) := fun pins s σ H x y v u Q I rx ry h => iop_and pins s σ H x y v u Q I rx ry h
end
end Bs

/-! set(t), t a tuple of ints -/
namespace Bs
open PySem PySem.Spec L2 PyProof.Rows
section
variable {X : Cx}
def rSetTI (w : World) : List V → Hp → VK → Prop := fun vs H Q => ∃ (l : Addr) (ns : List Int), vs = [V.ref l] ∧ H l = some (.tup (ns.map V.int)) ∧ ns.length < 60 ∧
  ∀ (a : Addr) (c : Nat), H a = none → c ≤ ns.length → Q (.ref a) (upd H a (SetO w a (fun j => decide (j ∈ ns)) c))
theorem cr_setTI (hc : X.calm = true) : CallR X (.type "set") (rSetTI X.w) := by
  intro pins s σ H xs us Q I r h
  obtain ⟨l, ns, rfl, hl, hf, q⟩ := h
  rw [Vals.ref1 r]
  obtain ⟨hz, its, rv, o, g, hcl, n, hd⟩ := I.hok l _ hl
  have hn : H s.heap.objs.size = none := I.hok.fresh (Nat.le_refl _)
  refine call_set_tupI (P := X.prog) (w := X.w) ns (I.ok.hd hc) ⟨o, g, hcl, n, hd⟩ (by simpa using rv.ints) (Nat.lt_trans (show ns.length + 1 < 62 by omega) (by unfold scanBound; decide)) fun h' tk c R hle k => ?_
  exact ⟨.ref s.heap.objs.size, upd H s.heap.objs.size (SetO X.w s.heap.objs.size (fun j => decide (j ∈ ns)) c), I.laid (t' := tk) k (Nat.le_refl _) (setO_new R), rfl, q _ c hn hle⟩
end
end Bs

namespace Bs
open PySem PySem.Spec PyProof.Rows L2
/-! ## an own error whose __init__ stores nothing -/
section
variable {X : Cx}
theorem mk_end00 {pins : List (Addr × Obj)} {σ : L2.St} {H1 H2 : Hp} {hp hp2 h2 : Heap} {g1 g2 : Array GenState} {d1 d2 : Drawn} {t1 t2 : Nat} {os1 os2 : OsState} {a C : Addr} (I1 : Inv X pins σ H1 ⟨hp, g1, d1, t1, os1⟩)
    (ha : hp.objs.size ≤ a) (k : ∀ b o, hp.get? b = some o → hp2.get? b = some o) (un : Un (frs X.stack) [] (upd H1 a (exo a C none)) H2 hp2 h2) (hok : HOk X.prog X.w H2 h2) (ho : os2 = os1) (hb : AllBare g2)
    (ea : H2 a = some (exo a C none)) :
    ∃ (t0 : Addr) (G : Heap), Inv X pins σ (del H2 a) ⟨G, g2, d2, t2, os2⟩ ∧ (∀ b o, G.get? b = some o → h2.get? b = some o) ∧ G.get? a = none ∧
      h2.get? a = some ({ cls := .ref C, dict := none, data := .fields #[.ref t0, .none, .none, .none, .bool false, .none] } : Obj) ∧ (del H2 a) a = none := by
  obtain ⟨t0, hoe⟩ := exo_at hok ea
  have hn : H1 a = none := I1.hok.fresh ha
  obtain ⟨G, g1', g2'⟩ := restrict h2 fun b => decide (b ≠ a)
  have gk : ∀ b, b ≠ a → G.get? b = h2.get? b := fun b hb => g1' b (decide_eq_true hb)
  have ge : G.get? a = none := g2' a (by simp)
  have nha : ∀ {b : Addr} {o : Obj}, hp.get? b = some o → b ≠ a := fun {b o} z => Nat.ne_of_lt (Nat.lt_of_lt_of_le (Heap.lt_size z) ha)
  have up : ∀ {b : Addr}, b ≠ a → H1 b = none → upd H1 a (exo a C none) b = none := fun {b} hb n => by rw [upd_ne hb]; exact n
  have U : Un (frs X.stack) [] H1 (del H2 a) hp G := {
    keep := fun b o z n hf hx => by
      rw [gk b (nha z)]
      exact un.keep b o (k b o z) (up (nha z) n) hf hx
    slot := fun b o z n hf hx => by
      rw [gk b (nha z)]
      exact un.slot b o (k b o z) (up (nha z) n) hf hx
    free := fun b o z n hx => by
      rw [del_ne (nha z)]
      exact un.free b o (k b o z) (up (nha z) n) hx
    there := fun b o z hx => by
      rw [gk b (nha z)]
      exact un.there b o (k b o z) hx
    tups := fun b xs z => by
      rw [del_ne (ne_of_none z hn)]
      exact un.tups b xs (by rw [upd_ne (ne_of_none z hn)]; exact z)
    frzs := fun b o v z => by
      rw [del_ne (ne_of_none z hn)]
      exact un.frzs b o v (by rw [upd_ne (ne_of_none z hn)]; exact z)
    tbls := fun b ps z => by
      rw [del_ne (ne_of_none z hn)]
      exact un.tbls b ps (by rw [upd_ne (ne_of_none z hn)]; exact z) }
  have hok3 : HOk X.prog X.w (del H2 a) G := fun b o z => by
    have hba : b ≠ a := fun e => by
      rw [e, del_same] at z
      cases z
    rw [del_ne hba] at z
    have noa : ∀ {c : Addr}, H2 c = some (.own b) → c ≠ a := fun {c} hc => at_ne ea hc exo_own
    exact (hok b o z).stay (fun c v hc y => by
        have hca : c ≠ a := by
          rcases hc with hc | hc
          · rw [hc]
            exact hba
          · exact noa hc
        rw [gk c hca]
        exact y)
      (fun c hc => by rw [del_ne (noa hc)]; exact hc) (fun c xs hc => by rw [del_ne (at_ne ea hc exo_tup)]; exact hc)
  have J : Inv X pins σ (del H2 a) ⟨G, g2, d2, t2, os2⟩ := I1.call' (ch := []) ho U hok3 hb (fun b z => absurd z (by simp))
  refine ⟨t0, G, J, fun b o z => ?_, ge, hoe, del_same⟩
  by_cases hba : b = a
  · rw [hba, ge] at z
    cases z
  · exact (gk b hba).symm.trans z
/-- C(), C's own __init__ keeping sp -/
def tMkO0 (C : Addr) (sp : Sp) : L2.St → Hp → XK → Prop := fun σ H1 Q => ∀ a, H1 a = none → sp [.ref a] (upd H1 a (exo a C none))
  (fun v H2 => v = .non ∧ H2 a = some (exo a C none) ∧ Q (.ref C) none (del H2 a)) (fun _ _ _ => False)
theorem pmk_oex0 {CX : CXT} {x : Str} {C fI : Addr} {k : Nat} {fd : FuncData} {ps : List Str} {sp : Sp} {p pos : Pos} (T : OexC X.K C) (iC : PySem.W.findIn X.K (.ref C) "__init__" = some (some (.ref fI))) (tI : PySem.W.typeIn X.K (.ref fI) = some (.type "function"))
    (F1 : FnOk X.prog X.w X.K X.mg X.base CX k fI fd ps sp) (hr : Room (k + 1) X.A) (hb : Binds X.K fd ps []) (hx : Passes CX X (fun _ _ _ => False)) (hg : Gl X x) (hm : X.mg x = some (.ref C))
    (hdb : (x == ("__debug__" : Str)) = false := by decide) :
    PMk X (.Call (.Name x p) [] [] pos) (tMkO0 C sp) := by
  intro pins s σ H1 Q I1 q1
  obtain ⟨nm, q, N, bs, bm, sn, sub, ab, col, dd, k0, k1, k2, k3, k5, hC, hbm⟩ := T.cls
  refine wpAny_Call_Name_kw (ld_glob I1 hg hm ?_ hdb)
  refine PySem.W.callWith_K0 I1.kIn T.kC ?_
  show wpAny _ _ (call (.ref C) []) _ _ _
  obtain ⟨hp, g, dr, tk, os⟩ := s
  have hsz : hp.objs.size ≤ hp.objs.size + 1 := Nat.le_succ _
  have hn : H1 (hp.objs.size + 1) = none := I1.hok.fresh hsz
  have hq := q1 (hp.objs.size + 1) hn
  have kk : ∀ b o, hp.get? b = some o → ((hp.push (PySem.W.kdv_tup [])).push (PySem.HandSPX.excO C hp.objs.size)).get? b = some o := fun b o e => Heap.get?_push_of_some _ (Heap.get?_push_of_some _ e)
  have hget : ((hp.push (PySem.W.kdv_tup [])).push (PySem.HandSPX.excO C hp.objs.size)).get? (hp.objs.size + 1) = some (PySem.HandSPX.excO C hp.objs.size) := by heap_get
  have I2 : Inv X pins σ (upd H1 (hp.objs.size + 1) (exo (hp.objs.size + 1) C none)) ⟨(hp.push (PySem.W.kdv_tup [])).push (PySem.HandSPX.excO C hp.objs.size), g, dr, tk, os⟩ :=
    I1.laid (t' := tk) (a := hp.objs.size + 1) (o := exo (hp.objs.size + 1) C none) (h' := (hp.push (PySem.W.kdv_tup [])).push (PySem.HandSPX.excO C hp.objs.size)) kk hsz (exo_ok hget)
  have r2 : Vals [V.ref (hp.objs.size + 1)] [Value.ref (hp.objs.size + 1)] := .cons rfl .nil
  have hl : ([Value.ref (hp.objs.size + 1)] ++ ([] : List Value)).length = ps.length := by
    have e := r2.length
    rw [F1.len _ _ _ _ hq] at e
    simpa using e.symm
  have hb2 := hb _ [Value.ref (hp.objs.size + 1)] I2.kIn hl
  rw [List.append_nil] at hb2
  refine wpAny_call (PySem.HandSPX.call_own F.excBase_ValueError (fun Y => PySem.HandSPX.refsVE_contains Y bm hbm) (I1.kIn _ _ hC) (PySem.W.looks_findIn I1.kIn iC) (fun self => PySem.W.bind_fn I1.kIn self tI) (by show 0 ≤ sizeLine; exact Nat.zero_le _)
    (codeAny_mono (F1.run _ X.stack _ _ ⟨[Value.ref (hp.objs.size + 1)], []⟩ [Value.ref (hp.objs.size + 1)] _ _ (fun _ _ _ => False) (hr.make C [] []) (I2.env0.make C [] []) hb2 r2 hq) fun r s' hq' => ?_))
  cases r with
  | error er => exact hx pins σ _ _ er s' I2 hq'
  | ok fl =>
    cases fl with
    | ret u =>
      obtain ⟨v, H2, os2, bare2, un2, hok2, rv, ev, ea, q2⟩ := hq'
      subst ev
      obtain ⟨h2, g2, d2, t2, os'⟩ := s'
      obtain ⟨t0, G, J, kG, ge, hoe, na⟩ := mk_end00 (d2 := d2) (t2 := t2) I1 hsz kk un2 hok2 os2 bare2 ea
      exact ⟨rv, hp.objs.size + 1, _, _, ⟨G, g2, d2, t2, os'⟩, _, .ref C, none, rfl, J, kG, ge, hoe, ⟨rfl, rfl⟩, rfl, rfl, na, rfl, bare2, raises_own T.exC T.tyC, q2⟩
    | next => exact False.elim hq'
    | brk => exact False.elim hq'
    | cont => exact False.elim hq'
end

section
variable {prog : Program} {w : World} {A : Around} {E : Value → Shared → Prop} {s : Shared} {K : PySem.W.Frag} {x D : Addr} {ox : Obj} {od : Option Obj}
theorem findObj_dataD {C : Addr} {name : Str} {a g : Value} (hc : (PySem.W.clsIn K C).isSome = true) (ha : PySem.W.findIn K (.ref C) name = some (some a)) (hg : PySem.W.specialIn K a "__get__" = some (some g)) (ht : PySem.W.takesIn K a = some true) : PySem.W.findObj K C od name = some (.bind g a) := by
  obtain ⟨cd, hc⟩ := Option.isSome_iff_exists.mp hc
  unfold PySem.W.findObj
  rw [hc, Option.bind_some, ha, Option.bind_some]
  simp [hg, ht]
theorem class_of_exc (T : ExcC K D) (X : K.In s.heap) (I : PySem.W.InstAt s.heap x ox D od) {Q : Option Value → Shared → Prop} (h : Q (some (.ref D)) { s with toks := s.toks + 1 }) : wpAny (model prog w) A (getAttr? (.ref x) "__class__") Q E s := by
  have hf : PySem.W.findObj K D od "__class__" = some (.bind (.builtin "getset_descriptor.__get__") (.builtin "object.__class__")) := findObj_dataD (by obtain ⟨cd, hc, _⟩ := PySem.W.any_some T.hd; rw [hc]; rfl) T.ha T.hn T.ht
  obtain ⟨hp, g, d, t, os⟩ := s
  have L0 := I.type (M := model prog w)
  have L1 := PySem.W.looks_findIn (M := model prog w) X T.hg
  have L2' := PySem.W.looks_findIn (M := model prog w) X T.hk
  have L3 := PySem.W.looks_find (M := model prog w) X I hf
  have sub : PySem.W.Looks (model prog w) hp (isInstance (.ref x) (.type "BaseException")) true := L0.andThen (PySem.W.looks_subIn X T.hs)
  have hx0 : (false && onTheHeap (Value.builtin "BaseException.__getattribute__")) = false := rfl
  have hx2 : (Value.builtin "BaseException.__getattribute__" == Value.builtin "object.__getattribute__") = false := by decide +kernel
  have hx1 : (onTheHeap (Value.ref D) && Value.builtin "BaseException.__getattribute__" == Value.builtin "object.__getattribute__") = false := by rw [hx2]; rfl
  unfold getAttr? getAttrBy? getAttrBy
  refine wpAny_bind (wpAny_mkText (wpAny_bind (wpAny_attempt (wpAny_holding (wpAny_bind (L0.at (wpAny_bind (L1.at ?_))))))))
  show wpAny _ _ (if (onTheHeap (Value.ref D) && Value.builtin "BaseException.__getattribute__" == Value.builtin "object.__getattribute__") = true then _ else _) _ _ _
  rw [hx1, if_neg Bool.false_ne_true]
  unfold getAttrByItsOwn hookBefore
  refine wpAny_bind ?_
  rw [if_pos (show onTheHeap (Value.ref D) = true from rfl)]
  refine L2'.at ?_
  refine wpAny_bind (wpAny_attempt (wpAny_holding ?_))
  unfold callGetattribute
  rw [hx0, if_neg Bool.false_ne_true]
  unfold boundAndCalled
  rw [PySem.F.excAttr_ValueError.ga.bind (.ref x)]
  refine wpAny_bind (wpAny_pure ?_)
  show wpAny _ _ (call (.builtin "BaseException.__getattribute__") [.ref x, .str "__class__" t]) _ _ _
  refine wpAny_call (codeAny_call_builtin PySem.F.excAttr_ValueError.ga.plain PySem.F.entry_bexc_ga ?_)
  refine @PySem.W.check_slot (model prog w) _ _ ⟨hp, g, d, t + 1, os⟩ "BaseException.__getattribute__" "BaseException" "__getattribute__" (.ref x) [.str "__class__" t] [] _ (by decide +kernel) (by decide +kernel) sub (PySem.F.args_bexc_ga (.ref x) (.str "__class__" t)) ?_
  unfold Builtin.«object.__getattribute__»
  refine wpAny_bind (wpAny_of_eq (a := ((Value.ref x : Value), [Value.str "__class__" t])) (by first | rfl | (simp only [slotArgs]; rfl)) ?_)
  refine wpAny_bind (wpAny_pure (wpAny_bind (L0.at (wpAny_bind (L3.at ?_)))))
  show wpAny _ _ (holding [Value.builtin "object.__class__"] (call (.builtin "getset_descriptor.__get__") [.builtin "object.__class__", .ref x, .ref D]) >>= ret) _ _ _
  refine wpAny_bind (wpAny_holding (wpAny_call (PySem.W.class_get (s := ⟨hp, g, d, t + 1, os⟩) (ox := ox) (od := od) X I T.hm ?_)))
  refine wpAny_pure ?_
  show wpAny _ _ (handedOut (.ref D)) _ _ _
  rw [PySem.W.handedOut_of (v := .ref D) rfl]
  first
    | exact wpAny_pure (wpAny_pure h)
    | exact wpAny_pure h
    | exact wpAny_pure (wpAny_bind (wpAny_pure (wpAny_pure h)))
theorem kitx_excD (T : ExcC K D) : PySem.W.KitX K (.ref x) (.ref D) (fun h => PySem.W.InstAt h x ox D od) where
  ty := fun _ _ _ I => I.type
  it := fun M h X _ => by
    obtain ⟨cdD, hcD, _⟩ := PySem.W.any_some T.hd
    unfold PySem.W.clsIn at hcD
    split at hcD
    · rename_i c' d' cd' sl' ho
      intro A' Q' E' s' k q
      unfold isType loadHead
      exact wpAny_bind (AutoSeq1.wpAny_loadPart' (k _ _ (X _ _ ho)) (wpAny_pure q))
    · cases hcD
  ne := (PySem.W.handS_kitx_exc (x := x) (ox := ox) T.hg T.hk T.hs T.hd T.ha T.hn T.ht T.hm).ne
  ca := fun X I k => class_of_exc T X I k
end
/-- isinstance(e, c), e the exception that the suite holds, of any own class, with a dict or without -/
def rIsEg (K : PySem.W.Frag) (cls : Value) (d : Option Addr) (a : Addr) : List V → Hp → VK → Prop := fun xs H Q => ∃ (D : Addr) (c : V) (cv : Value) (b : Bool), cls = .ref D ∧ ExcC K D ∧ (d = none ∨ ∃ dd fs, d = some dd ∧ H dd = some (.xd fs)) ∧ xs = [.ref a, c] ∧ (∀ u, RelV c u → u = cv) ∧ PySem.W.kitOne K (.ref D) cv = some b ∧ Q (.bl b) H
theorem call_isEg {X : Cx} {a : Addr} {oe : Obj} {cls : Value} {d : Option Addr} {pn : List (Addr × Obj)} (hz : Zc cls d oe) (hf : ∃ vs, oe.data = .fields vs) : CallR (X.suite a ((a, oe) :: pn)) (.builtin "isinstance") (rIsEg X.K cls d a) := by
  intro pins s σ H xs us Q I r h
  obtain ⟨D, c, cv, b, rfl, T, hd, rfl, hcv, e, q⟩ := h
  cases r with
  | cons rx rr =>
    cases rr with
    | cons rt rr =>
      cases rr
      cases rx
      have ec := hcv _ rt
      subst ec
      obtain ⟨hget, _⟩ := I.pin (a, oe) (List.mem_append.mpr (.inl List.mem_cons_self))
      obtain ⟨vs, hv⟩ := hf
      have J : ∃ od, PySem.W.InstAt s.heap a oe D od := by
        rcases hd with rfl | ⟨dd, fs, rfl, hdd⟩
        · exact ⟨none, hget, hz.1, by unfold PySem.W.notCls; rw [hv] <;> rfl, by rw [hz.2]; trivial⟩
        · obtain ⟨mA, hns, hr⟩ := (show ObjOk X.prog X.w H s.heap dd (.xd fs) from I.hok dd _ hdd)
          obtain ⟨od, ho, hl⟩ := lookIn_ns hns
          exact ⟨some od, hget, hz.1, by unfold PySem.W.notCls; rw [hv] <;> rfl, by rw [hz.2]; exact ho⟩
      obtain ⟨od, J⟩ := J
      exact PySem.W.kia_one (kitx_excD T) I.kIn J e (fun z => nomatch z) fun tk => ⟨.bl b, H, I.kept (t' := tk) fun _ _ z => z, rfl, q⟩
/-! ## making an object whose __init__ may raise -/
def tMakeS (C : Addr) (sp : Sp) (E : L2.St → XK) (t : TA) : TE := fun σ H Q => t σ H fun vs H1 => ∀ x dx, H1 x = none → H1 dx = none → dx ≠ x → sp (.ref x :: vs) (upd (upd H1 dx (.own x)) x (.ins C dx [])) (fun v H2 => v = .non ∧ Q (.ref x) H2) (E σ)
section
variable {X : Cx} {CX : CXT} {k : Nat} {f C : Addr} {fd : FuncData} {ps : List Str} {sp : Sp} {E : L2.St → XK} {x : Str} {p pos : Pos} {e : Expr} {es : List Expr} {t : TA}
theorem run_makeS {pins : List (Addr × Obj)} {σ : L2.St} {H : Hp} {s : Shared} {Q : VK} {us : List Value} {vs : List V} (M : Mk X.K C f) (F : FnOk X.prog X.w X.K X.mg X.base CX k f fd ps sp) (hr : Room (k + 1) X.A) (hb : Binds X.K fd ps [])
    (hx : PassesAt CX X σ (E σ)) (I : Inv X pins σ H s) (r : Vals vs us)
    (h : ∀ x dx, H x = none → H dx = none → dx ≠ x → sp (.ref x :: vs) (upd (upd H dx (.own x)) x (.ins C dx [])) (fun v H2 => v = .non ∧ Q (.ref x) H2) (E σ)) :
    wpAny (model X.prog X.w) X.A (call (.ref C) us) (EP X pins σ Q) X.xe s := by
  have hq := h (s.heap.objs.size + 1) s.heap.objs.size (I.hok.fresh (Nat.le_succ _)) (I.hok.fresh (Nat.le_refl _)) (Nat.ne_of_lt (Nat.lt_succ_self _))
  have I2 := Inv.made (C := C) I
  have r2 : Vals (V.ref (s.heap.objs.size + 1) :: vs) (Value.ref (s.heap.objs.size + 1) :: us) := .cons rfl r
  have hl : ((Value.ref (s.heap.objs.size + 1) :: us) ++ ([] : List Value)).length = ps.length := by
    have e := r2.length
    rw [F.len _ _ _ _ hq] at e
    rw [List.append_nil]
    exact e.symm
  have hb2 := hb _ (Value.ref (s.heap.objs.size + 1) :: us) I2.kIn hl
  rw [List.append_nil] at hb2
  refine wpAny_call (make_map (f := f) I.kIn M.makes M.init (beq_iff_eq.mp M.fn) (codeAny_mono (F.run _ X.stack _ _ ⟨Value.ref (s.heap.objs.size + 1) :: us, []⟩ (Value.ref (s.heap.objs.size + 1) :: us) _ _ (E σ) (hr.make C us [])
    (I2.env0.make C us []) hb2 r2 hq) fun r s' hq' => ?_))
  cases r with
  | error e => exact hx pins _ _ e s' I2 hq'
  | ok fl =>
    cases fl with
    | ret u =>
      obtain ⟨v, H', I3, rv, ev, q3⟩ := I2.after hq'
      subst ev
      exact ⟨rv, ⟨V.ref (s.heap.objs.size + 1), H', I3, rfl, q3⟩⟩
    | next => exact False.elim hq'
    | brk => exact False.elim hq'
    | cont => exact False.elim hq'
theorem pe_makeS (M : Mk X.K C f) (F : FnOk X.prog X.w X.K X.mg X.base CX k f fd ps sp) (hr : Room (k + 1) X.A) (hm : X.mg x = some (.ref C)) (hb : Binds X.K fd ps []) (hx : ∀ σ, PassesAt CX X σ (E σ))
    (ha : PA X (e :: es) t) (hg : Gl X x := by rfl) (hdb : (x == ("__debug__" : Str)) = false := by decide) (he : starEach (e :: es) X.env = (false, eval e X.env) :: starEach es X.env := by rfl) (hpl : (backTo pos (starEach es X.env)).any (·.1) = false := by rfl) :
    PE X (.Call (.Name x p) (e :: es) [] pos) (tMakeS C sp E t) := by
  refine ⟨fun pins s σ H Q I h => ?_⟩
  refine wpAny_Call_Name_kw (ld_glob I hg hm ?_ hdb)
  refine PySem.W.callWith_K (h₀ := X.base) I.ok.mod.kin M.kp (thn (ha.run pos pins s σ H _ I h) fun us s1 ⟨vs, H1, I1, r, q⟩ => ⟨I1.kIn, ?_⟩) he hpl
  exact run_makeS M F hr hb (hx σ) I1 r q
end
end Bs

/-! set(xs), xs a list of ints -/
namespace Bs
open PySem PySem.Spec PyProof.Rows L2
/-- a set, just made -/
abbrev newS (w : World) : Obj := { cls := .type "set", dict := none, data := .set #[] 0 (.fresh 0 0 (!w.params.followText "set-order")) }
section
variable {P : Program} {w : World} {A : Around} {E : Value → Shared → Prop} {s : Shared}
/-- what the filling of a new set by a list of ints leaves -/
def Filled (w : World) (s : Shared) (ns : List Int) (r : Value) (s2 : Shared) : Prop :=
  r = .none ∧ ∃ h' tk c, s2 = { s with heap := h', toks := tk } ∧ SetR w h' s.heap.objs.size (fun j => decide (j ∈ ns)) c ∧ c ≤ ns.length ∧ ∀ b o, s.heap.get? b = some o → h'.get? b = some o
theorem at_ints {us : Array Value} {ns : List Int} (hi : IntsAre us.toList ns) (i : Nat) (v : Value) (hv : us[i]? = some v) : ∃ k t, ns[i]? = some k ∧ v = .int k t := by
  obtain ⟨hlt, _⟩ := Array.getElem?_eq_some_iff.mp hv
  have hn : us.size = ns.length := by have := IntsAre.length hi; rwa [Array.length_toList] at this
  obtain ⟨t, e⟩ := IntsAre.int_at hi i v (by rw [Array.getElem?_toList]; exact hv)
  have hi2 : i < ns.length := by omega
  exact ⟨ns[i], t, List.getElem?_eq_getElem hi2, by rw [e, List.getD_eq_getElem?_getD, List.getElem?_eq_getElem hi2]; rfl⟩
theorem fill_list {l : Addr} {us : Array Value} (ns : List Int) (hh : A.handled = none) (hl : s.heap.IsList l us) (hi : IntsAre us.toList ns) (hb : ns.length + 1 < scanBound) :
    codeAny (model P w) A (.call (.builtin "set.__init__") ⟨[.ref s.heap.objs.size, .ref l], []⟩) (wants (Filled w s ns) E) { s with heap := s.heap.push (newS w) } := by
  have hn : us.size = ns.length := by have := IntsAre.length hi; rwa [Array.length_toList] at this
  have at0 : (s.heap.push (newS w)).get? s.heap.objs.size = some (newS w) := Heap.get?_push_size _ rfl
  obtain ⟨o, ho, oc, on, od⟩ := id hl
  have lt0 := Heap.lt_size ho
  have l1 : (s.heap.push (newS w)).IsList l us := hl.push _
  have n1 : (s.heap.push (newS w)).objs.size = s.heap.objs.size + 1 := Heap.size_push ..
  refine codeAny_call_builtin F.called_set.init.plain F.entry_set_init (check_set_init_1 (⟨_, at0, rfl⟩ : Shared.TypeIs { s with heap := s.heap.push (newS w) } (.ref s.heap.objs.size) "set") ?_)
  obtain ⟨o1, ho1, oc1, on1, od1⟩ := id l1
  obtain ⟨c1, dd1, dt1, sl1⟩ := o1
  simp only at oc1 od1
  subst oc1 od1
  have f1 := F.sub_list_set
  have f2 := F.sub_list_frozenset
  have f3 : (Value.type "list" == Value.type "dict") = false := by decide
  unfold Builtin.«set.__init__» noKeywords Builtin.Frozenset.updateFrom
  generalize hit : pyIter = iter
  wp_walk
  subst hit
  refine wpAny_pyIter_list l1 (wpAny_bind (wpAny_runValue ?_))
  have ne1 : l ≠ (s.heap.push (newS w)).objs.size := Nat.ne_of_lt (by rw [n1]; exact Nat.lt_succ_of_lt lt0)
  have out : s.heap.objs.size ∉ [(s.heap.push (newS w)).objs.size, l] := by
    rw [n1]
    intro h
    rcases List.mem_cons.mp h with h | h
    · exact Nat.ne_of_lt (Nat.lt_succ_self _) h
    · exact Nat.ne_of_lt lt0 (List.mem_singleton.mp h).symm
  have at2 : ((s.heap.push (newS w)).push ⟨.type "list_iterator", none, .fields #[.ref l, .int 0 0], #[]⟩).get? s.heap.objs.size = some (newS w) := Heap.get?_push_of_some _ at0
  have W := (Walks.list (prog := P) (w := w) (A := A.in1.in1) (by simp [hh]) (s.heap.push (newS w)).objs.size l ne1 us).toS
  refine set_update_ints W s.heap.objs.size out ns hn hb (at_ints hi) (us.size - 0) 0 _ (by omega) (Nat.zero_le _) ?_ ?_ fun s' c hm hc hS => ?_
  · exact ⟨⟨_, Heap.get?_push_size _ rfl, rfl, rfl⟩, l1.push _⟩
  · exact ⟨0, Nat.le_refl 0, setR_new_at at2⟩
  obtain ⟨h2, g2, d2, t2, os2⟩ := s'
  have q1 : g2 = s.gens := hm.gens
  have q2 : d2 = s.drawn := hm.drawn
  have q3 : os2 = s.os := hm.os
  subst q1 q2 q3
  show wpAny _ _ _ _ _ _
  refine wpAny_pure ?_
  show wpAny _ _ (ret Value.none) _ _ _
  refine wpAny_pure ⟨rfl, h2, t2, c, rfl, hS, by omega, fun b ob e => hm.heap b ob ?_ (Heap.get?_push_of_some _ (Heap.get?_push_of_some _ e))⟩
  have lb := Heap.lt_size e
  intro h
  rcases List.mem_cons.mp h with h | h
  · exact Nat.ne_of_lt lb h
  · rw [List.mem_singleton.mp h, n1] at lb
    exact absurd lb (Nat.not_lt.mpr (Nat.le_succ _))
theorem setOfList {l : Addr} {us : Array Value} (ns : List Int) {Q : Value → Shared → Prop} (hh : A.handled = none) (hl : s.heap.IsList l us) (hi : IntsAre us.toList ns) (hb : ns.length + 1 < scanBound)
    (q : ∀ h' tk c, SetR w h' s.heap.objs.size (fun j => decide (j ∈ ns)) c → c ≤ ns.length → (∀ b o, s.heap.get? b = some o → h'.get? b = some o) → Q (.ref s.heap.objs.size) { s with heap := h', toks := tk }) :
    wpAny (model P w) A (call (.type "set") [.ref l]) Q E s := by
  have k := F.called_set
  obtain ⟨mc, mt, hmro⟩ := k.mro
  have k1 := k.made
  have k2 := k.sub
  have k3 := k.notType
  have k4 := k.canCreate
  have k5 := F.typeCall_set_1 (.ref l)
  have k6 := k.init.lookup
  have k7 := k.init.bind (.ref s.heap.objs.size)
  refine wpAny_call (codeAny_of_tree ?_)
  show wpAny _ _ (callAny (.type "set") _) _ _ _
  refine wpAny_pure ⟨Code.quiet_builtin _ (by decide +kernel), codeAny_builtin F.entry_type_call ?_⟩
  rw [Around.under_plain (weight_type_call_type "set" [.ref l] []) rfl]
  repeat (any_goals (first | assumption | wp_step))
  refine codeAny_mono (code_set_led1 (.ref l) (E := E) (Q₁ := fun v s1 => v = .ref s.heap.objs.size ∧ s1 = { s with heap := s.heap.push (newS w) }) ⟨rfl, rfl⟩) fun r s1 hr => ?_
  match r, hr with
  | .error e, hr => exact hr
  | .ok (.ret v), hr =>
    obtain ⟨rfl, rfl⟩ := hr
    have at0 : (s.heap.push (newS w)).get? s.heap.objs.size = some (newS w) := Heap.get?_push_size _ rfl
    have hT : Shared.TypeIs { s with heap := s.heap.push (newS w) } (.ref s.heap.objs.size) "set" := ⟨_, at0, rfl⟩
    repeat (any_goals (first | assumption | wp_step))
    refine codeAny_mono (fill_list (E := E) ns (by simp [hh]) hl hi hb) fun r2 s2 h2 => ?_
    match r2, h2 with
    | .error e, h2 => exact h2
    | .ok (.ret x), h2 =>
      obtain ⟨rfl, h', tk, c, rfl, a1, a2, a3⟩ := h2
      repeat (any_goals (first | assumption | wp_step))
      exact q _ _ _ a1 a2 a3
    | .ok .next, h2 => exact h2.elim
    | .ok .brk, h2 => exact h2.elim
    | .ok .cont, h2 => exact h2.elim
  | .ok .next, hr => exact hr.elim
  | .ok .brk, hr => exact hr.elim
  | .ok .cont, hr => exact hr.elim
end
section
variable {X : Cx}
def rSetL (w : World) : List V → Hp → VK → Prop := fun vs H Q => ∃ (l : Addr) (ns : List Int), vs = [V.ref l] ∧ H l = some (.lst (ns.map V.int)) ∧ ns.length < 60 ∧
  ∀ (a : Addr) (c : Nat), H a = none → c ≤ ns.length → Q (.ref a) (upd H a (SetO w a (fun j => decide (j ∈ ns)) c))
theorem cr_setL (hc : X.calm = true) : CallR X (.type "set") (rSetL X.w) := by
  intro pins s σ H xs us Q I r h
  obtain ⟨l, ns, rfl, hl, hf, q⟩ := h
  rw [Vals.ref1 r]
  have hn : H s.heap.objs.size = none := I.hok.fresh (Nat.le_refl _)
  obtain ⟨its, rv, pl, hz⟩ := I.list (SqL.of hl)
  refine setOfList (P := X.prog) (w := X.w) ns (I.ok.hd hc) pl.isList (by simpa using rv.ints) (Nat.lt_trans (show ns.length + 1 < 62 by omega) (by unfold scanBound; decide)) fun h' tk c R hle k => ?_
  exact ⟨.ref s.heap.objs.size, upd H s.heap.objs.size (SetO X.w s.heap.objs.size (fun j => decide (j ∈ ns)) c), I.laid (t' := tk) k (Nat.le_refl _) (setO_new R), rfl, q _ c hn hle⟩
end
end Bs

namespace Bs
open PySem PySem.Spec PyProof.Rows L2 HT
/-! ## sorted(xs), tuples of ints of any length, the empty one anywhere -/
section
variable {prog : Program} {w : World} {A : Around} {E : Value → Shared → Prop} {s : Shared}
theorem ltg_it {v u : Value} {ns ms : List Int} {Q : Bool → Shared → Prop} (hu : A.units < cLine) (hv : IsIt s.heap v ns) (hw : IsIt s.heap u ms) (h : Q (HT.lexLt ns ms) s) : wpAny (model prog w) A (keyLt' general' v u) Q E s := by
  obtain ⟨a, ⟨c1, dd, d1, sl⟩, items, n, rfl, ga, ca, da, ia⟩ := hv
  obtain ⟨b, ⟨c2, dd2, d2, sl2⟩, items2, n2, rfl, gb, cb, db, ib⟩ := hw
  show wpAny _ _ (oneLt' false (.ref a) (.ref b)) _ _ _
  rw [oneLt'_eq]
  simp only [Bool.false_eq_true, if_false]
  simp only at ca da cb db
  subst ca da cb db
  exact wpAny_bind (show wpAny (model prog w) A (richCompare .Lt (.ref a) (.ref b)) _ E s from HT.lt_tupInts (items := items) (items2 := items2) ⟨_, ga, rfl, n, rfl⟩ ⟨_, gb, rfl, n2, rfl⟩ ia ib hu (wpAny_truthy_bool h))
theorem firsts_gen {M : Model} : ∀ (vs : List Value) {Q : List (Option Value) → Shared → Prop}, (∀ v ∈ vs, ∃ ns, IsIt s.heap v ns) → (∃ v ∈ vs, IsIt s.heap v []) → (∀ l, (l.all fun x => x.isSome) = false → Q l s) → wpAny M A (vs.mapM firstOfTuple') Q E s
  | [], Q, _, h0, h => by obtain ⟨v, hv, _⟩ := h0; cases hv
  | v :: vs, Q, hv, h0, h => by
    obtain ⟨ns, ⟨a, o, items, n, rfl, g, c, d, i⟩⟩ := hv v List.mem_cons_self
    rw [List.mapM_cons]
    refine wpAny_bind ?_
    rw [PySem.W.kas_first_eq]
    refine wpAny_bind (PySem.W.Looks.here (show PySem.W.Looks M s.heap (typeOf (.ref a)) o.cls from (PySem.W.Looks.ld g).andThen .now) ?_)
    rw [c, if_neg (by first | decide | simp)]
    refine wpAny_bind (listItems_at g d (wpAny_pure ?_))
    by_cases he : items[0]? = none
    · rw [he]
      exact wpAny_bind (firsts_it vs (fun u hu => hv u (List.mem_cons_of_mem _ hu)) fun l => wpAny_pure (h _ (by simp)))
    · refine wpAny_bind (firsts_gen vs (fun u hu => hv u (List.mem_cons_of_mem _ hu)) ?_ fun l hl => wpAny_pure (h _ (by rw [List.all_cons, hl, Bool.and_false])))
      obtain ⟨v0, hm, h3⟩ := h0
      rcases List.mem_cons.mp hm with e | hm
      · subst e
        obtain ⟨a', o', items', n', e', g', c', d', i'⟩ := h3
        cases e'
        rw [g] at g'
        cases g'
        rw [d] at d'
        cases d'
        refine absurd ?_ he
        cases hl : items.toList with
        | nil => simp [Array.toList_eq_nil_iff.mp hl]
        | cons x r => rw [hl] at i'; cases i'
      · exact ⟨v0, hm, h3⟩
theorem kind_any {v : Value} {vs : List Value} {Q : SortKind → Shared → Prop} (hv : ∀ u ∈ v :: vs, ∃ ns, IsIt s.heap u ns) (h0 : ∃ u ∈ v :: vs, IsIt s.heap u []) (h : ¬ IsIt s.heap v [] → Q general' s) (h2 : IsIt s.heap v [] → Q oneType' s) {M : Model} : wpAny M A (keyKind' (v :: vs).toArray) Q E s := by
  by_cases hc : IsIt s.heap v []
  · exact kind_one hc (fun u hu => hv u (List.mem_cons_of_mem _ hu)) (h2 hc)
  obtain ⟨ns, hns⟩ := hv v List.mem_cons_self
  obtain ⟨a, o, items, n, rfl, g, c, d, i⟩ := id hns
  rw [kat_kind_eq, List.mapM_toArray, map_eq_pure_bind]
  rw [List.mapM_cons]
  refine wpAny_bind (wpAny_bind (wpAny_bind ?_))
  rw [PySem.W.kas_first_eq]
  refine wpAny_bind (PySem.W.Looks.here (show PySem.W.Looks M s.heap (typeOf (.ref a)) o.cls from (PySem.W.Looks.ld g).andThen .now) ?_)
  rw [c, if_neg (by first | decide | simp)]
  refine wpAny_bind (listItems_at g d (wpAny_pure ?_))
  obtain ⟨x, ex⟩ : ∃ x, items[0]? = some x := by
    cases hl : items.toList with
    | nil =>
      rw [hl] at i
      cases i
      exact absurd ⟨a, o, items, n, rfl, g, c, d, by rw [hl]; exact .nil⟩ hc
    | cons x r =>
      refine ⟨x, ?_⟩
      rw [← Array.getElem?_toList, hl]; rfl
  rw [ex]
  have h0' : ∃ u ∈ vs, IsIt s.heap u [] := by
    obtain ⟨u, hu, h3⟩ := h0
    rcases List.mem_cons.mp hu with e | hu
    · subst e; exact absurd h3 hc
    · exact ⟨u, hu, h3⟩
  refine wpAny_bind (firsts_gen vs (fun u hu => hv u (List.mem_cons_of_mem _ hu)) h0' fun l hl => wpAny_pure (wpAny_pure ?_))
  have hall : ((some x :: l : List (Option Value)).toArray.all fun x => x.isSome) = false := by
    rw [List.all_toArray, List.all_cons, hl, Bool.and_false]
  rw [hall, if_neg (by simp)]
  have hb : (((some x :: l : List (Option Value)).toArray[0]?.bind id).isSome) = true := by simp
  rw [hb, if_pos rfl]
  exact wpAny_pure (h hc)
theorem it_sortable_any {a : Addr} {vs : List Value} {k : Value → List Int} (h2 : 2 ≤ vs.length) (hu : A.units < cLine) (hv : ∀ v ∈ vs, IsIt s.heap v (k v)) (ha : ∀ v ∈ vs, v ≠ .ref a) :
    SrtO.SortableO prog w A s a vs fun v u => HT.lexLt (k v) (k u) := by
  by_cases hk : ∀ v ∈ vs, k v ≠ []
  · exact it_sortable h2 hu hv ha (.inl hk)
  have hk : ∃ v ∈ vs, k v = [] := Classical.byContradiction fun hn => hk fun v hm e => hn ⟨v, hm, e⟩
  intro h' keep
  have hv' : ∀ v ∈ vs, IsIt h' v (k v) := fun v hm => (hv v hm).keeps fun b o e g => keep b o (fun z => ha v hm (by rw [e, z])) g
  cases vs with
  | nil => cases h2
  | cons v0 r =>
  obtain ⟨v1, hm1, e1⟩ := hk
  by_cases hc : IsIt h' v0 []
  · refine ⟨oneType', fun Q E hq => ?_, fun p q hp hq => lt_it (Q := fun r s' => s' = { s with heap := h' } ∧ r = HT.lexLt (k p.1) (k q.1)) (E := fun _ _ => False) hu (hv' p.1 hp) (hv' q.1 hq) ⟨rfl, rfl⟩⟩
    exact kind_one (s := { s with heap := h' }) hc (fun u hm => ⟨_, hv' u (List.mem_cons_of_mem _ hm)⟩) hq
  · refine ⟨general', fun Q E hq => ?_, fun p q hp hq => ltg_it (s := { s with heap := h' }) (Q := fun r s' => s' = { s with heap := h' } ∧ r = HT.lexLt (k p.1) (k q.1)) (E := fun _ _ => False) hu (hv' p.1 hp) (hv' q.1 hq) ⟨rfl, rfl⟩⟩
    refine kind_any (s := { s with heap := h' }) (fun u hm => ⟨_, hv' u hm⟩) ⟨v1, hm1, ?_⟩ (fun _ => hq) fun h => absurd h hc
    have := hv' v1 hm1
    rw [e1] at this
    exact this
end
/-- sorted(xs), tuples of ints: any of them empty -/
def rSortedAny (K : PySem.W.Frag) : List V → Hp → VK → Prop := fun vs H Q => ∃ (a : Addr) (xs : List V) (k : V → List Int), vs = [V.ref a] ∧ SqL K H a xs ∧ (∀ x ∈ xs, ∃ t, x = V.ref t ∧ H t = some (.tup ((k x).map V.int))) ∧
  ∀ ys p, ys.Perm xs → ys.Pairwise (fun x y => HT.lexLt (k y) (k x) = false) → H p = none → Q (.ref p) (upd H p (.lst ys))
theorem cr_sortedAny {X : Cx} (hu : X.A.units + 64 < cLine) : CallR X (.builtin "sorted") (rSortedAny X.K) := by
  intro pins s σ H vs us Q I r h
  obtain ⟨a, xs, k, rfl, hs, hx, q⟩ := h
  obtain ⟨its, rv, hl, hz⟩ := I.list hs
  obtain ⟨u, rfl, ru⟩ := vals1 r
  obtain rfl : u = Value.ref a := ru
  obtain ⟨e1, e2⟩ := refs_back rv fun x m => by
    obtain ⟨t, e, _⟩ := hx x m
    exact ⟨t, e⟩
  have hp : ∀ v ∈ its, IsIt s.heap v (k (backV v)) := fun v hv => by
    obtain ⟨t, rfl⟩ := e2 v hv
    have hm : V.ref t ∈ xs := by rw [e1]; exact List.mem_map.mpr ⟨_, hv, rfl⟩
    obtain ⟨t', e, ht⟩ := hx _ hm
    cases e
    obtain ⟨_, its2, r2, o, ho, hc, n, hd⟩ := I.hok _ _ ht
    exact ⟨t, o, its2.toArray, n, rfl, ho, hc, hd, intsAre_of r2⟩
  refine SrtO.sorted_ord (NtL.swo_lexL fun u => k (backV u)) hl.isList (by rw [← rv.length]; exact hz) (fun h2 h₁ a' ha' keep => it_sortable_any (s := { s with heap := h₁ }) h2 (by show X.A.units + 1 + 1 < cLine; omega) (fun v hv => (hp v hv).keeps fun b o _ g => (keep b o g).2) (fun v hv => ?_)) fun out h1 h2 => ?_
  · obtain ⟨t, o, _, _, rfl, g, c, _, _⟩ := hp v hv
    exact fun e => (keep t o g).1 (Value.ref.inj e)
  · have h3 : ∀ u ∈ out, ∃ a, u = Value.ref a := fun u hu => e2 u (h2.perm.mem_iff.mp hu)
    obtain ⟨ep, he'⟩ := PyProof.Rows.sortedAll_at s.heap its out.toArray
    have hb : (out.map backV).Perm xs := by rw [e1]; exact h2.perm.map backV
    refine ⟨.ref _, upd H (s.heap.objs.size + 1) (.lst (out.map backV)), I.laid (t' := s.toks) (fun _ _ => PyProof.Rows.sortedAll_old) (Nat.le_succ _) ⟨?_, out, ep, vals_back h3, he'⟩, rfl, q _ _ hb ?_ (I.hok.fresh (Nat.le_succ _))⟩
    · rw [hb.length_eq]
      exact hz
    · exact List.pairwise_map.mpr h1
end Bs

namespace Bs
open PySem PySem.Spec PyProof.Rows L2
/-! ## sorted(a set of tuples of ints), the tuples of any length -/
/-- the row of a set's tuple -/
def rowAt (L : List (Addr × List Int)) : Value → Addr × List Int
  | .ref b => (L.find? fun q => q.1 == b).getD (0, [])
  | _ => (0, [])
theorem rowAt_of {L : List (Addr × List Int)} (one : ∀ q ∈ L, ∀ r ∈ L, q.1 = r.1 → q = r) {q : Addr × List Int} (hq : q ∈ L) : rowAt L (.ref q.1) = q := by
  cases c : L.find? fun r => r.1 == q.1 with
  | none => exact absurd (List.find?_eq_none.mp c q hq) (by simp)
  | some r =>
    show (List.find? (fun r => r.1 == q.1) L).getD (0, []) = q
    rw [c]
    exact one r (List.mem_of_find?_eq_some c) q hq (beq_iff_eq.mp (List.find?_some (p := fun r : Addr × List Int => r.1 == q.1) c))
section
variable {P : Program} {w : World} {A : Around} {E : Value → Shared → Prop} {s : Shared}
theorem isIt_of {h : Heap} {k : List Int} {b : Addr} (x : IsT P w h k b) : IsIt h (.ref b) k := by
  obtain ⟨b', items, e, ⟨o, ho, hc, n, hd⟩, hi⟩ := tupInts_of x
  exact ⟨b', o, items, n, e, ho, hc, hd, hi⟩
theorem sorted_setAny {a : Addr} {L : List (Addr × List Int)} {es : Array (Int × Value)} {ep : Nat} {t : SetTable} {Q : Value → Shared → Prop} (R : SetTR P w s.heap a L es ep t) (hh : A.handled = none) (hu : A.units + 2 < cLine)
    (hQ : ∀ s' p (out : Array Value) (c : Nat) (L' : List (Addr × List Int)), (∀ b o, s.heap.get? b = some o → s'.heap.get? b = some o) → s'.gens = s.gens → s'.os = s.os → s.heap.objs.size ≤ p →
      s'.heap.get? p = some (seqObj "list" out c) → out.toList = L'.map (fun q => Value.ref q.1) → L'.Perm L → L'.Pairwise (fun q r => HT.lexLt r.2 q.2 = false) → Q (.ref p) s') :
    wpAny (model P w) A (call (.builtin "sorted") [.ref a]) Q E s := by
  have one : ∀ q ∈ L, ∀ r ∈ L, q.1 = r.1 → q = r := fun q hq r hr e => Prod.ext e ((e ▸ R.tup q hq : IsT P w s.heap q.2 r.1).inj (R.tup r hr))
  have row : ∀ q ∈ L, rowAt L (.ref q.1) = q := fun q hq => rowAt_of one hq
  have hes : es.toList.map (·.2) = L.map fun q => Value.ref q.1 := by rw [R.rows]; simp [rowsOf, Function.comp_def]
  obtain ⟨o, ho, hex, hd⟩ := R.ob
  refine Calls.call_function_entry kind_sorted plain_sorted entry_sorted (args_sorted1 _) ?_
  unfold Builtin.«sorted»
  refine wpAny_bind (m := checkCount "sorted" 1 1 _) (wpAny_pure ?_)
  refine wpAny_bind (collect_set (A := A.in1) hh ⟨o, ho, hex.1, hd⟩ R.fits (by have := R.size; have := R.few; unfold scanBound; omega) R.tab.ris R.led fun s1 vs k1 hz g1 o1 pm => ?_)
  rw [hes] at pm
  have mem : ∀ v ∈ vs, ∃ q ∈ L, Value.ref q.1 = v := fun v hv => List.mem_map.mp (pm.mem_iff.mp hv)
  have few : vs.length ≤ sizeLine := by
    rw [pm.length_eq, List.length_map]
    exact Nat.le_trans (Nat.le_of_lt R.few) (by decide)
  refine wpAny_bind (wpAny_newList ?_ few)
  generalize hp : s1.heap.objs.size = p
  generalize hH : s1.heap.push (seqObj "list" vs.toArray 0) = HP
  have hoL : HP.get? p = some (seqObj "list" vs.toArray 0) := by rw [← hH, ← hp]; exact Heap.get?_push_size _ rfl
  have kP : ∀ b u, s.heap.get? b = some u → HP.get? b = some u := fun b u e => by rw [← hH]; exact Heap.get?_push_of_some _ (k1 b u e)
  have itP : ∀ v ∈ vs, IsIt HP v (rowAt L v).2 := fun v hv => by
    obtain ⟨q, hq, rfl⟩ := mem v hv
    rw [row q hq]
    exact isIt_of (isT_keep (R.tup q hq) kP)
  refine wpAny_bind (wpAny_holding (wpAny_call_entry slot_list_sort ⟨_, hoL, rfl⟩ entry_list_sort (SrtO.list_sort_ord (s := { s1 with heap := HP }) (NtL.swo_lexL fun u => (rowAt L u).2) hoL few (fun h2 => it_sortable_any (s := { s1 with heap := HP }) h2 ?_ itP fun v hv => ?_) fun out h1 h2 => ⟨_, rfl, ?_⟩) (args_list_sort _)))
  · show A.units + 1 + 1 < cLine
    omega
  · obtain ⟨q, hq, rfl⟩ := mem v hv
    obtain ⟨o', _, _, ho', _⟩ := R.tup q hq
    intro e
    injection e with e
    have hl : q.1 < p := by rw [← hp]; exact Heap.lt_size (k1 _ _ ho')
    exact absurd e (Nat.ne_of_lt hl)
  · have sub : ∀ v ∈ out, ∃ q ∈ L, Value.ref q.1 = v := fun v hv => mem v (h2.perm.mem_iff.mp hv)
    have e' : out = (out.map (rowAt L)).map fun q => Value.ref q.1 := by
      rw [List.map_map]
      refine (List.map_id out).symm.trans (List.map_congr_left fun v hv => ?_)
      obtain ⟨q, hq, rfl⟩ := sub v hv
      show Value.ref q.1 = Value.ref (rowAt L (.ref q.1)).1
      rw [row q hq]
    have pL : (out.map (rowAt L)).Perm L := by
      refine ((h2.perm.trans pm).map (rowAt L)).trans ?_
      rw [List.map_map]
      have : L.map ((rowAt L) ∘ fun q => Value.ref q.1) = L := (List.map_congr_left fun q hq => row q hq).trans (List.map_id L)
      rw [this]
    obtain ⟨c, hc⟩ := sortedHeap_at (vs := vs) (out := out.toArray) hoL
    refine wpAny_pure ⟨_, rfl, hQ _ p out.toArray c (out.map (rowAt L)) (fun b u e => ?_) g1 o1 (by omega) hc (by simpa using e') pL (List.pairwise_map.mpr h1)⟩
    have hlt : b < p := by rw [← hp]; exact Heap.lt_size (k1 b u e)
    show (sortedHeap HP p vs out.toArray).get? b = some u
    rw [sortedHeap_old (Nat.ne_of_lt hlt) (by rw [← hH, size_push', hp]; exact Nat.lt_succ_of_lt hlt)]
    exact kP b u e
end
/-- sorted(set): the tuples of ints of any length -/
def rSortedSetAny (K : PySem.W.Frag) (P : Program) (w : World) : List V → Hp → VK → Prop := fun vs H Q => ∃ (a : Addr) (L : List (Addr × List Int)), vs = [V.ref a] ∧ H a = some (SetTO P w a L) ∧ (∀ p ∈ L, SqT K H p.1 (p.2.map V.int)) ∧
  ∀ (L' : List (Addr × List Int)) (p : Addr), L'.Perm L → (L'.map (·.2)).Nodup → L'.length < 64 → L'.Pairwise (fun q r => HT.lexLt r.2 q.2 = false) → H p = none → Q (.ref p) (upd H p (.lst (L'.map fun q => V.ref q.1)))
theorem cr_sortedSetAny {X : Cx} (hc : X.calm = true) (hu : X.A.units + 64 < cLine) : CallR X (.builtin "sorted") (rSortedSetAny X.K X.prog X.w) := by
  intro pins s σ H vs us Q I r h
  obtain ⟨a, L, rfl, ha, hk, q⟩ := h
  obtain ⟨es, ep, t, R⟩ := (show SetT0 X.prog X.w s.heap a L from (I.hok a _ ha).1).full fun p hp => I.isT (hk p hp)
  rw [Vals.ref1 r]
  refine sorted_setAny R (I.ok.hd hc) (by omega) fun s' p out c L' k g o hp hg hout pm pw => ?_
  have few : L'.length < 64 := by rw [pm.length_eq]; exact R.few
  have hn : H p = none := I.hok.fresh hp
  obtain ⟨hp', gs, dr, tk, os⟩ := s'
  obtain rfl : gs = s.gens := g
  obtain rfl : os = s.os := o
  refine ⟨.ref p, upd H p (.lst (L'.map fun q => V.ref q.1)), I.call (ch := []) (Un.laid k hp hn) (I.hok.laid k hp ⟨Nat.le_trans (Nat.le_of_lt (by rw [List.length_map]; exact few)) (by decide), out.toList, c, by rw [hout]; exact vals_of_refs L', hg⟩) I.bare (fun _ z => nomatch z), rfl, q L' p pm ((pm.map (·.2)).nodup_iff.mpr R.nd) few pw hn⟩
end Bs

namespace Bs
open PySem PySem.Spec PyProof.Rows L2
/-! ## set(t), t a tuple of tuples of ints -/
theorem noneIn {h : Heap} {b : Addr} (hb : h.objs.size ≤ b) : h.get? b = none := Option.eq_none_iff_forall_ne_some.mpr fun o q => Nat.lt_irrefl _ (Nat.lt_of_lt_of_le (Heap.lt_size q) hb)
/-- a set as it is made -/
abbrev nuSet (w : World) : Obj := { cls := .type "set", dict := none, data := .set #[] 0 (.fresh 0 0 (!w.params.followText "set-order")) }
section
variable {P : Program} {w : World} {A : Around} {E : Value → Shared → Prop} {s : Shared}
set_option maxRecDepth 100000 in
set_option maxHeartbeats 3200000 in
theorem set_tupTups {l : Addr} {its : Array Value} (ks : List (Addr × List Int)) {Q : Value → Shared → Prop} (hh : A.handled = none) (hl : s.heap.IsTuple l its) (hit : its.toList = ks.map fun p => Value.ref p.1)
    (hk : ∀ p ∈ ks, IsT P w s.heap p.2 p.1) (few : ks.length < 64) (hu : A.units + 3 < cLine)
    (hQ : ∀ (h' : Heap) (tk : Nat) L es ep t, SetTR P w h' s.heap.objs.size L es ep t → Got ks ks.length L → (∀ b o, s.heap.get? b = some o → h'.get? b = some o) → Q (.ref s.heap.objs.size) { s with heap := h', toks := tk }) :
    wpAny (model P w) A (call (.type "set") [.ref l]) Q E s := by
  have sz : its.size = ks.length := by have q := congrArg List.length hit; rw [Array.length_toList, List.length_map] at q; exact q
  obtain ⟨c0, c1, mr⟩ := F.called_set.mro
  have a1 := F.called_set.made; have a2 := F.called_set.sub
  refine wpAny_call (codeAny_of_tree ?_)
  show wpAny (model P w) _ (callAny (.type "set") _) _ _ s
  refine wpAny_pure ⟨Code.quiet_builtin _ (by decide +kernel), codeAny_builtin F.entry_type_call ?_⟩
  rw [Around.under_plain (weight_type_call_type "set" [.ref l] []) rfl]
  have a3 := F.called_set.notType; have a4 := F.called_set.canCreate; have a5 := F.typeCall_set_1 (.ref l)
  repeat any_goals first | assumption | wp_step
  refine codeAny_mono (code_set_led1 (.ref l) (E := E) (Q₁ := fun x s₁ => x = .ref s.heap.objs.size ∧ s₁ = { s with heap := s.heap.push (nuSet w) }) ⟨rfl, rfl⟩) fun r s₁ hr => ?_
  cases r with
  | error e => exact hr
  | ok fl =>
    cases fl with
    | ret obj =>
      obtain ⟨rfl, rfl⟩ := hr
      have hS : (s.heap.push (nuSet w)).get? s.heap.objs.size = some (nuSet w) := Heap.get?_push_size _ rfl
      have hT : Shared.TypeIs { s with heap := s.heap.push (nuSet w) } (.ref s.heap.objs.size) "set" := ⟨_, hS, rfl⟩
      have a6 := F.called_set.init.lookup; have a7 := F.called_set.init.bind (.ref s.heap.objs.size)
      repeat any_goals first | assumption | wp_step
      refine codeAny_mono (codeAny_call_builtin (R := wants (fun r s₂ => r = .none ∧ ∃ h' tk L es ep t, s₂ = { s with heap := h', toks := tk } ∧ SetTR P w h' s.heap.objs.size L es ep t ∧ Got ks ks.length L ∧ (∀ b o, s.heap.get? b = some o → h'.get? b = some o)) E) F.called_set.init.plain F.entry_set_init (check_set_init_1 hT ?_)) fun r₂ s₂ hr₂ => ?_
      · obtain ⟨ol, hol, hcl, nl, hdl⟩ := hl
        obtain ⟨oc, od, odt, osl⟩ := ol
        simp only at hcl hdl
        subst hcl hdl
        have hol' : (s.heap.push (nuSet w)).get? l = some { cls := .type "tuple", dict := od, data := .seq its nl, slots := osl } := Heap.get?_push_of_some _ hol
        have b1 := F.sub_tuple_set; have b2 := F.sub_tuple_frozenset
        have b3 : (Value.type "tuple" == Value.type "dict") = false := by decide
        have hl1 : (s.heap.push (nuSet w)).IsTuple l its := ⟨_, hol', rfl, nl, rfl⟩
        unfold Builtin.«set.__init__» noKeywords Builtin.Frozenset.updateFrom
        generalize hPI : pyIter = PI
        wp_walk
        subst hPI
        refine wpAny_pyIter_tuple hl1 (wpAny_bind (wpAny_runValue ?_))
        have lS : l < s.heap.objs.size := Heap.lt_size hol
        have h3 : A.in1.in1.in1.handled = none := by simp [hh]
        have ne : l ≠ (s.heap.push (nuSet w)).objs.size := by rw [Heap.size_push]; exact Nat.ne_of_lt (Nat.lt_succ_of_lt lS)
        have nf : s.heap.objs.size ∉ [(s.heap.push (nuSet w)).objs.size, l] := by
          rw [Heap.size_push]; simp only [List.mem_cons, List.not_mem_nil, or_false, not_or]; exact ⟨Nat.ne_of_lt (Nat.lt_succ_self _), Nat.ne_of_gt lS⟩
        have hv : ∀ (i : Nat) (v : Value), its[i]? = some v → ∃ p, ks[i]? = some p ∧ v = .ref p.1 := fun i v hi => by
          have q : its.toList[i]? = some v := by rw [Array.getElem?_toList]; exact hi
          rw [hit, List.getElem?_map] at q
          obtain ⟨p, e1, e2⟩ := Option.map_eq_some_iff.mp q
          exact ⟨p, e1, e2.symm⟩
        refine set_update_tups ((Walks.tuple h3 _ l ne its).toS) s.heap.objs.size nf ks sz few hv s.heap hk (noneIn (Nat.le_refl _)) (fun b hb => noneIn (by rw [List.mem_singleton.mp hb, Heap.size_push]; exact Nat.le_succ _)) hu (its.size - 0) 0 _ (by omega) (Nat.zero_le _)
          ⟨⟨_, Heap.get?_push_size _ rfl, rfl, rfl⟩, (hl1.push _)⟩ (fun b o e => Heap.get?_push_of_some _ (Heap.get?_push_of_some _ e)) ⟨[], #[], 0, _, setTR_fresh (Heap.get?_push_of_some _ hS), Got.zero ks⟩ ?_
        intro s' L es ep t hm S' g' kp
        obtain ⟨h', g2, d', tk', os'⟩ := s'
        obtain rfl : g2 = s.gens := hm.gens
        obtain rfl : d' = s.drawn := hm.drawn
        obtain rfl : os' = s.os := hm.os
        show wpAny (model P w) _ _ _ _ _
        refine wpAny_pure ?_
        show wpAny (model P w) _ (ret Value.none) _ _ _
        rw [sz] at g'
        exact wpAny_pure ⟨rfl, h', tk', L, es, ep, t, rfl, S', g', kp⟩
      · cases r₂ with
        | error e => exact hr₂
        | ok f2 =>
          cases f2 with
          | ret r =>
            obtain ⟨rfl, h', tk, L, es, ep, t, rfl, S', g', k'⟩ := hr₂
            repeat any_goals first | assumption | wp_step
            exact hQ _ _ _ _ _ _ S' g' k'
          | _ => exact hr₂.elim
    | _ => exact hr.elim
end
/-- set(t), the tuple's things tuples of ints -/
def rSetOfTT (K : PySem.W.Frag) (P : Program) (w : World) : List V → Hp → VK → Prop := fun xs H Q => ∃ (l : Addr) (ks : List (Addr × List Int)), xs = [V.ref l] ∧ SqT K H l (ks.map fun p => V.ref p.1) ∧ (∀ p ∈ ks, SqT K H p.1 (p.2.map V.int)) ∧ ks.length < 64 ∧
  ∀ a L, H a = none → (∀ p ∈ L, p ∈ ks) → (∀ p ∈ ks, p.2 ∈ L.map (·.2)) → Q (.ref a) (upd H a (SetTO P w a L))
theorem cr_setOfTT {X : Cx} (hc : X.calm = true) (hu : X.A.units + 64 < cLine) : CallR X (.type "set") (rSetOfTT X.K X.prog X.w) := by
  intro pins s σ H xs us Q I r h
  obtain ⟨l, ks, rfl, hl, hk, few, q⟩ := h
  rw [Vals.ref1 r]
  obtain ⟨its, rv, pl, hz⟩ := I.tuple hl
  refine set_tupTups (P := X.prog) (w := X.w) ks (I.ok.hd hc) (show s.heap.IsTuple l its.toArray from pl) (by simpa using refs_of_vals rv) (fun p hp => I.isT (hk p hp)) few (by omega) fun h' tk L es ep t R g k => ?_
  refine ⟨.ref s.heap.objs.size, upd H s.heap.objs.size (SetTO X.prog X.w s.heap.objs.size L), I.laid (t' := tk) k (Nat.le_refl _) (setTO_new R.t0), rfl, q _ L (I.hok.fresh (Nat.le_refl _)) (fun p hp => List.mem_of_mem_take (g.sub p hp)) fun p hp => g.all p (by rw [List.take_length]; exact hp)⟩
end Bs

namespace Bs
open PySem PySem.Spec PyProof.Rows L2
/-! ## == and != of an instance with its own == and whatever stands on the right -/
section
variable {prog : Program} {w : World} {A : Around} {E : Value → Shared → Prop} {s : Shared} {K : PySem.W.Frag} {x C : Addr} {ox : Obj} {od : Option Obj} {f : Addr} {y tb : Value}
theorem objNe_any (X : K.In s.heap) (I : PySem.W.InstAt s.heap x ox C od) (hs : PySem.W.findIn K (.ref C) "__eq__" = some (some (.ref f))) (hf : PySem.W.isFn K (.ref f) = true) (hu : A.units < cLine) {Q : Fin → Shared → Prop}
    (hcall : wpAny (model prog w) A (call (.ref f) [.ref x, y]) (fun v s' => ∃ b, v = .bool b ∧ Q (.done (.ret (.bool (!b)))) s') E s) :
    wpAny (model prog w) A (Builtin.«object.__ne__» ⟨[.ref x, y], []⟩) Q E s := by
  obtain ⟨hp, g, d, t, os⟩ := s
  unfold Builtin.«object.__ne__»
  repeat (first
    | with_reducible refine wpAny_cRoomFor hu ?_
    | (refine wpAny_bind (m := callSpecialIfBound? (.ref x) (Str.ofString "__eq__") [y])
        (PySem.W.ifBound_K X I hs hf (wpAny_mono hcall (fun v s' hv => by
          obtain ⟨b, rfl, hq⟩ := hv
          repeat (first | exact hq | exact wpAny_pure hq | exact wpAny_truthy_bool hq | (refine wpAny_bind (m := truthy (.bool _)) (wpAny_truthy_bool ?_)) | wp_step)) fun _ _ e => e)))
    | wp_step)
theorem tryNe_any (X : K.In s.heap) (I : PySem.W.InstAt s.heap x ox C od) (hs : PySem.W.findIn K (.ref C) "__eq__" = some (some (.ref f))) (hf : PySem.W.isFn K (.ref f) = true)
    (hn : PySem.W.findIn K (.ref C) "__ne__" = some (some (.builtin "object.__ne__"))) (hsub : PySem.W.subIn K (.ref C) (.type "object") = some true) (hu : A.units + 1 < cLine) {Q : Option Value → Shared → Prop}
    (hcall : wpAny (model prog w) A.in1 (call (.ref f) [.ref x, y]) (fun v s' => ∃ b, v = .bool b ∧ Q (some (.bool (!b))) s') E s) :
    wpAny (model prog w) A (tryCompare (.ref x) "__ne__" y) Q E s := by
  simp only [tryCompare]
  refine wpAny_bind (ifBound_ne X I hn (wpAny_call (codeAny_call_builtin (F.slot_object_ne).plain F.cmpEntry_ne
    (PySem.W.check_slot F.cmpKind_ne F.cmpSplit_ne (I.type.andThen (PySem.W.looks_subIn X hsub)) (F.cmpArgs_ne _ _)
      (objNe_any (A := A.in1) X I hs hf hu (wpAny_mono hcall (fun v s' hv => ?_) fun _ _ e => e))))))
  obtain ⟨b, rfl, hq⟩ := hv
  first | exact ⟨b, rfl, wpAny_pure hq⟩ | exact ⟨b, rfl, wpAny_pure (wpAny_pure hq)⟩ | exact ⟨b, rfl, hq⟩
theorem tryEq_any (X : K.In s.heap) (I : PySem.W.InstAt s.heap x ox C od) (hs : PySem.W.findIn K (.ref C) "__eq__" = some (some (.ref f))) (hf : PySem.W.isFn K (.ref f) = true) {Q : Option Value → Shared → Prop}
    (hcall : wpAny (model prog w) A (call (.ref f) [.ref x, y]) (fun v s' => ∃ b, v = .bool b ∧ Q (some (.bool b)) s') E s) :
    wpAny (model prog w) A (tryCompare (.ref x) "__eq__" y) Q E s := by
  simp only [tryCompare]
  refine wpAny_bind (PySem.W.ifBound_K X I hs hf (wpAny_mono hcall (fun v s' hv => ?_) fun _ _ e => e))
  obtain ⟨b, rfl, hq⟩ := hv
  exact wpAny_pure hq
theorem rich_any {op : CmpOp} (I : PySem.W.InstAt s.heap x ox C od) (X : K.In s.heap) (J : PySem.W.Looks (model prog w) s.heap (typeOf y) tb) (one : oneThing? op (.ref x) y = none) (hop : op = .Eq ∨ op = .NotEq)
    (hsub : tb = .ref C ∨ PySem.W.subIn K tb (.ref C) = some false) (hu : A.units < cLine) {Q : Value → Shared → Prop}
    (h : wpAny (model prog w) A (tryCompare (.ref x) (cmpInfo op).2.1 y) (fun r s' => ∃ v, r = some v ∧ Q v s') E s) :
    wpAny (model prog w) A (richCompare op (.ref x) y) Q E s := by
  unfold richCompare
  simp only [one]
  refine wpAny_holding (wpAny_bind (wpAny_cRoomFor hu ?_))
  rcases hop with rfl | rfl
  · rw [cmpInfo_Eq] at h ⊢
    dsimp only at h ⊢
    refine wpAny_bind (I.type.here (wpAny_bind (J.here ?_)))
    rcases hsub with rfl | hsub
    · rw [show (Value.ref C != Value.ref C) = false from by simp]
      simp only [Bool.false_eq_true, if_false]
      refine wpAny_bind (wpAny_pure ?_)
      simp only [Bool.false_eq_true, if_false]
      refine wpAny_bind (wpAny_mono h (fun r s' z => ?_) fun _ _ e => e)
      obtain ⟨v, rfl, hq⟩ := z
      exact wpAny_pure hq
    · by_cases c : (Value.ref C != tb) = true
      · rw [if_pos c]
        refine wpAny_bind ((PySem.W.looks_subIn X hsub).here ?_)
        simp only [Bool.false_eq_true, if_false]
        refine wpAny_bind (wpAny_mono h (fun r s' z => ?_) fun _ _ e => e)
        obtain ⟨v, rfl, hq⟩ := z
        exact wpAny_pure hq
      · rw [if_neg c]
        refine wpAny_bind (wpAny_pure ?_)
        simp only [Bool.false_eq_true, if_false]
        refine wpAny_bind (wpAny_mono h (fun r s' z => ?_) fun _ _ e => e)
        obtain ⟨v, rfl, hq⟩ := z
        exact wpAny_pure hq
  · rw [cmpInfo_NotEq] at h ⊢
    dsimp only at h ⊢
    refine wpAny_bind (I.type.here (wpAny_bind (J.here ?_)))
    rcases hsub with rfl | hsub
    · rw [show (Value.ref C != Value.ref C) = false from by simp]
      simp only [Bool.false_eq_true, if_false]
      refine wpAny_bind (wpAny_pure ?_)
      simp only [Bool.false_eq_true, if_false]
      refine wpAny_bind (wpAny_mono h (fun r s' z => ?_) fun _ _ e => e)
      obtain ⟨v, rfl, hq⟩ := z
      exact wpAny_pure hq
    · by_cases c : (Value.ref C != tb) = true
      · rw [if_pos c]
        refine wpAny_bind ((PySem.W.looks_subIn X hsub).here ?_)
        simp only [Bool.false_eq_true, if_false]
        refine wpAny_bind (wpAny_mono h (fun r s' z => ?_) fun _ _ e => e)
        obtain ⟨v, rfl, hq⟩ := z
        exact wpAny_pure hq
      · rw [if_neg c]
        refine wpAny_bind (wpAny_pure ?_)
        simp only [Bool.false_eq_true, if_false]
        refine wpAny_bind (wpAny_mono h (fun r s' z => ?_) fun _ _ e => e)
        obtain ⟨v, rfl, hq⟩ := z
        exact wpAny_pure hq
end
/-- what may stand on the right -/
inductive OthV (K : PySem.W.Frag) (C : Addr) (H : Hp) : V → Prop where
  | same {b dy : Addr} {gs : List (Str × V)} (h : H b = some (.ins C dy gs)) : OthV K C H (.ref b)
  | ins {b D dy : Addr} {gs : List (Str × V)} (h : H b = some (.ins D dy gs)) (hs : PySem.W.subIn K (.ref D) (.ref C) = some false) : OthV K C H (.ref b)
  | tup {b : Addr} {xs : List V} (h : H b = some (.tup xs)) : OthV K C H (.ref b)
  | int (i : Int) : OthV K C H (.int i)
theorem OthV.look {X : Cx} {C : Addr} {pins : List (Addr × Obj)} {σ : L2.St} {H : Hp} {s : Shared} {y : V} {u : Value} (I : Inv X pins σ H s) (h : OthV X.K C H y) (ry : RelV y u) :
    ∃ tb, PySem.W.Looks (model X.prog X.w) s.heap (typeOf u) tb ∧ (tb = .ref C ∨ PySem.W.subIn X.K tb (.ref C) = some false) ∧ ∀ op a, oneThing? op (.ref a) u = none := by
  cases h with
  | same h =>
    cases ry
    obtain ⟨m, J, _⟩ := ins_get I.hok h
    obtain ⟨od, J, _⟩ := J.look
    exact ⟨_, J.type, .inl rfl, fun _ _ => rfl⟩
  | ins h hs =>
    cases ry
    obtain ⟨m, J, _⟩ := ins_get I.hok h
    obtain ⟨od, J, _⟩ := J.look
    exact ⟨_, J.type, .inr hs, fun _ _ => rfl⟩
  | @tup b xs h =>
    cases ry
    obtain ⟨hz, its, rv, o, g, hcl, n, hd⟩ := I.hok b _ h
    refine ⟨.type "tuple", ?_, .inr rfl, fun _ _ => rfl⟩
    have : PySem.W.Looks (model X.prog X.w) s.heap (typeOf (.ref b)) o.cls := (PySem.W.Looks.ld g).andThen .now
    rw [hcl] at this
    exact this
  | int i =>
    obtain ⟨t, rfl⟩ := ry
    exact ⟨.type "int", PySem.W.Looks.of_pure rfl, .inr rfl, fun _ _ => rfl⟩
def rEqAny (K : PySem.W.Frag) (C : Addr) (sp : Sp) : R2 := fun x y H Q => ∃ a dx fs, x = .ref a ∧ H a = some (.ins C dx fs) ∧ OthV K C H y ∧ sp [.ref a, y] H (fun v H' => ∃ r, v = .bl r ∧ Q (.bl r) H') E0
def rNeAny (K : PySem.W.Frag) (C : Addr) (sp : Sp) : R2 := fun x y H Q => ∃ a dx fs, x = .ref a ∧ H a = some (.ins C dx fs) ∧ OthV K C H y ∧ sp [.ref a, y] H (fun v H' => ∃ r, v = .bl r ∧ Q (.bl (!r)) H') E0
theorem op_neAny {X : Cx} {C f : Addr} {fd : FuncData} {ps : List Str} {sp : Sp} {n : Nat} (N : OwnNe X.K C f) (F : FnOk X.prog X.w X.K X.mg X.base CX0 n f fd ps sp) (hr : Room (n + 1) X.A) (hb : Binds X.K fd ps []) : OpR X (compareOp .NotEq) (rNeAny X.K C sp) := by
  intro pins s σ H x y v u Q I rx ry h
  obtain ⟨a, dx, fs, rfl, ha, hy, hsp⟩ := h
  cases rx
  obtain ⟨mA, J, _⟩ := ins_get I.hok ha
  obtain ⟨od, J, _⟩ := J.look
  obtain ⟨tb, L, hsub, one⟩ := hy.look I ry
  have hu : X.A.units + 1 < cLine := hu_of hr
  have hr1 : Room n X.A.in1 := hr.in1
  have e0 : Env0 X.prog X.w X.K X.mg X.base X.A.in1 X.stack s H := I.env0.in1
  have hl := F.len _ _ _ _ hsp
  have r2 : Vals [V.ref a, y] [Value.ref a, u] := .cons rfl (.cons ry .nil)
  show wpAny (model X.prog X.w) X.A (richCompare .NotEq (.ref a) u) (EP X pins σ Q) X.xe s
  refine rich_any J I.kIn L (one _ _) (.inr rfl) hsub (Nat.lt_of_succ_lt hu) ?_
  refine tryNe_any I.kIn J N.eq N.fn N.ne N.sub hu ?_
  refine wpAny_call (codeAny_mono (F.run X.A.in1 X.stack s H ⟨[.ref a, u], []⟩ [.ref a, u] [.ref a, y] _ E0 hr1 e0 (by
    have := hb s [.ref a, u] I.kIn (by simpa using hl)
    simpa using this) r2 hsp) fun r s' hq => ?_)
  cases r with
  | error e => exact hq.elim
  | ok fl =>
    cases fl with
    | ret w =>
      obtain ⟨z, H', I', rz, r, ez, q⟩ := I.after hq
      subst ez
      cases rz
      exact ⟨r, rfl, _, rfl, .bl (!r), H', I', rfl, q⟩
    | next => exact False.elim hq
    | brk => exact False.elim hq
    | cont => exact False.elim hq
theorem op_eqAny {X : Cx} {C f : Addr} {fd : FuncData} {ps : List Str} {sp : Sp} {n : Nat} (N : OwnNe X.K C f) (F : FnOk X.prog X.w X.K X.mg X.base CX0 n f fd ps sp) (hr : Room (n + 1) X.A) (hb : Binds X.K fd ps []) : OpR X (compareOp .Eq) (rEqAny X.K C sp) := by
  intro pins s σ H x y v u Q I rx ry h
  obtain ⟨a, dx, fs, rfl, ha, hy, hsp⟩ := h
  cases rx
  obtain ⟨mA, J, _⟩ := ins_get I.hok ha
  obtain ⟨od, J, _⟩ := J.look
  obtain ⟨tb, L, hsub, one⟩ := hy.look I ry
  have hu : X.A.units + 1 < cLine := hu_of hr
  have hr1 : Room n X.A := hr.mono (Nat.le_succ _)
  have e0 : Env0 X.prog X.w X.K X.mg X.base X.A X.stack s H := I.env0
  have hl := F.len _ _ _ _ hsp
  have r2 : Vals [V.ref a, y] [Value.ref a, u] := .cons rfl (.cons ry .nil)
  show wpAny (model X.prog X.w) X.A (richCompare .Eq (.ref a) u) (EP X pins σ Q) X.xe s
  refine rich_any J I.kIn L (one _ _) (.inl rfl) hsub (Nat.lt_of_succ_lt hu) ?_
  refine tryEq_any I.kIn J N.eq N.fn ?_
  refine wpAny_call (codeAny_mono (F.run X.A X.stack s H ⟨[.ref a, u], []⟩ [.ref a, u] [.ref a, y] _ E0 hr1 e0 (by
    have := hb s [.ref a, u] I.kIn (by simpa using hl)
    simpa using this) r2 hsp) fun r s' hq => ?_)
  cases r with
  | error e => exact hq.elim
  | ok fl =>
    cases fl with
    | ret w =>
      obtain ⟨z, H', I', rz, r, ez, q⟩ := I.after hq
      subst ez
      cases rz
      exact ⟨r, rfl, _, rfl, .bl r, H', I', rfl, q⟩
    | next => exact False.elim hq
    | brk => exact False.elim hq
    | cont => exact False.elim hq
end Bs

namespace Bs
open PySem PySem.Spec PyProof.Rows L2
/-! ## a chain of four comparisons, as a test -/
def tCh4 (r1 r2 r3 r4 : R2) (ta tb tc td te : TE) : TT := fun σ H Q => ta σ H fun x H1 => tb σ H1 fun y H2 => r1 x y H2 fun z H3 => ∃ k, z = .bl k ∧ (if k = true then tc σ H3 fun y2 H4 => r2 y y2 H4 fun z H5 => ∃ k, z = .bl k ∧
  (if k = true then td σ H5 fun y3 H6 => r3 y2 y3 H6 fun z H7 => ∃ k, z = .bl k ∧ (if k = true then te σ H7 fun y4 H8 => r4 y3 y4 H8 fun z H9 => ∃ k, z = .bl k ∧ Q k H9 else Q false H7) else Q false H5) else Q false H3)
section
variable {X : Cx} {a b c d e : Expr} {pos : Pos} {ta tb tc td te : TE}
theorem pt_chain4 {o1 o2 o3 o4 : CmpOp} {r1 r2 r3 r4 : R2} (h1 : OpR X (compareOp o1) r1) (h2 : OpR X (compareOp o2) r2) (h3 : OpR X (compareOp o3) r3) (h4 : OpR X (compareOp o4) r4) (ha : PE X a ta) (hb : PE X b tb) (hc : PE X c tc) (hd : PE X d td) (he : PE X e te)
    (hm : lastMarks [o1, o2, o3, o4] [b, c, d, e] = false := by with_unfolding_all rfl) : PT X (.Compare a [o1, o2, o3, o4] [b, c, d, e] pos) (tCh4 r1 r2 r3 r4 ta tb tc td te) := by
  refine ⟨fun pins s σ H Q I h => ?_⟩
  refine isTrue_chain (thn (ha.run pins s σ H _ I h) fun v s1 ⟨x, H1, I1, v1, q1⟩ => test_link (thn (hb.run pins s1 σ H1 _ I1 q1) fun u s2 ⟨y, H2, I2, v2, q2⟩ =>
    thn (h1 pins s2 σ H2 x y v u _ I2 v1 v2 q2) fun z1 s3 ⟨z, H3, I3, v3, k, e1, q3⟩ => ?_)) hm
  subst e1
  cases v3
  refine wpAny_truthy_bool ?_
  cases k with
  | false => exact ite_ff ⟨H3, I3, q3⟩
  | true =>
    refine ite_tt (test_link (thn (hc.run pins s3 σ H3 _ I3 q3) fun u2 s4 ⟨y2, H4, I4, v4, q4⟩ => thn (h2 pins s4 σ H4 y y2 u u2 _ I4 v2 v4 q4) fun z2 s5 ⟨z, H5, I5, v5, k, e2, q5⟩ => ?_))
    subst e2
    cases v5
    refine wpAny_truthy_bool ?_
    cases k with
    | false => exact ite_ff ⟨H5, I5, q5⟩
    | true =>
      refine ite_tt (test_link (thn (hd.run pins s5 σ H5 _ I5 q5) fun u3 s6 ⟨y3, H6, I6, v6, q6⟩ => thn (h3 pins s6 σ H6 y2 y3 u2 u3 _ I6 v4 v6 q6) fun z3 s7 ⟨z, H7, I7, v7, k, e3, q7⟩ => ?_))
      subst e3
      cases v7
      refine wpAny_truthy_bool ?_
      cases k with
      | false => exact ite_ff ⟨H7, I7, q7⟩
      | true =>
        refine ite_tt (test_last (thn (he.run pins s7 σ H7 _ I7 q7) fun u4 s8 ⟨y4, H8, I8, v8, q8⟩ => thn (h4 pins s8 σ H8 y3 y4 u3 u4 _ I8 v6 v8 q8) fun z4 s9 ⟨z, H9, I9, v9, k, e4, q9⟩ => ?_))
        subst e4
        cases v9
        exact wpAny_truthy_bool ⟨H9, I9, q9⟩
end
end Bs

namespace Bs
open PySem PySem.Spec PyProof.Rows L2 HT
/-! ## t[:0:-1], t a tuple that is not empty -/
theorem rev_tail {xs : Array Value} {x : Value} {r : List Value} (h : xs.toList = x :: r) : (List.range (xs.size - 1)).filterMap (fun m : Nat => xs[(((xs.size : Int) - 1) + (m : Int) * -1).toNat]?) = r.reverse := by
  have sz : xs.size = r.length + 1 := by rw [← Array.length_toList, h]; rfl
  have h1 := rev_all xs
  rw [h, List.reverse_cons] at h1
  rw [show List.range xs.size = List.range (xs.size - 1) ++ [xs.size - 1] from by rw [sz, List.range_succ]; rfl, List.filterMap_append] at h1
  have h2 : List.filterMap (fun m : Nat => xs[(((xs.size : Int) - 1) + (m : Int) * -1).toNat]?) [xs.size - 1] = [x] := by
    have e0 : (((xs.size : Int) - 1) + ((xs.size - 1 : Nat) : Int) * -1).toNat = 0 := by omega
    have e1 : xs[0]? = some x := by rw [← Array.getElem?_toList, h]; rfl
    rw [List.filterMap_cons, e0, e1]
    rfl
  rw [h2] at h1
  exact List.append_cancel_right h1
section
variable {prog : Program} {w : World} {A : Around} {E : Value → Shared → Prop} {s : Shared}
theorem sliceApplied_rev0 {sl : Addr} {tk tk0 : Tok} {n : Nat} {Q : Int × Int × Nat → Shared → Prop} (n1 : 1 ≤ n) (hs : s.heap.IsSliceOf sl .none (.int 0 tk0) (.int (-1) tk))
    (h : Q ((n : Int) - 1, -1, n - 1) s) : wpAny (model prog w) A (Builtin.Slice.sliceApplied (.ref sl) (pure (n : Int))) Q E s := by
  obtain ⟨os, hos, hcs, hds⟩ := id hs
  unfold Builtin.Slice.sliceApplied Builtin.Slice.sliceFields
  refine wpAny_bind (wpAny_bind (wpAny_field hos hds (x := .none) rfl (wpAny_bind (wpAny_field hos hds (x := .int 0 tk0) rfl (wpAny_bind (wpAny_field hos hds (x := .int (-1) tk) rfl (wpAny_pure ?_)))))))
  refine wpAny_bind (slicePart_ (.int (-1) tk) ?_)
  show wpAny _ _ (if ((-1 : Int) == 0) = true then _ else _) _ _ s
  rw [if_neg (by decide)]
  refine wpAny_bind (slicePart_none (wpAny_bind (slicePart_ (.int 0 tk0) (wpAny_bind (wpAny_pure ?_)))))
  have ea : Builtin.Slice.sliceAdjust none (some 0) ((some (-1 : Int)).getD 1) (n : Int) = ((n : Int) - 1, 0) := by
    show ((n : Int) - 1, (if (0 : Int) < 0 then max (0 + (n : Int)) (-1) else min 0 ((n : Int) - 1))) = ((n : Int) - 1, 0)
    rw [if_neg (by decide)]
    congr 1
    omega
  rw [ea]
  show wpAny _ _ (pure ((n : Int) - 1, (-1 : Int), Builtin.Slice.slicePlaces ((n : Int) - 1) 0 (-1))) _ _ s
  have e : Builtin.Slice.slicePlaces ((n : Int) - 1) 0 (-1) = n - 1 := by
    show (if (-1 : Int) > 0 then _ else if (n : Int) - 1 > 0 then ((n : Int) - 1 - 0 - 1) / - -1 + 1 else 0).toNat = n - 1
    rw [if_neg (by decide)]
    by_cases h : (n : Int) - 1 > 0
    · rw [if_pos h, show (- -1 : Int) = 1 by decide, Int.ediv_one]; omega
    · rw [if_neg h]; omega
  rw [e]
  exact wpAny_pure h
theorem getItem_rev0 {t sl : Addr} {items : Array Value} {x : Value} {r : List Value} {tk tk0 : Tok} {Q : Value → Shared → Prop} (hx : items.toList = x :: r) (ht : IsTup s.heap t items) (hs : s.heap.IsSliceOf sl .none (.int 0 tk0) (.int (-1) tk))
    (h : Q (.ref s.heap.objs.size) { s with heap := s.heap.push { cls := .type "tuple", data := .seq r.reverse.toArray } })
    (hsz : items.size ≤ sizeLine) : wpAny (model prog w) A (getItem (.ref t) (.ref sl)) Q E s := by
  have sz : items.size = r.length + 1 := by rw [← Array.length_toList, hx]; rfl
  have hok : sizeOk (.seq r.reverse.toArray) := by
    show r.reverse.toArray.size ≤ sizeLine
    rw [List.size_toArray, List.length_reverse]
    omega
  obtain ⟨os, hos, hcs, hds⟩ := id hs
  have hTs : s.TypeIs (.ref sl) "slice" := ⟨os, hos, hcs⟩
  unfold getItem
  try with_reducible refine wpAny_holding ?_
  first | refine wpAny_bind (wpAny_pure ?_) | skip
  refine wpAny_bind (wpAny_sequenceKey ht.typeIs (by decide) ?_)
  refine wpAny_bind (wpAny_callSpecial?_slot (name := Str.ofString "__getitem__") ht.typeIs PyProof.Rows.slot_tuple_getitem
    (wpAny_call_entry PyProof.Rows.slot_tuple_getitem ht.typeIs entry_tuple_getitem ?_ (args_tuple_getitem _ _)))
  show wpAny _ _ (Builtin.Tuple.tupleItemsOf (.ref t) >>= _) _ _ s
  refine wpAny_bind (tupleItemsOf_ ht ?_)
  refine wpAny_bind (wpAny_typeOf hTs ?_)
  rw [if_pos (by decide)]
  refine wpAny_bind (sliceApplied_rev0 (by omega) hs ?_)
  have hno : ¬ ((((items.size : Int) - 1) == 0 && (-1 : Int) == 1 && items.size - 1 == items.size) = true) := by
    intro q
    rw [Bool.and_eq_true, Bool.and_eq_true] at q
    exact absurd q.1.2 (by decide)
  show wpAny _ _ (if (((items.size : Int) - 1) == 0 && (-1 : Int) == 1 && items.size - 1 == items.size) = true then _ else _) _ _ s
  rw [if_neg hno, rev_tail hx]
  first
    | exact wpAny_bind (m := Builtin.Tuple.tupleExact _) (wpAny_newObj_type (wpAny_pure ⟨_, rfl, wpAny_pure h⟩) hok)
    | exact wpAny_bind (m := Builtin.Tuple.tupleExact _) (wpAny_newObj_type (wpAny_bind (wpAny_pure (wpAny_pure ⟨_, rfl, wpAny_pure h⟩))) hok)
    | exact wpAny_bind (wpAny_bind (m := Builtin.Tuple.tupleExact _) (wpAny_newObj_type (wpAny_pure (wpAny_pure ⟨_, rfl, wpAny_pure h⟩)) hok))
    | exact wpAny_bind (wpAny_bind (m := Builtin.Tuple.tupleExact _) (wpAny_newObj_type (wpAny_pure ⟨_, rfl, wpAny_pure h⟩) hok))
end
def tRev0 (K : PySem.W.Frag) (te : TE) : TE := fun σ H Q => te σ H fun x H1 => ∃ (a : Addr) (u : V) (us : List V), x = .ref a ∧ SqT K H1 a (u :: us) ∧ ∀ p, H1 p = none → Q (.ref p) (upd H1 p (.tup us.reverse))
theorem pe_rev0 {X : Cx} {e : Expr} {te : TE} {k k0 : Nat} {p0 p1 p2 p3 pos : Pos} (he : PE X e te) : PE X (.Subscript e (.Slice none (some (.Constant (.int 0) k0 p0)) (some (.UnaryOp .USub (.Constant (.int 1) k p1) p2)) p3) pos) (tRev0 X.K te) := by
  refine ⟨fun pins s σ H Q I h => ?_⟩
  refine Subscript_ (thn (he.run pins s σ H _ I h) fun v s1 ⟨x, H1, I1, r1, q1⟩ => ?_)
  obtain ⟨a, u0, us, ex, hx, q⟩ := q1
  subst ex
  cases r1
  have hs0 : PO X (some (.Constant (.int 0) k0 p0)) (tPart (tC (.int 0))) := po_some pe_int
  have hst : PO X (some (.UnaryOp .USub (.Constant (.int 1) k p1) p2)) (tPart (tUn (rU fun i => .int (-i)) (tC (.int 1)))) := po_some (pe_un un_neg pe_int)
  refine wpAny_Slice (thn (po_none.run pins s1 σ H1 (fun o H2 => o = none ∧ H2 = H1) I1 ⟨rfl, rfl⟩) fun vl s2 ⟨l, H2, I2, pl, el, e2⟩ => ?_)
  subst el e2
  refine thn (hs0.run pins s2 σ H2 (fun o H3 => o = some 0 ∧ H3 = H2) I2 ⟨0, rfl, rfl, rfl⟩) fun vu s3 ⟨u, H3, I3, pu, eu, e3⟩ => ?_
  subst eu e3
  refine thn (hst.run pins s3 σ H3 (fun o H4 => o = some (-1) ∧ H4 = H3) I3 ⟨1, rfl, -1, rfl, rfl, rfl⟩) fun vs s4 ⟨o, H4, I4, ps, eo, e4⟩ => ?_
  subst eo e4
  cases pl
  obtain ⟨tk0, ev0⟩ : ∃ tk, vu = .int 0 tk := by
    cases pu with
    | int i t => exact ⟨t, rfl⟩
  subst ev0
  obtain ⟨tk, ev⟩ : ∃ tk, vs = .int (-1) tk := by
    cases ps with
    | int i t => exact ⟨t, rfl⟩
  subst ev
  have I5 : Inv X pins σ H4 { s4 with heap := s4.heap.push { cls := .type "slice", data := .fields #[.none, .int 0 tk0, .int (-1) tk] } } := I4.kept (t' := s4.toks) fun b ob q => Heap.get?_push_of_some _ q
  obtain ⟨its, r, ht, hz⟩ := I5.tuple hx
  have hlen := r.length
  obtain ⟨y, ys, rfl, ru⟩ : ∃ y ys, its = y :: ys ∧ Vals us ys := by
    cases r with
    | cons r1 r2 => exact ⟨_, _, rfl, r2⟩
  show wpAny (model X.prog X.w) X.A (subscriptTail e (.Slice none (some (.Constant (.int 0) k0 p0)) (some (.UnaryOp .USub (.Constant (.int 1) k p1) p2)) p3) (.ref a) (.ref s4.heap.objs.size)) (EP X pins σ Q) X.xe { s4 with heap := s4.heap.push { cls := .type "slice", data := .fields #[.none, .int 0 tk0, .int (-1) tk] } }
  refine tail_any (ops := [.ref a, .ref s4.heap.objs.size]) ht.typeIs (PyProof.Rows.slot_tuple_getitem.lookup) ?_ (by with_unfolding_all rfl)
  refine getItem_rev0 (x := y) (r := ys) rfl ht (Heap.IsSliceOf.new _ .none (.int 0 tk0) (.int (-1) tk)) ?_ (by rw [List.size_toArray]; omega)
  refine ⟨.ref _, _, I5.laid (t' := s4.toks) (o := .tup us.reverse) (fun b ob q => Heap.get?_push_of_some _ q) (Nat.le_refl _) ?_, rfl, q _ (I5.hok.fresh (Nat.le_refl _))⟩
  exact ⟨by rw [List.length_reverse]; simp at hz; omega, _, ru.reverse, ⟨_, Heap.get?_push_size _ rfl, rfl, _, rfl⟩⟩
end Bs

namespace Bs
open PySem PySem.Spec L2
def top (i : Nat) : Stmt := PySem.Challenge.pw_silencers_k38_lacks_judged.main.body.getD i (.Pass ⟨0, 0, 0, 0⟩)
structure Txt (K : PySem.W.Frag) (mg : Str → Option Value) (C : Addr) : Prop where
  cl : Cls K C
  nSize : NoAttr K C "size"
  nTies : NoAttr K C "ties"
  mg_Web : mg "Web" = some (.ref C)
  mg_MOST_PARTS : ∃ t, mg "MOST_PARTS" = some (.int 24 t)
  xc : PySem.W.findIn K (.ref C) "__class__" = some (some (.builtin "object.__class__"))
  xg : PySem.W.specialIn K (.builtin "object.__class__") "__get__" = some (some (.builtin "getset_descriptor.__get__"))
  xt : PySem.W.takesIn K (.builtin "object.__class__") = some true
  xm : PySem.W.mroIn K C (.type "object") = some true
section
variable {P : Program} {w : World} {K : PySem.W.Frag} {mg : Str → Option Value} {base : Heap} {C : Addr}
def sp_is_integer : Sp := fun vs H Q _ => ∃ i, vs = [.int i] ∧ Q (.bl true) H
abbrev s_is_integer : Stmt := (top 5)
theorem sc_is_integer : FnScope ["thing"] ["thing"] (defScope s_is_integer) := ⟨rfl, rfl, rfl, by decide +kernel, rfl, by decide +kernel, by decide +kernel⟩

theorem ok_is_integer {f : Addr} {fd : FuncData} (F : Fun K "is_integer" "is_integer" s_is_integer f fd) (hm : mg "is_integer" = some (.ref f)) (B : Bl mg) : Cal P w K mg base 1 "is_integer" ["thing"] sp_is_integer := by
  refine ⟨f, fd, F.ok sc_is_integer (fun vs H Q E h => ?_) (fun cdv A outer s H vs Q E hr h => ?_), hm, F.kp, F.binds (ps := ["thing"]) fun _ _ _ _ _ _ us hl => match us, hl with | [_], _ => rfl⟩
  · obtain ⟨i, rfl, _⟩ := h; rfl
  · obtain ⟨i, rfl, k⟩ := h
    refine ⟨_, (pss_one (ps_ret (pe_and (pe_callB call_isi (by rfl) B.isinstance (by decide +kernel) (pa_cons (pv 0) (pa_cons (pe_bltn (v := .ty "int") (by rfl) B.int_ (by decide +kernel) rfl) pa_nil))) (pe_one (pe_not (pe_callB call_isi (by rfl) B.isinstance (by decide +kernel) (pa_cons (pv 0) (pa_cons (pe_bltn (v := .ty "bool") (by rfl) B.bool_ (by decide +kernel) rfl) pa_nil)))))))), ?_⟩
    refine ⟨_, rfl, _, _, _, _, true, rfl, .ty "int", .base (.int i), kit_ty (by decide +kernel), true, rfl, iteT ?_⟩
    refine ⟨_, rfl, _, _, _, _, false, rfl, .ty "bool", .base (.int i), kit_ty (by decide +kernel), false, rfl, ?_⟩
    exact k
def sp_is_number : Sp := fun vs H Q _ => ∃ i a b, vs = [.int i, .int a, .int b] ∧ Q (.bl (decide (a ≤ i ∧ i ≤ b))) H
abbrev s_is_number : Stmt := (top 6)
theorem sc_is_number : FnScope ["thing", "least", "most"] ["thing", "least", "most"] (defScope s_is_number) := ⟨rfl, rfl, rfl, by decide +kernel, rfl, by decide +kernel, by decide +kernel⟩

theorem ok_is_number {f : Addr} {fd : FuncData} (F : Fun K "is_number" "is_number" s_is_number f fd) (hm : mg "is_number" = some (.ref f)) (B : Bl mg) (c_is_integer : Cal P w K mg base 1 "is_integer" ["thing"] sp_is_integer) : Cal P w K mg base 2 "is_number" ["thing", "least", "most"] sp_is_number := by
  refine ⟨f, fd, F.ok sc_is_number (fun vs H Q E h => ?_) (fun cdv A outer s H vs Q E hr h => ?_), hm, F.kp, F.binds (ps := ["thing", "least", "most"]) fun _ _ _ _ _ _ us hl => match us, hl with | [_, _, _], _ => rfl⟩
  · obtain ⟨i, a, b, rfl, _⟩ := h; rfl
  · obtain ⟨i, a, b, rfl, k⟩ := h
    refine ⟨_, (pss_one (ps_ret (pe_and (pe_cal c_is_integer (hr.mono (by first | decide | omega)) (pa_cons (pv 0) pa_nil)) (pe_one (pe_chain op_le op_le (pv 1) (pv 0) (pv 2)))))), ?_⟩
    refine ⟨_, rfl, i, rfl, true, rfl, iteT ?_⟩
    refine ⟨_, rfl, _, rfl, _, _, rfl, rfl, _, rfl, ?_⟩
    by_cases h1 : a ≤ i
    · rw [if_pos (decide_eq_true h1)]
      refine ⟨_, rfl, _, _, rfl, rfl, ?_⟩
      have e : decide (a ≤ i ∧ i ≤ b) = decide (i ≤ b) := by simp [h1]
      rw [e] at k
      exact k
    · rw [if_neg (by simpa using h1)]
      have e : decide (a ≤ i ∧ i ≤ b) = false := by simp [h1]
      rw [e] at k
      exact k
/-- a web at a: its size and its ties -/
structure WebAt (C : Addr) (H : Hp) (a : Addr) (n : Int) (t : Addr) (ps : List (Int × Int)) : Prop where
  ins : ∃ dx fs, H a = some (.ins C dx fs) ∧ fs.lookup ("size" : Str) = some (.int n) ∧ fs.lookup ("ties" : Str) = some (.ref t)
  ties : ∃ xs, H t = some (.tup xs) ∧ Pairs H xs ps
theorem WebAt.same {C : Addr} {H H' : Hp} {a t : Addr} {n : Int} {ps : List (Int × Int)} (h : WebAt C H a n t ps) (e : Same H H') : WebAt C H' a n t ps := by
  obtain ⟨⟨dx, fs, h1, h2⟩, xs, h3, h4⟩ := h
  exact ⟨⟨dx, fs, e _ _ h1, h2⟩, xs, e _ _ h3, h4.tk e.tk⟩
theorem WebAt.exT {C T : Addr} {H H' : Hp} {a t : Addr} {n : Int} {ps : List (Int × Int)} {l : List V} (h : WebAt C H a n t ps) (e : ExT T H H') (hT : H T = some (.lst l)) : WebAt C H' a n t ps := by
  obtain ⟨⟨dx, fs, h1, h2⟩, xs, h3, h4⟩ := h
  exact ⟨⟨dx, fs, e _ _ (ne_of h1 hT (by intro z; cases z)) h1, h2⟩, xs, e.tk hT _ _ h3, h4.tk (e.tk hT)⟩
def sp_is_tie : Sp := fun vs H Q _ => ∃ (n : Int) (a : Addr) (p : Int × Int), vs = [.int n, .ref a] ∧ H a = some (.tup [.int p.1, .int p.2]) ∧ Q (.bl (decide (0 ≤ p.1 ∧ p.1 < p.2 ∧ p.2 < n))) H
abbrev s_is_tie : Stmt := (top 12)
theorem sc_is_tie : FnScope ["size", "thing", "a", "b"] ["size", "thing"] (defScope s_is_tie) := ⟨rfl, rfl, rfl, by decide +kernel, rfl, by decide +kernel, by decide +kernel⟩

theorem ok_is_tie {f : Addr} {fd : FuncData} (F : Fun K "is_tie" "is_tie" s_is_tie f fd) (hm : mg "is_tie" = some (.ref f)) (B : Bl mg) (c_is_number : Cal P w K mg base 2 "is_number" ["thing", "least", "most"] sp_is_number) : Cal P w K mg base 3 "is_tie" ["size", "thing"] sp_is_tie := by
  refine ⟨f, fd, F.ok sc_is_tie (fun vs H Q E h => ?_) (fun cdv A outer s H vs Q E hr h => ?_), hm, F.kp, F.binds (ps := ["size", "thing"]) fun _ _ _ _ _ _ us hl => match us, hl with | [_, _], _ => rfl⟩
  · obtain ⟨n, a, p, rfl, _⟩ := h; rfl
  · obtain ⟨n, a, p, rfl, ha, k⟩ := h
    refine ⟨_, (pss_cons (ps_if (PW.pt (pw_or (pt_not (pt_val (pe_callB call_isi (by rfl) B.isinstance (by decide +kernel) (pa_cons (pv 1) (pa_cons (pe_bltn (v := .ty "tuple") (by rfl) B.tuple_ (by decide +kernel) rfl) pa_nil))))) (pw_or1 (pt_cmpR op_ne (pe_callB call_len_seq (by rfl) B.len (by decide +kernel) (pa_cons (pv 1) pa_nil)) pe_int (nomark _))))) (pss_one (ps_ret pe_bl)) pss_nil)
 (pss_cons (ps_asg (pv 1) (pg_tup (by rfl) (pgs_cons (pg_name (i := 2) sc_is_tie.nd rfl (by first | exact Or.inl rfl | exact Or.inr rfl)) (pgs_cons (pg_name (i := 3) sc_is_tie.nd rfl (by first | exact Or.inl rfl | exact Or.inr rfl)) pgs_nil))))
 (pss_one (ps_ret (pe_and (pe_cal c_is_number (hr.mono (by first | decide | omega)) (pa_cons (pv 2) (pa_cons pe_int (pa_cons (pe_op op_sub (pv 0) pe_int) pa_nil)))) (pe_one (pe_cal c_is_number (hr.mono (by first | decide | omega)) (pa_cons (pv 3) (pa_cons (pe_op op_add (pv 2) pe_int) (pa_cons (pe_op op_sub (pv 0) pe_int) pa_nil)))))))))), ?_⟩
    refine ⟨_, rfl, _, _, _, _, true, rfl, .ty "tuple", .base (.tup ha), kit_ty (by decide +kernel), true, rfl, iteF ?_⟩
    refine ⟨_, rfl, a, _, rfl, .inr (SqT.of ha), rfl, _, rfl, iteNS rfl ?_⟩
    refine ⟨_, rfl, _, _, rfl, SqT.of ha, rfl, _, _, rfl, _, _, rfl, rfl, ?_⟩
    refine ⟨_, rfl, _, rfl, _, _, rfl, rfl, p.1, 0, n - 1, rfl, _, rfl, ?_⟩
    by_cases h1 : 0 ≤ p.1 ∧ p.1 ≤ n - 1
    · rw [if_pos (decide_eq_true h1)]
      refine ⟨_, rfl, _, rfl, _, _, rfl, rfl, _, rfl, _, _, rfl, rfl, p.2, p.1 + 1, n - 1, rfl, ?_⟩
      have e : decide (0 ≤ p.1 ∧ p.1 < p.2 ∧ p.2 < n) = decide (p.1 + 1 ≤ p.2 ∧ p.2 ≤ n - 1) := by
        by_cases h2 : p.1 + 1 ≤ p.2 ∧ p.2 ≤ n - 1
        · rw [decide_eq_true h2]; exact decide_eq_true (by omega)
        · rw [decide_eq_false h2]; exact decide_eq_false (by omega)
      rw [e] at k
      exact k
    · rw [if_neg (by simpa using h1)]
      have e : decide (0 ≤ p.1 ∧ p.1 < p.2 ∧ p.2 < n) = false := decide_eq_false (by omega)
      rw [e] at k
      exact k
/-- ties as they should be -/
structure Good (n : Int) (ps : List (Int × Int)) : Prop where
  ok : ∀ p ∈ ps, 0 ≤ p.1 ∧ p.1 < p.2 ∧ p.2 < n
  up : ps.Pairwise lt2
theorem Good.le {n : Int} {ps : List (Int × Int)} (g : Good n ps) {i : Nat} {p q : Int × Int} (h1 : ps[i]? = some p) (h2 : ps[i + 1]? = some q) : lt2 p q := by
  obtain ⟨a1, e1⟩ := List.getElem?_eq_some_iff.mp h1
  obtain ⟨a2, e2⟩ := List.getElem?_eq_some_iff.mp h2
  rw [← e1, ← e2]
  exact List.pairwise_iff_getElem.mp g.up i (i + 1) a1 a2 (Nat.lt_succ_self i)
def sp_wrong_tie : Sp := fun vs H Q _ => ∃ n t xs ps, vs = [.int n, .ref t] ∧ H t = some (.tup xs) ∧ Pairs H xs ps ∧ Good n ps ∧ ∀ H', Same H H' → Q .non H'
abbrev s_wrong_tie : Stmt := (top 13)
theorem sc_wrong_tie : FnScope ["size", "ties", "last", "at", "pair"] ["size", "ties"] (defScope s_wrong_tie) := ⟨rfl, rfl, rfl, by decide +kernel, rfl, by decide +kernel, by decide +kernel⟩

theorem lexLe_no {p q : Int × Int} (h : lt2 p q) : Ob.lexAt (fun j => decide ([q.1, q.2].getD j 0 = [p.1, p.2].getD j 0)) (fun j => decide ([q.1, q.2].getD j 0 ≤ [p.1, p.2].getD j 0)) (decide ([q.1, q.2].length ≤ [p.1, p.2].length)) 0 (min [q.1, q.2].length [p.1, p.2].length) = false := by
  show (if decide (q.1 = p.1) = true then (if decide (q.2 = p.2) = true then true else decide (q.2 ≤ p.2)) else decide (q.1 ≤ p.1)) = false
  unfold lt2 at h
  rcases h with h | ⟨h1, h2⟩
  · rw [if_neg (by simp; omega)]
    exact decide_eq_false (by omega)
  · rw [if_pos (by simp; omega), if_neg (by simp; omega)]
    exact decide_eq_false (by omega)
theorem ok_wrong_tie {f : Addr} {fd : FuncData} (F : Fun K "wrong_tie" "wrong_tie" s_wrong_tie f fd) (hm : mg "wrong_tie" = some (.ref f)) (B : Bl mg) (c_is_tie : Cal P w K mg base 3 "is_tie" ["size", "thing"] sp_is_tie) : Cal P w K mg base 4 "wrong_tie" ["size", "ties"] sp_wrong_tie := by
  refine ⟨f, fd, F.ok sc_wrong_tie (fun vs H Q E h => ?_) (fun cdv A outer s H vs Q E hr h => ?_), hm, F.kp, F.binds (ps := ["size", "ties"]) fun _ _ _ _ _ _ us hl => match us, hl with | [_, _], _ => rfl⟩
  · obtain ⟨n, t, xs, ps, rfl, _⟩ := h; rfl
  · obtain ⟨n, t, xs, ps, rfl, ht, hp, G, k⟩ := h
    refine ⟨_, (pss_cons (ps_set (i := 2) sc_wrong_tie.nd rfl (by first | exact Or.inl rfl | exact Or.inr rfl) (pe_tup pa_nil))
 (pss_cons (ps_for PassesOwn.never rfl (pi_enumT (by rfl) B.enumerate (pa_cons (pv 1) pa_nil)) (pg_tup (by rfl) (pgs_cons (pg_name (i := 3) sc_wrong_tie.nd rfl (by first | exact Or.inl rfl | exact Or.inr rfl)) (pgs_cons (pg_name (i := 4) sc_wrong_tie.nd rfl (by first | exact Or.inl rfl | exact Or.inr rfl)) pgs_nil)))
  (pss_cons (ps_if (PW.pt (pw_or (pt_not (pt_val (pe_cal c_is_tie (hr.mono (by first | decide | omega)) (pa_cons (pv 0) (pa_cons (pv 4) pa_nil))))) (pw_or1 (pt_cmpR (op_leT hr.units0) (pv 4) (pv 2) (nomark _))))) (pss_one (ps_ret (pv 3))) pss_nil)
 (pss_one (ps_set (i := 2) sc_wrong_tie.nd rfl (by first | exact Or.inl rfl | exact Or.inr rfl) (pv 4)))))
 (pss_one (ps_ret pe_non)))), ?_⟩
    refine ⟨Nat.zero_le _, fun z hz => ?_⟩
    refine ⟨_, rfl, t, xs, rfl, SqT.of ((Same.new hz) _ _ ht), for_it (walk_enumT (K := K) (a := t) (xs := xs)) (fun i σ H' => Same H H' ∧ ∃ (u v : Option V) (l : Addr) (ms : List Int), σ = [some (.int n), some (.ref t), some (.ref l), u, v] ∧ H' l = some (.tup (ms.map V.int)) ∧ (i = 0 → ms = []) ∧ ∀ j q, i = j + 1 → ps[j]? = some q → ms = [q.1, q.2])
      ⟨Same.new hz, none, none, z, [], rfl, upd_same, fun _ => rfl, fun j q e _ => by omega⟩ (fun i σ H' _ p => SqT.of (p.1 _ _ ht)) ?_ ?_⟩
    · rintro i y σ H1 H2 hi ⟨e1, u, v, l, ms, rfl, hl, m0, m1⟩ ⟨A1, y1, y2, rfl, hA, rfl, hy1, hy2⟩
      cases hy1
      obtain ⟨q, hq, a, rfl, hqa⟩ := Paired.get hp hy2
      have e2 : Same H1 (upd H1 A1 (.tup [.int (i : Nat), .ref a])) := Same.new hA
      have hqa2 := e2 _ _ (e1 _ _ hqa)
      refine ⟨A1, _, rfl, SqT.of upd_same, rfl, _, _, rfl, _, _, rfl, rfl, ?_⟩
      refine ⟨_, rfl, _, rfl, n, a, q, rfl, hqa2, _, rfl, ?_⟩
      rw [decide_eq_true (G.ok q (List.mem_of_getElem? hq))]
      refine iteF ?_
      refine ⟨_, rfl, _, rfl, a, l, [q.1, q.2], ms, rfl, rfl, SqT.of hqa2, SqT.of (e2 _ _ hl), ?_⟩
      have no : Ob.lexAt (fun j => decide ([q.1, q.2].getD j 0 = ms.getD j 0)) (fun j => decide ([q.1, q.2].getD j 0 ≤ ms.getD j 0)) (decide ([q.1, q.2].length ≤ ms.length)) 0 (min [q.1, q.2].length ms.length) = false := by
        cases i with
        | zero => rw [m0 rfl]; rfl
        | succ j =>
          have hj : j < ps.length := by
            have := (List.getElem?_eq_some_iff.mp hq).1
            omega
          rw [m1 j ps[j] rfl (List.getElem?_eq_getElem hj)]
          exact lexLe_no (G.le (List.getElem?_eq_getElem hj) hq)
      rw [no]
      refine ⟨_, rfl, iteF ?_⟩
      refine ⟨_, rfl, e1.trans e2, _, _, a, [q.1, q.2], rfl, hqa2, fun e => by omega, fun j q' e h' => ?_⟩
      have : j = i := by omega
      subst this
      rw [hq] at h'
      cases h'
      rfl
    · rintro σ H' ⟨e1, _⟩
      exact k _ e1
end
open PySem PySem.Spec L2
/-! ## ties as data -/
def pD (p : Int × Int) : PyData := .tuple [.int p.1, .int p.2]
theorem pD_lay (z : Int × Int) : (pD z).canLay0 = true := by simp [pD, PyData.canLay0, PyData.canLayAll0]
theorem pD_depth (z : Int × Int) : (pD z).depth = 1 := by simp [pD, PyData.depth, PyData.depthAll]
theorem pDs_lay : ∀ zs : List (Int × Int), PyData.canLayAll0 (zs.map pD) = true
  | [] => by simp [PyData.canLayAll0]
  | z :: zs => by simp [PyData.canLayAll0, pD_lay z, pDs_lay zs]
theorem pDs_depth : ∀ zs : List (Int × Int), PyData.depthAll (zs.map pD) ≤ 1
  | [] => by simp [PyData.depthAll]
  | z :: zs => by
    have h1 := pDs_depth zs
    have h2 := pD_depth z
    simp only [List.map_cons, PyData.depthAll]
    omega
theorem pD_shaped (z : Int × Int) : SeqAt.shaped (pD z) = true := by
  have h := pD_depth z
  show ((pD z).canLay0 && decide ((pD z).depth ≤ 64)) = true
  rw [Bool.and_eq_true]
  exact ⟨pD_lay z, decide_eq_true (by omega)⟩
theorem pDs_shaped (zs : List (Int × Int)) : SeqAt.shaped (.tuple (zs.map pD)) = true := by
  have h1 := pDs_depth zs
  have h2 : PyData.depth (.tuple (zs.map pD)) ≤ 64 := by
    simp only [PyData.depth]
    omega
  show (PyData.canLay0 (.tuple (zs.map pD)) && decide (PyData.depth (.tuple (zs.map pD)) ≤ 64)) = true
  rw [Bool.and_eq_true]
  exact ⟨by simp only [PyData.canLay0]; exact pDs_lay zs, decide_eq_true h2⟩
theorem pDs_shapedL (zs : List (Int × Int)) : SeqAt.shaped (.list (zs.map pD)) = true := by
  have h1 := pDs_depth zs
  have h2 : PyData.depth (.list (zs.map pD)) ≤ 64 := by
    simp only [PyData.depth]
    omega
  show (PyData.canLay0 (.list (zs.map pD)) && decide (PyData.depth (.list (zs.map pD)) ≤ 64)) = true
  rw [Bool.and_eq_true]
  exact ⟨by simp only [PyData.canLay0]; exact pDs_lay zs, decide_eq_true h2⟩
theorem pD_eqv (z w : Int × Int) : PyData.eqv (pD z) (pD w) = decide (z = w) := by
  obtain ⟨a, b⟩ := z
  obtain ⟨a', b'⟩ := w
  have e : PyData.eqv (pD (a, b)) (pD (a', b')) = ((a == a') && ((b == b') && true)) := by simp only [pD, PyData.eqv, PyData.eqvAll]
  rw [e]
  by_cases h : ((a, b) : Int × Int) = (a', b')
  · cases h; simp
  · rw [decide_eq_false h]
    by_cases h1 : a = a'
    · have q : (b == b') = false := beq_eq_false_iff_ne.mpr (fun h2 => h (by rw [h1, h2]))
      rw [q]; simp
    · have q : (a == a') = false := beq_eq_false_iff_ne.mpr h1
      rw [q]; simp
theorem pDs_eqv : ∀ ps qs : List (Int × Int), PyData.eqvAll (ps.map pD) (qs.map pD) = decide (ps = qs)
  | [], [] => by simp [PyData.eqvAll]
  | [], q :: qs => by simp [PyData.eqvAll]
  | p :: ps, [] => by simp [PyData.eqvAll]
  | p :: ps, q :: qs => by
    rw [List.map_cons, List.map_cons]
    simp only [PyData.eqvAll]
    rw [pD_eqv, pDs_eqv ps qs]
    by_cases h1 : p = q
    · by_cases h2 : ps = qs <;> simp [h1, h2]
    · simp [h1]
theorem pDt_eqv (ps qs : List (Int × Int)) : PyData.eqv (.tuple (ps.map pD)) (.tuple (qs.map pD)) = decide (ps = qs) := by
  simp only [PyData.eqv]
  exact pDs_eqv ps qs
section
variable {K : PySem.W.Frag} {H : Hp}
theorem dp_pair {v : V} {p : Int × Int} (h : PairAt H v p) : Dp K H v (pD p) := by
  obtain ⟨a, rfl, h2⟩ := h
  exact .tup (SqT.of h2) (.cons (.int _) (.cons (.int _) .nil))
theorem dp_pairs : ∀ {xs : List V} {ps : List (Int × Int)}, Pairs H xs ps → DpAll K H xs (ps.map pD)
  | _, _, .nil => .nil
  | _, _, .cons r t => .cons (dp_pair r) (dp_pairs t)
theorem dp_ties {t : Addr} {xs : List V} {ps : List (Int × Int)} (h : H t = some (.tup xs)) (hp : Pairs H xs ps) : Dp K H (.ref t) (.tuple (ps.map pD)) := .tup (SqT.of h) (dp_pairs hp)
theorem dp_list {t : Addr} {xs : List V} {ps : List (Int × Int)} (h : H t = some (.lst xs)) (hp : Pairs H xs ps) : Dp K H (.ref t) (.list (ps.map pD)) := .lst (SqL.of h) (dp_pairs hp)
end
/-! ## lists in order -/
theorem lt2_irr {p : Int × Int} : ¬ lt2 p p := by unfold lt2; omega
theorem lt2_trans {p q r : Int × Int} (h1 : lt2 p q) (h2 : lt2 q r) : lt2 p r := by unfold lt2 at *; omega
theorem lt2_of {p q : Int × Int} (h : le2 p q) (n : p ≠ q) : lt2 p q := by
  unfold le2 at h; unfold lt2
  rcases h with h | ⟨h1, h2⟩
  · exact .inl h
  · refine .inr ⟨h1, ?_⟩
    have : p.2 ≠ q.2 := fun e => n (Prod.ext h1 e)
    omega
theorem up_of {ps : List (Int × Int)} (h : ps.Pairwise le2) (n : ps.Nodup) : ps.Pairwise lt2 := by
  induction ps with
  | nil => exact .nil
  | cons p ps ih =>
    obtain ⟨h1, h2⟩ := List.pairwise_cons.mp h
    obtain ⟨n1, n2⟩ := List.nodup_cons.mp n
    refine List.pairwise_cons.mpr ⟨fun q hq => lt2_of (h1 q hq) (fun e => n1 (e ▸ hq)), ih h2 n2⟩
theorem up_ext : ∀ {ps qs : List (Int × Int)}, ps.Pairwise lt2 → qs.Pairwise lt2 → (∀ p, p ∈ ps ↔ p ∈ qs) → ps = qs
  | [], [], _, _, _ => rfl
  | [], q :: qs, _, _, h => by have := (h q).mpr (by simp); simp at this
  | p :: ps, [], _, _, h => by have := (h p).mp (by simp); simp at this
  | p :: ps, q :: qs, hp, hq, h => by
    obtain ⟨p1, p2⟩ := List.pairwise_cons.mp hp
    obtain ⟨q1, q2⟩ := List.pairwise_cons.mp hq
    have e : p = q := by
      rcases List.mem_cons.mp ((h p).mp (by simp)) with e | e
      · exact e
      · rcases List.mem_cons.mp ((h q).mpr (by simp)) with e' | e'
        · exact e'.symm
        · exact absurd (lt2_trans (q1 p e) (p1 q e')) lt2_irr
    subst e
    have : ps = qs := up_ext p2 q2 fun r => by
      constructor
      · intro hr
        rcases List.mem_cons.mp ((h r).mp (by simp [hr])) with e | e
        · subst e; exact absurd (p1 r hr) lt2_irr
        · exact e
      · intro hr
        rcases List.mem_cons.mp ((h r).mpr (by simp [hr])) with e | e
        · subst e; exact absurd (q1 r hr) lt2_irr
        · exact e
    rw [this]
theorem up_nodup {ps : List (Int × Int)} (h : ps.Pairwise lt2) : ps.Nodup := List.Pairwise.imp (fun {a b} (q : lt2 a b) => show a ≠ b from fun e => by subst e; exact lt2_irr q) h
def norm (a b : Int) : Int × Int := (if b < a then b else a, if b > a then b else a)
theorem norm_id {p : Int × Int} (h : p.1 < p.2) : norm p.1 p.2 = p := by
  unfold norm
  rw [if_neg (by omega), if_pos h]
section
variable {P : Program} {w : World} {K : PySem.W.Frag} {mg : Str → Option Value} {base : Heap} {C : Addr}
/-! ## Web -/
def wf (n : Int) (t : Addr) : List (Str × V) := putF "ties" (.ref t) (putF "size" (.int n) [])
theorem ts_ : ¬ (("ties" : Str) = "size") := by decide +kernel
theorem st_ : ¬ (("size" : Str) = "ties") := by decide +kernel
theorem wf_size (n : Int) (t : Addr) : (wf n t).lookup ("size" : Str) = some (.int n) := by
  unfold wf
  rw [lookup_putF, if_neg st_, lookup_putF, if_pos rfl]
theorem wf_ties (n : Int) (t : Addr) : (wf n t).lookup ("ties" : Str) = some (.ref t) := by
  unfold wf
  rw [lookup_putF, if_pos rfl]
theorem wf_len (n : Int) (t : Addr) : (wf n t).length = 2 := by
  show (if ("size" : Str) = "ties" then [(("size" : Str), V.ref t)] else (("size" : Str), V.int n) :: putF "ties" (V.ref t) []).length = 2
  rw [if_neg st_]
  rfl
def sp_Web_init (C : Addr) : Sp := fun vs H Q _ => ∃ x dx n t xs ps, vs = [.ref x, .int n, .ref t] ∧ H x = some (.ins C dx []) ∧ 1 ≤ n ∧ n ≤ 24 ∧ H t = some (.tup xs) ∧ Pairs H xs ps ∧ Good n ps ∧ ∀ H', ExT x H H' → H' x = some (.ins C dx (wf n t)) → Q .non H'
abbrev s_Web_init : Stmt := (inClass (top 11) 0)
theorem sc_Web_init : FnScope ["self", "size", "ties", "wrong"] ["self", "size", "ties"] (defScope s_Web_init) := ⟨rfl, rfl, rfl, by decide +kernel, rfl, by decide +kernel, by decide +kernel⟩

theorem ok_Web_init {f : Addr} {fd : FuncData} (F : Fun K "__init__" "Web.__init__" s_Web_init f fd) (B : Bl mg) (T : Txt K mg C) (c_is_number : Cal P w K mg base 2 "is_number" ["thing", "least", "most"] sp_is_number) (c_wrong_tie : Cal P w K mg base 4 "wrong_tie" ["size", "ties"] sp_wrong_tie) : FnOk P w K mg base CX0 5 f fd ["self", "size", "ties"] (sp_Web_init C) := by
  refine F.ok sc_Web_init (fun vs H Q E h => ?_) (fun cdv A outer s H vs Q E hr h => ?_)
  · obtain ⟨x, dx, n, t, xs, ps, rfl, _⟩ := h; rfl
  · obtain ⟨x, dx, n, t, xs, ps, rfl, hx, n1, n2, ht, hp, G, k⟩ := h
    obtain ⟨t24, h24⟩ := T.mg_MOST_PARTS
    refine ⟨_, (pss_cons (ps_if (pt_not (pt_val (pe_cal c_is_number (hr.mono (by first | decide | omega)) (pa_cons (pv 1) (pa_cons pe_int (pa_cons (pe_glob (v := .int 24) (by rfl) h24 ⟨_, rfl⟩) pa_nil)))))) (pss_one ps_never) pss_nil)
 (pss_cons (ps_if (pt_not (pt_val (pe_callB call_isi (by rfl) B.isinstance (by decide +kernel) (pa_cons (pv 2) (pa_cons (pe_bltn (v := .ty "tuple") (by rfl) B.tuple_ (by decide +kernel) rfl) pa_nil))))) (pss_one ps_never) pss_nil)
 (pss_cons (ps_set (i := 3) sc_Web_init.nd rfl (by first | exact Or.inl rfl | exact Or.inr rfl) (pe_cal c_wrong_tie (hr.mono (by first | decide | omega)) (pa_cons (pv 1) (pa_cons (pv 2) pa_nil))))
 (pss_cons (ps_if (pt_cmpR op_notN (pv 3) pe_non (nomark _)) (pss_one ps_never) pss_nil)
 (pss_cons (ps_fld (pv 0) (pv 1) rfl)
 (pss_one (ps_fld (pv 0) (pv 2) rfl))))))), ?_⟩
    refine ⟨_, rfl, n, 1, 24, rfl, _, rfl, ?_⟩
    rw [decide_eq_true (⟨n1, n2⟩ : 1 ≤ n ∧ n ≤ 24)]
    refine iteF ?_
    refine ⟨_, rfl, _, _, _, _, true, rfl, .ty "tuple", .base (.tup ht), kit_ty (by decide +kernel), true, rfl, iteF ?_⟩
    refine ⟨_, rfl, _, rfl, n, t, xs, ps, rfl, ht, hp, G, fun H1 e1 => ?_⟩
    refine ⟨_, rfl, rfl, _, rfl, iteF ?_⟩
    refine ⟨_, rfl, _, rfl, x, C, dx, [], rfl, e1 _ _ hx, T.cl, T.nSize, (by decide), ?_⟩
    refine ⟨_, rfl, _, rfl, x, C, dx, _, rfl, upd_same, T.cl, T.nTies, (by show 1 < 1000; decide), ?_⟩
    exact k _ (e1.exT.upd.upd) upd_same
/-- Web(size, ties) -/
theorem make_web {H : Hp} {n : Int} {t : Addr} {xs : List V} {ps : List (Int × Int)} {Q : Addr → Hp → Prop} (n1 : 1 ≤ n) (n2 : n ≤ 24) (ht : H t = some (.tup xs)) (hp : Pairs H xs ps) (G : Good n ps)
    (k : ∀ x H', Same H H' → H x = none → WebAt C H' x n t ps → (∃ dx, H' x = some (.ins C dx (wf n t))) → Q x H') :
    ∀ x dx, H x = none → H dx = none → dx ≠ x → sp_Web_init C (.ref x :: ([.int n, .ref t] ++ [])) (upd (upd H dx (.own x)) x (.ins C dx [])) (fun v H2 => v = .non ∧ Q x H2) E0 := by
  intro x dx nx nd ne
  have s0 : Same H (upd (upd H dx (.own x)) x (.ins C dx [])) := fun b o e => by
    rw [upd_ne (ne_of_none e nx), upd_ne (ne_of_none e nd)]
    exact e
  refine ⟨x, dx, n, t, xs, ps, rfl, upd_same, n1, n2, s0 _ _ ht, hp.tk s0.tk, G, fun H' e' h' => ⟨rfl, ?_⟩⟩
  have s1 : Same H H' := fun b o e => e' _ _ (ne_of_none e nx) (s0 _ _ e)
  exact k x H' s1 nx ⟨⟨dx, _, h', wf_size n t, wf_ties n t⟩, xs, s1 _ _ ht, hp.tk s1.tk⟩ ⟨dx, h'⟩
def sp_Web_eq (C : Addr) : Sp := fun vs H Q _ => ∃ a b n m t u ps qs, vs = [.ref a, .ref b] ∧ WebAt C H a n t ps ∧ WebAt C H b m u qs ∧ Q (.bl (decide (n = m ∧ ps = qs))) H
theorem kit_own {C : Addr} : PySem.W.kitOne K (.ref C) (.ref C) = some true := by
  unfold PySem.W.kitOne
  simp
abbrev s_Web_eq : Stmt := (inClass (top 11) 1)
theorem sc_Web_eq : FnScope ["self", "other"] ["self", "other"] (defScope s_Web_eq) := ⟨rfl, rfl, rfl, by decide +kernel, rfl, by decide +kernel, by decide +kernel⟩

theorem ok_Web_eq {f : Addr} {fd : FuncData} (F : Fun K "__eq__" "Web.__eq__" s_Web_eq f fd) (B : Bl mg) (T : Txt K mg C) : FnOk P w K mg base CX0 1 f fd ["self", "other"] (sp_Web_eq C) := by
  refine F.ok sc_Web_eq (fun vs H Q E h => ?_) (fun cdv A outer s H vs Q E hr h => ?_)
  · obtain ⟨a, b, n, m, t, u, ps, qs, rfl, _⟩ := h; rfl
  · obtain ⟨a, b, n, m, t, u, ps, qs, rfl, ⟨⟨dx, fs, h1, h2, h3⟩, xs, h4, h5⟩, ⟨⟨dy, gs, g1, g2, g3⟩, ys, g4, g5⟩, k⟩ := h
    refine ⟨_, (pss_one (ps_ret (pe_and (pe_callB call_isi (by rfl) B.isinstance (by decide +kernel) (pa_cons (pv 1) (pa_cons (pe_globR T.mg_Web) pa_nil))) (pe_and (pe_cmpR op_eq (pe_fld (pv 0) rfl) (pe_fld (pv 1) rfl) (nomark _)) (pe_one (pe_cmpR (op_eqD hr.units) (pe_fld (pv 0) rfl) (pe_fld (pv 1) rfl) (nomark _))))))), ?_⟩
    refine ⟨_, rfl, _, _, _, _, true, rfl, .own C, .base (.ins g1 T.cl T.xc T.xg T.xt T.xm), kit_own, true, rfl, iteT ?_⟩
    refine ⟨_, rfl, a, C, dx, fs, _, rfl, h1, T.cl, T.nSize, h2, _, rfl, b, C, dy, gs, _, rfl, g1, T.cl, T.nSize, g2, rfl, _, rfl, ?_⟩
    by_cases e : n = m
    · rw [if_pos (decide_eq_true (by rw [e]))]
      refine ⟨_, rfl, a, C, dx, fs, _, rfl, h1, T.cl, T.nTies, h3, _, rfl, b, C, dy, gs, _, rfl, g1, T.cl, T.nTies, g3, _, _, dp_ties h4 h5, dp_ties g4 g5, pDs_shaped ps, pDs_shaped qs, ?_⟩
      rw [pDt_eqv]
      have e2 : decide (n = m ∧ ps = qs) = decide (ps = qs) := by simp [e]
      rw [e2] at k
      exact k
    · rw [if_neg (by simpa using e)]
      have e2 : decide (n = m ∧ ps = qs) = false := decide_eq_false fun q => e q.1
      rw [e2] at k
      exact k
end
open PySem PySem.Spec L2
theorem paired_map {α β γ : Type} {F : α → γ → Prop} {g : β → γ} : ∀ {l : List α} {m : List β}, Paired (fun v a => F v (g a)) l m → Paired F l (m.map g)
  | _, _, .nil => .nil
  | _, _, .cons r t => .cons r (paired_map t)
theorem paired_eq {α : Type} {g : α → V} : ∀ {l : List V} {m : List α}, Paired (fun v a => v = g a) l m → l = m.map g
  | _, _, .nil => rfl
  | _, _, .cons r t => by rw [r, paired_eq t]; rfl
theorem filter_yes {α : Type} (l : List α) : l.filter (fun _ => true) = l := List.filter_eq_self.mpr fun _ _ => rfl
theorem paired_at {α : Type} {F : V → α → Prop} {xs : List V} {as : List α} {i : Nat} {x : V} {a : α} (h : Paired F xs as) (hx : xs[i]? = some x) (ha : as[i]? = some a) : F x a := by
  obtain ⟨b, hb, q⟩ := Paired.get h hx
  rw [ha] at hb
  cases hb
  exact q
section
variable {P : Program} {w : World} {K : PySem.W.Frag} {mg : Str → Option Value} {base : Heap} {C : Addr}
theorem inV_pair (k a b : Int) : inV (.int k) [.int a, .int b] = (a == k || b == k) := by
  simp [inV, eqV]
theorem norm_lt {a b : Int} (h : a ≠ b) : (norm a b).1 < (norm a b).2 := by
  unfold norm
  by_cases h1 : b < a
  · rw [if_pos h1, if_neg (by omega)]; exact h1
  · rw [if_neg h1, if_pos (by omega)]; show a < b; omega
theorem norm_in {a b n : Int} (h : a ≠ b) (a1 : 0 ≤ a) (a2 : a < n) (b1 : 0 ≤ b) (b2 : b < n) : 0 ≤ (norm a b).1 ∧ (norm a b).1 < (norm a b).2 ∧ (norm a b).2 < n := by
  unfold norm
  by_cases h1 : b < a
  · rw [if_pos h1, if_neg (by omega)]; exact ⟨b1, h1, a2⟩
  · rw [if_neg h1, if_pos (by omega)]; exact ⟨a1, by show a < b; omega, b2⟩
theorem map_norm {n : Int} {ps : List (Int × Int)} (h : ∀ p ∈ ps, p.1 < p.2) : (ps.map fun p => norm p.1 p.2) = ps := by
  induction ps with
  | nil => rfl
  | cons p ps ih => rw [List.map_cons, norm_id (h p (by simp)), ih fun q hq => h q (by simp [hq])]
theorem good_of {n : Int} {qs rs : List (Int × Int)} (hp : qs.Perm rs) (hl : qs.Pairwise le2) (hn : rs.Nodup) (ok : ∀ p ∈ rs, 0 ≤ p.1 ∧ p.1 < p.2 ∧ p.2 < n) : Good n qs :=
  ⟨fun p h => ok p (hp.mem_iff.mp h), up_of hl (hp.nodup_iff.mpr hn)⟩
end
open PySem PySem.Spec L2
theorem fm0 {a m : Int} (h : 0 < m) : 0 ≤ a.fmod m ∧ a.fmod m < m := by
  rw [Int.fmod_eq_emod_of_nonneg _ (Int.le_of_lt h)]
  exact ⟨Int.emod_nonneg _ (by omega), Int.emod_lt_of_pos _ h⟩
theorem on_if {c : Prop} [Decidable c] {A B : Hp → Prop} {H : Hp} (h1 : c → A H) (h2 : ¬ c → B H) : (fun (b : Bool) (H1 : Hp) => if b = true then A H1 else B H1) (decide c) H := by
  by_cases h : c
  · show (if decide c = true then A H else B H)
    rw [if_pos (decide_eq_true h)]; exact h1 h
  · show (if decide c = true then A H else B H)
    rw [if_neg (by simpa using h)]; exact h2 h
theorem on_ifN {c : Prop} [Decidable c] {A B : Hp → Prop} {H : Hp} (h1 : ¬ c → A H) (h2 : c → B H) : (fun (b : Bool) (H1 : Hp) => if b = true then A H1 else B H1) (!decide c) H := by
  by_cases h : c
  · show (if (!decide c) = true then A H else B H)
    rw [if_neg (by simpa using h)]; exact h2 h
  · show (if (!decide c) = true then A H else B H)
    rw [if_pos (by simpa using h)]; exact h1 h
section
variable {P : Program} {w : World} {K : PySem.W.Frag} {mg : Str → Option Value} {base : Heap} {C : Addr}
end
open PySem PySem.Spec L2
theorem seq_ix {r : Int} {n : Nat} (h0 : 0 ≤ r) (h1 : r < n) : seqIndex? r n = some r.toNat := by
  unfold seqIndex?
  simp [show ¬ r < 0 by omega, h0, h1]
theorem cons_erase {α : Type} : ∀ {l : List α} {i : Nat} (h : i < l.length), (l[i] :: l.eraseIdx i).Perm l
  | [], _, h => by simp at h
  | a :: l, 0, _ => .refl _
  | a :: l, i + 1, h => by
    have h' : i < l.length := by simpa using h
    exact (List.Perm.swap a l[i] _).trans ((cons_erase h').cons a)
theorem perm_sorted : ∀ {l m : List Int}, l.Perm m → l.Pairwise (· ≤ ·) → m.Pairwise (· < ·) → l = m := by
  intro l m hp hl hm
  have hm' : m.Pairwise (· ≤ ·) := hm.imp fun {a b} h => Int.le_of_lt h
  have key : ∀ {l m : List Int}, l.Perm m → l.Pairwise (· ≤ ·) → m.Pairwise (· ≤ ·) → l = m := by
    intro l
    induction l with
    | nil => intro m hp _ _; exact (List.nil_perm.mp hp).symm
    | cons a l ih =>
      intro m hp hl hm
      cases m with
      | nil => exact absurd hp.length_eq (by simp)
      | cons b m =>
        obtain ⟨l1, l2⟩ := List.pairwise_cons.mp hl
        obtain ⟨m1, m2⟩ := List.pairwise_cons.mp hm
        have e : a = b := by
          have h1 : a ∈ b :: m := hp.mem_iff.mp (by simp)
          have h2 : b ∈ a :: l := hp.mem_iff.mpr (by simp)
          rcases List.mem_cons.mp h1 with h1 | h1
          · exact h1
          · rcases List.mem_cons.mp h2 with h2 | h2
            · exact h2.symm
            · have := l1 b h2; have := m1 a h1; omega
        subst e
        rw [ih (List.Perm.cons_inv hp) l2 m2]
  exact key hp hl hm'
section
variable {P : Program} {w : World} {K : PySem.W.Frag} {mg : Str → Option Value} {base : Heap} {C : Addr}
end
open PySem PySem.Spec L2
theorem onb {c : Prop} [Decidable c] {A B : Prop} (h1 : c → A) (h2 : ¬ c → B) : if decide c = true then A else B := on_if (A := fun _ => A) (B := fun _ => B) (H := fun _ => none) h1 h2
theorem onbN {c : Prop} [Decidable c] {A B : Prop} (h1 : ¬ c → A) (h2 : c → B) : if (!decide c) = true then A else B := on_ifN (A := fun _ => A) (B := fun _ => B) (H := fun _ => none) h1 h2
def unI : V → Int
  | .int i => i
  | _ => 0
theorem ints_of : ∀ {ys : List V} {ns : List Int}, ys.Perm (ns.map V.int) → ys = (ys.map unI).map V.int ∧ (ys.map unI).Perm ns := by
  intro ys ns hp
  have h1 : ∀ y ∈ ys, V.int (unI y) = y := fun y hy => by
    obtain ⟨i, _, rfl⟩ := List.mem_map.mp (hp.mem_iff.mp hy)
    rfl
  refine ⟨?_, ?_⟩
  · rw [List.map_map]
    have : ys.map (V.int ∘ unI) = ys.map id := List.map_congr_left fun y hy => h1 y hy
    rw [this, List.map_id]
  · have h2 := hp.map unI
    rw [List.map_map] at h2
    have : ns.map (unI ∘ V.int) = ns.map id := List.map_congr_left fun y hy => rfl
    rw [this, List.map_id] at h2
    exact h2
/-- names: the numbers below n in some order -/
structure Names (n : Int) (ns : List Int) : Prop where
  len : (ns.length : Int) = n
  nd : ns.Nodup
  ok : ∀ x ∈ ns, 0 ≤ x ∧ x < n
theorem names_of {n : Int} {ns : List Int} (h0 : 0 ≤ n) (h : ns.Perm ((List.range (n - 0).toNat).map fun i => (0 : Int) + (i : Nat))) : Names n ns := by
  refine ⟨?_, ?_, fun x hx => ?_⟩
  · have := h.length_eq
    rw [List.length_map, List.length_range] at this
    omega
  · refine h.nodup_iff.mpr ?_
    refine List.pairwise_map.mpr (List.nodup_range.imp fun {a b} h e => h (by omega))
  · obtain ⟨i, hi, rfl⟩ := List.mem_map.mp (h.mem_iff.mp hx)
    have := List.mem_range.mp hi
    omega
theorem Names.at_ {n : Int} {ns : List Int} (N : Names n ns) {i : Nat} (h : (i : Int) < n) : ns[i]? = some (ns.getD i 0) ∧ 0 ≤ ns.getD i 0 ∧ ns.getD i 0 < n := by
  have hi : i < ns.length := by have := N.len; omega
  have e : ns[i]? = some ns[i] := List.getElem?_eq_getElem hi
  have e2 : ns.getD i 0 = ns[i] := by rw [List.getD_eq_getElem?_getD, e]; rfl
  rw [e2]
  exact ⟨e, N.ok _ (List.getElem_mem hi)⟩
theorem Names.inj {n : Int} {ns : List Int} (N : Names n ns) {i j : Nat} (hi : (i : Int) < n) (hj : (j : Int) < n) (e : ns.getD i 0 = ns.getD j 0) : i = j := by
  have h1 := (N.at_ hi).1
  have h2 := (N.at_ hj).1
  rw [e] at h1
  obtain ⟨a1, b1⟩ := List.getElem?_eq_some_iff.mp h1
  obtain ⟨a2, b2⟩ := List.getElem?_eq_some_iff.mp h2
  exact (List.getElem_inj N.nd).mp (b1.trans b2.symm)
theorem norm_eq {a b c d : Int} (hab : a ≠ b) (hcd : c ≠ d) (h : norm a b = norm c d) : (a = c ∧ b = d) ∨ (a = d ∧ b = c) := by
  unfold norm at h
  have h1 := congrArg Prod.fst h
  have h2 := congrArg Prod.snd h
  dsimp only at h1 h2
  by_cases x : b < a
  · rw [if_pos x, if_neg (show ¬ b > a by omega)] at *
    by_cases y : d < c
    · rw [if_pos y, if_neg (show ¬ d > c by omega)] at *; omega
    · rw [if_neg y, if_pos (show d > c by omega)] at *; omega
  · rw [if_neg x, if_pos (show b > a by omega)] at *
    by_cases y : d < c
    · rw [if_pos y, if_neg (show ¬ d > c by omega)] at *; omega
    · rw [if_neg y, if_pos (show d > c by omega)] at *; omega
/-- the ties so far: of the pairs of numbers ahead of (i, j) -/
structure Ps (ns : List Int) (i j : Nat) (ps : List (Int × Int)) : Prop where
  nd : ps.Nodup
  of : ∀ p ∈ ps, ∃ a b : Nat, b < a ∧ (a < i ∨ (a = i ∧ b < j)) ∧ p = norm (ns.getD a 0) (ns.getD b 0)
theorem Ps.zero {ns : List Int} : Ps ns 0 0 [] := ⟨.nil, fun p h => by simp at h⟩
theorem Ps.next {ns : List Int} {i : Nat} {ps : List (Int × Int)} (h : Ps ns i i ps) : Ps ns (i + 1) 0 ps :=
  ⟨h.nd, fun p hp => let ⟨a, b, h1, h2, h3⟩ := h.of p hp; ⟨a, b, h1, by omega, h3⟩⟩
theorem Ps.skip {ns : List Int} {i j : Nat} {ps : List (Int × Int)} (h : Ps ns i j ps) : Ps ns i (j + 1) ps :=
  ⟨h.nd, fun p hp => let ⟨a, b, h1, h2, h3⟩ := h.of p hp; ⟨a, b, h1, by omega, h3⟩⟩
theorem Ps.put {n : Int} {ns : List Int} (N : Names n ns) {i j : Nat} {ps : List (Int × Int)} (hi : (i : Int) < n) (hj : j < i) (h : Ps ns i j ps) : Ps ns i (j + 1) (ps ++ [norm (ns.getD i 0) (ns.getD j 0)]) := by
  refine ⟨List.nodup_append.mpr ⟨h.nd, by simp, fun q hq r hr e => ?_⟩, fun p hp => ?_⟩
  · simp at hr
    subst hr; subst e
    obtain ⟨a, b, h1, h2, h3⟩ := h.of _ hq
    have ne1 : ns.getD i 0 ≠ ns.getD j 0 := fun e => by have := N.inj hi (by omega) e; omega
    have ne2 : ns.getD a 0 ≠ ns.getD b 0 := fun e => by have := N.inj (i := a) (j := b) (by omega) (by omega) e; omega
    rcases norm_eq ne1 ne2 h3 with ⟨e1, e2⟩ | ⟨e1, e2⟩
    · have := N.inj hi (by omega) e1
      have := N.inj (i := j) (j := b) (by omega) (by omega) e2
      omega
    · have := N.inj hi (by omega) e1
      have := N.inj (i := j) (j := a) (by omega) (by omega) e2
      omega
  · rcases List.mem_append.mp hp with hp | hp
    · obtain ⟨a, b, h1, h2, h3⟩ := h.of p hp
      exact ⟨a, b, h1, by omega, h3⟩
    · simp at hp
      exact ⟨i, j, hj, by omega, hp⟩
theorem Ps.good {n : Int} {ns : List Int} (N : Names n ns) {ps qs : List (Int × Int)} {k : Nat} (hk : (k : Int) = n) (h : Ps ns k 0 ps) (hp : qs.Perm ps) (hl : qs.Pairwise le2) : Good n qs := by
  refine good_of hp hl h.nd fun p hp' => ?_
  obtain ⟨a, b, h1, h2, rfl⟩ := h.of p hp'
  have ha := N.at_ (i := a) (by omega)
  have hb := N.at_ (i := b) (by omega)
  exact norm_in (fun e => by have := N.inj (i := a) (j := b) (by omega) (by omega) e; omega) ha.2.1 ha.2.2 hb.2.1 hb.2.2
section
variable {P : Program} {w : World} {K : PySem.W.Frag} {mg : Str → Option Value} {base : Heap} {C : Addr}
end
open PySem PySem.Spec L2
theorem units65 {k : Nat} {A : Around} (r : Room k A) : A.units + 65 < cLine := by have := r.un; omega
def tIfC (t : TT) (x y : V) : TE := fun σ H Q => t σ H fun c H1 => Q (if c = true then x else y) H1
theorem pe_ifC {X : Cx} {c a b : Expr} {pos : Pos} {t : TT} {x y : V} (hc : PT X c t) (ha : PE X a (tC x)) (hb : PE X b (tC y)) : PE X (.IfExp c a b pos) (tIfC t x y) := by
  have h := pe_ifExp (pos := pos) hc ha hb
  have e : tIf t (tC x) (tC y) = tIfC t x y := by
    funext σ H Q
    show t σ H (fun c H1 => if c = true then Q x H1 else Q y H1) = t σ H (fun c H1 => Q (if c = true then x else y) H1)
    have : (fun (c : Bool) (H1 : Hp) => if c = true then Q x H1 else Q y H1) = (fun c H1 => Q (if c = true then x else y) H1) := by
      funext c H1
      cases c <;> simp
    rw [this]
  rw [← e]
  exact h
/-- how many ties there can be -/
theorem up_len : ∀ {l : List Int} {lo hi : Int}, l.Pairwise (· < ·) → (∀ x ∈ l, lo ≤ x ∧ x < hi) → (l.length : Int) ≤ hi - lo ∨ l = []
  | [], _, _, _, _ => .inr rfl
  | x :: l, lo, hi, h, hb => by
    obtain ⟨h1, h2⟩ := List.pairwise_cons.mp h
    have hx := hb x (by simp)
    rcases up_len (lo := x + 1) (hi := hi) h2 (fun y hy => ⟨by have := h1 y hy; omega, (hb y (by simp [hy])).2⟩) with ih | ih
    · left; rw [List.length_cons]; omega
    · subst ih; left; simp; omega
theorem Good.len {n : Int} {ps : List (Int × Int)} (G : Good n ps) (hn : n ≤ 24) : ps.length ≤ 1000 := by
  have h1 : (ps.map fun p => 24 * p.1 + p.2).Pairwise (· < ·) := by
    refine List.pairwise_map.mpr ?_
    have : ps.Pairwise fun p q => lt2 p q ∧ (p ∈ ps ∧ q ∈ ps) := List.Pairwise.imp_of_mem (fun {p q} hp hq h => ⟨h, hp, hq⟩) G.up
    refine this.imp fun {p q} ⟨h, hp, hq⟩ => ?_
    have a := G.ok p hp
    have b := G.ok q hq
    unfold lt2 at h
    omega
  rcases up_len (lo := 0) (hi := 1000) h1 (fun x hx => by
    obtain ⟨p, hp, rfl⟩ := List.mem_map.mp hx
    have a := G.ok p hp
    omega) with h | h
  · rw [List.length_map] at h; omega
  · have := congrArg List.length h
    rw [List.length_map] at this
    simp at this
    simp [this]
theorem norm_comm {a b : Int} (h : a ≠ b) : norm a b = norm b a := by
  unfold norm
  by_cases h1 : b < a
  · rw [if_pos h1, if_neg (by omega), if_neg (by omega), if_pos (by omega)]
  · rw [if_neg h1, if_pos (by omega), if_pos (by omega), if_neg (by omega)]
theorem inV_ints (k : Int) : ∀ l : List Int, inV (.int k) (l.map V.int) = decide (k ∈ l)
  | [] => by simp [inV]
  | a :: l => by
    have ih := inV_ints k l
    unfold inV at ih ⊢
    rw [List.map_cons, List.any_cons, ih]
    by_cases h1 : a = k
    · subst h1; simp [eqV]
    · have : ¬ k = a := fun e => h1 e.symm
      by_cases h2 : k ∈ l <;> simp [eqV, h1, this, h2]
theorem any_pairs (p : Int × Int) : ∀ l : List (Int × Int), ((l.map pD).any fun z => PyData.eqv z (pD p)) = decide (p ∈ l)
  | [] => by simp
  | a :: l => by
    rw [List.map_cons, List.any_cons, any_pairs p l, pD_eqv]
    by_cases h1 : a = p
    · subst h1; simp
    · have : ¬ p = a := fun e => h1 e.symm
      by_cases h2 : p ∈ l <;> simp [h1, this, h2]
theorem flat_ints : ∀ l : List Int, (l.map V.int).all flatV = true
  | [] => rfl
  | a :: l => by rw [List.map_cons, List.all_cons, flat_ints l]; rfl
/-- another part, some parts on -/
theorem other_ne {o r n : Int} (h1 : 0 ≤ o) (h2 : o < n) (h3 : 0 ≤ r) (h4 : r < n - 1) : 0 ≤ (o + 1 + r).fmod n ∧ (o + 1 + r).fmod n < n ∧ o ≠ (o + 1 + r).fmod n := by
  rw [Int.fmod_eq_emod_of_nonneg _ (by omega)]
  by_cases h : o + 1 + r < n
  · rw [Int.emod_eq_of_lt (by omega) h]; omega
  · have e : (o + 1 + r) % n = (o + 1 + r - n) % n := by
      have := Int.sub_emod_right (o + 1 + r) n
      exact this.symm
    rw [e, Int.emod_eq_of_lt (by omega) (by omega)]; omega
section
variable {P : Program} {w : World} {K : PySem.W.Frag} {mg : Str → Option Value} {base : Heap} {C : Addr}
end
open PySem PySem.Spec L2
/-! ## lots -/
structure Lot (n : Int) (l : List Int) : Prop where
  up : l.Pairwise (· < ·)
  ok : ∀ x ∈ l, 0 ≤ x ∧ x < n
theorem lot_len {n : Int} {l : List Int} (h : Lot n l) (h0 : 0 ≤ n) : (l.length : Int) ≤ n := by
  have key : ∀ {l : List Int} {lo hi : Int}, l.Pairwise (· < ·) → (∀ x ∈ l, lo ≤ x ∧ x < hi) → lo ≤ hi → (l.length : Int) ≤ hi - lo := by
    intro l
    induction l with
    | nil => intro lo hi _ _ h; simp; omega
    | cons x l ih =>
      intro lo hi h hb hle
      obtain ⟨h1, h2⟩ := List.pairwise_cons.mp h
      have hx := hb x (by simp)
      have := ih (lo := x + 1) (hi := hi) h2 (fun y hy => ⟨by have := h1 y hy; omega, (hb y (by simp [hy])).2⟩) (by omega)
      rw [List.length_cons]; omega
  have := key h.up h.ok h0
  omega
theorem ups_ext : ∀ {ps qs : List Int}, ps.Pairwise (· < ·) → qs.Pairwise (· < ·) → (∀ p, p ∈ ps ↔ p ∈ qs) → ps = qs
  | [], [], _, _, _ => rfl
  | [], q :: qs, _, _, h => by have := (h q).mpr (by simp); simp at this
  | p :: ps, [], _, _, h => by have := (h p).mp (by simp); simp at this
  | p :: ps, q :: qs, hp, hq, h => by
    obtain ⟨p1, p2⟩ := List.pairwise_cons.mp hp
    obtain ⟨q1, q2⟩ := List.pairwise_cons.mp hq
    have e : p = q := by
      rcases List.mem_cons.mp ((h p).mp (by simp)) with e | e
      · exact e
      · rcases List.mem_cons.mp ((h q).mpr (by simp)) with e' | e'
        · exact e'.symm
        · have := q1 p e; have := p1 q e'; omega
    subst e
    have : ps = qs := ups_ext p2 q2 fun r => by
      constructor
      · intro hr
        rcases List.mem_cons.mp ((h r).mp (by simp [hr])) with e | e
        · subst e; have := p1 r hr; omega
        · exact e
      · intro hr
        rcases List.mem_cons.mp ((h r).mpr (by simp [hr])) with e | e
        · subst e; have := q1 r hr; omega
        · exact e
    rw [this]
/-- a lot's bits -/
def IsLot (l : List Int) (b : Nat) : Prop := (∀ x ∈ l, 0 ≤ x) ∧ l.Pairwise (· < ·) ∧ ∀ k : Nat, (k : Int) ∈ l ↔ b.testBit k = true
def bitsN (l : List Int) : Nat := l.foldl (fun b p => b ||| 2 ^ p.toNat) 0
theorem bitsN_snoc (l : List Int) (p : Int) : bitsN (l ++ [p]) = bitsN l ||| 2 ^ p.toNat := by
  unfold bitsN
  rw [List.foldl_append]
  rfl
theorem bits_fold : ∀ (l : List Int) (b : Nat) (k : Nat), (∀ x ∈ l, 0 ≤ x) → (l.foldl (fun b p => b ||| 2 ^ p.toNat) b).testBit k = (b.testBit k || decide ((k : Int) ∈ l))
  | [], b, k, _ => by simp
  | p :: l, b, k, h => by
    rw [List.foldl_cons, bits_fold l _ k (fun x hx => h x (by simp [hx])), Nat.testBit_or, Nat.testBit_two_pow]
    have h0 := h p (by simp)
    by_cases c : p.toNat = k
    · have : (k : Int) = p := by omega
      simp [c, this]
    · have : ¬ (k : Int) = p := by omega
      simp [c, this]
theorem bitsN_bit {l : List Int} (h : ∀ x ∈ l, 0 ≤ x) (k : Nat) : (bitsN l).testBit k = decide ((k : Int) ∈ l) := by
  unfold bitsN
  rw [bits_fold l 0 k h]
  simp
theorem isLot_bits {n : Int} {l : List Int} (h : Lot n l) : IsLot l (bitsN l) :=
  ⟨fun x hx => (h.ok x hx).1, h.up, fun k => by rw [bitsN_bit fun x hx => (h.ok x hx).1]; simp⟩
theorem take_snoc {α : Type} {l : List α} {i : Nat} {x : α} (h : l[i]? = some x) : l.take (i + 1) = l.take i ++ [x] := by
  rw [List.take_succ, h]; rfl
theorem map_get {l : List Int} {i : Nat} {v : V} (h : (l.map V.int)[i]? = some v) : ∃ x, l[i]? = some x ∧ v = .int x := by
  rw [List.getElem?_map] at h
  cases e : l[i]? with
  | none => rw [e] at h; cases h
  | some x => rw [e] at h; exact ⟨x, rfl, (Option.some.inj h).symm⟩
theorem p2 (k : Nat) : (1 : Int) * 2 ^ ((k : Int)).toNat = ((2 ^ k : Nat) : Int) := by
  rw [Int.toNat_natCast, Int.one_mul, Int.natCast_pow]; rfl
theorem p2i {p : Int} (h : 0 ≤ p) : (1 : Int) * 2 ^ p.toNat = ((2 ^ p.toNat : Nat) : Int) := by
  rw [Int.one_mul, Int.natCast_pow]; rfl
section
variable {P : Program} {w : World} {K : PySem.W.Frag} {mg : Str → Option Value} {base : Heap} {C : Addr}
def sp_is_lot (C : Addr) : Sp := fun vs H Q _ => ∃ x n u ps t l, vs = [.ref x, .ref t] ∧ WebAt C H x n u ps ∧ H t = some (.tup (l.map V.int)) ∧ Lot n l ∧ Q (.bl true) H
def sp_is_lot_below : Sp := fun vs H Q _ => ∃ n t l, vs = [.int n, .ref t] ∧ H t = some (.tup (l.map V.int)) ∧ Lot n l ∧ Q (.bl true) H
abbrev s_is_lot_below : Stmt := (top 7)
theorem sc_is_lot_below : FnScope ["size", "thing", "last", "part"] ["size", "thing"] (defScope s_is_lot_below) := ⟨rfl, rfl, rfl, by decide +kernel, rfl, by decide +kernel, by decide +kernel⟩

theorem ok_is_lot_below {f : Addr} {fd : FuncData} (F : Fun K "is_lot_below" "is_lot_below" s_is_lot_below f fd) (hm : mg "is_lot_below" = some (.ref f)) (B : Bl mg) (c_is_number : Cal P w K mg base 2 "is_number" ["thing", "least", "most"] sp_is_number) : Cal P w K mg base 3 "is_lot_below" ["size", "thing"] sp_is_lot_below := by
  refine ⟨f, fd, F.ok sc_is_lot_below (fun vs H Q E h => ?_) (fun cdv A outer s H vs Q E hr h => ?_), hm, F.kp, F.binds (ps := ["size", "thing"]) fun _ _ _ _ _ _ us hl => match us, hl with | [_, _], _ => rfl⟩
  · obtain ⟨n, t, l, rfl, _⟩ := h; rfl
  · obtain ⟨n, t, l, rfl, ht, hl, k⟩ := h
    refine ⟨_, (pss_cons (ps_if (pt_not (pt_val (pe_callB call_isi (by rfl) B.isinstance (by decide +kernel) (pa_cons (pv 1) (pa_cons (pe_bltn (v := .ty "tuple") (by rfl) B.tuple_ (by decide +kernel) rfl) pa_nil))))) (pss_one (ps_ret pe_bl)) pss_nil)
 (pss_cons (ps_set (i := 2) sc_is_lot_below.nd rfl (by first | exact Or.inl rfl | exact Or.inr rfl) (pe_un un_neg pe_int))
 (pss_cons (ps_for PassesOwn.never rfl (pi_tup (pv 1)) (pg_name (i := 3) sc_is_lot_below.nd rfl (by first | exact Or.inl rfl | exact Or.inr rfl))
  (pss_cons (ps_if (pt_not (pt_val (pe_cal c_is_number (hr.mono (by first | decide | omega)) (pa_cons (pv 3) (pa_cons (pe_op op_add (pv 2) pe_int) (pa_cons (pe_op op_sub (pv 0) pe_int) pa_nil)))))) (pss_one (ps_ret pe_bl)) pss_nil)
 (pss_one (ps_set (i := 2) sc_is_lot_below.nd rfl (by first | exact Or.inl rfl | exact Or.inr rfl) (pv 3)))))
 (pss_one (ps_ret pe_bl))))), ?_⟩
    refine ⟨_, rfl, _, _, _, _, true, rfl, .ty "tuple", .base (.tup ht), kit_ty (by decide +kernel), true, rfl, iteF ?_⟩
    refine ⟨_, rfl, ?_⟩
    refine ⟨_, rfl, t, rfl, ⟨_, SqT.of ht⟩, for_tup (K := K) (a := t) (xs := l.map V.int) (fun i σ H' => H' = H ∧ ∃ (z : Int) (v : Option V), σ = [some (.int n), some (.ref t), some (.int z), v] ∧ (i = 0 → z = -1) ∧ ∀ j y, i = j + 1 → l[j]? = some y → z = y)
      ⟨rfl, -1, none, rfl, fun _ => rfl, fun j y e _ => by omega⟩ (fun i σ H' _ p => by rw [p.1]; exact SqT.of ht) ?_ ?_⟩
    · rintro i v σ H' hv ⟨rfl, z, u', rfl, z0, z1⟩
      obtain ⟨y, hy, rfl⟩ := map_get hv
      have hy2 := hl.ok y (List.mem_of_getElem? hy)
      have hz : z < y := by
        cases i with
        | zero => rw [z0 rfl]; omega
        | succ j =>
          have hj : j < l.length := by have := (List.getElem?_eq_some_iff.mp hy).1; omega
          rw [z1 j l[j] rfl (List.getElem?_eq_getElem hj)]
          obtain ⟨h2, e2⟩ := List.getElem?_eq_some_iff.mp hy
          have := List.pairwise_iff_getElem.mp hl.up j (j + 1) hj h2 (Nat.lt_succ_self j)
          omega
      refine ⟨_, rfl, _, rfl, _, _, rfl, rfl, _, rfl, _, _, rfl, rfl, y, z + 1, n - 1, rfl, _, rfl, ?_⟩
      rw [decide_eq_true (show z + 1 ≤ y ∧ y ≤ n - 1 by omega)]
      refine iteF ?_
      refine ⟨_, rfl, rfl, y, _, rfl, fun e => by omega, fun j q e h' => ?_⟩
      have : j = i := by omega
      subst this
      rw [hy] at h'
      cases h'
      rfl
    · rintro σ H' ⟨rfl, _⟩
      exact k
def sp_check_stand (C : Addr) : Sp := fun vs H Q _ => ∃ x n u ps t l, vs = [.ref x, .ref t] ∧ WebAt C H x n u ps ∧ H t = some (.tup (l.map V.int)) ∧ Lot n l ∧ Q .non H
def sp_bits_of : Sp := fun vs H Q _ => ∃ t l, vs = [.ref t] ∧ H t = some (.tup (l.map V.int)) ∧ (∀ x ∈ l, 0 ≤ x ∧ x ≤ 1000) ∧ Q (.int (bitsN l : Nat)) H
def sp_lot_of : Sp := fun vs H Q _ => ∃ b : Nat, vs = [.int (b : Int)] ∧ b < 2 ^ 200 ∧ ∀ p l H', Same H H' → H p = none → H' p = some (.tup (l.map V.int)) → IsLot l b → Q (.ref p) H'
end
open PySem PySem.Spec L2
theorem dec_or {p a b : Prop} [Decidable p] [Decidable a] [Decidable b] (h : p ↔ a ∨ b) : decide p = (decide a || decide b) := by
  by_cases ha : a <;> by_cases hb : b <;> simp [h, ha, hb]
theorem dec_iff {p a : Prop} [Decidable p] [Decidable a] (h : p ↔ a) : decide p = decide a := by
  by_cases ha : a <;> simp [h, ha]
def nints (ts : List Nat) : List V := ts.map fun b : Nat => V.int (b : Int)
/-- the bits of what each part is tied to -/
structure Tied (n : Int) (ps : List (Int × Int)) (ts : List Nat) : Prop where
  len : (ts.length : Int) = n
  bit : ∀ i k : Nat, i < ts.length → (ts.getD i 0).testBit k = decide (norm (i : Int) (k : Int) ∈ ps)
theorem nints_get {ts : List Nat} {i : Nat} (h : i < ts.length) : (nints ts)[i]? = some (.int (ts.getD i 0 : Nat)) := by
  unfold nints
  rw [List.getElem?_map, List.getElem?_eq_getElem h, List.getD_eq_getElem?_getD, List.getElem?_eq_getElem h]
  rfl
theorem nints_len (ts : List Nat) : (nints ts).length = ts.length := List.length_map ..
theorem nints_set (ts : List Nat) (i b : Nat) : (nints ts).set i (.int (b : Int)) = nints (ts.set i b) := by
  unfold nints
  rw [List.map_set]
theorem getD_set (ts : List Nat) (i j b : Nat) (h : i < ts.length) : (ts.set i b).getD j 0 = if i = j then b else ts.getD j 0 := by
  rw [List.getD_eq_getElem?_getD, List.getD_eq_getElem?_getD, List.getElem?_set]
  by_cases c : i = j
  · subst c; simp [h]
  · simp [c]
theorem flat_rep (v : V) : ∀ n : Nat, (List.replicate n [v]).flatten = List.replicate n v
  | 0 => rfl
  | n + 1 => by rw [List.replicate_succ, List.flatten_cons, flat_rep v n]; rfl
theorem norm_pair {a b c d : Int} (hab : a < b) : norm c d = (a, b) ↔ (c = a ∧ d = b) ∨ (c = b ∧ d = a) := by
  unfold norm
  constructor
  · intro h
    have h1 := congrArg Prod.fst h
    have h2 := congrArg Prod.snd h
    dsimp only at h1 h2
    by_cases x : d < c
    · rw [if_pos x] at h1; rw [if_neg (show ¬ d > c by omega)] at h2; omega
    · rw [if_neg x] at h1
      by_cases y : d > c
      · rw [if_pos y] at h2; omega
      · rw [if_neg y] at h2; omega
  · rintro (⟨rfl, rfl⟩ | ⟨rfl, rfl⟩)
    · rw [if_neg (by omega), if_pos (by omega)]
    · rw [if_pos (by omega), if_neg (by omega)]
/-- what a part tells -/
def says (ps : List (Int × Int)) (l : List Int) (p : Int) : Bool := l.all fun q => !decide (norm p q ∈ ps)
theorem says_iff {ps : List (Int × Int)} {l : List Int} {p : Int} : says ps l p = true ↔ ∀ q ∈ l, norm p q ∉ ps := by
  unfold says
  rw [List.all_eq_true]
  constructor
  · intro h q hq; simpa using h q hq
  · intro h q hq; simpa using h q hq
/-- tied to none of the stand, by bits -/
theorem says_bits {n : Int} {ps : List (Int × Int)} {ts : List Nat} {l : List Int} {b : Nat} (T : Tied n ps ts) (hb : IsLot l b) {p : Int} (h0 : 0 ≤ p) (h1 : p < n) : decide ((ts.getD p.toNat 0 &&& b) = 0) = says ps l p := by
  have hlt : p.toNat < ts.length := by have := T.len; omega
  have hp : ((p.toNat : Nat) : Int) = p := Int.toNat_of_nonneg h0
  have bit : ∀ k : Nat, (ts.getD p.toNat 0 &&& b).testBit k = (decide (norm p (k : Int) ∈ ps) && decide ((k : Int) ∈ l)) := fun k => by
    rw [Nat.testBit_and, T.bit _ _ hlt, hp]
    have := hb.2.2 k
    cases hc : b.testBit k with
    | true => simp [this.mpr hc]
    | false =>
      have : ¬ (k : Int) ∈ l := fun h => by rw [this.mp h] at hc; cases hc
      simp [this]
  by_cases c : says ps l p = true
  · rw [c]
    refine decide_eq_true (Nat.eq_of_testBit_eq fun k => ?_)
    rw [bit]
    by_cases d : (k : Int) ∈ l
    · have := says_iff.mp c _ d; simp [this]
    · simp [d]
  · rw [eq_false_of_ne_true c]
    refine decide_eq_false fun e => c (says_iff.mpr fun q hq hm => ?_)
    have hq0 := hb.1 q hq
    have := bit q.toNat
    rw [e, Int.toNat_of_nonneg hq0] at this
    simp [hm, hq] at this
/-- the stand behind a call -/
def Behind (n : Int) (ps : List (Int × Int)) (l : List Int) (p : Int) (l' : List Int) : Prop :=
  Lot n l' ∧ ∀ x, x ∈ l' ↔ (if says ps l p = true then x ∈ l ∨ x = p else x ∈ l ∧ x ≠ p)
theorem Behind.uniq {n : Int} {ps : List (Int × Int)} {l l1 l2 : List Int} {p : Int} (h1 : Behind n ps l p l1) (h2 : Behind n ps l p l2) : l1 = l2 :=
  ups_ext h1.1.up h2.1.up fun x => by rw [h1.2, h2.2]
def behB (ps : List (Int × Int)) (l : List Int) (b : Nat) (p : Int) : Nat := if says ps l p = true then b ||| 2 ^ p.toNat else clr b p.toNat
theorem behind_bits {n : Int} {ps : List (Int × Int)} {l l' : List Int} {b : Nat} {p : Int} (hl : Lot n l) (hb : IsLot l b) (h0 : 0 ≤ p) (h1 : p < n) (h' : IsLot l' (behB ps l b p)) : Behind n ps l p l' := by
  have key : ∀ x, x ∈ l' ↔ (if says ps l p = true then x ∈ l ∨ x = p else x ∈ l ∧ x ≠ p) := fun x => by
    by_cases x0 : 0 ≤ x
    · have e : ((x.toNat : Nat) : Int) = x := Int.toNat_of_nonneg x0
      have h2 := h'.2.2 x.toNat
      have h3 := hb.2.2 x.toNat
      rw [e] at h2 h3
      rw [h2]
      unfold behB
      by_cases c : says ps l p = true
      · rw [if_pos c, if_pos c, Nat.testBit_or, Nat.testBit_two_pow, h3]
        have : p.toNat = x.toNat ↔ x = p := by omega
        simp [this]
      · rw [if_neg c, if_neg c, clr_bit, h3]
        have : x.toNat = p.toNat ↔ x = p := by omega
        simp [this]
    · have a1 : ¬ x ∈ l' := fun h => x0 (h'.1 x h)
      have a2 : ¬ x ∈ l := fun h => x0 (hb.1 x h)
      have a3 : ¬ x = p := fun h => x0 (h ▸ h0)
      by_cases c : says ps l p = true <;> simp [c, a1, a2, a3]
  refine ⟨⟨h'.2.1, fun x hx => ?_⟩, key⟩
  have h2 := (key x).mp hx
  by_cases c : says ps l p = true
  · rw [if_pos c] at h2
    rcases h2 with h2 | rfl
    · exact hl.ok x h2
    · exact ⟨h0, h1⟩
  · rw [if_neg c] at h2
    exact hl.ok x h2.1
theorem bits_small {n : Int} {l : List Int} (hl : Lot n l) (hn : n ≤ 200) : bitsN l < 2 ^ 200 := by
  apply Nat.lt_pow_two_of_testBit
  intro k hk
  rw [bitsN_bit fun x hx => (hl.ok x hx).1]
  refine decide_eq_false fun h => ?_
  have := hl.ok _ h
  omega
theorem behB_small {ps : List (Int × Int)} {l : List Int} {b : Nat} {p : Int} (hb : b < 2 ^ 200) (h0 : 0 ≤ p) (h1 : p < 200) : behB ps l b p < 2 ^ 200 := by
  unfold behB
  by_cases c : says ps l p = true
  · rw [if_pos c]
    exact Nat.or_lt_two_pow hb (Nat.pow_lt_pow_right (by decide) (by omega))
  · rw [if_neg c]
    unfold clr
    omega
section
variable {P : Program} {w : World} {K : PySem.W.Frag} {mg : Str → Option Value} {base : Heap} {C : Addr}
def sp_tied_bits (C : Addr) : Sp := fun vs H Q _ => ∃ x n u ps, vs = [.ref x] ∧ WebAt C H x n u ps ∧ Good n ps ∧ 1 ≤ n ∧ n ≤ 200 ∧ ∀ p ts H', Same H H' → H p = none → H' p = some (.lst (nints ts)) → Tied n ps ts → Q (.ref p) H'
def sp_told_by : Sp := fun vs H Q _ => ∃ t ts b p, vs = [.ref t, .int (b : Nat), .int p] ∧ H t = some (.lst (nints ts)) ∧ 0 ≤ p ∧ p < ts.length ∧ Q (.bl (decide ((ts.getD p.toNat 0 &&& b) = 0))) H
def sp_behind_call : Sp := fun vs H Q _ => ∃ t ts b p, vs = [.ref t, .int (b : Nat), .int p] ∧ H t = some (.lst (nints ts)) ∧ 0 ≤ p ∧ p < ts.length ∧ p ≤ 200 ∧ Q (.int ((if decide ((ts.getD p.toNat 0 &&& b) = 0) = true then b ||| 2 ^ p.toNat else clr b p.toNat : Nat) : Int)) H
end
section
variable {P : Program} {w : World} {K : PySem.W.Frag} {mg : Str → Option Value} {base : Heap} {C : Addr}
theorem iD_lay : ∀ zs : List Int, PyData.canLayAll0 (zs.map PyData.int) = true
  | [] => by simp [PyData.canLayAll0]
  | z :: zs => by simp [PyData.canLayAll0, PyData.canLay0, iD_lay zs]
theorem iD_depth : ∀ zs : List Int, PyData.depthAll (zs.map PyData.int) = 0
  | [] => by simp [PyData.depthAll]
  | z :: zs => by simp [PyData.depthAll, PyData.depth, iD_depth zs]
theorem iD_shaped (zs : List Int) : SeqAt.shaped (.tuple (zs.map PyData.int)) = true := by
  have h1 := iD_depth zs
  have h2 : PyData.depth (.tuple (zs.map PyData.int)) ≤ 64 := by
    simp only [PyData.depth]
    omega
  show (PyData.canLay0 (.tuple (zs.map PyData.int)) && decide (PyData.depth (.tuple (zs.map PyData.int)) ≤ 64)) = true
  rw [Bool.and_eq_true]
  exact ⟨by simp only [PyData.canLay0]; exact iD_lay zs, decide_eq_true h2⟩
theorem iDs_eqv : ∀ ps qs : List Int, PyData.eqvAll (ps.map PyData.int) (qs.map PyData.int) = decide (ps = qs)
  | [], [] => by simp [PyData.eqvAll]
  | [], q :: qs => by simp [PyData.eqvAll]
  | p :: ps, [] => by simp [PyData.eqvAll]
  | p :: ps, q :: qs => by
    rw [List.map_cons, List.map_cons]
    simp only [PyData.eqvAll, PyData.eqv]
    rw [iDs_eqv ps qs]
    by_cases h1 : p = q
    · by_cases h2 : ps = qs <;> simp [h1, h2]
    · simp [h1]
theorem iD_eqv (ps qs : List Int) : PyData.eqv (.tuple (ps.map PyData.int)) (.tuple (qs.map PyData.int)) = decide (ps = qs) := by
  simp only [PyData.eqv]
  exact iDs_eqv ps qs
theorem dp_ints {K : PySem.W.Frag} {H : Hp} : ∀ l : List Int, DpAll K H (l.map V.int) (l.map PyData.int)
  | [] => .nil
  | a :: l => .cons (.int a) (dp_ints l)
theorem dp_lot {K : PySem.W.Frag} {H : Hp} {t : Addr} {l : List Int} (h : H t = some (.tup (l.map V.int))) : Dp K H (.ref t) (.tuple (l.map PyData.int)) := .tup (SqT.of h) (dp_ints l)
theorem says_off {n : Int} {ps : List (Int × Int)} (G : Good n ps) {l l' : List Int} {p q : Int} (hpq : norm p q ∉ ps) (h : ∀ x, x ≠ q → (x ∈ l ↔ x ∈ l')) : says ps l p = says ps l' p := by
  rw [Bool.eq_iff_iff, says_iff, says_iff]
  constructor
  · intro a x hx
    by_cases c : x = q
    · subst c; exact hpq
    · exact a x ((h x c).mpr hx)
  · intro a x hx
    by_cases c : x = q
    · subst c; exact hpq
    · exact a x ((h x c).mp hx)
theorem norm_self {n : Int} {ps : List (Int × Int)} (G : Good n ps) (p : Int) : norm p p ∉ ps := fun h => by
  have := (G.ok _ h).2.1
  unfold norm at this
  simp at this
theorem Behind.off {n : Int} {ps : List (Int × Int)} {l l' : List Int} {p : Int} (h : Behind n ps l p l') : ∀ x, x ≠ p → (x ∈ l ↔ x ∈ l') := fun x hx => by
  rw [h.2]
  by_cases c : says ps l p = true <;> simp [c, hx]
/-- twice is once -/
theorem Behind.twice {n : Int} {ps : List (Int × Int)} (G : Good n ps) {l l1 l2 : List Int} {p : Int} (h1 : Behind n ps l p l1) (h2 : Behind n ps l1 p l2) : l2 = l1 := by
  have e : says ps l1 p = says ps l p := (says_off G (norm_self G p) h1.off).symm
  refine ups_ext h2.1.up h1.1.up fun x => ?_
  rw [h2.2, h1.2, e]
  by_cases c : says ps l p = true
  · simp only [c, if_pos]
    by_cases d : x = p <;> simp [d]
  · simp only [c, if_neg]
    by_cases d : x = p <;> simp [d]
/-- parts that are not tied can be called in either order -/
theorem Behind.swap {n : Int} {ps : List (Int × Int)} (G : Good n ps) {l la lb lab lba : List Int} {a b : Int} (hn : norm a b ∉ ps) (ha : Behind n ps l a la) (hab : Behind n ps la b lab) (hb : Behind n ps l b lb) (hba : Behind n ps lb a lba) : lab = lba := by
  have hn' : norm b a ∉ ps := by
    by_cases c : a = b
    · subst c; exact hn
    · rw [← norm_comm c]; exact hn
  have e1 : says ps la b = says ps l b := (says_off G hn' ha.off).symm
  have e2 : says ps lb a = says ps l a := (says_off G hn hb.off).symm
  refine ups_ext hab.1.up hba.1.up fun x => ?_
  rw [hab.2, hba.2, e1, e2, ha.2, hb.2]
  by_cases c1 : says ps l a = true <;> by_cases c2 : says ps l b = true <;> simp only [c1, c2, if_true, if_false, Bool.false_eq_true, if_pos, if_neg]
  · constructor
    · rintro ((h | h) | h)
      · exact .inl (.inl h)
      · exact .inr h
      · exact .inl (.inr h)
    · rintro ((h | h) | h)
      · exact .inl (.inl h)
      · exact .inr h
      · exact .inl (.inr h)
  · by_cases ab : a = b
    · subst ab; exact absurd c1 c2
    · constructor
      · rintro ⟨h | h, h'⟩
        · exact .inl ⟨h, h'⟩
        · exact .inr h
      · rintro (⟨h, h'⟩ | h)
        · exact ⟨.inl h, h'⟩
        · exact ⟨.inr h, by rw [h]; exact ab⟩
  · by_cases ab : a = b
    · subst ab; exact absurd c2 c1
    · constructor
      · rintro (⟨h, h'⟩ | h)
        · exact ⟨.inl h, h'⟩
        · exact ⟨.inr h, by rw [h]; exact fun e => ab e.symm⟩
      · rintro ⟨h | h, h'⟩
        · exact .inl ⟨h, h'⟩
        · exact .inr h
  · constructor
    · rintro ⟨⟨h, h1⟩, h2⟩; exact ⟨⟨h, h2⟩, h1⟩
    · rintro ⟨⟨h, h1⟩, h2⟩; exact ⟨⟨h, h2⟩, h1⟩
theorem Behind.same_iff {n : Int} {ps : List (Int × Int)} {l l' : List Int} {p : Int} (hl : Lot n l) (h : Behind n ps l p l') : l' = l ↔ says ps l p = decide (p ∈ l) := by
  constructor
  · intro e
    have := h.2 p
    rw [e] at this
    by_cases c : says ps l p = true
    · rw [c]; rw [c] at this; simp at this; simp [this]
    · rw [eq_false_of_ne_true c]; rw [eq_false_of_ne_true c] at this; simp at this; simp [this]
  · intro e
    refine ups_ext h.1.up hl.up fun x => ?_
    rw [h.2, e]
    by_cases c : p ∈ l
    · simp only [c, decide_true, if_true]
      constructor
      · rintro (h | rfl)
        · exact h
        · exact c
      · exact .inl
    · simp only [c, decide_false, Bool.false_eq_true, if_false]
      constructor
      · exact fun h => h.1
      · exact fun h => ⟨h, fun e => c (e ▸ h)⟩
def bc (ts : List Nat) (b i : Nat) : Nat := if decide ((ts.getD i 0 &&& b) = 0) = true then b ||| 2 ^ i else clr b i
def chgB (ts : List Nat) (b : Nat) : List Int := ((List.range ts.length).filter fun i => !decide (bc ts b i = b)).map fun i : Nat => (i : Int)
/-- the parts whose call changes the stand -/
def chg (n : Int) (ps : List (Int × Int)) (l : List Int) : List Int := ((List.range n.toNat).filter fun i : Nat => says ps l (i : Int) != decide ((i : Int) ∈ l)).map fun i : Nat => (i : Int)
theorem or_same (b i : Nat) : b ||| 2 ^ i = b ↔ b.testBit i = true := by
  constructor
  · intro h
    have := congrArg (fun x => Nat.testBit x i) h
    simp only [Nat.testBit_or, Nat.testBit_two_pow] at this
    simpa using this.symm
  · intro h
    apply Nat.eq_of_testBit_eq
    intro j
    rw [Nat.testBit_or, Nat.testBit_two_pow]
    by_cases c : i = j
    · subst c; simp [h]
    · simp [c]
theorem clr_same (b i : Nat) : clr b i = b ↔ b.testBit i = false := by
  constructor
  · intro h
    have := congrArg (fun x => Nat.testBit x i) h
    simp only [clr_bit] at this
    simpa using this.symm
  · intro h
    apply Nat.eq_of_testBit_eq
    intro j
    rw [clr_bit]
    by_cases c : j = i
    · subst c; simp [h]
    · simp [c]
theorem chg_eq {n : Int} {ps : List (Int × Int)} {ts : List Nat} {l : List Int} {b : Nat} (T : Tied n ps ts) (hb : IsLot l b) : chgB ts b = chg n ps l := by
  unfold chgB chg
  have e : ts.length = n.toNat := by have := T.len; omega
  rw [e]
  congr 1
  refine List.filter_congr fun i hi => ?_
  have hi' := List.mem_range.mp hi
  have hs := says_bits T hb (p := (i : Int)) (by omega) (by omega)
  rw [Int.toNat_natCast] at hs
  unfold bc
  rw [hs]
  have h3 := hb.2.2 i
  cases c : says ps l (i : Int) with
  | true =>
    rw [if_pos rfl]
    have := or_same b i
    rw [← h3] at this
    rw [dec_iff this]
    by_cases d : (i : Int) ∈ l <;> simp [d]
  | false =>
    rw [if_neg Bool.false_ne_true]
    have := clr_same b i
    have h4 : (b.testBit i = false) ↔ ¬ (i : Int) ∈ l := by rw [h3]; simp
    rw [h4] at this
    rw [dec_iff this]
    by_cases d : (i : Int) ∈ l <;> simp [d]
def sp_changed_by : Sp := fun vs H Q _ => ∃ t ts b, vs = [.ref t, .int (b : Nat)] ∧ H t = some (.lst (nints ts)) ∧ ts.length ≤ 200 ∧ ∀ p H', Same H H' → H p = none → H' p = some (.lst ((chgB ts b).map V.int)) → Q (.ref p) H'
def hit (l : List Int) (p : Int) (q : Int × Int) : Prop := (q.1 = p ∧ q.2 ∈ l) ∨ (q.2 = p ∧ q.1 ∈ l)
theorem says_hit {n : Int} {ps : List (Int × Int)} (G : Good n ps) (l : List Int) (p : Int) : says ps l p = true ↔ ∀ q ∈ ps, ¬ hit l p q := by
  rw [says_iff]
  constructor
  · rintro h q hq (⟨h1, h2⟩ | ⟨h1, h2⟩)
    · have := (G.ok q hq).2.1
      refine h q.2 h2 ?_
      rw [(norm_pair (a := q.1) (b := q.2) this).mpr (.inl ⟨h1.symm, rfl⟩)]
      exact hq
    · have := (G.ok q hq).2.1
      refine h q.1 h2 ?_
      rw [(norm_pair (a := q.1) (b := q.2) this).mpr (.inr ⟨h1.symm, rfl⟩)]
      exact hq
  · intro h x hx hm
    have h1 := (G.ok _ hm).2.1
    have h2 := (norm_pair (a := (norm p x).1) (b := (norm p x).2) h1).mp rfl
    rcases h2 with ⟨e1, e2⟩ | ⟨e1, e2⟩
    · exact h _ hm (.inl ⟨e1.symm, by rw [← e2]; exact hx⟩)
    · exact h _ hm (.inr ⟨e1.symm, by rw [← e2]; exact hx⟩)
end
section
variable {P : Program} {w : World} {K : PySem.W.Frag} {mg : Str → Option Value} {base : Heap} {C : Addr}
def sp_flag : Sp := fun vs H Q _ => ∃ b, vs = [.bl b, .bl b] ∧ Q (.bl true) H
end
section
variable {P : Program} {w : World} {K : PySem.W.Frag} {mg : Str → Option Value} {base : Heap} {C : Addr}
theorem PI.or {X : Cx} {tg l : Expr} {i1 i2 : TI} (a : PI X tg l i1) (b : PI X tg l i2) : PI X tg l (fun σ H R => i1 σ H R ∨ i2 σ H R) :=
  ⟨fun pins s σ H R I h => h.elim (a.run pins s σ H R I) (b.run pins s σ H R I)⟩
theorem isI_els {v : V} (h : ∀ i, v ≠ .int i) : isI v = false := by
  cases v with
  | int i => exact absurd rfl (h i)
  | _ => rfl
theorem inI_els {v : V} {a b : Int} (h : isI v = false) : inI a b v = false := by
  cases v with
  | int i => cases h
  | _ => rfl
theorem inI_ex {v : V} {a b : Int} (h : inI a b v = true) : ∃ i, v = .int i ∧ a ≤ i ∧ i ≤ b := by
  cases v with
  | int i => exact ⟨i, rfl, by simpa [inI] using h⟩
  | _ => cases h
/-- a lot of n parts -/
def LotV (H : Hp) (n : Int) (v : V) : Prop := ∃ t l, v = .ref t ∧ H t = some (.tup (l.map V.int)) ∧ Lot n l
def sp_isI (K : PySem.W.Frag) : Sp := fun vs H Q _ => ∃ v, vs = [v] ∧ Item K H v ∧ Q (.bl (isI v)) H
theorem ok_is_integerA {f : Addr} {fd : FuncData} (F : Fun K "is_integer" "is_integer" s_is_integer f fd) (hm : mg "is_integer" = some (.ref f)) (B : Bl mg) : Cal P w K mg base 1 "is_integer" ["thing"] (sp_isI K) := by
  refine ⟨f, fd, F.ok sc_is_integer (fun vs H Q E h => ?_) (fun cdv A outer s H vs Q E hr h => ?_), hm, F.kp, F.binds (ps := ["thing"]) fun _ _ _ _ _ _ us hl => match us, hl with | [_], _ => rfl⟩
  · obtain ⟨v, rfl, _⟩ := h; rfl
  · obtain ⟨v, rfl, iv, k⟩ := h
    refine ⟨_, (pss_one (ps_ret (pe_and (pe_callB call_isi (by rfl) B.isinstance (by decide +kernel) (pa_cons (pv 0) (pa_cons (pe_bltn (v := .ty "int") (by rfl) B.int_ (by decide +kernel) rfl) pa_nil))) (pe_one (pe_not (pe_callB call_isi (by rfl) B.isinstance (by decide +kernel) (pa_cons (pv 0) (pa_cons (pe_bltn (v := .ty "bool") (by rfl) B.bool_ (by decide +kernel) rfl) pa_nil)))))))), ?_⟩
    cases iv with
    | int i =>
      refine ⟨_, rfl, _, _, _, _, true, rfl, .ty "int", .base (.int i), kit_ty (by decide +kernel), true, rfl, iteT ?_⟩
      refine ⟨_, rfl, _, _, _, _, false, rfl, .ty "bool", .base (.int i), kit_ty (by decide +kernel), false, rfl, ?_⟩
      exact k
    | bl b =>
      refine ⟨_, rfl, _, _, _, _, true, rfl, .ty "int", .base (.bl b), kit_ty (by decide +kernel), true, rfl, iteT ?_⟩
      refine ⟨_, rfl, _, _, _, _, true, rfl, .ty "bool", .base (.bl b), kit_ty (by decide +kernel), true, rfl, ?_⟩
      exact k
    | els h h1 =>
      obtain ⟨t, ty, hk⟩ := h
      rw [isI_els h1] at k
      exact ⟨_, rfl, _, _, _, _, false, rfl, .ty "int", ty, hk, false, rfl, iteF k⟩
def sp_inI (K : PySem.W.Frag) : Sp := fun vs H Q _ => ∃ v a b, vs = [v, .int a, .int b] ∧ Item K H v ∧ Q (.bl (inI a b v)) H
theorem ok_is_numberA {f : Addr} {fd : FuncData} (F : Fun K "is_number" "is_number" s_is_number f fd) (hm : mg "is_number" = some (.ref f)) (B : Bl mg) (c_is_integer : Cal P w K mg base 1 "is_integer" ["thing"] (sp_isI K)) : Cal P w K mg base 2 "is_number" ["thing", "least", "most"] (sp_inI K) := by
  refine ⟨f, fd, F.ok sc_is_number (fun vs H Q E h => ?_) (fun cdv A outer s H vs Q E hr h => ?_), hm, F.kp, F.binds (ps := ["thing", "least", "most"]) fun _ _ _ _ _ _ us hl => match us, hl with | [_, _, _], _ => rfl⟩
  · obtain ⟨v, a, b, rfl, _⟩ := h; rfl
  · obtain ⟨v, a, b, rfl, iv, k⟩ := h
    refine ⟨_, (pss_one (ps_ret (pe_and (pe_cal c_is_integer (hr.mono (by first | decide | omega)) (pa_cons (pv 0) pa_nil)) (pe_one (pe_chain op_le op_le (pv 1) (pv 0) (pv 2)))))), ?_⟩
    refine ⟨_, rfl, v, rfl, iv, isI v, rfl, ?_⟩
    cases c : isI v with
    | false =>
      rw [inI_els c] at k
      exact iteF k
    | true =>
      obtain ⟨i, rfl⟩ : ∃ i, v = .int i := by cases v <;> first | exact ⟨_, rfl⟩ | cases c
      refine iteT ?_
      refine ⟨_, rfl, _, rfl, _, _, rfl, rfl, _, rfl, ?_⟩
      by_cases h1 : a ≤ i
      · rw [if_pos (decide_eq_true h1)]
        refine ⟨_, rfl, _, _, rfl, rfl, ?_⟩
        have e : inI a b (.int i) = decide (i ≤ b) := by simp [inI, h1]
        rw [e] at k
        exact k
      · rw [if_neg (by simpa using h1)]
        have e : inI a b (.int i) = false := by simp [inI, h1]
        rw [e] at k
        exact k
theorem lot_snoc {n : Int} {l : List Int} {y : Int} (h : Lot n l) (h0 : 0 ≤ y) (h1 : y < n) (h2 : ∀ x ∈ l, x < y) : Lot n (l ++ [y]) := by
  refine ⟨List.pairwise_append.mpr ⟨h.up, by simp, fun x hx z hz => ?_⟩, fun x hx => ?_⟩
  · simp at hz; subst hz; exact h2 x hx
  · rcases List.mem_append.mp hx with hx | hx
    · exact h.ok x hx
    · simp at hx; subst hx; exact ⟨h0, h1⟩
def sp_is_lot_belowA (K : PySem.W.Frag) : Sp := fun vs H Q _ => ∃ n v, vs = [.int n, v] ∧ Thing K H v ∧ ∀ b, (b = true ↔ LotV H n v) → Q (.bl b) H
theorem ok_is_lot_belowA {f : Addr} {fd : FuncData} (F : Fun K "is_lot_below" "is_lot_below" s_is_lot_below f fd) (hm : mg "is_lot_below" = some (.ref f)) (B : Bl mg) (c_is_number : Cal P w K mg base 2 "is_number" ["thing", "least", "most"] (sp_inI K)) : Cal P w K mg base 3 "is_lot_below" ["size", "thing"] (sp_is_lot_belowA K) := by
  refine ⟨f, fd, F.ok sc_is_lot_below (fun vs H Q E h => ?_) (fun cdv A outer s H vs Q E hr h => ?_), hm, F.kp, F.binds (ps := ["size", "thing"]) fun _ _ _ _ _ _ us hl => match us, hl with | [_, _], _ => rfl⟩
  · obtain ⟨n, v, rfl, _⟩ := h; rfl
  · obtain ⟨n, v, rfl, tv, k⟩ := h
    refine ⟨_, (pss_cons (ps_if (pt_not (pt_val (pe_callB call_isi (by rfl) B.isinstance (by decide +kernel) (pa_cons (pv 1) (pa_cons (pe_bltn (v := .ty "tuple") (by rfl) B.tuple_ (by decide +kernel) rfl) pa_nil))))) (pss_one (ps_ret pe_bl)) pss_nil)
 (pss_cons (ps_set (i := 2) sc_is_lot_below.nd rfl (by first | exact Or.inl rfl | exact Or.inr rfl) (pe_un un_neg pe_int))
 (pss_cons (ps_for PassesOwn.never rfl (pi_tup (pv 1)) (pg_name (i := 3) sc_is_lot_below.nd rfl (by first | exact Or.inl rfl | exact Or.inr rfl))
  (pss_cons (ps_if (pt_not (pt_val (pe_cal c_is_number (hr.mono (by first | decide | omega)) (pa_cons (pv 3) (pa_cons (pe_op op_add (pv 2) pe_int) (pa_cons (pe_op op_sub (pv 0) pe_int) pa_nil)))))) (pss_one (ps_ret pe_bl)) pss_nil)
 (pss_one (ps_set (i := 2) sc_is_lot_below.nd rfl (by first | exact Or.inl rfl | exact Or.inr rfl) (pv 3)))))
 (pss_one (ps_ret pe_bl))))), ?_⟩
    cases tv with
    | els h h1 =>
      obtain ⟨t, ty, hk⟩ := h
      refine ⟨_, rfl, _, _, _, _, false, rfl, .ty "tuple", ty, hk, false, rfl, iteT ?_⟩
      refine k false ⟨fun e => (by cases e), fun ⟨t', l, e, q, _⟩ => absurd q (h1 _ _ e)⟩
    | @tup t xs ht hi hz =>
      refine ⟨_, rfl, _, _, _, _, true, rfl, .ty "tuple", .base (.tup ht), kit_ty (by decide +kernel), true, rfl, iteF ?_⟩
      refine ⟨_, rfl, ?_⟩
      refine ⟨_, rfl, t, rfl, ⟨_, SqT.of ht⟩, for_tup (K := K) (a := t) (xs := xs) (fun i σ H' => H' = H ∧ ∃ (l : List Int) (z : Int) (v : Option V), σ = [some (.int n), some (.ref t), some (.int z), v] ∧ xs.take i = l.map V.int ∧ Lot n l ∧ (∀ y ∈ l, y ≤ z) ∧ ((l = [] ∧ z = -1) ∨ z ∈ l))
        ⟨rfl, [], -1, none, rfl, rfl, ⟨.nil, by simp⟩, by simp, .inl ⟨rfl, rfl⟩⟩ (fun i σ H' _ p => by rw [p.1]; exact SqT.of ht) ?_ ?_⟩
      · rintro i y σ H' hy ⟨rfl, l, z, u', rfl, hl, lot, hle, hz2⟩
        have hmem := List.mem_of_getElem? hy
        have z0 : -1 ≤ z := by
          rcases hz2 with ⟨_, rfl⟩ | hz2
          · omega
          · have := lot.ok z hz2; omega
        have bad : (∀ l' : List Int, xs = l'.map V.int → ¬ Lot n l') → Q (.bl false) H' := fun hb => k false ⟨fun e => (by cases e), fun ⟨t', l', e, q, lt⟩ => by
          cases e
          rw [ht] at q
          injection q with q
          injection q with q
          exact absurd lt (hb l' q)⟩
        refine ⟨_, rfl, _, rfl, _, _, rfl, rfl, _, rfl, _, _, rfl, rfl, y, z + 1, n - 1, rfl, hi y hmem, _, rfl, ?_⟩
        cases c : inI (z + 1) (n - 1) y with
        | false =>
          refine iteT (bad fun l' e lt => ?_)
          have hy' := hy
          rw [e, List.getElem?_map] at hy'
          cases q : l'[i]? with
          | none => rw [q] at hy'; cases hy'
          | some j =>
            rw [q] at hy'
            cases hy'
            have hj := lt.ok j (List.mem_of_getElem? q)
            have c2 : ¬ (z + 1 ≤ j ∧ j ≤ n - 1) := by simpa [inI] using c
            have htk : l'.take i = l := by
              have : (l'.take i).map V.int = l.map V.int := by rw [← hl, e, List.map_take]
              exact List.map_inj_right (fun a b h => V.int.inj h) |>.mp this
            rcases hz2 with ⟨_, rfl⟩ | hz2
            · exact c2 (by omega)
            · have hjl := (List.getElem?_eq_some_iff.mp q).1
              rw [← htk] at hz2
              obtain ⟨m, hm1, hm2⟩ := List.mem_iff_getElem.mp hz2
              rw [List.length_take] at hm1
              have h3 : l'[m]'(by omega) = z := by rw [← hm2, List.getElem_take]
              have h4 := List.pairwise_iff_getElem.mp lt.up m i (by omega) hjl (by omega)
              have h5 : l'[i] = j := (List.getElem?_eq_some_iff.mp q).2
              exact c2 (by omega)
        | true =>
          obtain ⟨j, rfl, j0, j1⟩ := inI_ex c
          refine iteF ?_
          refine ⟨_, rfl, rfl, l ++ [j], j, _, rfl, ?_, ?_, ?_, .inr (by simp)⟩
          · rw [take_snoc hy, hl, List.map_append]; rfl
          · exact lot_snoc lot (by omega) (by omega) (fun y hy => by have := hle y hy; omega)
          · intro y hy
            rcases List.mem_append.mp hy with h | h
            · have := hle y h; omega
            · simp at h; omega
      · rintro σ H' ⟨rfl, l, z, u', rfl, hl, lot, _⟩
        rw [List.take_length] at hl
        exact k true ⟨fun _ => ⟨t, l, rfl, by rw [ht, hl], lot⟩, fun _ => rfl⟩
def sp_is_lotA (K : PySem.W.Frag) (C : Addr) : Sp := fun vs H Q _ => ∃ x n u ps v, vs = [.ref x, v] ∧ WebAt C H x n u ps ∧ Thing K H v ∧ ∀ b, (b = true ↔ LotV H n v) → Q (.bl b) H
end
section
variable {P : Program} {w : World} {K : PySem.W.Frag} {mg : Str → Option Value} {base : Heap} {C : Addr}
def Row (n : Int) (ps : List (Int × Int)) : List Int → List Int → List Int → Prop
  | [], l, l' => l' = l
  | p :: cs, l, l' => ∃ m, Behind n ps l p m ∧ Row n ps cs m l'
theorem Row.uniq {n : Int} {ps : List (Int × Int)} : ∀ {cs l l1 l2 : List Int}, Row n ps cs l l1 → Row n ps cs l l2 → l1 = l2
  | [], _, _, _, h1, h2 => by rw [show _ = _ from h1, show _ = _ from h2]
  | p :: cs, l, l1, l2, ⟨m, b, r⟩, ⟨m', b', r'⟩ => by
    have := b.uniq b'
    subst this
    exact Row.uniq r r'
theorem Row.lot {n : Int} {ps : List (Int × Int)} : ∀ {cs l l' : List Int}, Lot n l → Row n ps cs l l' → Lot n l'
  | [], _, _, hl, h => by rw [show _ = _ from h]; exact hl
  | p :: cs, _, _, hl, ⟨m, b, r⟩ => Row.lot b.1 r
theorem Row.app {n : Int} {ps : List (Int × Int)} : ∀ {cs ds l l1 l2 : List Int}, Row n ps cs l l1 → Row n ps ds l1 l2 → Row n ps (cs ++ ds) l l2
  | [], _, _, _, _, h, h2 => by rw [show _ = _ from h] at h2; exact h2
  | p :: cs, _, _, _, _, ⟨m, b, r⟩, h2 => ⟨m, b, Row.app r h2⟩
theorem Row.snoc {n : Int} {ps : List (Int × Int)} {cs l l1 l2 : List Int} {p : Int} (h : Row n ps cs l l1) (b : Behind n ps l1 p l2) : Row n ps (cs ++ [p]) l l2 := h.app ⟨l2, b, rfl⟩
theorem Row.split {n : Int} {ps : List (Int × Int)} : ∀ {cs ds l l2 : List Int}, Row n ps (cs ++ ds) l l2 → ∃ l1, Row n ps cs l l1 ∧ Row n ps ds l1 l2
  | [], _, l, _, h => ⟨l, rfl, h⟩
  | p :: cs, ds, _, _, ⟨m, b, r⟩ => by
    obtain ⟨l1, h1, h2⟩ := Row.split (cs := cs) r
    exact ⟨l1, ⟨m, b, h1⟩, h2⟩
/-- the lot that bits are -/
def lotL (b : Nat) : List Int := ((List.range (b + 1)).filter fun k => b.testBit k).map fun k : Nat => (k : Int)
theorem isLot_L (b : Nat) : IsLot (lotL b) b := by
  refine ⟨fun x hx => ?_, ?_, fun k => ?_⟩
  · obtain ⟨k, _, rfl⟩ := List.mem_map.mp hx
    omega
  · refine List.pairwise_map.mpr (((List.pairwise_lt_range).sublist List.filter_sublist).imp fun {a b} h => by omega)
  · constructor
    · intro h
      obtain ⟨j, hj, e⟩ := List.mem_map.mp h
      have : j = k := by omega
      subst this
      exact (List.mem_filter.mp hj).2
    · intro h
      refine List.mem_map.mpr ⟨k, List.mem_filter.mpr ⟨List.mem_range.mpr ?_, h⟩, rfl⟩
      rcases Nat.lt_or_ge k (b + 1) with c | c
      · exact c
      · have h2 : b < 2 ^ k := Nat.lt_of_lt_of_le (show b < k by omega) (Nat.le_of_lt Nat.lt_two_pow_self)
        rw [Nat.testBit_lt_two_pow h2] at h
        cases h
def Ints (H : Hp) (t : Addr) (cs : List Int) : Prop := H t = some (.tup (cs.map V.int)) ∨ H t = some (.lst (cs.map V.int))
theorem Ints.same {H H' : Hp} {t : Addr} {cs : List Int} (h : Ints H t cs) (e : Same H H') : Ints H' t cs := h.elim (fun h => .inl (e _ _ h)) (fun h => .inr (e _ _ h))
theorem lot_one {l m : List Int} {b : Nat} (h : IsLot l b) (h' : IsLot m b) : l = m := ups_ext h.2.1 h'.2.1 fun z => by
  by_cases z0 : 0 ≤ z
  · have ez : ((z.toNat : Nat) : Int) = z := Int.toNat_of_nonneg z0
    have h1 := h.2.2 z.toNat
    have h2 := h'.2.2 z.toNat
    rw [ez] at h1 h2
    rw [h1, h2]
  · exact ⟨fun q => absurd (h.1 z q) z0, fun q => absurd (h'.1 z q) z0⟩
def sp_is_rest (K : PySem.W.Frag) (C : Addr) : Sp := fun vs H Q _ => ∃ x n u ps v, vs = [.ref x, v] ∧ WebAt C H x n u ps ∧ Good n ps ∧ 1 ≤ n ∧ n ≤ 200 ∧ Thing K H v ∧ ∀ b H', Same H H' → (b = true ↔ ∃ t l, v = .ref t ∧ H t = some (.tup (l.map V.int)) ∧ Lot n l ∧ chg n ps l = []) → Q (.bl b) H'
end
section
variable {P : Program} {w : World} {K : PySem.W.Frag} {mg : Str → Option Value} {base : Heap} {C : Addr}
theorem cat_any {K : PySem.W.Frag} {H : Hp} {a b : Addr} {xs ys : List V} {Q : VK} (ha : H a = some (.tup xs)) (hb : H b = some (.tup ys)) (hl : xs.length + ys.length ≤ sizeLine) (k : ∀ c H', Same H H' → H' c = some (.tup (xs ++ ys)) → Q (.ref c) H') : rCatA K (.ref a) (.ref b) H Q :=
  ⟨a, b, xs, ys, rfl, rfl, SqT.of ha, SqT.of hb, hl, fun h => k b H (L2.Same.refl H) (by rw [h]; exact hb), fun _ h => k a H (L2.Same.refl H) (by rw [h, List.append_nil]; exact ha), fun _ _ p hp => k p _ (L2.Same.new hp) upd_same⟩
end
section
variable {P : Program} {w : World} {K : PySem.W.Frag} {mg : Str → Option Value} {base : Heap} {C : Addr}
theorem chg_nil {n : Int} {ps : List (Int × Int)} {l : List Int} : chg n ps l = [] ↔ ∀ p : Int, 0 ≤ p → p < n → says ps l p = decide (p ∈ l) := by
  unfold chg
  rw [List.map_eq_nil_iff, List.filter_eq_nil_iff]
  constructor
  · intro h p p0 p1
    have := h p.toNat (List.mem_range.mpr (by omega))
    rw [Int.toNat_of_nonneg p0] at this
    simpa using this
  · intro h i hi
    have := h (i : Int) (by omega) (by have := List.mem_range.mp hi; omega)
    simp [this]
/-- what rows of calls lead to -/
inductive Reach (n : Int) (ps : List (Int × Int)) (l : List Int) : List Int → Prop where
  | refl : Reach n ps l l
  | step {m m' : List Int} {p : Int} (h : Reach n ps l m) (h0 : 0 ≤ p) (h1 : p < n) (b : Behind n ps m p m') : Reach n ps l m'
theorem Reach.trans {n : Int} {ps : List (Int × Int)} {l m k : List Int} (h : Reach n ps l m) (h' : Reach n ps m k) : Reach n ps l k := by
  induction h' with
  | refl => exact h
  | step _ h0 h1 b ih => exact ih.step h0 h1 b
theorem Reach.lot {n : Int} {ps : List (Int × Int)} {l m : List Int} (hl : Lot n l) (h : Reach n ps l m) : Lot n m := by
  induction h with
  | refl => exact hl
  | step _ _ _ b _ => exact b.1
theorem behind_ex {n : Int} {ps : List (Int × Int)} {l : List Int} {p : Int} (hl : Lot n l) (h0 : 0 ≤ p) (h1 : p < n) : ∃ l', Behind n ps l p l' :=
  ⟨_, behind_bits hl (isLot_bits hl) h0 h1 (isLot_L _)⟩
/-- the parts of l tied to p -/
def nearL (ps : List (Int × Int)) (l : List Int) (p : Int) : List Int := l.filter fun q => decide (norm p q ∈ ps)
/-- l without the parts of f -/
def offL (l f : List Int) : List Int := l.filter fun q => !decide (q ∈ f)
theorem norm_sym (a b : Int) : norm a b = norm b a := by
  by_cases h : a = b
  · rw [h]
  · exact norm_comm h
theorem mem_near {ps : List (Int × Int)} {l : List Int} {p q : Int} : q ∈ nearL ps l p ↔ q ∈ l ∧ norm p q ∈ ps := by
  unfold nearL; rw [List.mem_filter]; simp
theorem mem_off {l f : List Int} {q : Int} : q ∈ offL l f ↔ q ∈ l ∧ q ∉ f := by
  unfold offL; rw [List.mem_filter]; simp
theorem Lot.filt {n : Int} {l : List Int} (h : Lot n l) (f : Int → Bool) : Lot n (l.filter f) := ⟨h.up.filter f, fun x hx => h.ok x (List.mem_filter.mp hx).1⟩
theorem sub_len : ∀ {A B : List Int}, A.Nodup → (∀ x ∈ A, x ∈ B) → A.length ≤ B.length
  | [], B, _, _ => Nat.zero_le _
  | a :: A, B, hn, hs => by
    have ha := hs a List.mem_cons_self
    have h2 := sub_len (A := A) (B := B.erase a) (List.nodup_cons.mp hn).2 fun x hx => by
      refine (List.mem_erase_of_ne (fun e => ?_)).mpr (hs x (List.mem_cons_of_mem _ hx))
      subst e
      exact (List.nodup_cons.mp hn).1 hx
    rw [List.length_erase_of_mem ha] at h2
    have := List.length_pos_of_mem ha
    rw [List.length_cons]
    omega
theorem upi_nodup {l : List Int} (h : l.Pairwise (· < ·)) : l.Nodup := h.imp fun h => by omega
theorem more_in {A F : List Int} (hA : A.Nodup) (h : F.length < A.length) : ∃ x ∈ A, x ∉ F := by
  apply Classical.byContradiction
  intro hno
  have := sub_len hA (B := F) fun x hx => Classical.byContradiction fun hf => hno ⟨x, hx, hf⟩
  omega
/-- a rest -/
structure RestL (n : Int) (ps : List (Int × Int)) (R : List Int) : Prop where
  lot : Lot n R
  no : chg n ps R = []
theorem RestL.free (h : RestL n ps R) {p q : Int} (hp : p ∈ R) (hq : q ∈ R) : norm p q ∉ ps := by
  have h2 := chg_nil.mp h.no p (h.lot.ok p hp).1 (h.lot.ok p hp).2
  rw [decide_eq_true hp] at h2
  exact says_iff.mp h2 q hq
theorem RestL.ext {S : List Int} (h : RestL n ps R) (hs : Lot n S) (h1 : ∀ x ∈ S, x ∈ R) (h2 : ∀ x ∈ R, x ∈ S) : S = R := ups_ext hs.up h.lot.up fun x => ⟨h1 x, h2 x⟩
structure Stay (n : Int) (R F S : List Int) : Prop where
  lot : Lot n S
  sub : ∀ x ∈ S, x ∈ R
  sup : ∀ x ∈ R, x ∉ F → x ∈ S
theorem stay_in {F S S' : List Int} {p : Int} (h : RestL n ps R) (st : Stay n R F S) (hp : p ∈ R) (b : Behind n ps S p S') : Stay n R F S' ∧ ∀ x, x ∈ S' ↔ x ∈ S ∨ x = p := by
  have hs : says ps S p = true := says_iff.mpr fun q hq => h.free hp (st.sub q hq)
  have hm : ∀ x, x ∈ S' ↔ x ∈ S ∨ x = p := fun x => by rw [b.2, if_pos hs]
  exact ⟨⟨b.1, fun x hx => ((hm x).mp hx).elim (st.sub x) (fun e => e ▸ hp), fun x hx hf => (hm x).mpr (.inl (st.sup x hx hf))⟩, hm⟩
theorem stay_out {F S S' : List Int} {p : Int} (h : RestL n ps R) (st : Stay n R F S) (hp : p ∉ R) (hF : F.length < (nearL ps R p).length) (b : Behind n ps S p S') : Stay n R F S' := by
  obtain ⟨q, hq, hqF⟩ := more_in (upi_nodup (h.lot.filt _).up) hF
  obtain ⟨hqR, hqn⟩ := mem_near.mp hq
  have hs : ¬ says ps S p = true := fun e => says_iff.mp e q (st.sup q hqR hqF) hqn
  have hm : ∀ x, x ∈ S' ↔ x ∈ S ∧ x ≠ p := fun x => by rw [b.2, if_neg hs]
  exact ⟨b.1, fun x hx => st.sub x ((hm x).mp hx).1, fun x hx hf => (hm x).mpr ⟨st.sup x hx hf, fun e => hp (e ▸ hx)⟩⟩
theorem stay_off {F : List Int} (h : RestL n ps R) : Stay n R F (offL R F) := ⟨h.lot.filt _, fun x hx => (mem_off.mp hx).1, fun x hx hf => mem_off.mpr ⟨hx, hf⟩⟩
theorem stay_reach {F S : List Int} (h : RestL n ps R) (hF : ∀ p, 0 ≤ p → p < n → p ∉ R → F.length < (nearL ps R p).length) {T : List Int} (hT : Stay n R F T) (r : Reach n ps T S) : Stay n R F S := by
  induction r with
  | refl => exact hT
  | @step m m' p r h0 h1 b ih =>
    by_cases hp : p ∈ R
    · exact (stay_in h ih hp b).1
    · exact stay_out h ih hp (hF p h0 h1 hp) b
theorem stay_rest {F S : List Int} (h : RestL n ps R) (st : Stay n R F S) (hS : chg n ps S = []) : S = R := by
  refine h.ext st.lot st.sub fun x hx => ?_
  have ok := h.lot.ok x hx
  have h1 := chg_nil.mp hS x ok.1 ok.2
  have hs : says ps S x = true := says_iff.mpr fun q hq => h.free hx (st.sub q hq)
  rw [hs] at h1
  exact of_decide_eq_true h1.symm
theorem stay_back {F : List Int} (h : RestL n ps R) : ∀ (k : Nat) {S : List Int}, Stay n R F S → (R.filter fun x => !decide (x ∈ S)).length ≤ k → Reach n ps S R
  | k, S, st, hk => by
    by_cases hall : ∀ x ∈ R, x ∈ S
    · rw [h.ext st.lot st.sub hall]
      exact .refl
    · obtain ⟨x, hx, hxS⟩ : ∃ x ∈ R, x ∉ S := Classical.byContradiction fun hno => hall fun x hx => Classical.byContradiction fun hf => hno ⟨x, hx, hf⟩
      have ok := h.lot.ok x hx
      obtain ⟨S', b⟩ := behind_ex (ps := ps) st.lot ok.1 ok.2
      obtain ⟨st', hm⟩ := stay_in h st hx b
      have e : (R.filter fun y => !decide (y ∈ S')) = (R.filter fun y => !decide (y ∈ S)).filter fun y => !decide (y = x) := by
        rw [List.filter_filter]
        refine List.filter_congr fun y _ => ?_
        have hy := hm y
        by_cases c1 : y = x
        · have : y ∈ S' := hy.mpr (.inr c1)
          rw [decide_eq_true this, decide_eq_true c1]; rfl
        · by_cases c2 : y ∈ S
          · have : y ∈ S' := hy.mpr (.inl c2)
            simp [this, c2]
          · have : y ∉ S' := fun e => (hy.mp e).elim c2 c1
            simp [this, c2, c1]
      have hmem : x ∈ R.filter fun y => !decide (y ∈ S) := List.mem_filter.mpr ⟨hx, by simpa using hxS⟩
      have hlt : (R.filter fun y => !decide (y ∈ S')).length < (R.filter fun y => !decide (y ∈ S)).length := by
        rw [e]
        exact List.length_filter_lt_length_iff_exists.mpr ⟨x, hmem, by simp⟩
      match k with
      | 0 => omega
      | k + 1 => exact (Reach.refl.step ok.1 ok.2 b).trans (stay_back h k st' (by omega))
/-- no harm by few -/
theorem heal_few {F : List Int} (h : RestL n ps R) (hF : ∀ p, 0 ≤ p → p < n → p ∉ R → F.length < (nearL ps R p).length) : Reach n ps (offL R F) R ∧ ∀ S, Reach n ps (offL R F) S → chg n ps S = [] → S = R :=
  ⟨stay_back h _ (stay_off h) (Nat.le_refl _), fun S r hS => stay_rest h (stay_reach h hF (stay_off h) r) hS⟩
/-- free parts grow to a rest -/
theorem grow_rest (G : Good n ps) (n0 : 0 ≤ n) : ∀ (k : Nat) {T : List Int}, Lot n T → (∀ x ∈ T, ∀ y ∈ T, norm x y ∉ ps) → (n - T.length).toNat ≤ k → ∃ S, Reach n ps T S ∧ RestL n ps S ∧ ∀ x ∈ T, x ∈ S
  | k, T, hT, hfree, hk => by
    by_cases hc : chg n ps T = []
    · exact ⟨T, .refl, ⟨hT, hc⟩, fun _ h => h⟩
    · obtain ⟨q, q0, q1, hq⟩ : ∃ q, 0 ≤ q ∧ q < n ∧ says ps T q ≠ decide (q ∈ T) := Classical.byContradiction fun hno => hc (chg_nil.mpr fun p p0 p1 => Classical.byContradiction fun hf => hno ⟨p, p0, p1, hf⟩)
      have hqT : q ∉ T := fun hm => hq (by rw [decide_eq_true hm]; exact says_iff.mpr fun x hx => hfree q hm x hx)
      have hs : says ps T q = true := by
        rw [decide_eq_false hqT] at hq
        cases c : says ps T q with
        | true => rfl
        | false => exact absurd c hq
      obtain ⟨T', b⟩ := behind_ex (ps := ps) hT q0 q1
      have hm : ∀ x, x ∈ T' ↔ x ∈ T ∨ x = q := fun x => by rw [b.2, if_pos hs]
      have hnq := says_iff.mp hs
      have free' : ∀ x ∈ T', ∀ y ∈ T', norm x y ∉ ps := fun x hx y hy => by
        rcases (hm x).mp hx with hx | rfl
        · rcases (hm y).mp hy with hy | rfl
          · exact hfree x hx y hy
          · rw [norm_sym]; exact hnq x hx
        · rcases (hm y).mp hy with hy | rfl
          · exact hnq y hy
          · exact norm_self G _
      have hlen : T.length < T'.length := by
        have e : T = T'.filter fun y => !decide (y = q) := ups_ext hT.up (b.1.filt _).up fun x => by
          rw [List.mem_filter, hm]
          by_cases c : x = q
          · simp [c, hqT]
          · simp [c]
        have := List.length_filter_lt_length_iff_exists (p := fun y => !decide (y = q)) (l := T') |>.mpr ⟨q, (hm q).mpr (.inr rfl), by simp⟩
        rw [← e] at this
        exact this
      have hle := lot_len b.1 n0
      match k with
      | 0 => omega
      | k + 1 =>
        obtain ⟨S, r, hS, hsub⟩ := grow_rest G n0 k b.1 free' (by omega)
        exact ⟨S, (Reach.refl.step q0 q1 b).trans r, hS, fun x hx => hsub x ((hm x).mpr (.inl hx))⟩
/-- harm by all that a part is tied to -/
theorem harm_near (G : Good n ps) (n0 : 0 ≤ n) (h : RestL n ps R) {p : Int} (p0 : 0 ≤ p) (p1 : p < n) (hp : p ∉ R) : ∃ S, Reach n ps (offL R (nearL ps R p)) S ∧ chg n ps S = [] ∧ S ≠ R := by
  have hl : Lot n (offL R (nearL ps R p)) := h.lot.filt _
  have hno : ∀ q ∈ offL R (nearL ps R p), norm p q ∉ ps := fun q hq e => (mem_off.mp hq).2 (mem_near.mpr ⟨(mem_off.mp hq).1, e⟩)
  have hs : says ps (offL R (nearL ps R p)) p = true := says_iff.mpr hno
  obtain ⟨T, b⟩ := behind_ex (ps := ps) hl p0 p1
  have hm : ∀ x, x ∈ T ↔ x ∈ offL R (nearL ps R p) ∨ x = p := fun x => by rw [b.2, if_pos hs]
  have free' : ∀ x ∈ T, ∀ y ∈ T, norm x y ∉ ps := fun x hx y hy => by
    rcases (hm x).mp hx with hx | rfl
    · rcases (hm y).mp hy with hy | rfl
      · exact h.free (mem_off.mp hx).1 (mem_off.mp hy).1
      · rw [norm_sym]; exact hno x hx
    · rcases (hm y).mp hy with hy | rfl
      · exact hno y hy
      · exact norm_self G _
  obtain ⟨S, r, hS, hsub⟩ := grow_rest G n0 _ b.1 free' (Nat.le_refl _)
  exact ⟨S, (Reach.refl.step p0 p1 b).trans r, hS.no, fun e => hp (e ▸ hsub p ((hm p).mpr (.inr rfl)))⟩
end
section
variable {P : Program} {w : World} {K : PySem.W.Frag} {mg : Str → Option Value} {base : Heap} {C : Addr}
def sp_check_rest (C : Addr) : Sp := fun vs H Q _ => ∃ x n u ps t l, vs = [.ref x, .ref t] ∧ WebAt C H x n u ps ∧ Good n ps ∧ 1 ≤ n ∧ n ≤ 200 ∧ H t = some (.tup (l.map V.int)) ∧ RestL n ps l ∧ ∀ H', Same H H' → Q .non H'
theorem thing_ints {K : PySem.W.Frag} {H : Hp} {t : Addr} {l : List Int} (h : H t = some (.tup (l.map V.int))) (hl : l.length ≤ 100000) : Thing K H (.ref t) := .tup h (fun x hx => by obtain ⟨j, _, rfl⟩ := List.mem_map.mp hx; exact .int j) (by rw [List.length_map]; exact hl)
end
section
variable {P : Program} {w : World} {K : PySem.W.Frag} {mg : Str → Option Value} {base : Heap} {C : Addr}
theorem upi_of {l' m : List Int} (h : l'.Perm m) (h1 : l'.Pairwise (· ≤ ·)) (h2 : m.Nodup) : l'.Pairwise (· < ·) :=
  (h1.and (h.nodup_iff.mpr h2)).imp fun {a b} h => by have h3 : a ≠ b := h.2; have := h.1; omega
end
section
variable {P : Program} {w : World} {K : PySem.W.Frag} {mg : Str → Option Value} {base : Heap} {C : Addr}
/-- all lots of the parts below i -/
def subs : Nat → List (List Int)
  | 0 => [[]]
  | i + 1 => subs i ++ (subs i).map fun l => l ++ [(i : Int)]
theorem subs_len : ∀ i, (subs i).length = 2 ^ i
  | 0 => rfl
  | i + 1 => by rw [subs, List.length_append, List.length_map, subs_len i, Nat.pow_succ]; omega
def LotAt (H : Hp) (v : V) (l : List Int) : Prop := ∃ a, v = .ref a ∧ H a = some (.tup (l.map V.int))
theorem LotAt.tk {H H' : Hp} {v : V} {l : List Int} (h : LotAt H v l) (e : TK H H') : LotAt H' v l := let ⟨a, h1, h2⟩ := h; ⟨a, h1, e _ _ h2⟩
theorem LotAt.ne {H : Hp} {v : V} {l : List Int} (h : LotAt H v l) : ∃ a, v = .ref a ∧ H a = some (.tup (l.map V.int)) := h
def lotOf (H : Hp) : V → List Int
  | .ref a => match H a with
    | some (.tup ys) => ys.map unI
    | _ => []
  | _ => []
theorem lotOf_at {H : Hp} {v : V} {l : List Int} (h : LotAt H v l) : lotOf H v = l := by
  obtain ⟨a, rfl, h⟩ := h
  unfold lotOf
  simp only [h]
  show (l.map V.int).map unI = l
  rw [List.map_map]
  exact (List.map_congr_left fun x _ => rfl).trans (List.map_id l)
theorem lots_of {H : Hp} : ∀ {xs : List V} {Ls : List (List Int)}, Paired (LotAt H) xs Ls → xs.map (lotOf H) = Ls
  | _, _, .nil => rfl
  | _, _, .cons r t => by rw [List.map_cons, lotOf_at r, lots_of t]
theorem paired_lots {H : Hp} : ∀ {xs : List V}, (∀ x ∈ xs, ∃ l, LotAt H x l) → Paired (LotAt H) xs (xs.map (lotOf H))
  | [], _ => .nil
  | x :: xs, h => by
    obtain ⟨l, hl⟩ := h x List.mem_cons_self
    exact .cons (by rw [lotOf_at hl]; exact hl) (paired_lots fun y hy => h y (List.mem_cons_of_mem _ hy))
theorem paired_all {α β : Type} {F : α → β → Prop} : ∀ {xs : List α} {ys : List β}, Paired F xs ys → ∀ x ∈ xs, ∃ y, F x y
  | _, _, .nil, x, h => by simp at h
  | _, _, .cons r t, x, h => (List.mem_cons.mp h).elim (fun e => ⟨_, e ▸ r⟩) (paired_all t x)
theorem paired_imp {α β : Type} {F G : α → β → Prop} (h : ∀ a b, F a b → G a b) : ∀ {xs : List α} {ys : List β}, Paired F xs ys → Paired G xs ys
  | _, _, .nil => .nil
  | _, _, .cons r t => .cons (h _ _ r) (paired_imp h t)
theorem paired_mapR {α β γ : Type} {F : α → γ → Prop} {g : β → γ} : ∀ {xs : List α} {ys : List β}, Paired (fun a b => F a (g b)) xs ys → Paired F xs (ys.map g)
  | _, _, .nil => .nil
  | _, _, .cons r t => .cons r (paired_mapR t)
end




end Bs

namespace Bs
open PySem PySem.Spec L2
/-! ## x & ~y -/
theorem add_or {a b : Nat} (h : a &&& b = 0) : a + b = a ||| b := by
  have ha : a < 2 ^ (a + b + 1) := Nat.lt_of_le_of_lt (show a ≤ a + b + 1 by omega) Nat.lt_two_pow_self
  have hb : b < 2 ^ (a + b + 1) := Nat.lt_of_le_of_lt (show b ≤ a + b + 1 by omega) Nat.lt_two_pow_self
  have hab : a + b < 2 ^ (a + b + 1) := Nat.lt_of_le_of_lt (show a + b ≤ a + b + 1 by omega) Nat.lt_two_pow_self
  have h2 : BitVec.ofNat (a + b + 1) a &&& BitVec.ofNat (a + b + 1) b = 0#(a + b + 1) := by
    apply BitVec.eq_of_toNat_eq
    rw [BitVec.toNat_and, BitVec.toNat_ofNat, BitVec.toNat_ofNat, Nat.mod_eq_of_lt ha, Nat.mod_eq_of_lt hb, h]
    simp
  have h3 := congrArg BitVec.toNat (BitVec.add_eq_or_of_and_eq_zero _ _ h2)
  rw [BitVec.toNat_add, BitVec.toNat_or, BitVec.toNat_ofNat, BitVec.toNat_ofNat, Nat.mod_eq_of_lt ha, Nat.mod_eq_of_lt hb, Nat.mod_eq_of_lt hab] at h3
  exact h3
def andn (x y : Nat) : Nat := x ^^^ (x &&& y)
theorem andn_bit (x y k : Nat) : (andn x y).testBit k = (x.testBit k && !y.testBit k) := by
  unfold andn
  rw [Nat.testBit_xor, Nat.testBit_and]
  cases x.testBit k <;> cases y.testBit k <;> rfl
theorem andn_sub (x y : Nat) : x - (x &&& y) = andn x y := by
  have h : (x &&& y) &&& andn x y = 0 := Nat.eq_of_testBit_eq fun k => by
    rw [Nat.testBit_and, Nat.testBit_and, andn_bit]
    cases x.testBit k <;> cases y.testBit k <;> simp
  have h2 : (x &&& y) ||| andn x y = x := Nat.eq_of_testBit_eq fun k => by
    rw [Nat.testBit_or, Nat.testBit_and, andn_bit]
    cases x.testBit k <;> cases y.testBit k <;> rfl
  have := add_or h
  omega
theorem and_inv (x y : Nat) : Builtin.bitAnd (x : Int) (Builtin.bitNot (y : Int)) = ((andn x y : Nat) : Int) := by
  unfold Builtin.bitAnd
  rw [decide_eq_true (Int.natCast_nonneg x), decide_eq_false (show ¬ 0 ≤ Builtin.bitNot (y : Int) by unfold Builtin.bitNot; omega)]
  show (x : Int) - (((x : Int).toNat &&& (Builtin.bitNot (Builtin.bitNot (y : Int))).toNat : Nat) : Int) = _
  have e : (Builtin.bitNot (Builtin.bitNot (y : Int))).toNat = y := by
    unfold Builtin.bitNot
    omega
  rw [e, Int.toNat_natCast, ← andn_sub]
  have : x &&& y ≤ x := Nat.and_le_left
  omega
/-! ## sets of parts as bits -/
abbrev Has (b k : Nat) : Prop := b.testBit k = true
def InN (n : Int) (b : Nat) : Prop := ∀ k, Has b k → (k : Int) < n
theorem InN.small {n : Int} {b : Nat} (h : InN n b) (hn : n ≤ 200) : b < 2 ^ 200 := Nat.lt_pow_two_of_testBit _ fun k hk => by
  cases c : b.testBit k with
  | false => rfl
  | true => have := h k c; omega
abbrev T (ps : List (Int × Int)) (q k : Nat) : Prop := norm (q : Int) (k : Int) ∈ ps
theorem T.symm {ps : List (Int × Int)} {q k : Nat} (h : T ps q k) : T ps k q := by
  show norm (k : Int) (q : Int) ∈ ps
  rw [norm_sym]; exact h
theorem T.lt {n : Int} {ps : List (Int × Int)} (G : Good n ps) {q k : Nat} (h : T ps q k) : (k : Int) < n := by
  have h1 := G.ok _ h
  unfold norm at h1
  dsimp only at h1
  split at h1 <;> split at h1 <;> omega
theorem T.irr {n : Int} {ps : List (Int × Int)} (G : Good n ps) {q : Nat} : ¬ T ps q q := norm_self G _
theorem bits_ext {a b : Nat} (h : ∀ k, Has a k ↔ Has b k) : a = b := Nat.eq_of_testBit_eq fun k => by
  cases c : a.testBit k with
  | true => exact ((h k).mp c).symm
  | false =>
    cases d : b.testBit k with
    | false => rfl
    | true => rw [(h k).mpr d] at c; cases c
/-- the parts tied to one of b -/
def Near (ps : List (Int × Int)) (b r : Nat) : Prop := ∀ k, Has r k ↔ ∃ q, Has b q ∧ T ps q k
theorem Near.uniq {ps : List (Int × Int)} {b r r' : Nat} (h : Near ps b r) (h' : Near ps b r') : r = r' := bits_ext fun k => (h k).trans (h' k).symm
/-- what hangs together with s inside i -/
structure Hull (ps : List (Int × Int)) (s i c : Nat) : Prop where
  seed : ∀ k, Has s k → Has c k
  sub : ∀ k, Has c k → Has i k
  shut : ∀ q k, Has c q → Has i k → T ps q k → Has c k
  least : ∀ X : Nat → Prop, (∀ k, Has s k → X k) → (∀ q k, X q → Has i k → T ps q k → X k) → ∀ k, Has c k → X k
theorem Hull.uniq {ps : List (Int × Int)} {s i c d : Nat} (h : Hull ps s i c) (h' : Hull ps s i d) : c = d :=
  bits_ext fun k => ⟨h.least (Has d) h'.seed (fun q k a b t => h'.shut q k a b t) k, h'.least (Has c) h.seed (fun q k a b t => h.shut q k a b t) k⟩
def Low (b k : Nat) : Prop := Has b k ∧ ∀ j, j < k → b.testBit j = false
theorem Low.uniq {b k k' : Nat} (h : Low b k) (h' : Low b k') : k = k' := by
  rcases Nat.lt_trichotomy k k' with c | c | c
  · have := h'.2 k c; rw [h.1] at this; cases this
  · exact c
  · have := h.2 k' c; rw [h'.1] at this; cases this
/-- the pieces of i -/
inductive Pieces (ps : List (Int × Int)) : Nat → List Nat → Prop where
  | nil : Pieces ps 0 []
  | cons {i k c : Nat} {cs : List Nat} (h : Low i k) (hc : Hull ps (2 ^ k) i c) (r : Pieces ps (i ^^^ c) cs) : Pieces ps i (c :: cs)
theorem Pieces.uniq {ps : List (Int × Int)} {i : Nat} {cs ds : List Nat} (h : Pieces ps i cs) (h' : Pieces ps i ds) : cs = ds := by
  induction h generalizing ds with
  | nil =>
    cases h' with
    | nil => rfl
    | cons h _ _ => have := h.1; simp [Has] at this
  | cons h hc r ih =>
    cases h' with
    | nil => have := h.1; simp [Has] at this
    | cons h2 hc2 r2 =>
      have e := h.uniq h2
      subst e
      have e2 := hc.uniq hc2
      subst e2
      rw [ih r2]


end Bs

namespace Bs
open PySem PySem.Spec L2
theorem xor_sub {i c k : Nat} (h : ∀ k, Has c k → Has i k) : Has (i ^^^ c) k ↔ Has i k ∧ ¬ Has c k := by
  unfold Has
  rw [Nat.testBit_xor]
  have := h k
  unfold Has at this
  cases hi : i.testBit k <;> cases hc : c.testBit k <;> simp_all
section
variable {n : Int} {ps : List (Int × Int)}
structure PiecesOk (ps : List (Int × Int)) (i : Nat) (cs : List Nat) : Prop where
  cover : ∀ k, Has i k → ∃ c ∈ cs, Has c k
  sub : ∀ c ∈ cs, ∀ k, Has c k → Has i k
  shut : ∀ c ∈ cs, ∀ q k, Has c q → Has i k → T ps q k → Has c k
  hung : ∀ c ∈ cs, ∃ s, Has c s ∧ ∀ X : Nat → Prop, X s → (∀ q k, X q → Has i k → T ps q k → X k) → ∀ k, Has c k → X k
  one : ∀ c ∈ cs, ∀ d ∈ cs, ∀ k, Has c k → Has d k → c = d
theorem Pieces.ok {i : Nat} {cs : List Nat} (h : Pieces ps i cs) : PiecesOk ps i cs := by
  induction h with
  | nil => exact ⟨fun k hk => by simp [Has] at hk, by simp, by simp, by simp, by simp⟩
  | @cons i k c cs hl hc r ih =>
    have hx : ∀ k, Has (i ^^^ c) k ↔ Has i k ∧ ¬ Has c k := fun k => xor_sub hc.sub
    refine ⟨fun j hj => ?_, fun d hd j hj => ?_, fun d hd q j hq hj ht => ?_, fun d hd => ?_, fun d hd e he j h1 h2 => ?_⟩
    · by_cases e : Has c j
      · exact ⟨c, by simp, e⟩
      · obtain ⟨d, hd, h1⟩ := ih.cover j ((hx j).mpr ⟨hj, e⟩)
        exact ⟨d, List.mem_cons_of_mem _ hd, h1⟩
    · rcases List.mem_cons.mp hd with rfl | hd
      · exact hc.sub j hj
      · exact ((hx j).mp (ih.sub d hd j hj)).1
    · rcases List.mem_cons.mp hd with rfl | hd
      · exact hc.shut q j hq hj ht
      · have hq2 := (hx q).mp (ih.sub d hd q hq)
        by_cases e : Has c j
        · exact absurd (hc.shut j q e hq2.1 ht.symm) hq2.2
        · exact ih.shut d hd q j hq ((hx j).mpr ⟨hj, e⟩) ht
    · rcases List.mem_cons.mp hd with rfl | hd
      · have hs : Has d k := hc.seed k (by simp [Has, Nat.testBit_two_pow])
        refine ⟨k, hs, fun X hX hcl j hj => hc.least X (fun j hj => ?_) hcl j hj⟩
        have : j = k := by simp [Has, Nat.testBit_two_pow] at hj; exact hj.symm
        rw [this]; exact hX
      · obtain ⟨s, h1, h2⟩ := ih.hung d hd
        exact ⟨s, h1, fun X hX hcl => h2 X hX fun q j a b t => hcl q j a ((hx j).mp b).1 t⟩
    · rcases List.mem_cons.mp hd with ed | hd'
      · rcases List.mem_cons.mp he with ee | he'
        · exact ed.trans ee.symm
        · subst ed
          exact absurd h1 ((hx j).mp (ih.sub e he' j h2)).2
      · rcases List.mem_cons.mp he with ee | he'
        · subst ee
          exact absurd h2 ((hx j).mp (ih.sub d hd' j h1)).2
        · exact ih.one d hd' e he' j h1 h2
/-- free parts -/
def FreeB (ps : List (Int × Int)) (b : Nat) : Prop := ∀ x y, Has b x → Has b y → ¬ T ps x y
/-- a part of each other piece -/
def lowN (c : Nat) : Nat := (Builtin.bitAnd (c : Int) (-(c : Int))).toNat
theorem lowN_is {c k : Nat} (h : Low c k) : lowN c = 2 ^ k := by
  unfold lowN
  rw [low_is h.1 h.2]
  have : (2 : Int) ^ k = ((2 ^ k : Nat) : Int) := by rw [Int.natCast_pow]; rfl
  rw [this, Int.toNat_natCast]
def heldF (part : Nat) : List Nat → Nat → Nat
  | [], h => h
  | c :: cs, h => heldF part cs (if c.testBit part = true then h else h ||| lowN c)
theorem has_or {a b k : Nat} : Has (a ||| b) k ↔ Has a k ∨ Has b k := by unfold Has; rw [Nat.testBit_or]; simp
theorem has_pow {a k : Nat} : Has (2 ^ a) k ↔ k = a := by unfold Has; rw [Nat.testBit_two_pow]; simp [eq_comm]
theorem low_of {c : Nat} (h : ∃ k, Has c k) : ∃ k, Low c k := by
  obtain ⟨k, hk⟩ := h
  have : c ≠ 0 := fun e => by rw [e] at hk; simp [Has] at hk
  obtain ⟨k, h1, h2⟩ := low_ex this
  exact ⟨k, h1, h2⟩
theorem heldF_has {part : Nat} : ∀ {cs : List Nat} {h k : Nat}, (∀ c ∈ cs, ∃ k, Has c k) → (Has (heldF part cs h) k ↔ Has h k ∨ ∃ c ∈ cs, ¬ Has c part ∧ Low c k)
  | [], h, k, _ => by simp [heldF]
  | c :: cs, h, k, hne => by
    rw [heldF, heldF_has (fun d hd => hne d (List.mem_cons_of_mem _ hd))]
    by_cases e : c.testBit part = true
    · rw [if_pos e]
      constructor
      · rintro (h1 | ⟨d, hd, h1⟩)
        · exact .inl h1
        · exact .inr ⟨d, List.mem_cons_of_mem _ hd, h1⟩
      · rintro (h1 | ⟨d, hd, h1, h2⟩)
        · exact .inl h1
        · rcases List.mem_cons.mp hd with rfl | hd
          · exact absurd e h1
          · exact .inr ⟨d, hd, h1, h2⟩
    · rw [if_neg e]
      obtain ⟨j, hj⟩ := low_of (hne c List.mem_cons_self)
      rw [has_or, lowN_is hj, has_pow]
      constructor
      · rintro ((h1 | rfl) | ⟨d, hd, h1⟩)
        · exact .inl h1
        · exact .inr ⟨c, List.mem_cons_self, e, hj⟩
        · exact .inr ⟨d, List.mem_cons_of_mem _ hd, h1⟩
      · rintro (h1 | ⟨d, hd, h1, h2⟩)
        · exact .inl (.inl h1)
        · rcases List.mem_cons.mp hd with rfl | hd
          · exact .inl (.inr (h2.uniq hj))
          · exact .inr ⟨d, hd, h1, h2⟩
theorem PiecesOk.ne {i : Nat} {cs : List Nat} (h : PiecesOk ps i cs) : ∀ c ∈ cs, ∃ k, Has c k := fun c hc => let ⟨s, h1, _⟩ := h.hung c hc; ⟨s, h1⟩
theorem held_free (G : Good n ps) {i part : Nat} {cs : List Nat} (h : PiecesOk ps i cs) (hp : Has i part ∨ ∀ k, Has i k → ¬ T ps part k) : FreeB ps (heldF part cs (2 ^ part)) := by
  have key : ∀ c ∈ cs, ¬ Has c part → ∀ k, Has c k → ¬ T ps k part := fun c hc hn k hk ht => by
    rcases hp with hp | hp
    · exact hn (h.shut c hc k part hk hp ht)
    · exact hp k (h.sub c hc k hk) ht.symm
  intro x y hx hy ht
  rcases (heldF_has h.ne).mp hx with hx | ⟨c, hc, c1, c2⟩
  · rw [has_pow] at hx
    subst hx
    rcases (heldF_has h.ne).mp hy with hy | ⟨d, hd, d1, d2⟩
    · rw [has_pow] at hy
      subst hy
      exact T.irr G ht
    · exact key d hd d1 y d2.1 ht.symm
  · rcases (heldF_has h.ne).mp hy with hy | ⟨d, hd, d1, d2⟩
    · rw [has_pow] at hy
      subst hy
      exact key c hc c1 x c2.1 ht
    · have hyc := h.shut c hc x y c2.1 (h.sub d hd y d2.1) ht
      have e := h.one c hc d hd y hyc d2.1
      subst e
      have := c2.uniq d2
      subst this
      exact T.irr G ht
theorem held_meets {i part : Nat} {cs : List Nat} (h : PiecesOk ps i cs) : ∀ c ∈ cs, ∃ k, Has c k ∧ Has (heldF part cs (2 ^ part)) k := fun c hc => by
  by_cases e : Has c part
  · exact ⟨part, e, (heldF_has h.ne).mpr (.inl (has_pow.mpr rfl))⟩
  · obtain ⟨k, hk⟩ := low_of (h.ne c hc)
    exact ⟨k, hk.1, (heldF_has h.ne).mpr (.inr ⟨c, hc, e, hk⟩)⟩
/-- each part that leaves them free, the least first -/
def growN (ts : List Nat) : List Int → Nat → Nat
  | [], b => b
  | q :: l, b => growN ts l (if (ts.getD q.toNat 0 &&& b) = 0 then b ||| 2 ^ q.toNat else b)
theorem and_zero {ts : List Nat} (TB : Tied n ps ts) {q : Nat} (hq : q < ts.length) {b : Nat} : (ts.getD q 0 &&& b) = 0 ↔ ∀ k, Has b k → ¬ T ps q k := by
  constructor
  · intro h k hk ht
    have := congrArg (fun z => z.testBit k) h
    simp only [Nat.testBit_and, TB.bit q k hq, Nat.zero_testBit] at this
    rw [decide_eq_true ht, hk] at this
    cases this
  · intro h
    refine Nat.eq_of_testBit_eq fun k => ?_
    rw [Nat.testBit_and, TB.bit q k hq, Nat.zero_testBit]
    cases c : b.testBit k with
    | false => simp
    | true => rw [decide_eq_false (h k c)]; rfl
theorem grown_ok (G : Good n ps) {ts : List Nat} (TB : Tied n ps ts) : ∀ {l : List Int} {b : Nat}, (∀ q ∈ l, 0 ≤ q ∧ q < n) → FreeB ps b → InN n b →
    (∀ k, Has b k → Has (growN ts l b) k) ∧ FreeB ps (growN ts l b) ∧ InN n (growN ts l b) ∧ ∀ q ∈ l, Has (growN ts l b) q.toNat ∨ ∃ k, Has (growN ts l b) k ∧ T ps q.toNat k
  | [], b, _, hf, hn => ⟨fun _ h => h, hf, hn, by simp⟩
  | q :: l, b, hl, hf, hn => by
    have hq := hl q List.mem_cons_self
    have hlt : q.toNat < ts.length := by have := TB.len; omega
    have hz := and_zero TB hlt (b := b)
    by_cases c : (ts.getD q.toNat 0 &&& b) = 0
    · have hno := hz.mp c
      have hf' : FreeB ps (b ||| 2 ^ q.toNat) := fun x y hx hy ht => by
        rcases has_or.mp hx with hx | hx
        · rcases has_or.mp hy with hy | hy
          · exact hf x y hx hy ht
          · rw [has_pow] at hy; subst hy; exact hno x hx ht.symm
        · rw [has_pow] at hx; subst hx
          rcases has_or.mp hy with hy | hy
          · exact hno y hy ht
          · rw [has_pow] at hy; subst hy; exact T.irr G ht
      have hn' : InN n (b ||| 2 ^ q.toNat) := fun k hk => by
        rcases has_or.mp hk with hk | hk
        · exact hn k hk
        · rw [has_pow] at hk; subst hk; omega
      obtain ⟨h1, h2, h3, h4⟩ := grown_ok G TB (fun x hx => hl x (List.mem_cons_of_mem _ hx)) hf' hn'
      rw [growN, if_pos c]
      refine ⟨fun k hk => h1 k (has_or.mpr (.inl hk)), h2, h3, fun x hx => ?_⟩
      rcases List.mem_cons.mp hx with rfl | hx
      · exact .inl (h1 _ (has_or.mpr (.inr (has_pow.mpr rfl))))
      · exact h4 x hx
    · obtain ⟨h1, h2, h3, h4⟩ := grown_ok G TB (fun x hx => hl x (List.mem_cons_of_mem _ hx)) hf hn
      rw [growN, if_neg c]
      refine ⟨h1, h2, h3, fun x hx => ?_⟩
      rcases List.mem_cons.mp hx with rfl | hx
      · have : ∃ k, Has b k ∧ T ps x.toNat k := Classical.byContradiction fun hno => c (hz.mpr fun k hk ht => hno ⟨k, hk, ht⟩)
        obtain ⟨k, a, t⟩ := this
        exact .inr ⟨k, h1 k a, t⟩
      · exact h4 x hx
/-! ## bits as lots -/
theorem mem_lotL {b : Nat} {x : Int} : x ∈ lotL b ↔ 0 ≤ x ∧ Has b x.toNat := by
  have h := isLot_L b
  constructor
  · intro hx
    have h0 := h.1 x hx
    refine ⟨h0, (h.2.2 x.toNat).mp ?_⟩
    rw [Int.toNat_of_nonneg h0]; exact hx
  · rintro ⟨h0, hx⟩
    have := (h.2.2 x.toNat).mpr hx
    rw [Int.toNat_of_nonneg h0] at this
    exact this
theorem lot_lotL {b : Nat} (h : InN n b) : Lot n (lotL b) := ⟨(isLot_L b).2.1, fun x hx => by
  obtain ⟨h0, h1⟩ := mem_lotL.mp hx
  have := h _ h1
  omega⟩
theorem says_T {b k : Nat} : says ps (lotL b) (k : Int) = true ↔ ∀ q, Has b q → ¬ T ps q k := by
  rw [says_iff]
  constructor
  · intro h q hq ht
    exact h (q : Int) (mem_lotL.mpr ⟨by omega, by simpa using hq⟩) ht.symm
  · intro h x hx ht
    obtain ⟨h0, h1⟩ := mem_lotL.mp hx
    refine h x.toNat h1 ?_
    show norm ((x.toNat : Nat) : Int) (k : Int) ∈ ps
    rw [Int.toNat_of_nonneg h0, norm_sym]; exact ht
theorem free_rest (G : Good n ps) {g : Nat} (hn : InN n g) (hf : FreeB ps g) (hm : ∀ k : Nat, (k : Int) < n → Has g k ∨ ∃ q, Has g q ∧ T ps q k) : RestL n ps (lotL g) := by
  refine ⟨lot_lotL hn, chg_nil.mpr fun p p0 p1 => ?_⟩
  have ep : ((p.toNat : Nat) : Int) = p := Int.toNat_of_nonneg p0
  have hmem : p ∈ lotL g ↔ Has g p.toNat := ⟨fun h => (mem_lotL.mp h).2, fun h => mem_lotL.mpr ⟨p0, h⟩⟩
  by_cases c : Has g p.toNat
  · rw [decide_eq_true (hmem.mpr c), ← ep]
    exact says_T.mpr fun q hq ht => hf q p.toNat hq c ht
  · rw [decide_eq_false (fun h => c (hmem.mp h))]
    rcases hm p.toNat (by omega) with h | ⟨q, hq, ht⟩
    · exact absurd h c
    · refine Bool.eq_false_iff.mpr fun h => ?_
      rw [← ep] at h
      exact says_T.mp h q hq ht
theorem behind_no {b k : Nat} (hn : InN n b) (hk : (k : Int) < n) (h : ∃ q, Has b q ∧ T ps q k) : Behind n ps (lotL b) (k : Int) (lotL (andn b (2 ^ k))) := by
  have hs : ¬ says ps (lotL b) (k : Int) = true := fun e => let ⟨q, a, t⟩ := h; says_T.mp e q a t
  refine ⟨lot_lotL fun j hj => ?_, fun x => ?_⟩
  · have : Has b j := by unfold Has at hj; rw [andn_bit] at hj; simp at hj; exact hj.1
    exact hn j this
  · rw [if_neg hs, mem_lotL, mem_lotL]
    unfold Has
    rw [andn_bit, Nat.testBit_two_pow]
    constructor
    · rintro ⟨h0, h1⟩
      simp at h1
      exact ⟨⟨h0, h1.1⟩, fun e => h1.2 (by rw [e]; simp)⟩
    · rintro ⟨⟨h0, h1⟩, h2⟩
      refine ⟨h0, ?_⟩
      have : ¬ k = x.toNat := fun e => h2 (by omega)
      simp [h1, this]
theorem behind_yes {b k : Nat} (hn : InN n b) (hk : (k : Int) < n) (h : ∀ q, Has b q → ¬ T ps q k) : Behind n ps (lotL b) (k : Int) (lotL (b ||| 2 ^ k)) := by
  have hs : says ps (lotL b) (k : Int) = true := says_T.mpr h
  refine ⟨lot_lotL fun j hj => ?_, fun x => ?_⟩
  · rcases has_or.mp hj with hj | hj
    · exact hn j hj
    · rw [has_pow] at hj; subst hj; exact hk
  · rw [if_pos hs, mem_lotL, mem_lotL, has_or, has_pow]
    constructor
    · rintro ⟨h0, h1 | h1⟩
      · exact .inl ⟨h0, h1⟩
      · exact .inr (by omega)
    · rintro (⟨h0, h1⟩ | rfl)
      · exact ⟨h0, .inl h1⟩
      · exact ⟨by omega, .inr (by simp)⟩
end


end Bs

namespace Bs
open PySem PySem.Spec L2
theorem has_andn {a b k : Nat} : Has (andn a b) k ↔ Has a k ∧ ¬ Has b k := by
  unfold Has
  rw [andn_bit]
  cases a.testBit k <;> cases b.testBit k <;> simp
theorem has_and {a b k : Nat} : Has (a &&& b) k ↔ Has a k ∧ Has b k := by
  unfold Has
  rw [Nat.testBit_and]
  cases a.testBit k <;> cases b.testBit k <;> simp
theorem has_zero {k : Nat} : ¬ Has 0 k := by simp [Has]
theorem has_ex {b : Nat} (h : b ≠ 0) : ∃ k, Has b k := by
  obtain ⟨k, h1, _⟩ := low_ex h
  exact ⟨k, h1⟩
theorem isLot_eq {l : List Int} {b : Nat} (h : IsLot l b) : l = lotL b := by
  have h2 := isLot_L b
  refine ups_ext h.2.1 h2.2.1 fun x => ⟨fun hx => ?_, fun hx => ?_⟩
  · have := (h2.2.2 x.toNat).mpr ((h.2.2 x.toNat).mp (by rw [Int.toNat_of_nonneg (h.1 x hx)]; exact hx))
    rw [Int.toNat_of_nonneg (h.1 x hx)] at this
    exact this
  · have := (h.2.2 x.toNat).mpr ((h2.2.2 x.toNat).mp (by rw [Int.toNat_of_nonneg (h2.1 x hx)]; exact hx))
    rw [Int.toNat_of_nonneg (h2.1 x hx)] at this
    exact this
theorem has_lotL {b k : Nat} : ((k : Int)) ∈ lotL b ↔ Has b k := (isLot_L b).2.2 k
theorem lotL_bits {n : Int} {l : List Int} (h : Lot n l) : lotL (bitsN l) = l := (isLot_eq (isLot_bits h)).symm
theorem Tied.uniq {n : Int} {ps : List (Int × Int)} {ts us : List Nat} (h : Tied n ps ts) (h' : Tied n ps us) : ts = us := by
  have hl : ts.length = us.length := by have := h.len; have := h'.len; omega
  refine List.ext_getElem hl fun i h1 h2 => Nat.eq_of_testBit_eq fun k => ?_
  have a := h.bit i k h1
  have b := h'.bit i k h2
  rw [List.getD_eq_getElem?_getD, List.getElem?_eq_getElem h1] at a
  rw [List.getD_eq_getElem?_getD, List.getElem?_eq_getElem h2] at b
  exact a.trans b.symm
/-- layer by layer: what is to fall, the farthest first -/
inductive Falls (ps : List (Int × Int)) : Nat → Nat → List Int → List Int → Prop where
  | nil {edge : Nat} {acc : List Int} : Falls ps 0 edge acc acc
  | cons {left edge r : Nat} {acc out : List Int} (h : left ≠ 0) (hr : Near ps edge r) (t : Falls ps (andn left (r &&& left)) (r &&& left) (lotL (r &&& left) ++ acc) out) : Falls ps left edge acc out
theorem Falls.uniq {ps : List (Int × Int)} {left edge : Nat} {acc o o' : List Int} (h : Falls ps left edge acc o) (h' : Falls ps left edge acc o') : o = o' := by
  induction h generalizing o' with
  | nil =>
    cases h' with
    | nil => rfl
    | cons h _ _ => exact absurd rfl h
  | cons h hr t ih =>
    cases h' with
    | nil => exact absurd rfl h
    | cons h2 hr2 t2 =>
      have e := hr.uniq hr2
      subst e
      exact ih t2
section
variable {n : Int} {ps : List (Int × Int)}
theorem fall_row {A : Nat} : ∀ (l : List Int) {B : Nat}, InN n B → (∀ p ∈ l, 0 ≤ p ∧ p < n) → (∀ p ∈ l, ∃ q, Has A q ∧ T ps q p.toNat) → (∀ k, Has A k → Has B k) → (∀ k : Nat, Has A k → (k : Int) ∉ l) →
    ∃ B', Row n ps l (lotL B) (lotL B') ∧ InN n B' ∧ ∀ k : Nat, Has B' k ↔ Has B k ∧ (k : Int) ∉ l
  | [], B, hB, _, _, _, _ => ⟨B, rfl, hB, fun k => by simp⟩
  | p :: l, B, hB, ok, hn, hA, hd => by
    have hp := ok p List.mem_cons_self
    have ep : ((p.toNat : Nat) : Int) = p := Int.toNat_of_nonneg hp.1
    obtain ⟨q, q1, q2⟩ := hn p List.mem_cons_self
    have hb := behind_no (ps := ps) hB (k := p.toNat) (by omega) ⟨q, hA q q1, q2⟩
    rw [ep] at hb
    obtain ⟨B', r, h1, h2⟩ := fall_row l (A := A) (B := andn B (2 ^ p.toNat)) (fun k hk => hB k (has_andn.mp hk).1) (fun x hx => ok x (List.mem_cons_of_mem _ hx)) (fun x hx => hn x (List.mem_cons_of_mem _ hx))
      (fun k hk => has_andn.mpr ⟨hA k hk, fun e => by
        rw [has_pow] at e
        refine hd k hk ?_
        rw [e, ep]; exact List.mem_cons_self⟩) (fun k hk hm => hd k hk (List.mem_cons_of_mem _ hm))
    refine ⟨B', ⟨_, hb, r⟩, h1, fun k => ?_⟩
    rw [h2, has_andn, has_pow, List.mem_cons]
    have : k = p.toNat ↔ (k : Int) = p := by omega
    rw [this, not_or, and_assoc]
theorem rise_row {E : Nat} (hE : FreeB ps E) : ∀ (l : List Int) {B : Nat}, InN n B → (∀ p ∈ l, 0 ≤ p ∧ p < n) → (∀ p ∈ l, Has E p.toNat) → (∀ k, Has B k → Has E k) →
    ∃ B', Row n ps l (lotL B) (lotL B') ∧ InN n B' ∧ ∀ k : Nat, Has B' k ↔ Has B k ∨ (k : Int) ∈ l
  | [], B, hB, _, _, _ => ⟨B, rfl, hB, fun k => by simp⟩
  | p :: l, B, hB, ok, hn, hA => by
    have hp := ok p List.mem_cons_self
    have ep : ((p.toNat : Nat) : Int) = p := Int.toNat_of_nonneg hp.1
    have hb := behind_yes (ps := ps) hB (k := p.toNat) (by omega) fun q hq ht => hE q p.toNat (hA q hq) (hn p List.mem_cons_self) ht
    rw [ep] at hb
    obtain ⟨B', r, h1, h2⟩ := rise_row hE l (B := B ||| 2 ^ p.toNat) (fun k hk => by
      rcases has_or.mp hk with hk | hk
      · exact hB k hk
      · rw [has_pow] at hk; subst hk; omega) (fun x hx => ok x (List.mem_cons_of_mem _ hx)) (fun x hx => hn x (List.mem_cons_of_mem _ hx))
      (fun k hk => by
        rcases has_or.mp hk with hk | hk
        · exact hA k hk
        · rw [has_pow] at hk; subst hk; exact hn p List.mem_cons_self)
    refine ⟨B', ⟨_, hb, r⟩, h1, fun k => ?_⟩
    rw [h2, has_or, has_pow, List.mem_cons]
    have : k = p.toNat ↔ (k : Int) = p := by omega
    rw [this, or_assoc]
structure FInv (n : Int) (ps : List (Int × Int)) (S E left edge : Nat) (acc : List Int) : Prop where
  sub : ∀ k, Has left k → Has S k
  ed : ∀ k, Has edge k → Has S k ∧ ¬ Has left k
  off : ∀ q k, Has S q → ¬ Has left q → ¬ Has edge q → Has left k → ¬ T ps q k
  keep : ∀ k, Has S k → Has E k → ¬ Has left k
  row : Row n ps acc (lotL (andn S left)) (lotL (S &&& E))
  ok : ∀ x ∈ acc, 0 ≤ x ∧ x < n
  nd : acc.Nodup
  out : ∀ x ∈ acc, ¬ Has left x.toNat
theorem nodup_len {l : List Int} (nd : l.Nodup) (ok : ∀ x ∈ l, 0 ≤ x ∧ x < n) (h0 : 0 ≤ n) : (l.length : Int) ≤ n := by
  have := sub_len nd (B := (List.range n.toNat).map fun k : Nat => (k : Int)) fun x hx => List.mem_map.mpr ⟨x.toNat, List.mem_range.mpr (by have := ok x hx; omega), Int.toNat_of_nonneg (ok x hx).1⟩
  rw [List.length_map, List.length_range] at this
  omega
theorem FInv.init (n : Int) (ps : List (Int × Int)) (S E : Nat) : FInv n ps S E (andn S E) (S &&& E) [] := by
  refine ⟨fun k hk => (has_andn.mp hk).1, fun k hk => ⟨(has_and.mp hk).1, fun h => (has_andn.mp h).2 (has_and.mp hk).2⟩, fun q k hq hl he _ => ?_, fun k hs he h => (has_andn.mp h).2 he, ?_, by simp, .nil, by simp⟩
  · exact absurd (has_and.mpr ⟨hq, Classical.byContradiction fun h => hl (has_andn.mpr ⟨hq, h⟩)⟩) he
  · have e : andn S (andn S E) = S &&& E := bits_ext fun k => by
      rw [has_andn, has_andn, has_and]
      constructor
      · rintro ⟨h1, h2⟩
        exact ⟨h1, Classical.byContradiction fun h => h2 ⟨h1, h⟩⟩
      · rintro ⟨h1, h2⟩
        exact ⟨h1, fun h => h.2 h2⟩
    rw [e]
    exact rfl
theorem FInv.more {S E left edge r : Nat} {acc : List Int} {cs : List Nat} (h : FInv n ps S E left edge acc) (hS : PiecesOk ps S cs) (hm : ∀ c ∈ cs, ∃ k, Has c k ∧ Has E k) (h0 : left ≠ 0) (hr : Near ps edge r) : r &&& left ≠ 0 := fun e0 => by
  have noT : ∀ q k, Has edge q → Has left k → ¬ T ps q k := fun q k hq hk ht => has_zero (k := k) (e0 ▸ has_and.mpr ⟨(hr k).mpr ⟨q, hq, ht⟩, hk⟩)
  have no : ∀ q k, Has S q → ¬ Has left q → Has left k → ¬ T ps q k := fun q k hq hl hk ht => by
    by_cases he : Has edge q
    · exact noT q k he hk ht
    · exact h.off q k hq hl he hk ht
  obtain ⟨j, hj⟩ := has_ex h0
  obtain ⟨c, hc, hcj⟩ := hS.cover j (h.sub j hj)
  obtain ⟨k, hk, hE⟩ := hm c hc
  have hkS := hS.sub c hc k hk
  obtain ⟨s, hs, hcl⟩ := hS.hung c hc
  by_cases hls : Has left s
  · refine h.keep k hkS hE (hcl (fun x => Has left x) hls (fun q x hq hx ht => ?_) k hk)
    exact Classical.byContradiction fun hno => no x q hx hno hq ht.symm
  · refine (hcl (fun x => Has S x ∧ ¬ Has left x) ⟨hS.sub c hc s hs, hls⟩ (fun q x hq hx ht => ⟨hx, fun hlx => no q x hq.1 hq.2 hlx ht⟩) j hcj).2 hj
theorem FInv.step {S E left edge r : Nat} {acc : List Int} (h : FInv n ps S E left edge acc) (hn : InN n S) (hr : Near ps edge r) : FInv n ps S E (andn left (r &&& left)) (r &&& left) (lotL (r &&& left) ++ acc) := by
  refine ⟨fun k hk => h.sub k (has_andn.mp hk).1, fun k hk => ⟨h.sub k (has_and.mp hk).2, fun h2 => (has_andn.mp h2).2 hk⟩, fun q k hq hl he hk ht => ?_, fun k hs he hl => h.keep k hs he (has_andn.mp hl).1, ?_, fun x hx => ?_, ?_, fun x hx => ?_⟩
  · have hk' := has_andn.mp hk
    have hlq : ¬ Has left q := fun hl2 => hl (has_andn.mpr ⟨hl2, he⟩)
    by_cases c : Has edge q
    · exact hk'.2 (has_and.mpr ⟨(hr k).mpr ⟨q, c, ht⟩, hk'.1⟩)
    · exact h.off q k hq hlq c hk'.1 ht
  · have hnB : InN n (andn S (andn left (r &&& left))) := fun k hk => hn k (has_andn.mp hk).1
    obtain ⟨B', r1, _, r3⟩ := fall_row (n := n) (ps := ps) (A := edge) (lotL (r &&& left)) (B := andn S (andn left (r &&& left))) hnB
      (fun p hp => by
        obtain ⟨p0, p1⟩ := mem_lotL.mp hp
        have := hn _ (h.sub _ (has_and.mp p1).2)
        omega)
      (fun p hp => by
        obtain ⟨p0, p1⟩ := mem_lotL.mp hp
        obtain ⟨q, q1, q2⟩ := (hr _).mp (has_and.mp p1).1
        exact ⟨q, q1, q2⟩)
      (fun k hk => has_andn.mpr ⟨(h.ed k hk).1, fun h2 => (h.ed k hk).2 (has_andn.mp h2).1⟩)
      (fun k hk hm => (h.ed k hk).2 (has_and.mp (has_lotL.mp hm)).2)
    have e : B' = andn S left := bits_ext fun k => by
      rw [r3, has_andn, has_andn, has_andn, has_lotL]
      constructor
      · rintro ⟨⟨a, b⟩, c⟩
        exact ⟨a, fun hl => b ⟨hl, c⟩⟩
      · rintro ⟨a, b⟩
        exact ⟨⟨a, fun hl => b hl.1⟩, fun hl => b (has_and.mp hl).2⟩
    rw [e] at r1
    exact r1.app h.row
  · rcases List.mem_append.mp hx with hx | hx
    · obtain ⟨p0, p1⟩ := mem_lotL.mp hx
      have := hn _ (h.sub _ (has_and.mp p1).2)
      omega
    · exact h.ok x hx
  · refine List.nodup_append.mpr ⟨upi_nodup (isLot_L _).2.1, h.nd, fun x hx y hy e => ?_⟩
    subst e
    exact h.out x hy (has_and.mp (mem_lotL.mp hx).2).2
  · intro hl
    rcases List.mem_append.mp hx with hx | hx
    · exact (has_andn.mp hl).2 (mem_lotL.mp hx).2
    · exact h.out x hx (has_andn.mp hl).1
theorem FInv.fin {S E edge : Nat} {acc : List Int} (h : FInv n ps S E 0 edge acc) (hn : InN n S) (hnE : InN n E) (hE : FreeB ps E) :
    Row n ps (acc ++ lotL (andn E S)) (lotL S) (lotL E) ∧ ∀ x ∈ acc ++ lotL (andn E S), 0 ≤ x ∧ x < n := by
  have e0 : andn S 0 = S := bits_ext fun k => by rw [has_andn]; exact ⟨fun h => h.1, fun h => ⟨h, has_zero⟩⟩
  have hr := h.row
  rw [e0] at hr
  have ok2 : ∀ p ∈ lotL (andn E S), 0 ≤ p ∧ p < n := fun p hp => by
    obtain ⟨p0, p1⟩ := mem_lotL.mp hp
    have := hnE _ (has_andn.mp p1).1
    omega
  obtain ⟨B', r1, _, r3⟩ := rise_row (n := n) (ps := ps) hE (lotL (andn E S)) (B := S &&& E) (fun k hk => hn k (has_and.mp hk).1) ok2
    (fun p hp => (has_andn.mp (mem_lotL.mp hp).2).1) (fun k hk => (has_and.mp hk).2)
  have e : B' = E := bits_ext fun k => by
    rw [r3, has_and, has_lotL, has_andn]
    constructor
    · rintro (h | h)
      · exact h.2
      · exact h.1
    · intro h
      by_cases c : Has S k
      · exact .inl ⟨c, h⟩
      · exact .inr ⟨h, c⟩
  rw [e] at r1
  exact ⟨hr.app r1, fun x hx => (List.mem_append.mp hx).elim (h.ok x) (ok2 x)⟩
theorem andn_lt {a b : Nat} (h : (b &&& a) ≠ 0) : andn a (b &&& a) < a := by
  have e1 := andn_sub a (b &&& a)
  have e2 : a &&& (b &&& a) = b &&& a := bits_ext fun k => by rw [has_and, has_and]; exact ⟨fun h => h.2, fun h => ⟨h.2, h⟩⟩
  have : b &&& a ≤ a := Nat.and_le_right
  omega
/-! ## the row that slips to yes -/
def heldN (part : Nat) (cs : List Nat) : Nat := heldF part cs (2 ^ part)
structure SlipIs (n : Int) (ps : List (Int × Int)) (b part : Nat) (row : List Int) : Prop where
  ex : ∃ ts cs r g out, Tied n ps ts ∧ Pieces ps b cs ∧ Near ps (heldN part cs) r ∧ g = growN ts (lotL (andn (andn (2 ^ n.toNat - 1) (heldN part cs)) r)) (heldN part cs) ∧ Falls ps (andn b g) (b &&& g) [] out ∧ row = out ++ lotL (andn g b)
theorem SlipIs.uniq {b part : Nat} {row row' : List Int} (h : SlipIs n ps b part row) (h' : SlipIs n ps b part row') : row = row' := by
  obtain ⟨ts, cs, r, g, out, a1, a2, a3, rfl, a5, rfl⟩ := h.ex
  obtain ⟨ts', cs', r', g', out', b1, b2, b3, rfl, b5, rfl⟩ := h'.ex
  have e1 := a1.uniq b1
  have e2 := a2.uniq b2
  subst e1 e2
  have e3 := a3.uniq b3
  subst e3
  rw [a5.uniq b5]
end


end Bs

namespace Bs
open PySem PySem.Spec L2
/-! ## a source of draws -/
def Sr (H : Hp) (S : Addr) : Prop := ∃ a b c d e : Int, H S = some (.lst [.int a, .int b, .int c, .int d, .int e])
theorem Sr.ext {H H' : Hp} {S : Addr} (h : Sr H S) (e : Same H H') : Sr H' S := let ⟨a, b, c, d, f, q⟩ := h; ⟨a, b, c, d, f, e _ _ q⟩
theorem Sr.lst {H : Hp} {S : Addr} (h : Sr H S) : ∃ l, H S = some (.lst l) := let ⟨_, _, _, _, _, q⟩ := h; ⟨_, q⟩
theorem Sr.tk {H H' : Hp} {S : Addr} (h : Sr H S) (e : ExT S H H') : TK H H' := let ⟨_, q⟩ := h.lst; e.tk q
theorem Sr.upd {H : Hp} {S p : Addr} {o : HO} (h : Sr H S) (hp : p ≠ S) : Sr (L2.upd H p o) S := let ⟨a, b, c, d, f, q⟩ := h; ⟨a, b, c, d, f, by rw [upd_ne hp.symm]; exact q⟩
theorem Sr.neT {H : Hp} {S p : Addr} (h : Sr H S) (hp : H p = none) : p ≠ S := fun q => by
  obtain ⟨l, h1⟩ := h.lst
  rw [← q, hp] at h1; cases h1
theorem sql_keeps {K : PySem.W.Frag} {H H' : Hp} {a : Addr} {xs : List V} (h : SqL K H a xs) (e : Same H H') : SqL K H' a xs := by
  rcases h with (h | ⟨o, h⟩) | h
  · exact .inl (.inl (e _ _ h))
  · exact .inl (.inr ⟨o, e _ _ h⟩)
  · exact .inr h
theorem same_ext {H0 H1 H' : Hp} {S : Addr} (e : Same H0 H1) (h : H0 S = none) (x : ExT S H1 H') : Same H0 H' := fun b o q => x _ _ (fun z => by rw [z, h] at q; cases q) (e _ _ q)
def spDraw : Sp := fun vs H Q _ => ∃ (S : Addr) (m : Int), vs = [.ref S, .int m] ∧ 0 < m ∧ m < 1073741824 ∧ Sr H S ∧ ∀ r H', 0 ≤ r → r < m → ExT S H H' → Sr H' S → Q (.int r) H'
section
variable {P : Program} {w : World} {K : PySem.W.Frag} {mg : Str → Option Value} {base : Heap} {C : Addr}
abbrev s__law_draw : Stmt := (top 28)
theorem sc__law_draw : FnScope ["source", "many", "got", "number"] ["source", "many"] (defScope s__law_draw) := ⟨rfl, rfl, rfl, by decide +kernel, rfl, by decide +kernel, by decide +kernel⟩

theorem ok_law_draw {f : Addr} {fd : FuncData} (F : Fun K "_law_draw" "_law_draw" s__law_draw f fd) (hm : mg "_law_draw" = some (.ref f)) (B : Bl mg) : Cal P w K mg base 1 "_law_draw" ["source", "many"] spDraw := by
  refine ⟨f, fd, F.ok sc__law_draw (fun vs H Q E h => ?_) (fun cdv A outer s H vs Q E hr h => ?_), hm, F.kp, F.binds (ps := ["source", "many"]) fun _ _ _ _ _ _ us hl => match us, hl with | [_, _], _ => rfl⟩
  · obtain ⟨T, m, rfl, _⟩ := h; rfl
  · obtain ⟨T, m, rfl, m1, m2, ⟨a, b, c, d, e, hT⟩, k⟩ := h
    have m0 : m ≠ 0 := by omega
    have mN : m.natAbs < 1073741824 := by omega
    refine ⟨_, (pss_cons (ps_if (pt_cmpR op_gt (pe_ix ix_list (pv 0) pe_int (fun _ _ => rfl)) pe_int (nomark _)) (pss_cons (ps_set (i := 2) sc__law_draw.nd rfl (by first | exact Or.inl rfl | exact Or.inr rfl) (pe_op op_modN (pe_callTy call_int1 (by rfl) B.int_ (by decide +kernel) (pa_cons (pe_ix ix_list (pv 0) pe_int (fun _ _ => rfl)) pa_nil)) (pv 1)))
 (pss_cons (ps_asg (pe_op op_fdivN (pe_ix ix_list (pv 0) pe_int (fun _ _ => rfl)) (pv 1)) (pg_sub (pv 0) pe_int set_list))
 (pss_one (ps_ret (pv 2))))) pss_nil)
 (pss_cons (ps_asg (pe_op op_add (pe_ix ix_list (pv 0) pe_int (fun _ _ => rfl)) pe_int) (pg_sub (pv 0) pe_int set_list))
 (pss_cons (ps_set (i := 3) sc__law_draw.nd rfl (by first | exact Or.inl rfl | exact Or.inr rfl) (pe_op op_modN (pe_callTy call_int1 (by rfl) B.int_ (by decide +kernel) (pa_cons (pe_op op_mul (pe_op op_add (pe_op op_add (pe_op op_add (pe_ix ix_list (pv 0) pe_int (fun _ _ => rfl)) (pe_ix ix_list (pv 0) pe_int (fun _ _ => rfl))) (pe_op op_mul pe_int (pe_ix ix_list (pv 0) pe_int (fun _ _ => rfl)))) (pe_op op_mul pe_int (pe_ix ix_list (pv 0) pe_int (fun _ _ => rfl)))) pe_int) pa_nil)) pe_int))
 (pss_cons (ps_set (i := 3) sc__law_draw.nd rfl (by first | exact Or.inl rfl | exact Or.inr rfl) (pe_op op_modN (pe_callTy call_int1 (by rfl) B.int_ (by decide +kernel) (pa_cons (pe_op op_mul (pv 3) (pe_op op_add (pe_op op_fdivN (pv 3) pe_int) pe_int)) pa_nil)) pe_int))
 (pss_cons (ps_set (i := 3) sc__law_draw.nd rfl (by first | exact Or.inl rfl | exact Or.inr rfl) (pe_op op_modN (pe_callTy call_int1 (by rfl) B.int_ (by decide +kernel) (pa_cons (pe_op op_mul (pv 3) (pe_op op_add (pe_op op_fdivN (pv 3) pe_int) pe_int)) pa_nil)) pe_int))
 (pss_one (ps_ret (pe_op op_modN (pe_callTy call_int1 (by rfl) B.int_ (by decide +kernel) (pa_cons (pe_op op_fdivN (pv 3) pe_int) pa_nil)) (pv 1))))))))), ?_⟩
    refine ⟨_, rfl, T, _, 0, _, rfl, rfl, SqL.of hT, rfl, _, _, rfl, rfl, _, rfl, ?_⟩
    refine on_if (fun cc => ?_) (fun cc => ?_)
    · refine ⟨_, rfl, T, _, 0, _, rfl, rfl, SqL.of hT, rfl, .inl ⟨_, rfl, ?_⟩⟩
      refine ⟨_, rfl, _, _, rfl, rfl, m0, ?_⟩
      refine ⟨_, rfl, T, _, 0, _, rfl, rfl, SqL.of hT, rfl, _, rfl, _, _, rfl, rfl, ⟨m0, mN⟩, ?_⟩
      refine ⟨_, rfl, T, _, 0, 0, rfl, rfl, hT, rfl, ?_⟩
      exact ⟨_, rfl, k _ _ (fm0 m1).1 (fm0 m1).2 ExT.rfl'.upd ⟨_, _, _, _, _, upd_same⟩⟩
    · refine ⟨_, rfl, T, _, 4, _, rfl, rfl, SqL.of hT, rfl, _, _, rfl, rfl, ?_⟩
      refine ⟨_, rfl, T, _, 4, 4, rfl, rfl, hT, rfl, ?_⟩
      have e1 : ExT T H (upd H T (.lst ([.int a, .int b, .int c, .int d, .int e].set 4 (.int (e + 1))))) := ExT.rfl'.upd
      have hT1 : (upd H T (.lst ([.int a, .int b, .int c, .int d, .int e].set 4 (.int (e + 1))))) T = some (.lst [.int a, .int b, .int c, .int d, .int (e + 1)]) := upd_same
      generalize upd H T (.lst ([.int a, .int b, .int c, .int d, .int e].set 4 (.int (e + 1)))) = H1 at e1 hT1 ⊢
      refine ⟨_, rfl, T, _, 1, _, rfl, rfl, SqL.of hT1, rfl, _, rfl, T, _, 2, _, rfl, rfl, SqL.of hT1, rfl, _, _, rfl, rfl, ?_⟩
      refine ⟨_, rfl, T, _, 3, _, rfl, rfl, SqL.of hT1, rfl, _, _, rfl, rfl, .inl ⟨by decide, by decide⟩, _, _, rfl, rfl, ?_⟩
      refine ⟨_, rfl, T, _, 4, _, rfl, rfl, SqL.of hT1, rfl, _, _, rfl, rfl, .inl ⟨by decide, by decide⟩, _, _, rfl, rfl, ?_⟩
      refine ⟨_, _, rfl, rfl, .inr ⟨by decide, by decide⟩, .inl ⟨_, rfl, _, _, rfl, rfl, (by show (2147483647 : Int) ≠ 0; decide), ?_⟩⟩
      dsimp only
      generalize hm1 : Int.fmod _ 2147483647 = mx
      have b1 : 0 ≤ mx ∧ mx < 2147483647 := by rw [← hm1]; exact fm0 (by decide)
      clear hm1
      refine ⟨_, rfl, _, rfl, _, _, rfl, rfl, ⟨by decide, by decide⟩, _, _, rfl, rfl, _, _, rfl, rfl, .inl ⟨by omega, by omega⟩, .inl ⟨_, rfl, _, _, rfl, rfl, (by show (2147483647 : Int) ≠ 0; decide), ?_⟩⟩
      dsimp only
      generalize hm2 : (mx * (mx.fdiv 1009 + 69621)).fmod 2147483647 = my
      have b2 : 0 ≤ my ∧ my < 2147483647 := by rw [← hm2]; exact fm0 (by decide)
      clear hm2
      refine ⟨_, rfl, _, rfl, _, _, rfl, rfl, ⟨by decide, by decide⟩, _, _, rfl, rfl, _, _, rfl, rfl, .inl ⟨by omega, by omega⟩, .inl ⟨_, rfl, _, _, rfl, rfl, (by show (2147483399 : Int) ≠ 0; decide), ?_⟩⟩
      dsimp only
      refine ⟨_, rfl, _, _, rfl, rfl, ⟨by decide, by decide⟩, .inl ⟨_, rfl, _, rfl, _, _, rfl, rfl, m0, ?_⟩⟩
      exact k _ _ (fm0 m1).1 (fm0 m1).2 e1 ⟨_, _, _, _, _, hT1⟩
def sp_source (K : PySem.W.Frag) : Sp := fun vs H Q _ => ∃ (a : Addr) (ns : List Int) (k : Int), vs = [.ref a, .int k] ∧ SqL K H a (ns.map V.int) ∧ 0 ≤ k ∧ ∀ S H', Same H H' → H S = none → Sr H' S → Q (.ref S) H'
abbrev s__law_source : Stmt := (top 27)
theorem sc__law_source : FnScope ["script", "k", "fold", "item", "cell"] ["script", "k"] (defScope s__law_source) := ⟨rfl, rfl, rfl, by decide +kernel, rfl, by decide +kernel, by decide +kernel⟩

theorem ok_law_source {f : Addr} {fd : FuncData} (F : Fun K "_law_source" "_law_source" s__law_source f fd) (hm : mg "_law_source" = some (.ref f)) (B : Bl mg) : Cal P w K mg base 1 "_law_source" ["script", "k"] (sp_source K) := by
  refine ⟨f, fd, F.ok sc__law_source (fun vs H Q E h => ?_) (fun cdv A outer s H vs Q E hr h => ?_), hm, F.kp, F.binds (ps := ["script", "k"]) fun _ _ _ _ _ _ us hl => match us, hl with | [_, _], _ => rfl⟩
  · obtain ⟨a, ns, k, rfl, _⟩ := h; rfl
  · obtain ⟨a, ns, k, rfl, hS, k0, kQ⟩ := h
    refine ⟨_, (pss_cons (ps_set (i := 2) sc__law_source.nd rfl (by first | exact Or.inl rfl | exact Or.inr rfl) pe_int)
 (pss_cons (ps_for PassesOwn.never rfl (pi_list (pe_slice sl_list (pv 0) po_none (po_some pe_int))) (pg_name (i := 3) sc__law_source.nd rfl (by first | exact Or.inl rfl | exact Or.inr rfl))
  (pss_one (ps_set (i := 2) sc__law_source.nd rfl (by first | exact Or.inl rfl | exact Or.inr rfl) (pe_op op_modN (pe_callTy call_int1 (by rfl) B.int_ (by decide +kernel) (pa_cons (pe_op op_add (pe_op op_add (pe_op op_mul (pv 2) pe_int) (pe_op op_modN (pe_callTy call_int1 (by rfl) B.int_ (by decide +kernel) (pa_cons (pv 3) pa_nil)) pe_int)) pe_int) pa_nil)) pe_int))))
 (Evl.pss_cut (ps_set (i := 4) sc__law_source.nd rfl (by first | exact Or.inl rfl | exact Or.inr rfl) (pe_ifExp (pt_cmpR op_lt (pv 1) (pe_callB call_len_seq (by rfl) B.len (by decide +kernel) (pa_cons (pv 0) pa_nil)) (nomark _)) (pe_callTy call_int1 (by rfl) B.int_ (by decide +kernel) (pa_cons (pe_ix ix_list (pv 0) (pv 1) (fun _ _ => rfl)) pa_nil)) pe_int))
 (pss_one (ps_ret (pe_lst (pa_cons (pe_ifExp (pt_cmpR op_ge (pv 4) (pe_op op_pow pe_int pe_int) (nomark _)) (pv 4) pe_int) (pa_cons (pe_op op_modN (pe_callTy call_int1 (by rfl) B.int_ (by decide +kernel) (pa_cons (pv 4) pa_nil)) pe_int) (pa_cons (pv 2) (pa_cons (pe_op op_add (pv 1) pe_int) (pa_cons pe_int pa_nil))))))))))), ?_⟩
    refine ⟨_, rfl, _, rfl, a, _, rfl, hS, fun p hp => ?_⟩
    have e1 := L2.Same.new (o := .lst (cutV (ns.map V.int) none (some 63))) hp
    refine ⟨p, rfl, ⟨_, SqL.of upd_same⟩, for_list (K := K) (a := p) (xs := cutV (ns.map V.int) none (some 63)) (fun i σ H' => H' = upd H p (.lst (cutV (ns.map V.int) none (some 63))) ∧ ∃ (fo : Int) (v3 : Option V), σ = [some (.ref a), some (.int k), some (.int fo), v3, none])
      ⟨rfl, _, none, rfl⟩ (fun i σ H' _ h => by rw [h.1]; exact SqL.of upd_same) ?_ ?_⟩
    · rintro i v σ H' hv ⟨rfl, fo, v3, rfl⟩
      have hmem := List.mem_of_mem_drop (List.mem_of_mem_take (show v ∈ cutV (ns.map V.int) none (some 63) from List.mem_of_getElem? hv))
      obtain ⟨z, _, rfl⟩ := List.mem_map.mp hmem
      refine ⟨_, rfl, _, _, rfl, rfl, .inr ⟨by decide, by decide⟩, ?_⟩
      refine ⟨_, rfl, .inl ⟨_, rfl, _, _, rfl, rfl, (by show (2147483629 : Int) ≠ 0; decide), ?_⟩⟩
      refine ⟨_, _, rfl, rfl, _, _, rfl, rfl, .inl ⟨_, rfl, _, _, rfl, rfl, (by show (2147483647 : Int) ≠ 0; decide), ?_⟩⟩
      exact ⟨rfl, _, _, rfl⟩
    rintro σ H' ⟨rfl, fo, v3, rfl⟩
    have hS1 : SqL K (upd H p (.lst (cutV (ns.map V.int) none (some 63)))) a (ns.map V.int) := sql_keeps hS e1
    generalize upd H p (.lst (cutV (ns.map V.int) none (some 63))) = H1 at e1 hS1 ⊢
    refine ⟨fun σ H' => H' = H1 ∧ ∃ cell : Int, σ = [some (.ref a), some (.int k), some (.int fo), v3, some (.int cell)], ?_, ?_⟩
    · refine ⟨_, rfl, _, rfl, a, _, rfl, .inl hS1, _, _, rfl, rfl, _, rfl, ?_⟩
      show (if decide (k < (((ns.map V.int).length : Nat) : Int)) = true then _ else _)
      refine onb (fun c => ?_) (fun c => ?_)
      · rw [List.length_map] at c
        have hc : ns[k.toNat]? = some ns[k.toNat] := List.getElem?_eq_getElem (by omega)
        exact ⟨_, rfl, _, rfl, a, _, k, .int ns[k.toNat], rfl, rfl, hS1, at_of (j := k.toNat) (by omega) (by rw [List.getElem?_map, hc]; rfl), .inl ⟨_, rfl, rfl, _, rfl⟩⟩
      · exact ⟨rfl, _, rfl⟩
    rintro σ H' ⟨rfl, cell, rfl⟩
    refine ⟨_, rfl, _, _, rfl, rfl, ⟨by decide, by decide, by decide⟩, _, _, rfl, rfl, _, rfl, ?_⟩
    show (if decide (cell ≥ (10 : Int) ^ (18 : Int).toNat) = true then _ else _)
    refine onb (fun c => ?_) (fun c => ?_)
    · refine ⟨_, rfl, _, rfl, .inl ⟨_, rfl, _, _, rfl, rfl, (by show (2147483629 : Int) ≠ 0; decide), ?_⟩⟩
      refine ⟨_, rfl, _, rfl, _, _, rfl, rfl, (by show 5 ≤ sizeLine; decide), fun S hS' => ?_⟩
      exact kQ S _ (e1.trans (L2.Same.new hS')) (L2.Same.free e1 hS') ⟨_, _, _, _, _, upd_same⟩
    · refine ⟨_, rfl, .inl ⟨_, rfl, _, _, rfl, rfl, (by show (2147483629 : Int) ≠ 0; decide), ?_⟩⟩
      refine ⟨_, rfl, _, rfl, _, _, rfl, rfl, (by show 5 ≤ sizeLine; decide), fun S hS' => ?_⟩
      exact kQ S _ (e1.trans (L2.Same.new hS')) (L2.Same.free e1 hS') ⟨_, _, _, _, _, upd_same⟩
end


end Bs

namespace Bs
open PySem PySem.Spec L2
section
variable {P : Program} {w : World} {K : PySem.W.Frag} {mg : Str → Option Value} {base : Heap} {C : Addr}
def sp_perm : Sp := fun vs H Q _ => ∃ T n, vs = [.ref T, .int n] ∧ Sr H T ∧ 1 ≤ n ∧ n ≤ 1000 ∧ ∀ p ns H', ExT T H H' → Sr H' T → H p = none → H' p = some (.lst (ns.map V.int)) → Names n ns → Q (.ref p) H'
abbrev s__law_perm : Stmt := (top 29)
theorem sc__law_perm : FnScope ["source", "many", "left", "found", "k"] ["source", "many"] (defScope s__law_perm) := ⟨rfl, rfl, rfl, by decide +kernel, rfl, by decide +kernel, by decide +kernel⟩

theorem ok_law_perm {f : Addr} {fd : FuncData} (F : Fun K "_law_perm" "_law_perm" s__law_perm f fd) (hm : mg "_law_perm" = some (.ref f)) (B : Bl mg) (c__law_draw : Cal P w K mg base 1 "_law_draw" ["source", "many"] spDraw) : Cal P w K mg base 2 "_law_perm" ["source", "many"] sp_perm := by
  refine ⟨f, fd, F.ok sc__law_perm (fun vs H Q E h => ?_) (fun cdv A outer s H vs Q E hr h => ?_), hm, F.kp, F.binds (ps := ["source", "many"]) fun _ _ _ _ _ _ us hl => match us, hl with | [_, _], _ => rfl⟩
  · obtain ⟨T, n, rfl, _⟩ := h; rfl
  · obtain ⟨T, n, rfl, hT, n1, n2, k⟩ := h
    refine ⟨_, (pss_cons (ps_set (i := 2) sc__law_perm.nd rfl (by first | exact Or.inl rfl | exact Or.inr rfl) (pe_listRg (by rfl) (by rfl) B.list_ (prg_1 (by rfl) B.range (pv 1))))
 (pss_cons (ps_set (i := 3) sc__law_perm.nd rfl (by first | exact Or.inl rfl | exact Or.inr rfl) (pe_lst pa_nil))
 (pss_cons (ps_for PassesOwn.never rfl (pi_range1 (by rfl) B.range (pa_cons (pv 1) pa_nil)) (pg_name (i := 4) sc__law_perm.nd rfl (by first | exact Or.inl rfl | exact Or.inr rfl))
  (pss_one (ps_expr (pe_bm PySem.F.plainAttrs_list PySem.F.slot_list_append PySem.F.type_list_append mt_append (pv 3) (pa_cons (pe_bm PySem.F.plainAttrs_list PySem.F.slot_list_pop PySem.F.type_list_pop mt_popAt (pv 2) (pa_cons (pe_cal c__law_draw (hr.mono (by first | decide | omega)) (pa_cons (pv 0) (pa_cons (pe_callB call_len_seq (by rfl) B.len (by decide +kernel) (pa_cons (pv 2) pa_nil)) pa_nil))) pa_nil)) pa_nil)))))
 (pss_one (ps_ret (pv 3)))))), ?_⟩
    refine ⟨_, rfl, n, rfl, RgOk.of_le (by decide) (by omega) (by decide) (by omega), fun lf hlf => ?_⟩
    have xl : (rgV 0 n).length = n.toNat := by rw [rgV_length]; omega
    generalize hxs : rgV 0 n = xs at xl
    refine ⟨Nat.zero_le _, fun fo hfo => ?_⟩
    have nlf := hT.neT hlf
    have e1 := L2.Same.new (o := .lst xs) hlf
    have hfo0 := L2.Same.free e1 hfo
    have nfo := hT.neT hfo0
    have nff : lf ≠ fo := fun q => by rw [← q, upd_same] at hfo; cases hfo
    have e2 := e1.new' (o := .lst []) hfo
    have hT2 := hT.ext e2
    generalize hH2 : upd (upd H lf (.lst xs)) fo (.lst []) = H2 at e2 hT2 ⊢
    have hlf2 : H2 lf = some (.lst xs) := by rw [← hH2, upd_ne nff]; exact upd_same
    have hfo2 : H2 fo = some (.lst []) := by rw [← hH2]; exact upd_same
    refine ⟨_, rfl, _, rfl, by omega, by omega, for_range (lo := 0) (n := n.toNat) (fun i σ H' => ∃ (v : Option V) (zs ws : List V), σ = [some (.ref T), some (.int n), some (.ref lf), some (.ref fo), v] ∧ ExT T H H' ∧ Sr H' T ∧ H' lf = some (.lst zs) ∧ H' fo = some (.lst ws) ∧ zs.length + i = xs.length ∧ (ws ++ zs).Perm xs)
      ⟨none, xs, [], rfl, e2.exT, hT2, hlf2, hfo2, rfl, .refl _⟩ ?_ ?_⟩
    · rintro i σ H3 hi ⟨v, zs, ws, rfl, e3, hT3, h1, h2, hn, hp⟩
      have zl : 0 < zs.length := by omega
      refine ⟨_, rfl, .inl ⟨rfl, _, SqL.of h2⟩, _, rfl, .inl ⟨rfl, _, SqL.of h1⟩, _, rfl, _, rfl, lf, _, rfl, .inl (SqL.of h1), T, _, rfl, by omega, by omega, hT3, fun r H4 r0 r1 e4 hT4 => ?_⟩
      have h14 := e4 _ _ nlf h1
      have h24 := e4 _ _ nfo h2
      have hr' : r.toNat < zs.length := by omega
      have hz : zs[r.toNat]? = some zs[r.toNat] := List.getElem?_eq_getElem hr'
      refine ⟨lf, zs, r, r.toNat, _, rfl, rfl, h14, by omega, by omega, seq_ix r0 r1, hz, ?_⟩
      have h25 : (upd H4 lf (.lst (zs.eraseIdx r.toNat))) fo = some (.lst ws) := by rw [upd_ne nff.symm]; exact h24
      have hws : ws.length ≤ 1000 := by
        have := hp.length_eq
        rw [List.length_append] at this
        omega
      refine ⟨fo, ws, _, rfl, rfl, h25, Nat.lt_of_le_of_lt hws (by decide), ?_⟩
      refine ⟨_, zs.eraseIdx r.toNat, ws ++ [zs[r.toNat]], rfl, ?_, ?_, ?_, upd_same, ?_, ?_⟩
      · exact ((e3.trans e4).mut hlf).mut hfo0
      · exact (hT4.upd nlf).upd nfo
      · rw [upd_ne nff]; exact upd_same
      · rw [List.length_eraseIdx_of_lt hr']; omega
      · refine List.Perm.trans ?_ hp
        rw [List.append_assoc]
        exact List.Perm.append_left ws (cons_erase hr')
    · rintro σ H3 ⟨v, zs, ws, rfl, e3, hT3, h1, h2, hn, hp⟩
      have z0 : zs = [] := List.eq_nil_of_length_eq_zero (by omega)
      subst z0
      rw [List.append_nil] at hp
      have hperm2 : ws.Perm (((List.range (n - 0).toNat).map fun i => (0 : Int) + (i : Nat)).map V.int) := by
        rw [List.map_map]; rw [← hxs] at hp; exact hp
      obtain ⟨ey, hns⟩ := ints_of hperm2
      rw [ey] at h2
      exact ⟨_, rfl, k fo (ws.map unI) H3 e3 hT3 hfo0 h2 (names_of (by omega) hns)⟩
def sp_ties : Sp := fun vs H Q _ => ∃ T n, vs = [.ref T, .int n] ∧ Sr H T ∧ 1 ≤ n ∧ n ≤ 24 ∧ ∀ t xs ps H', ExT T H H' → Sr H' T → H t = none → H' t = some (.tup xs) → Pairs H' xs ps → Good n ps → Q (.ref t) H'
abbrev s__law_ties : Stmt := (top 30)
theorem sc__law_ties : FnScope ["source", "size", "style", "names", "found", "one", "other", "pair", "take"] ["source", "size"] (defScope s__law_ties) := ⟨rfl, rfl, rfl, by decide +kernel, rfl, by decide +kernel, by decide +kernel⟩

theorem ok_law_ties {f : Addr} {fd : FuncData} (F : Fun K "_law_ties" "_law_ties" s__law_ties f fd) (hm : mg "_law_ties" = some (.ref f)) (B : Bl mg) (c__law_draw : Cal P w K mg base 1 "_law_draw" ["source", "many"] spDraw) (c__law_perm : Cal P w K mg base 2 "_law_perm" ["source", "many"] sp_perm) : Cal P w K mg base 3 "_law_ties" ["source", "size"] sp_ties := by
  refine ⟨f, fd, F.ok sc__law_ties (fun vs H Q E h => ?_) (fun cdv A outer s H vs Q E hr h => ?_), hm, F.kp, F.binds (ps := ["source", "size"]) fun _ _ _ _ _ _ us hl => match us, hl with | [_, _], _ => rfl⟩
  · obtain ⟨T, n, rfl, _⟩ := h; rfl
  · obtain ⟨T, n, rfl, hT, s1, s2, k⟩ := h
    refine ⟨_, (pss_cons (ps_set (i := 2) sc__law_ties.nd rfl (by first | exact Or.inl rfl | exact Or.inr rfl) (pe_cal c__law_draw (hr.mono (by first | decide | omega)) (pa_cons (pv 0) (pa_cons pe_int pa_nil))))
 (pss_cons (ps_set (i := 3) sc__law_ties.nd rfl (by first | exact Or.inl rfl | exact Or.inr rfl) (pe_cal c__law_perm (hr.mono (by first | decide | omega)) (pa_cons (pv 0) (pa_cons (pv 1) pa_nil))))
 (pss_cons (ps_set (i := 4) sc__law_ties.nd rfl (by first | exact Or.inl rfl | exact Or.inr rfl) (pe_lst pa_nil))
 (pss_cons (ps_for PassesOwn.never rfl (pi_range1 (by rfl) B.range (pa_cons (pv 1) pa_nil)) (pg_name (i := 5) sc__law_ties.nd rfl (by first | exact Or.inl rfl | exact Or.inr rfl))
  (pss_one (ps_for PassesOwn.never rfl (pi_range1 (by rfl) B.range (pa_cons (pv 5) pa_nil)) (pg_name (i := 6) sc__law_ties.nd rfl (by first | exact Or.inl rfl | exact Or.inr rfl))
  (pss_cons (ps_set (i := 7) sc__law_ties.nd rfl (by first | exact Or.inl rfl | exact Or.inr rfl) (pe_tup (pa_cons (pe_callB (call_min2 rfl) (by rfl) B.min (by decide +kernel) (pa_cons (pe_ix ix_list (pv 3) (pv 5) (fun _ _ => rfl)) (pa_cons (pe_ix ix_list (pv 3) (pv 6) (fun _ _ => rfl)) pa_nil))) (pa_cons (pe_callB (call_max2 rfl) (by rfl) B.max (by decide +kernel) (pa_cons (pe_ix ix_list (pv 3) (pv 5) (fun _ _ => rfl)) (pa_cons (pe_ix ix_list (pv 3) (pv 6) (fun _ _ => rfl)) pa_nil))) pa_nil))))
 (Evl.pss_cut (ps_if (pt_cmpR op_eq (pv 2) pe_int (nomark _)) (pss_one (ps_set (i := 8) sc__law_ties.nd rfl (by first | exact Or.inl rfl | exact Or.inr rfl) (pe_or (pe_cmpR op_eq (pe_op op_add (pv 6) pe_int) (pv 5) (nomark _)) (pe_one (pe_and (pe_cmpR op_eq (pv 6) pe_int (nomark _)) (pe_and (pe_cmpR op_eq (pv 5) (pe_op op_sub (pv 1) pe_int) (nomark _)) (pe_one (pe_cmpR op_eq (pe_cal c__law_draw (hr.mono (by first | decide | omega)) (pa_cons (pv 0) (pa_cons pe_int pa_nil))) pe_int (nomark _))))))))) (pss_one (ps_if (pt_cmpR op_eq (pv 2) pe_int (nomark _)) (pss_one (ps_set (i := 8) sc__law_ties.nd rfl (by first | exact Or.inl rfl | exact Or.inr rfl) (pe_cmpR op_eq (pe_callTy call_int1 (by rfl) B.int_ (by decide +kernel) (pa_cons (pe_op op_fdivN (pv 5) pe_int) pa_nil)) (pe_callTy call_int1 (by rfl) B.int_ (by decide +kernel) (pa_cons (pe_op op_fdivN (pv 6) pe_int) pa_nil)) (nomark _)))) (pss_one (ps_if (pt_cmpR op_eq (pv 2) pe_int (nomark _)) (pss_one (ps_set (i := 8) sc__law_ties.nd rfl (by first | exact Or.inl rfl | exact Or.inr rfl) (pe_and (pe_cmpR op_ne (pe_op op_modN (pe_callTy call_int1 (by rfl) B.int_ (by decide +kernel) (pa_cons (pv 5) pa_nil)) pe_int) (pe_op op_modN (pe_callTy call_int1 (by rfl) B.int_ (by decide +kernel) (pa_cons (pv 6) pa_nil)) pe_int) (nomark _)) (pe_one (pe_cmpR op_gt (pe_cal c__law_draw (hr.mono (by first | decide | omega)) (pa_cons (pv 0) (pa_cons pe_int pa_nil))) pe_int (nomark _)))))) (pss_one (ps_if (pt_cmpR op_eq (pv 2) pe_int (nomark _)) (pss_one (ps_set (i := 8) sc__law_ties.nd rfl (by first | exact Or.inl rfl | exact Or.inr rfl) (pe_cmpR op_gt (pe_cal c__law_draw (hr.mono (by first | decide | omega)) (pa_cons (pv 0) (pa_cons pe_int pa_nil))) pe_int (nomark _)))) (pss_one (ps_set (i := 8) sc__law_ties.nd rfl (by first | exact Or.inl rfl | exact Or.inr rfl) (pe_cmpR op_lt (pe_cal c__law_draw (hr.mono (by first | decide | omega)) (pa_cons (pv 0) (pa_cons pe_int pa_nil))) (pe_op op_sub (pv 2) pe_int) (nomark _)))))))))))
 (pss_one (ps_if (pt_val (pv 8)) (pss_one (ps_expr (pe_bm PySem.F.plainAttrs_list PySem.F.slot_list_append PySem.F.type_list_append mt_append (pv 4) (pa_cons (pv 7) pa_nil)))) pss_nil)))))))
 (pss_one (ps_ret (pe_callTy call_tuple_of (by rfl) B.tuple_ (by decide +kernel) (pa_cons (pe_callB cr_sortedPO (by rfl) B.sorted (by decide +kernel) (pa_cons (pv 4) pa_nil)) pa_nil)))))))), ?_⟩
    refine ⟨_, rfl, T, 7, rfl, by decide, by decide, hT, fun st H1 _ _ e1 hT1 => ?_⟩
    refine ⟨_, rfl, _, rfl, T, n, rfl, hT1, s1, by omega, fun nm ns H4 e4 hT4 nnm hnm N => ?_⟩
    have e14 := e1.trans e4
    have nmT : nm ≠ T := hT1.neT nnm
    refine ⟨Nat.zero_le _, fun fo hfo => ?_⟩
    have foT := hT4.neT hfo
    have hfo0 : H fo = none := ExT.free e14 foT hfo
    have fnm : fo ≠ nm := fun q => by rw [q, hnm] at hfo; cases hfo
    refine ⟨_, rfl, _, rfl, by omega, by omega, for_range (lo := 0) (n := n.toNat) (fun i σ H' => ∃ (v5 v6 v7 v8 : Option V) (ys : List V) (ps : List (Int × Int)), σ = [some (.ref T), some (.int n), some (.int st), some (.ref nm), some (.ref fo), v5, v6, v7, v8] ∧ ExT T H H' ∧ Sr H' T ∧ H' nm = some (.lst (ns.map V.int)) ∧ H' fo = some (.lst ys) ∧ Pairs H' ys ps ∧ Ps ns i 0 ps ∧ ys.length ≤ 100 * i)
      ⟨none, none, none, none, [], [], rfl, e14.new hfo, hT4.ext (L2.Same.new hfo), by rw [upd_ne fnm.symm]; exact hnm, upd_same, .nil, .zero, by simp⟩ ?_ ?_⟩
    · rintro i σ H5 hi ⟨v5, v6, v7, v8, ys, ps, rfl, e5, hT5, hnm5, hfo5, hp5, P5, l5⟩
      have hin : (i : Int) < n := by omega
      refine ⟨_, rfl, _, rfl, by omega, by omega, for_range (lo := 0) (n := ((0 : Int) + (i : Nat)).toNat) (fun j σ H' => ∃ (v6 v7 v8 : Option V) (ys : List V) (ps : List (Int × Int)), σ = [some (.ref T), some (.int n), some (.int st), some (.ref nm), some (.ref fo), some (.int (0 + (i : Nat))), v6, v7, v8] ∧ ExT T H H' ∧ Sr H' T ∧ H' nm = some (.lst (ns.map V.int)) ∧ H' fo = some (.lst ys) ∧ Pairs H' ys ps ∧ Ps ns i j ps ∧ ys.length ≤ 100 * i + j)
        ⟨v6, v7, v8, ys, ps, rfl, e5, hT5, hnm5, hfo5, hp5, P5, l5⟩ ?_ ?_⟩
      · rintro j σ H6 hj ⟨v6, v7, v8, ys, ps, rfl, e6, hT6, hnm6, hfo6, hp6, P6, l6⟩
        have hji : j < i := by omega
        have hi' := N.at_ (i := i) hin
        have hj' := N.at_ (i := j) (by omega)
        have ix : ∀ c : Nat, (c : Int) < n → atI (ns.map V.int) (0 + (c : Int)) = some (.int (ns.getD c 0)) := fun c hc => at_of (j := c) (by omega) (by rw [List.getElem?_map, (N.at_ hc).1]; rfl)
        have ixi := ix i hin
        have ixj := ix j (by omega)
        have hyl : ys.length < 100000 := by omega
        -- pair
        refine ⟨_, rfl, _, rfl, nm, _, _, _, rfl, rfl, SqL.of hnm6, ixi, _, rfl, _, rfl, nm, _, _, _, rfl, rfl, SqL.of hnm6, ixj, _, _, rfl, ?_⟩
        refine ⟨_, rfl, _, rfl, nm, _, _, _, rfl, rfl, SqL.of hnm6, ixi, _, rfl, _, rfl, nm, _, _, _, rfl, rfl, SqL.of hnm6, ixj, _, _, rfl, ?_⟩
        refine ⟨(by show 2 ≤ sizeLine; decide), fun c hc => ?_⟩
        have ec := L2.Same.new (o := .tup [.int (if ns.getD j 0 < ns.getD i 0 then ns.getD j 0 else ns.getD i 0), .int (if ns.getD j 0 > ns.getD i 0 then ns.getD j 0 else ns.getD i 0)]) hc
        have hc7 : (upd H6 c (.tup [.int (if ns.getD j 0 < ns.getD i 0 then ns.getD j 0 else ns.getD i 0), .int (if ns.getD j 0 > ns.getD i 0 then ns.getD j 0 else ns.getD i 0)])) c = some (.tup [.int (norm (ns.getD i 0) (ns.getD j 0)).1, .int (norm (ns.getD i 0) (ns.getD j 0)).2]) := upd_same
        generalize upd H6 c (.tup [.int (if ns.getD j 0 < ns.getD i 0 then ns.getD j 0 else ns.getD i 0), .int (if ns.getD j 0 > ns.getD i 0 then ns.getD j 0 else ns.getD i 0)]) = H7 at ec hc7 ⊢
        have X7 : ExT T H H7 ∧ Sr H7 T ∧ H7 nm = some (.lst (ns.map V.int)) ∧ H7 fo = some (.lst ys) ∧ Pairs H7 ys ps ∧ H7 c = some (.tup [.int (norm (ns.getD i 0) (ns.getD j 0)).1, .int (norm (ns.getD i 0) (ns.getD j 0)).2]) := ⟨e6.trans ec.exT, hT6.ext ec, ec _ _ hnm6, ec _ _ hfo6, hp6.tk ec.tk, hc7⟩
        have Xd : ∀ H', ExT T H7 H' → Sr H' T → ExT T H H' ∧ Sr H' T ∧ H' nm = some (.lst (ns.map V.int)) ∧ H' fo = some (.lst ys) ∧ Pairs H' ys ps ∧ H' c = some (.tup [.int (norm (ns.getD i 0) (ns.getD j 0)).1, .int (norm (ns.getD i 0) (ns.getD j 0)).2]) := fun H' e h => ⟨X7.1.trans e, h, e _ _ nmT X7.2.2.1, e _ _ foT X7.2.2.2.1, X7.2.2.2.2.1.tk (X7.2.1.tk e), (X7.2.1.tk e) _ _ X7.2.2.2.2.2⟩
        have hT7 := X7.2.1
        refine ⟨fun σ' H' => ∃ b, σ' = [some (.ref T), some (.int n), some (.int st), some (.ref nm), some (.ref fo), some (.int (0 + (i : Nat))), some (.int (0 + (j : Nat))), some (.ref c), some (.bl b)] ∧ ExT T H H' ∧ Sr H' T ∧ H' nm = some (.lst (ns.map V.int)) ∧ H' fo = some (.lst ys) ∧ Pairs H' ys ps ∧ H' c = some (.tup [.int (norm (ns.getD i 0) (ns.getD j 0)).1, .int (norm (ns.getD i 0) (ns.getD j 0)).2]), ?_, ?_⟩
        · refine ⟨_, rfl, rfl, _, rfl, onb (fun _ => ?_) (fun _ => ?_)⟩
          · refine ⟨_, rfl, _, _, rfl, rfl, _, rfl, rfl, _, rfl, onb (fun _ => ⟨_, rfl, X7⟩) (fun _ => ?_)⟩
            refine ⟨_, rfl, rfl, _, rfl, onb (fun _ => ?_) (fun _ => ⟨_, rfl, X7⟩)⟩
            refine ⟨_, rfl, _, rfl, _, _, rfl, rfl, rfl, _, rfl, onb (fun _ => ?_) (fun _ => ⟨_, rfl, X7⟩)⟩
            exact ⟨_, rfl, T, 2, rfl, by decide, by decide, hT7, fun r H8 _ _ e8 hT8 => ⟨rfl, _, rfl, Xd _ e8 hT8⟩⟩
          refine ⟨_, rfl, rfl, _, rfl, onb (fun _ => ?_) (fun _ => ?_)⟩
          · refine ⟨_, rfl, _, _, rfl, rfl, ⟨by decide, by decide⟩, .inl ⟨_, rfl, ?_⟩⟩
            exact ⟨_, rfl, _, _, rfl, rfl, ⟨by decide, by decide⟩, .inl ⟨_, rfl, rfl, _, rfl, X7⟩⟩
          refine ⟨_, rfl, rfl, _, rfl, onb (fun _ => ?_) (fun _ => ?_)⟩
          · refine ⟨_, rfl, .inl ⟨_, rfl, _, _, rfl, rfl, (by show (2 : Int) ≠ 0; decide), ?_⟩⟩
            refine ⟨_, rfl, .inl ⟨_, rfl, _, _, rfl, rfl, (by show (2 : Int) ≠ 0; decide), rfl, _, rfl, onbN (fun _ => ?_) (fun _ => ⟨_, rfl, X7⟩)⟩⟩
            exact ⟨_, rfl, T, 3, rfl, by decide, by decide, hT7, fun r3 H8 _ _ e8 hT8 => ⟨_, _, rfl, rfl, _, rfl, Xd _ e8 hT8⟩⟩
          refine ⟨_, rfl, rfl, _, rfl, onb (fun _ => ?_) (fun _ => ?_)⟩
          · exact ⟨_, rfl, T, 5, rfl, by decide, by decide, hT7, fun r3 H8 _ _ e8 hT8 => ⟨_, _, rfl, rfl, _, rfl, Xd _ e8 hT8⟩⟩
          · exact ⟨_, rfl, T, 6, rfl, by decide, by decide, hT7, fun r3 H8 _ _ e8 hT8 => ⟨_, rfl, _, _, rfl, rfl, _, _, rfl, rfl, _, rfl, Xd _ e8 hT8⟩⟩
        rintro σ' H8 ⟨b3, rfl, a1, a2, a3, a4, a5, a6⟩
        refine ⟨_, rfl, b3, rfl, ?_⟩
        cases b3 with
        | true =>
          refine iteT ?_
          refine ⟨_, rfl, .inl ⟨rfl, _, SqL.of a4⟩, _, rfl, ?_⟩
          refine ⟨fo, ys, _, rfl, rfl, a4, Nat.lt_of_lt_of_le hyl (by decide), ?_⟩
          refine ⟨_, _, _, ys ++ [.ref c], ps ++ [norm (ns.getD i 0) (ns.getD j 0)], rfl, a1.mut hfo0, a2.upd foT, ?_, upd_same, ?_, P6.put N hin hji, ?_⟩
          · rw [upd_ne fnm.symm]; exact a3
          · exact Paired.app (a5.tk (tk_lst a4)) (.cons ⟨c, rfl, (tk_lst a4) _ _ a6⟩ .nil)
          · rw [List.length_append, List.length_singleton]; omega
        | false => exact iteF ⟨_, _, _, ys, ps, rfl, a1, a2, a3, a4, a5, P6.skip, by omega⟩
      · rintro σ H6 ⟨v6, v7, v8, ys, ps, rfl, e6, hT6, hnm6, hfo6, hp6, P6, l6⟩
        have ei : ((0 : Int) + (i : Nat)).toNat = i := by omega
        rw [ei] at P6 l6
        exact ⟨_, _, _, _, ys, ps, rfl, e6, hT6, hnm6, hfo6, hp6, P6.next, by omega⟩
    · rintro σ H5 ⟨v5, v6, v7, v8, ys, ps, rfl, e5, hT5, hnm5, hfo5, hp5, P5, l5⟩
      refine ⟨_, rfl, fo, ys, pairOf H5, rfl, SqL.of hfo5, pairs_mem hp5, fun zs q s1' s2' hq => ?_⟩
      obtain ⟨qs, hz, hperm', hle⟩ := sorted_post hp5 s1' s2'
      have eq := L2.Same.new (o := .lst zs) hq
      refine ⟨q, _, rfl, .inl ⟨SqL.of upd_same, fun t ht => ?_⟩⟩
      have et := eq.new' (o := .tup zs) ht
      have ht5 : H5 t = none := L2.Same.free eq ht
      exact k t zs qs _ (e5.trans et.exT) (hT5.ext et) (ExT.free e5 (hT5.neT ht5) ht5) upd_same (hz.tk et.tk) (P5.good N (by omega) hperm' hle)
end


end Bs

namespace Bs
open PySem PySem.Spec L2
theorem bit_test (b i : Nat) : (Builtin.bitAnd ((b : Int) / 2 ^ ((i : Int)).toNat) 1 != 0) = b.testBit i := by
  have e : (b : Int) / 2 ^ ((i : Int)).toNat = ((b / 2 ^ i : Nat) : Int) := by
    rw [Int.toNat_natCast, Int.natCast_ediv, Int.natCast_pow]
    rfl
  rw [e, show (1 : Int) = ((1 : Nat) : Int) from rfl, and_pp]
  unfold Nat.testBit
  rw [Nat.shiftRight_eq_div_pow, Nat.and_comm]
  by_cases h : 1 &&& b / 2 ^ i = 0
  · rw [h]; rfl
  · have h1 : (((1 &&& b / 2 ^ i : Nat) : Int) != 0) = true := by
      rw [bne_iff_ne]
      omega
    have h2 : ((1 &&& b / 2 ^ i) != 0) = true := by simpa using h
    rw [h1, h2]
theorem or_xor_clr (b k : Nat) : (b ||| 2 ^ k) ^^^ 2 ^ k = clr b k := Nat.eq_of_testBit_eq fun j => by
  rw [Nat.testBit_xor, Nat.testBit_or, clr_bit, Nat.testBit_two_pow]
  by_cases h : k = j
  · subst h; simp
  · have h' : ¬ j = k := fun e => h e.symm
    simp [h, h']
theorem lot_range {n : Int} {b : Nat} (hb : InN n b) : ((List.range n.toNat).filter fun k => b.testBit k).map (fun k : Nat => (k : Int)) = lotL b := by
  refine ups_ext (List.pairwise_map.mpr (((List.pairwise_lt_range).sublist List.filter_sublist).imp fun {a b} h => by omega)) (isLot_L b).2.1 fun x => ?_
  rw [mem_lotL, List.mem_map]
  constructor
  · rintro ⟨k, hk, rfl⟩
    exact ⟨by omega, by simpa using (List.mem_filter.mp hk).2⟩
  · rintro ⟨h0, h1⟩
    exact ⟨x.toNat, List.mem_filter.mpr ⟨List.mem_range.mpr (by have := hb _ h1; omega), h1⟩, by omega⟩
theorem bit_eq1 (b i : Nat) : (decide (V.int (Builtin.bitAnd ((b : Int) / 2 ^ ((i : Int)).toNat) 1) = V.int 1)) = b.testBit i := by
  have e : (b : Int) / 2 ^ ((i : Int)).toNat = ((b / 2 ^ i : Nat) : Int) := by
    rw [Int.toNat_natCast, Int.natCast_ediv, Int.natCast_pow]; rfl
  rw [e, show (1 : Int) = ((1 : Nat) : Int) from rfl, and_pp]
  have h2 : (b / 2 ^ i &&& 1) = (b.testBit i).toNat := by
    rw [Nat.and_one_is_mod, Nat.testBit, Nat.shiftRight_eq_div_pow, Nat.one_and_eq_mod_two]
    rcases Nat.mod_two_eq_zero_or_one (b / 2 ^ i) with h | h <;> rw [h] <;> rfl
  rw [h2]
  cases b.testBit i <;> rfl
section
variable {P : Program} {w : World} {K : PySem.W.Frag} {mg : Str → Option Value} {base : Heap} {C : Addr}
def sp_near : Sp := fun vs H Q _ => ∃ n u xs ps, vs = [.int n, .ref u] ∧ H u = some (.tup xs) ∧ Pairs H xs ps ∧ Good n ps ∧ 1 ≤ n ∧ n ≤ 200 ∧ ∀ p ts H', Same H H' → H p = none → H' p = some (.lst (nints ts)) → Tied n ps ts → Q (.ref p) H'
abbrev s__law_near : Stmt := (top 31)
theorem sc__law_near : FnScope ["size", "ties", "part", "found", "one", "other"] ["size", "ties"] (defScope s__law_near) := ⟨rfl, rfl, rfl, by decide +kernel, rfl, by decide +kernel, by decide +kernel⟩

theorem ok_law_near {f : Addr} {fd : FuncData} (F : Fun K "_law_near" "_law_near" s__law_near f fd) (hm : mg "_law_near" = some (.ref f)) (B : Bl mg) : Cal P w K mg base 1 "_law_near" ["size", "ties"] sp_near := by
  refine ⟨f, fd, F.ok sc__law_near (fun vs H Q E h => ?_) (fun cdv A outer s H vs Q E hr h => ?_), hm, F.kp, F.binds (ps := ["size", "ties"]) fun _ _ _ _ _ _ us hl => match us, hl with | [_, _], _ => rfl⟩
  · obtain ⟨n, u, xs, ps, rfl, _⟩ := h; rfl
  · obtain ⟨n, u, xs, ps, rfl, h4, h5, G, n1, n2, k⟩ := h
    refine ⟨_, (pss_cons (ps_setLc (i := 3) (own := [("part", 2)]) (by rfl) sc__law_near.nd rfl rfl (sw_true rfl rfl rfl (by decide +kernel)) (pi_range1 (by rfl) B.range (pa_cons (pv 0) pa_nil)) (blkOk_by (own := [("part", 2)]) (N := ["size", "ties", "part", "found", "one", "other"]) (sc := defScope s__law_near) (by decide +kernel)) (fun _ _ _ _ _ => (pg_name (i := 2) sc__law_near.nd rfl (by first | exact Or.inl rfl | exact Or.inr rfl))) (fun _ _ _ _ _ => pts_nil) (fun _ _ _ _ _ => pe_int))
 (pss_cons (ps_for PassesOwn.never rfl (pi_tup (pv 1)) (pg_tup (by rfl) (pgs_cons (pg_name (i := 4) sc__law_near.nd rfl (by first | exact Or.inl rfl | exact Or.inr rfl)) (pgs_cons (pg_name (i := 5) sc__law_near.nd rfl (by first | exact Or.inl rfl | exact Or.inr rfl)) pgs_nil)))
  (pss_cons (ps_asg (pe_op op_or (pe_ix ix_list (pv 3) (pv 4) (fun _ _ => rfl)) (pe_op op_shl pe_int (pv 5))) (pg_sub (pv 3) (pv 4) set_list))
 (pss_one (ps_asg (pe_op op_or (pe_ix ix_list (pv 3) (pv 5) (fun _ _ => rfl)) (pe_op op_shl pe_int (pv 4))) (pg_sub (pv 3) (pv 5) set_list)))))
 (pss_one (ps_ret (pv 3))))), ?_⟩
    refine ⟨_, rfl, _, rfl, by omega, by omega, fun p hp => lc_data (walk_range (lo := 0) (n := n.toNat)) (List.range n.toNat) (List.length_range) (fun _ => true) (fun _ v i => v = .int ((0 : Nat) : Int)) (fun _ _ _ _ _ q => q) hp (fun _ _ => trivial) (by rw [List.length_range]; exact Nat.lt_of_le_of_lt (show n.toNat ≤ 1000 by omega) (by decide)) ?_ (fun _ _ _ _ _ y => by rw [y.1]; exact L2.Same.refl _) ?_⟩
    · rintro i a v H5 H6 Ny Nn hai e5 ⟨rfl, rfl⟩ kE kN
      exact ⟨rfl, yes_if (kE _ _ rfl (L2.Same.refl _) rfl)⟩
    intro zs1 H1 e1 hzs1 hpr1
    have ez := paired_eq (g := fun _ : Nat => V.int ((0 : Nat) : Int)) hpr1
    subst ez
    rw [filter_yes] at hzs1
    have e0 : (List.range n.toNat).map (fun _ : Nat => V.int ((0 : Nat) : Int)) = nints (List.replicate n.toNat 0) := by
      unfold nints; rw [List.map_replicate]
      exact List.eq_replicate_iff.mpr ⟨by rw [List.length_map, List.length_range], fun b hb => by obtain ⟨_, _, rfl⟩ := List.mem_map.mp hb; rfl⟩
    rw [e0] at hzs1
    refine ⟨_, rfl, u, rfl, ⟨_, SqT.of (e1 _ _ h4)⟩, for_tup (K := K) (a := u) (xs := xs) (fun i σ H' => Same H H' ∧ ∃ (ts : List Nat) (v1 v2 : Option V), σ = [some (.int n), some (.ref u), none, some (.ref p), v1, v2] ∧ H' p = some (.lst (nints ts)) ∧ (ts.length : Int) = n ∧ ∀ j k : Nat, j < ts.length → (ts.getD j 0).testBit k = decide (norm (j : Int) (k : Int) ∈ ps.take i))
      ⟨e1, _, none, none, rfl, hzs1, by rw [List.length_replicate]; omega, fun j k hj => by
        have : (List.replicate n.toNat 0).getD j 0 = 0 := by rw [List.getD_eq_getElem?_getD, List.getElem?_replicate]; split <;> rfl
        rw [this]; simp⟩ (fun i σ H' _ p => SqT.of (p.1 _ _ h4)) ?_ ?_⟩
    · rintro i v σ H' hv ⟨e3, ts, v1, v2, rfl, hts, hlen, hbit⟩
      obtain ⟨q, hq, a, rfl, ha⟩ := Paired.get h5 hv
      have hq2 := G.ok q (List.mem_of_getElem? hq)
      have l1 : q.1.toNat < ts.length := by omega
      have l2 : q.2.toNat < ts.length := by omega
      refine ⟨a, _, rfl, SqT.of (e3 _ _ ha), rfl, _, _, rfl, _, _, rfl, rfl, ?_⟩
      refine ⟨_, rfl, _, rfl, p, _, q.1, _, rfl, rfl, SqL.of hts, at_of (j := q.1.toNat) (by omega) (nints_get l1), ?_⟩
      refine ⟨_, rfl, _, _, rfl, rfl, ⟨by omega, by omega, by decide⟩, _, _, rfl, rfl, ?_⟩
      dsimp only
      rw [p2i (show 0 ≤ q.2 by omega), or_pp]
      refine ⟨_, rfl, _, rfl, p, _, q.1, q.1.toNat, rfl, rfl, hts, (by unfold ixN; rw [nints_len, if_pos hq2.1, if_pos (by omega)]), ?_⟩
      rw [nints_set]
      have l2' : q.2.toNat < (ts.set q.1.toNat (ts.getD q.1.toNat 0 ||| 2 ^ q.2.toNat)).length := by rw [List.length_set]; exact l2
      refine ⟨_, rfl, _, rfl, p, _, q.2, _, rfl, rfl, SqL.of upd_same, at_of (j := q.2.toNat) (by omega) (nints_get l2'), ?_⟩
      refine ⟨_, rfl, _, _, rfl, rfl, ⟨by omega, by omega, by decide⟩, _, _, rfl, rfl, ?_⟩
      dsimp only
      rw [p2i hq2.1, or_pp]
      refine ⟨_, rfl, _, rfl, p, _, q.2, q.2.toNat, rfl, rfl, upd_same, (by unfold ixN; rw [nints_len, List.length_set, if_pos (show 0 ≤ q.2 by omega), if_pos (by omega)]), ?_⟩
      rw [nints_set, upd_upd]
      refine ⟨L2.Same.mut e3 hp, _, _, _, rfl, upd_same, by rw [List.length_set, List.length_set]; exact hlen, fun j k hj => ?_⟩
      rw [List.length_set, List.length_set] at hj
      rw [getD_set _ _ _ _ l2', getD_set _ _ _ _ l1, take_snoc hq]
      have hb := hbit j k hj
      have hb2 := hbit q.2.toNat k l2
      have hmem : (norm (j : Int) (k : Int) ∈ ps.take i ++ [q]) ↔ (norm (j : Int) (k : Int) ∈ ps.take i ∨ ((j : Int) = q.1 ∧ (k : Int) = q.2) ∨ ((j : Int) = q.2 ∧ (k : Int) = q.1)) := by
        rw [List.mem_append, List.mem_singleton, norm_pair (a := q.1) (b := q.2) hq2.2.1]
      have ne12 : ¬ q.1.toNat = q.2.toNat := by omega
      by_cases c2 : q.2.toNat = j
      · rw [if_pos c2, if_neg ne12, Nat.testBit_or, Nat.testBit_two_pow, hb2]
        have ej : ((q.2.toNat : Nat) : Int) = (j : Int) := by omega
        rw [ej]
        have hm2 : (norm (j : Int) (k : Int) ∈ ps.take i ∨ ((j : Int) = q.1 ∧ (k : Int) = q.2) ∨ ((j : Int) = q.2 ∧ (k : Int) = q.1)) ↔ (norm (j : Int) (k : Int) ∈ ps.take i ∨ q.1.toNat = k) := by
          constructor
          · rintro (h | h | h)
            · exact .inl h
            · omega
            · exact .inr (by omega)
          · rintro (h | h)
            · exact .inl h
            · exact .inr (.inr (by omega))
        exact (dec_or (hmem.trans hm2)).symm
      · rw [if_neg c2, getD_set _ _ _ _ l1]
        by_cases c1 : q.1.toNat = j
        · rw [if_pos c1, Nat.testBit_or, Nat.testBit_two_pow, c1, hb]
          have hm2 : (norm (j : Int) (k : Int) ∈ ps.take i ∨ ((j : Int) = q.1 ∧ (k : Int) = q.2) ∨ ((j : Int) = q.2 ∧ (k : Int) = q.1)) ↔ (norm (j : Int) (k : Int) ∈ ps.take i ∨ q.2.toNat = k) := by
            constructor
            · rintro (h | h | h)
              · exact .inl h
              · exact .inr (by omega)
              · omega
            · rintro (h | h)
              · exact .inl h
              · exact .inr (.inl (by omega))
          exact (dec_or (hmem.trans hm2)).symm
        · rw [if_neg c1, hb]
          refine dec_iff (Iff.trans ⟨fun h => .inl h, ?_⟩ hmem.symm)
          rintro (h | h | h)
          · exact h
          · omega
          · omega
    · rintro σ H' ⟨e3, ts, v1, v2, rfl, hts, hlen, hbit⟩
      refine ⟨_, rfl, k p ts H' e3 hp hts ⟨hlen, fun i k hi => ?_⟩⟩
      have := hbit i k hi
      rw [Paired.len h5, List.take_length] at this
      exact this
def sp_lbits : Sp := fun vs H Q _ => ∃ t l, vs = [.ref t] ∧ H t = some (.tup (l.map V.int)) ∧ (∀ y ∈ l, 0 ≤ y ∧ y ≤ 1000) ∧ Q (.int (bitsN l : Nat)) H
def sp_llotB : Sp := fun vs H Q _ => ∃ (b : Nat) (n : Int), vs = [.int (b : Int), .int n] ∧ 0 ≤ n ∧ n ≤ 1000 ∧ InN n b ∧ ∀ q H', Same H H' → H q = none → H' q = some (.tup ((lotL b).map V.int)) → Q (.ref q) H'
abbrev s__law_lot : Stmt := (top 32)
theorem sc__law_lot : FnScope ["bits", "size", "part"] ["bits", "size"] (defScope s__law_lot) := ⟨rfl, rfl, rfl, by decide +kernel, rfl, by decide +kernel, by decide +kernel⟩

theorem ok_law_lotB {f : Addr} {fd : FuncData} (F : Fun K "_law_lot" "_law_lot" s__law_lot f fd) (hm : mg "_law_lot" = some (.ref f)) (B : Bl mg) : Cal P w K mg base 1 "_law_lot" ["bits", "size"] sp_llotB := by
  refine ⟨f, fd, F.ok sc__law_lot (fun vs H Q E h => ?_) (fun cdv A outer s H vs Q E hr h => ?_), hm, F.kp, F.binds (ps := ["bits", "size"]) fun _ _ _ _ _ _ us hl => match us, hl with | [_, _], _ => rfl⟩
  · obtain ⟨b, n, rfl, _⟩ := h; rfl
  · obtain ⟨b, n, rfl, n0, n1, hb, k⟩ := h
    refine ⟨_, (pss_one (ps_ret (pe_callTy call_tuple_of (by rfl) B.tuple_ (by decide +kernel) (pa_cons (pe_lc (own := [("part", 2)]) (by rfl) sc__law_lot.nd (pi_range1 (by rfl) B.range (pa_cons (pv 1) pa_nil)) (blkOk_by (own := [("part", 2)]) (N := ["bits", "size", "part"]) (sc := defScope s__law_lot) (by decide +kernel)) (fun _ _ _ _ _ => (pg_name (i := 2) sc__law_lot.nd rfl (by first | exact Or.inl rfl | exact Or.inr rfl))) (fun _ _ _ _ _ => (pts_one (pt_cmpR op_eq (pe_op op_and (pe_op op_shr (pv 0) (pv 2)) pe_int) pe_int (nomark _)))) (fun _ _ _ _ _ => (pv 2))) pa_nil)))), ?_⟩
    refine ⟨_, rfl, _, rfl, by omega, by omega, fun D hD => lc_data (walk_range (lo := 0) (n := n.toNat)) (List.range n.toNat) (List.length_range) (fun j => b.testBit j) (fun _ v j => v = .int (j : Nat)) (fun _ _ _ _ _ q => q) hD (fun _ _ => trivial) (by rw [List.length_range]; exact Nat.lt_of_le_of_lt (show n.toNat ≤ 1000 by omega) (by decide)) ?_ (fun _ _ _ _ _ y => by rw [y.1]; exact L2.Same.refl _) ?_⟩
    · rintro j a v H5 H6 Ny Nn hai e5 ⟨rfl, rfl⟩ kE kN
      have ea : a = j := by
        rw [List.getElem?_range (by have := (List.getElem?_eq_some_iff.mp hai).1; rw [List.length_range] at this; exact this)] at hai
        exact (Option.some.inj hai).symm
      subst ea
      have e0 : V.int ((0 : Int) + (a : Nat)) = V.int (a : Nat) := by rw [Int.zero_add]
      show gName 2 (V.int ((0 : Int) + (a : Nat))) _ _ _
      rw [e0]
      refine ⟨rfl, _, rfl, _, rfl, _, _, rfl, rfl, (by omega), _, _, rfl, rfl, rfl, _, rfl, ?_⟩
      dsimp only
      rw [bit_eq1]
      cases c : b.testBit a with
      | true => exact iteT ⟨_, rfl, kE _ _ c (L2.Same.refl _) rfl⟩
      | false => exact iteF (kN _ c (L2.Same.refl _))
    intro zs H3 e3 hzs hpr
    have ez := paired_eq (g := fun j : Nat => V.int (j : Nat)) hpr
    subst ez
    have ec : ((List.range n.toNat).filter fun j => b.testBit j).map (fun j : Nat => V.int (j : Nat)) = (lotL b).map V.int := by
      rw [← lot_range hb, List.map_map]; rfl
    rw [ec] at hzs
    refine ⟨D, _, rfl, .inl ⟨SqL.of hzs, fun q hq => ?_⟩⟩
    exact k q _ (e3.new' hq) (L2.Same.free e3 hq) upd_same
def sp_lcall : Sp := fun vs H Q _ => ∃ tb n ps ts b l p, vs = [.ref tb, .int (b : Nat), .int p] ∧ H tb = some (.lst (nints ts)) ∧ Tied n ps ts ∧ n ≤ 200 ∧ IsLot l b ∧ 0 ≤ p ∧ p < n ∧ Q (.int (behB ps l b p : Nat)) H
/-- what no call changes -/
def RestB (n : Int) (ps : List (Int × Int)) (b : Nat) : Prop := ∀ k : Nat, (k : Int) < n → (Has b k ↔ ∀ q, Has b q → ¬ T ps q k)
theorem restB_iff {n : Int} {ps : List (Int × Int)} {b : Nat} (hb : InN n b) : RestB n ps b ↔ RestL n ps (lotL b) := by
  constructor
  · intro h
    refine ⟨lot_lotL hb, chg_nil.mpr fun p p0 p1 => ?_⟩
    obtain ⟨m, rfl⟩ := Int.eq_ofNat_of_zero_le p0
    have h1 := h m p1
    have h2 : says ps (lotL b) (m : Int) = true ↔ (m : Int) ∈ lotL b := by
      rw [says_T, ← h1, mem_lotL]
      exact ⟨fun h => ⟨by omega, by simpa using h⟩, fun h => by simpa using h.2⟩
    by_cases c : (m : Int) ∈ lotL b
    · rw [decide_eq_true c]; exact h2.mpr c
    · rw [decide_eq_false c]
      cases d : says ps (lotL b) (m : Int) with
      | true => exact absurd (h2.mp d) c
      | false => rfl
  · intro h k hk
    have := chg_nil.mp h.no (k : Int) (by omega) hk
    rw [← says_T, this, decide_eq_true_eq, mem_lotL]
    exact ⟨fun h => ⟨by omega, by simpa using h⟩, fun h => by simpa using h.2⟩
def sp_lisrest : Sp := fun vs H Q _ => ∃ tb n ps ts b, vs = [.ref tb, .int (b : Nat)] ∧ H tb = some (.lst (nints ts)) ∧ Tied n ps ts ∧ 0 ≤ n ∧ n ≤ 200 ∧ ∀ r H', Same H H' → (r = true ↔ RestB n ps b) → Q (.bl r) H'
abbrev s__law_is_rest : Stmt := (top 33)
theorem sc__law_is_rest : FnScope ["near", "bits", "part"] ["near", "bits"] (defScope s__law_is_rest) := ⟨rfl, rfl, rfl, by decide +kernel, rfl, by decide +kernel, by decide +kernel⟩

theorem ok_law_is_restB {f : Addr} {fd : FuncData} (F : Fun K "_law_is_rest" "_law_is_rest" s__law_is_rest f fd) (hm : mg "_law_is_rest" = some (.ref f)) (B : Bl mg) : Cal P w K mg base 1 "_law_is_rest" ["near", "bits"] sp_lisrest := by
  refine ⟨f, fd, F.ok sc__law_is_rest (fun vs H Q E h => ?_) (fun cdv A outer s H vs Q E hr h => ?_), hm, F.kp, F.binds (ps := ["near", "bits"]) fun _ _ _ _ _ _ us hl => match us, hl with | [_, _], _ => rfl⟩
  · obtain ⟨tb, n, ps, ts, b, rfl, _⟩ := h; rfl
  · obtain ⟨tb, n, ps, ts, b, rfl, htb, TB, n0, n2, k⟩ := h
    have hlen := TB.len
    refine ⟨_, (pss_one (ps_ret (pe_callB (cr_all rfl) (by rfl) B.all (by decide +kernel) (pa_cons (pe_lc (own := [("part", 2)]) (te := (tOp _ _ (tOp _ (tOp _ (tOp (rIxL K) _ _) _) _))) (by rfl) sc__law_is_rest.nd (pi_range1 (by rfl) B.range (pa_cons (pe_callB call_len_seq (by rfl) B.len (by decide +kernel) (pa_cons (pv 0) pa_nil)) pa_nil)) (blkOk_by (own := [("part", 2)]) (N := ["near", "bits", "part"]) (sc := defScope s__law_is_rest) (by decide +kernel)) (fun _ _ _ _ _ => (pg_name (i := 2) sc__law_is_rest.nd rfl (by first | exact Or.inl rfl | exact Or.inr rfl))) (fun _ _ _ _ _ => pts_nil) (fun _ _ _ _ _ => (pe_cmpR op_eq (pe_cmpR op_eq (pe_op op_and (pe_op op_shr (pv 1) (pv 2)) pe_int) pe_int (nomark _)) (pe_cmpR op_eq (pe_op op_and (pe_ix ix_list (pv 0) (pv 2) (fun _ _ => rfl)) (pv 1)) pe_int (nomark _)) (nomark _)))) pa_nil)))), ?_⟩
    refine ⟨_, rfl, tb, _, rfl, .inl (SqL.of htb), _, rfl, by rw [nints_len]; omega, by rw [nints_len]; omega, fun D hD => lc_data (walk_range (lo := 0) (n := (((nints ts).length : Nat) : Int).toNat)) (List.range ts.length) (by rw [List.length_range, nints_len, Int.toNat_natCast]) (fun _ => true) (fun _ v j => v = .bl (b.testBit j == decide ((ts.getD j 0 &&& b) = 0))) (fun _ _ _ _ _ q => q) hD (fun _ _ => trivial) (by rw [List.length_range]; exact Nat.lt_of_le_of_lt (show ts.length ≤ 1000 by omega) (by decide)) ?_ (fun _ _ _ _ _ y => by rw [y.1]; exact L2.Same.refl _) ?_⟩
    · rintro j a v H5 H6 Ny Nn hai e5 ⟨rfl, rfl⟩ kE kN
      have hj : j < ts.length := by have := (List.getElem?_eq_some_iff.mp hai).1; rw [List.length_range] at this; exact this
      have ea : a = j := by
        rw [List.getElem?_range hj] at hai
        exact (Option.some.inj hai).symm
      subst ea
      have e0 : V.int ((0 : Int) + (a : Nat)) = V.int (a : Nat) := by rw [Int.zero_add]
      show gName 2 (V.int ((0 : Int) + (a : Nat))) _ _ _
      rw [e0]
      refine ⟨rfl, yes_if ?_⟩
      refine ⟨_, rfl, _, rfl, _, _, rfl, rfl, (by omega), _, _, rfl, rfl, rfl, ?_⟩
      refine ⟨_, rfl, _, rfl, tb, _, (a : Int), _, rfl, rfl, SqL.of (e5 _ _ htb), at_of (j := a) rfl (nints_get hj), _, rfl, _, _, rfl, rfl, rfl, rfl, ?_⟩
      refine kE _ _ rfl (L2.Same.refl _) ?_
      have e2 : decide (V.int (Builtin.bitAnd ((ts.getD a 0 : Nat) : Int) (b : Int)) = V.int 0) = decide ((ts.getD a 0 &&& b) = 0) := dec_iff ⟨fun h => by injection h with h; rw [and_pp] at h; omega, fun h => by rw [and_pp, h]; rfl⟩
      show V.bl (decide (V.bl (decide (V.int (Builtin.bitAnd ((b : Int) / 2 ^ ((a : Int)).toNat) 1) = V.int 1)) = V.bl (decide (V.int (Builtin.bitAnd ((ts.getD a 0 : Nat) : Int) (b : Int)) = V.int 0)))) = _
      rw [bit_eq1, e2]
      congr 1
      cases b.testBit a <;> cases decide ((ts.getD a 0 &&& b) = 0) <;> rfl
    intro zs H7 e7 hzs hpr
    have ez := paired_eq (g := fun j : Nat => V.bl (b.testBit j == decide ((ts.getD j 0 &&& b) = 0))) hpr
    subst ez
    rw [filter_yes] at hzs
    refine ⟨D, (List.range ts.length).map fun j => (b.testBit j == decide ((ts.getD j 0 &&& b) = 0)), rfl, (by rw [List.map_map]; exact SqL.of hzs), ?_⟩
    refine k _ H7 e7 ?_
    rw [List.all_map, List.all_eq_true]
    constructor
    · intro h j hj
      have hj2 : j < ts.length := by omega
      have := h j (List.mem_range.mpr hj2)
      have h2 : b.testBit j = decide ((ts.getD j 0 &&& b) = 0) := by simpa using this
      show b.testBit j = true ↔ _
      rw [h2, decide_eq_true_eq, and_zero TB hj2]
      exact ⟨fun h q hq ht => h q hq ht.symm, fun h q hq ht => h q hq ht.symm⟩
    · intro h j hj
      have hj2 := List.mem_range.mp hj
      have h1 := h j (by omega)
      have h3 : (b.testBit j = true) ↔ (ts.getD j 0 &&& b) = 0 := by
        rw [and_zero TB hj2]
        exact h1.trans ⟨fun h q hq ht => h q hq ht.symm, fun h q hq ht => h q hq ht.symm⟩
      show (b.testBit j == decide ((ts.getD j 0 &&& b) = 0)) = true
      by_cases c : (ts.getD j 0 &&& b) = 0
      · rw [h3.mpr c, decide_eq_true c]; rfl
      · have : b.testBit j = false := by
          cases d : b.testBit j with
          | true => exact absurd (h3.mp d) c
          | false => rfl
        rw [this, decide_eq_false c]; rfl
end


end Bs

namespace Bs
open PySem PySem.Spec L2
noncomputable def isR (n : Int) (ps : List (Int × Int)) (b : Nat) : Bool := @decide (RestB n ps b) (Classical.propDecidable _)
theorem isR_iff {n : Int} {ps : List (Int × Int)} {b : Nat} : isR n ps b = true ↔ RestB n ps b := by unfold isR; simp
theorem in_of_lt {n : Int} {b : Nat} (n0 : 0 ≤ n) (h : b < 2 ^ n.toNat) : InN n b := fun k hk => Classical.byContradiction fun hc => by
  have : b < 2 ^ k := Nat.lt_of_lt_of_le h (Nat.pow_le_pow_right (by decide) (by omega))
  have h2 := Nat.testBit_lt_two_pow this
  rw [show b.testBit k = true from hk] at h2
  cases h2
theorem lt_of_in {n : Int} {b : Nat} (h : InN n b) : b < 2 ^ n.toNat := Nat.lt_pow_two_of_testBit _ fun k hk => by
  cases c : b.testBit k with
  | false => rfl
  | true => have := h k c; omega
theorem lotL_bitsN {n : Int} {l : List Int} (h : Lot n l) : lotL (bitsN l) = l := lot_one (isLot_L _) (isLot_bits h)
theorem in_bitsN {n : Int} {l : List Int} (h : Lot n l) : InN n (bitsN l) := fun k hk => by
  have := (isLot_bits h).2.2 k
  exact (h.ok _ (this.mpr hk)).2
theorem rests_mem {n : Int} {ps : List (Int × Int)} (n0 : 0 ≤ n) (l : List Int) : l ∈ ((List.range (2 ^ n.toNat)).filter (isR n ps)).map lotL ↔ RestL n ps l := by
  rw [List.mem_map]
  constructor
  · rintro ⟨b, hb, rfl⟩
    have h := List.mem_filter.mp hb
    exact (restB_iff (in_of_lt n0 (List.mem_range.mp h.1))).mp (isR_iff.mp h.2)
  · intro h
    have hi := in_bitsN h.lot
    refine ⟨bitsN l, List.mem_filter.mpr ⟨List.mem_range.mpr (lt_of_in hi), isR_iff.mpr ((restB_iff hi).mpr (by rw [lotL_bitsN h.lot]; exact h))⟩, lotL_bitsN h.lot⟩
theorem rest_ne {n : Int} {ps : List (Int × Int)} {l : List Int} (n1 : 1 ≤ n) (h : RestL n ps l) : l ≠ [] := fun e => by
  subst e
  have := chg_nil.mp h.no 0 (by omega) (by omega)
  rw [says_iff.mpr (by simp)] at this
  simp at this
section
variable {P : Program} {w : World} {K : PySem.W.Frag} {mg : Str → Option Value} {base : Heap} {C : Addr}
def sp_stand : Sp := fun vs H Q _ => ∃ T n, vs = [.ref T, .int n] ∧ Sr H T ∧ 0 ≤ n ∧ n ≤ 1000 ∧ ∀ p l H', ExT T H H' → Sr H' T → H p = none → H' p = some (.tup (l.map V.int)) → Lot n l → Q (.ref p) H'
def sp_lrests : Sp := fun vs H Q _ => ∃ n u xs ps, vs = [.int n, .ref u] ∧ H u = some (.tup xs) ∧ Pairs H xs ps ∧ Good n ps ∧ 1 ≤ n ∧ n ≤ 10 ∧ ∀ q ys Ls H', Same H H' → H q = none → H' q = some (.lst ys) → Paired (LotAt H') ys Ls → (∀ l, l ∈ Ls ↔ RestL n ps l) → Ls.length ≤ 1024 → Ls.Perm (((List.range (2 ^ n.toNat)).filter (isR n ps)).map lotL) → Q (.ref q) H'
abbrev s__law_rests : Stmt := (top 34)
theorem sc__law_rests : FnScope ["size", "ties", "near", "bits"] ["size", "ties"] (defScope s__law_rests) := ⟨rfl, rfl, rfl, by decide +kernel, rfl, by decide +kernel, by decide +kernel⟩

theorem ok_law_rests {f : Addr} {fd : FuncData} (F : Fun K "_law_rests" "_law_rests" s__law_rests f fd) (hm : mg "_law_rests" = some (.ref f)) (B : Bl mg) (c__law_near : Cal P w K mg base 1 "_law_near" ["size", "ties"] sp_near) (c__law_is_rest : Cal P w K mg base 1 "_law_is_rest" ["near", "bits"] sp_lisrest) (c__law_lot : Cal P w K mg base 1 "_law_lot" ["bits", "size"] sp_llotB) : Cal P w K mg base 2 "_law_rests" ["size", "ties"] sp_lrests := by
  refine ⟨f, fd, F.ok sc__law_rests (fun vs H Q E h => ?_) (fun cdv A outer s H vs Q E hr h => ?_), hm, F.kp, F.binds (ps := ["size", "ties"]) fun _ _ _ _ _ _ us hl => match us, hl with | [_, _], _ => rfl⟩
  · obtain ⟨n, u, xs, ps, rfl, _⟩ := h; rfl
  · obtain ⟨n, u, xs, ps, rfl, hu, hps, G, n1, n2, k⟩ := h
    have pw : 2 ^ n.toNat ≤ 1024 := Nat.le_trans (Nat.pow_le_pow_right (by decide) (show n.toNat ≤ 10 by omega)) (by decide)
    refine ⟨_, (pss_cons (ps_set (i := 2) sc__law_rests.nd rfl (by first | exact Or.inl rfl | exact Or.inr rfl) (pe_cal c__law_near (hr.mono (by first | decide | omega)) (pa_cons (pv 0) (pa_cons (pv 1) pa_nil))))
 (pss_one (ps_ret (pe_callB (cr_sortedIt (Nat.lt_of_succ_lt (units65 hr))) (by rfl) B.sorted (by decide +kernel) (pa_cons (pe_lc (own := [("bits", 3)]) (by rfl) sc__law_rests.nd (pi_range1 (by rfl) B.range (pa_cons (pe_op op_shl pe_int (pv 0)) pa_nil)) (blkOk_by (own := [("bits", 3)]) (N := ["size", "ties", "near", "bits"]) (sc := defScope s__law_rests) (by decide +kernel)) (fun _ _ _ _ _ => (pg_name (i := 3) sc__law_rests.nd rfl (by first | exact Or.inl rfl | exact Or.inr rfl))) (fun _ _ _ _ _ => (pts_one (pt_val (pe_cal c__law_is_rest (hr.mono (by first | decide | omega)) (pa_cons (pv 2) (pa_cons (pv 3) pa_nil)))))) (fun _ _ _ _ _ => (pe_cal c__law_lot (hr.mono (by first | decide | omega)) (pa_cons (pv 3) (pa_cons (pv 0) pa_nil))))) pa_nil))))), ?_⟩
    refine ⟨_, rfl, _, rfl, n, u, xs, ps, rfl, hu, hps, G, n1, by omega, fun tb ts H1 e1 ntb htb TB => ?_⟩
    refine ⟨_, rfl, _, _, rfl, rfl, ⟨by omega, by omega, by decide⟩, ?_⟩
    refine ⟨((2 ^ n.toNat : Nat) : Int), (by show [V.int (1 * 2 ^ n.toNat)] = _; rw [p2i (show 0 ≤ n by omega)]), Int.le_trans (by decide) (Int.natCast_nonneg _), Int.lt_of_le_of_lt (Int.ofNat_le.mpr pw) (by decide), fun D hD => lc_data (walk_range (lo := 0) (n := (((2 ^ n.toNat : Nat) : Int)).toNat)) (List.range (2 ^ n.toNat)) (by rw [List.length_range, Int.toNat_natCast]) (isR n ps) (fun H' v b => LotAt H' v (lotL b)) (fun _ _ _ _ t q => q.tk t) hD (fun _ _ => trivial) (by rw [List.length_range]; exact Nat.lt_of_le_of_lt pw (by decide)) ?_ (fun _ _ _ _ _ y => by rw [y.1]; exact L2.Same.refl _) ?_⟩
    · rintro j a v H5 H6 Ny Nn hai e5 ⟨rfl, rfl⟩ kE kN
      have hj : j < 2 ^ n.toNat := by have := (List.getElem?_eq_some_iff.mp hai).1; rw [List.length_range] at this; exact this
      have ea : a = j := by
        rw [List.getElem?_range hj] at hai
        exact (Option.some.inj hai).symm
      subst ea
      have e0 : V.int ((0 : Int) + (a : Nat)) = V.int (a : Nat) := by rw [Int.zero_add]
      show gName 3 (V.int ((0 : Int) + (a : Nat))) _ _ _
      rw [e0]
      refine ⟨rfl, _, rfl, _, rfl, tb, n, ps, ts, a, rfl, e5 _ _ htb, TB, by omega, by omega, fun r H7 e7 hr => ⟨r, rfl, ?_⟩⟩
      have hrr : isR n ps a = r := Bool.eq_iff_iff.mpr (isR_iff.trans hr.symm)
      cases r with
      | true =>
        refine iteT ⟨_, rfl, _, rfl, a, n, rfl, by omega, by omega, in_of_lt (by omega) hj, fun q H8 e8 nq hq => ?_⟩
        exact kE _ _ hrr (e7.trans e8) ⟨q, rfl, hq⟩
      | false => exact iteF (kN _ hrr e7)
    intro zs H3 e3 hzs hpr
    have hp2 : Paired (LotAt H3) zs (((List.range (2 ^ n.toNat)).filter (isR n ps)).map lotL) := paired_mapR hpr
    have e13 := e1.trans e3
    refine ⟨D, zs, lotOf H3, rfl, SqL.of hzs, fun x hx => ?_, .inl fun x hx => ?_, fun ys q hperm _ hq => ?_⟩
    · obtain ⟨m, hm⟩ := paired_all hp2 x hx
      obtain ⟨b, e, hb⟩ := id hm
      rw [lotOf_at hm]
      exact ⟨b, e, hb⟩
    · have : lotOf H3 x ∈ zs.map (lotOf H3) := List.mem_map.mpr ⟨x, hx, rfl⟩
      rw [lots_of hp2] at this
      exact rest_ne n1 ((rests_mem (by omega) _).mp this)
    · have e2 := L2.Same.new (o := .lst ys) hq
      have hys : Paired (LotAt H3) ys (ys.map (lotOf H3)) := paired_lots fun y hy => paired_all hp2 y (hperm.mem_iff.mp hy)
      have hpl : (ys.map (lotOf H3)).Perm (((List.range (2 ^ n.toNat)).filter (isR n ps)).map lotL) := by
        have := hperm.map (lotOf H3)
        rw [lots_of hp2] at this
        exact this
      exact k q ys _ _ (e13.trans e2) (L2.Same.free e13 hq) upd_same (paired_imp (fun _ _ h => LotAt.tk h e2.tk) hys) (fun l => by rw [hpl.mem_iff]; exact rests_mem (by omega) l) (by rw [hpl.length_eq, List.length_map]; exact Nat.le_trans (List.length_filter_le _ _) (by rw [List.length_range]; exact pw)) hpl
def sp_size : Sp := fun vs H Q _ => ∃ T m, vs = [.ref T, .int m] ∧ Sr H T ∧ 1 ≤ m ∧ m ≤ 1000 ∧ ∀ r H', ExT T H H' → Sr H' T → 1 ≤ r → r ≤ m → Q (.int r) H'
end


end Bs

namespace Bs
open PySem PySem.Spec PyProof.Rows L2
/-! ## the order of lots -/
theorem lexAt_shift (e r : Nat → Bool) (z : Bool) : ∀ (k i : Nat), Ob.lexAt (fun j => e (j + 1)) (fun j => r (j + 1)) z i k = Ob.lexAt e r z (i + 1) k
  | 0, _ => rfl
  | k + 1, i => by rw [Ob.lexAt_succ, Ob.lexAt_succ, lexAt_shift e r z k (i + 1)]
theorem leT_lex : ∀ (ns ms : List Int), Ob.lexAt (fun j => decide (ns.getD j 0 = ms.getD j 0)) (fun j => decide (ns.getD j 0 ≤ ms.getD j 0)) (decide (ns.length ≤ ms.length)) 0 (min ns.length ms.length) = !HT.lexLt ms ns
  | [], [] => rfl
  | [], y :: ys => by
    rw [List.length_nil, Nat.zero_min, Ob.lexAt_zero]
    simp [HT.lexLt]
  | x :: xs, [] => by
    rw [List.length_nil, Nat.min_zero, Ob.lexAt_zero]
    simp [HT.lexLt]
  | x :: xs, y :: ys => by
    rw [List.length_cons, List.length_cons, show min (xs.length + 1) (ys.length + 1) = min xs.length ys.length + 1 from by omega, Ob.lexAt_succ, HT.lexLt_cons]
    rw [← lexAt_shift]
    have ih := leT_lex xs ys
    show (if decide (x = y) = true then Ob.lexAt (fun j => decide (xs.getD j 0 = ys.getD j 0)) (fun j => decide (xs.getD j 0 ≤ ys.getD j 0)) (decide (xs.length + 1 ≤ ys.length + 1)) 0 (min xs.length ys.length) else decide (x ≤ y)) = _
    rw [show decide (xs.length + 1 ≤ ys.length + 1) = decide (xs.length ≤ ys.length) from by congr 1; exact propext ⟨fun h => by omega, fun h => by omega⟩, ih]
    by_cases e : x = y
    · subst e; simp
    · rw [if_neg (by simpa using e), if_neg (fun h => e h.symm)]
      by_cases h : x ≤ y
      · rw [decide_eq_true h, decide_eq_false (by omega)]; rfl
      · rw [decide_eq_false h, decide_eq_true (by omega)]; rfl
theorem lex_trans : ∀ {a b c : List Int}, HT.lexLt a b = true → HT.lexLt b c = true → HT.lexLt a c = true
  | [], [], _, h, _ => by simp [HT.lexLt] at h
  | [], _ :: _, [], _, h => by simp [HT.lexLt] at h
  | [], _ :: _, _ :: _, _, _ => rfl
  | _ :: _, [], _, h, _ => by simp [HT.lexLt] at h
  | _ :: _, _ :: _, [], _, h => by simp [HT.lexLt] at h
  | x :: xs, y :: ys, z :: zs, h1, h2 => by
    rw [HT.lexLt_cons] at h1 h2 ⊢
    by_cases e1 : x = y
    · subst e1
      rw [if_pos rfl] at h1
      by_cases e2 : x = z
      · subst e2
        rw [if_pos rfl] at h2 ⊢
        exact lex_trans h1 h2
      · rw [if_neg e2] at h2 ⊢; exact h2
    · rw [if_neg e1] at h1
      have h1 := of_decide_eq_true h1
      by_cases e2 : y = z
      · subst e2
        rw [if_neg (by omega)]
        exact decide_eq_true h1
      · rw [if_neg e2] at h2
        have h2 := of_decide_eq_true h2
        rw [if_neg (by omega)]
        exact decide_eq_true (by omega)
theorem lex_irr : ∀ (a : List Int), HT.lexLt a a = false
  | [] => rfl
  | x :: xs => by rw [HT.lexLt_cons, if_pos rfl]; exact lex_irr xs
/-- the first so many are lots in order -/
def LOk (H : Hp) (n : Int) (xs : List V) (i : Nat) : Prop := ∃ Ls : List (List Int), Paired (LotAt H) (xs.take i) Ls ∧ (∀ l ∈ Ls, Lot n l) ∧ Ls.Pairwise fun a b => HT.lexLt a b = true
theorem Item.tape {K : PySem.W.Frag} {H H' : Hp} {T L : Addr} {v : V} (h : Item K H v) (hT : Tp H T L) (hT' : Tp H' T L) (e : ExT T H H') : Item K H' v := by
  obtain ⟨l, h1⟩ := hT.lst
  obtain ⟨l', h2⟩ := hT'.lst
  exact h.exT e h1 h2
theorem Thing.tape {K : PySem.W.Frag} {H H' : Hp} {T L : Addr} {v : V} (h : Thing K H v) (hT : Tp H T L) (hT' : Tp H' T L) (e : ExT T H H') (hv : ∀ a, v = .ref a → H a ≠ none) : Thing K H' v := by
  obtain ⟨l, h1⟩ := hT.lst
  obtain ⟨l', h2⟩ := hT'.lst
  exact h.exT e h1 h2 hv
section
variable {P : Program} {w : World} {K : PySem.W.Frag} {mg : Str → Option Value} {base : Heap} {C : Addr}
/-- a thing that is there -/
def ThE (K : PySem.W.Frag) (H : Hp) (v : V) : Prop := Thing K H v ∧ ∀ a, v = .ref a → H a ≠ none
theorem ThE.tup {K : PySem.W.Frag} {H : Hp} {a : Addr} {xs : List V} (h : H a = some (.tup xs)) (h1 : ∀ x ∈ xs, Item K H x) (h2 : xs.length ≤ 100000) : ThE K H (.ref a) := ⟨.tup h h1 h2, fun b e => by cases e; rw [h]; exact Option.some_ne_none _⟩
theorem ThE.lst {K : PySem.W.Frag} {H : Hp} {a : Addr} {xs : List V} (h : H a = some (.lst xs)) : ThE K H (.ref a) := ⟨.lst h, fun b e => by cases e; rw [h]; exact Option.some_ne_none _⟩
theorem ThE.dK {K : PySem.W.Frag} {H : Hp} {a : Addr} {xs : List (L2.Key × V)} (h : H a = some (.dK xs)) : ThE K H (.ref a) := ⟨.dK h, fun b e => by cases e; rw [h]; exact Option.some_ne_none _⟩
theorem ThE.non {K : PySem.W.Frag} {H : Hp} : ThE K H .non := ⟨.non, fun _ => V.noConfusion⟩
theorem ThE.str {K : PySem.W.Frag} {H : Hp} (x : Str) : ThE K H (.str x) := ⟨.str x, fun _ => V.noConfusion⟩
theorem ThE.int {K : PySem.W.Frag} {H : Hp} (x : Int) : ThE K H (.int x) := ⟨.int x, fun _ => V.noConfusion⟩
theorem ThE.ext {K : PySem.W.Frag} {H H' : Hp} {v : V} (h : ThE K H v) (e : Same H H') : ThE K H' v := ⟨h.1.ext e h.2, fun a ea q => by
  cases c : H a with
  | none => exact h.2 a ea c
  | some o => rw [e _ _ c] at q; cases q⟩
theorem ThE.tape {K : PySem.W.Frag} {H H' : Hp} {T L : Addr} {v : V} (h : ThE K H v) (hT : Tp H T L) (hT' : Tp H' T L) (e : ExT T H H') : ThE K H' v := ⟨h.1.tape hT hT' e h.2, fun a ea q => by
  by_cases ca : a = T
  · obtain ⟨l, hl⟩ := hT'.lst
    rw [ca, hl] at q; cases q
  · cases c : H a with
    | none => exact h.2 a ea c
    | some o => rw [e _ _ ca c] at q; cases q⟩
theorem cut_mem {xs : List V} {lo hi : Option Int} {x : V} (h : x ∈ cutV xs lo hi) : x ∈ xs := List.mem_of_mem_drop (List.mem_of_mem_take h)
theorem cut_whole {xs : List V} {lo hi : Option Int} (h : HT.sIx xs.length 0 lo = 0 ∧ HT.sIx xs.length xs.length hi = xs.length) : cutV xs lo hi = xs := by
  unfold cutV
  rw [h.1, h.2, List.drop_zero, Nat.sub_zero, List.take_length]
theorem sl_any {K : PySem.W.Frag} {H : Hp} {a : Addr} {xs : List V} {lo hi : Option Int} {Q : VK} (ha : H a = some (.tup xs)) (k : ∀ b H', Same H H' → H' b = some (.tup (cutV xs lo hi)) → Q (.ref b) H') : rSlA K (.ref a) lo hi H Q :=
  ⟨a, xs, rfl, SqT.of ha, fun h => k a H (L2.Same.refl H) (by rw [cut_whole h]; exact ha), fun _ p hp => k p _ (L2.Same.new hp) upd_same⟩
theorem sl_from {K : PySem.W.Frag} {σ : L2.St} {H : Hp} {a : Addr} {xs : List V} {lo : Option Int} {Q : VK} (ha : H a = some (.tup xs)) (k : ∀ b H', Same H H' → H' b = some (.tup (cutV xs lo none)) → Q (.ref b) H') : tNoPart σ H (fun u H3 => rSlA K (.ref a) lo u H3 Q) := sl_any ha k
end
/-- a tuple of things, or no tuple -/
inductive ThT (K : PySem.W.Frag) (H : Hp) : V → Prop where
  | tup {a : Addr} {xs : List V} (h : H a = some (.tup xs)) (h1 : ∀ x ∈ xs, ThE K H x) (h2 : xs.length ≤ 100000) : ThT K H (.ref a)
  | els {v : V} (h : Typ K H v "tuple" false) (h1 : ∀ a xs, v = .ref a → H a ≠ some (.tup xs)) : ThT K H v
section
variable {P : Program} {w : World} {K : PySem.W.Frag} {mg : Str → Option Value} {base : Heap} {C CB : Addr}
def sp_bad_init (K : PySem.W.Frag) : Sp := fun vs H Q _ => ∃ (a CB : Addr) (y : V), vs = [.ref a, y] ∧ OexC K CB ∧ PySem.W.findIn K (.ref CB) "part" = some none ∧ H a = some (exo a CB none) ∧ ∀ dx, H dx = none → dx ≠ a → Q .non (upd (upd H dx (exd dx [(("part" : Str), y)])) a (exo a CB (some dx)))
abbrev s_BadList_init : Stmt := (inClass (top 3) 0)
theorem sc_BadList_init : FnScope ["self", "part"] ["self", "part"] (defScope s_BadList_init) := ⟨rfl, rfl, rfl, by decide +kernel, rfl, by decide +kernel, by decide +kernel⟩

theorem ok_BadList_init {f : Addr} {fd : FuncData} (F : Fun K "__init__" "BadList.__init__" s_BadList_init f fd) (B : Bl mg) : FnOk P w K mg base CX0 1 f fd ["self", "part"] (sp_bad_init K) := by
  refine F.ok sc_BadList_init (fun vs H Q E h => ?_) (fun cdv A outer s H vs Q E hr h => ?_)
  · obtain ⟨a, CB, y, rfl, _⟩ := h; rfl
  · obtain ⟨a, CB, y, rfl, T, hno, ha, k⟩ := h
    refine ⟨_, (pss_one (ps_ost (pv 0) (pv 1))), ?_⟩
    exact ⟨_, rfl, _, rfl, a, CB, rfl, T, hno, .inl ⟨ha, fun dx h1 h2 => k dx h1 h2⟩⟩
/-- BadList(y): what is raised -/
theorem bad_read {H : Hp} {y : V} {Q : XK} (T : OexC K CB) (hno : PySem.W.findIn K (.ref CB) "part" = some none) (h : ∀ d H', Same H H' → H d = none → H' d = some (.xd [(("part" : Str), y)]) → Q (.ref CB) (some d) H') :
    ∀ a, H a = none → sp_bad_init K [.ref a, y] (upd H a (exo a CB none)) (fun v H2 => v = .non ∧ ∃ (d : Addr) (fs : List (Str × V)), H2 a = some (exo a CB (some d)) ∧ H2 d = some (exd d fs) ∧ H d = none ∧ Q (.ref CB) (some d) (upd (del H2 a) d (.xd fs))) (fun _ _ _ => False) := by
  intro a ha
  refine ⟨a, CB, y, rfl, T, hno, upd_same, fun dx hdx hne => ⟨rfl, dx, _, upd_same, by rw [upd_ne hne]; exact upd_same, ?_, ?_⟩⟩
  · rw [upd_ne hne] at hdx; exact hdx
  · rw [upd_ne hne] at hdx
    refine h dx _ (fun b o hb => ?_) hdx upd_same
    have hba : b ≠ a := ne_of_none hb ha
    have hbd : b ≠ dx := ne_of_none hb hdx
    rw [upd_ne hbd, del_ne hba, upd_ne hba, upd_ne hbd, upd_ne hba]
    exact hb
/-- what is known of BadList -/
structure BadT (P : Program) (w : World) (K : PySem.W.Frag) (mg : Str → Option Value) (base : Heap) (CB fI : Addr) (fd : FuncData) : Prop where
  T : OexC K CB
  no : PySem.W.findIn K (.ref CB) "part" = some none
  g : mg "BadList" = some (.ref CB)
  iC : PySem.W.findIn K (.ref CB) "__init__" = some (some (.ref fI))
  tI : PySem.W.typeIn K (.ref fI) = some (.type "function")
  F1 : FnOk P w K mg base CX0 1 fI fd ["self", "part"] (sp_bad_init K)
  hb : Binds K fd ["self", "part"] []
end

end Bs

namespace Bs
open PySem PySem.Spec PyProof.Rows L2
theorem lots_uniq {H : Hp} : ∀ {xs : List V} {Ls Ms : List (List Int)}, Paired (LotAt H) xs Ls → Paired (LotAt H) xs Ms → Ls = Ms
  | _, _, _, .nil, .nil => rfl
  | _, _, _, .cons r t, .cons r' t' => by
    obtain ⟨a, e, h⟩ := r
    obtain ⟨b, e', h'⟩ := r'
    cases e.symm.trans e'
    rw [h] at h'
    injection h' with h'
    injection h' with h'
    rw [List.map_inj_right (fun a b h => V.int.inj h) |>.mp h', lots_uniq t t']
theorem lots_snoc {H : Hp} {xs : List V} {Ls : List (List Int)} {i : Nat} {x : V} {l : List Int} (h : Paired (LotAt H) (xs.take i) Ls) (hx : xs[i]? = some x) (hl : LotAt H x l) : Paired (LotAt H) (xs.take (i + 1)) (Ls ++ [l]) := by
  rw [take_snoc hx]
  exact Paired.app h (.cons hl .nil)
theorem lots_last {H : Hp} {xs : List V} {Ls Ms : List (List Int)} {i : Nat} {x : V} (h : Paired (LotAt H) (xs.take i) Ls) (hx : xs[i]? = some x) (hq : Paired (LotAt H) (xs.take (i + 1)) Ms) : ∃ l, LotAt H x l ∧ Ms = Ls ++ [l] := by
  have hi : i < xs.length := (List.getElem?_eq_some_iff.mp hx).1
  have hx2 : (xs.take (i + 1))[i]? = some x := by rw [List.getElem?_take, if_pos (Nat.lt_succ_self i)]; exact hx
  obtain ⟨p, h1, h2⟩ := Paired.get hq hx2
  exact ⟨p, h2, lots_uniq hq (lots_snoc h hx h2)⟩
section
variable {P : Program} {w : World} {K : PySem.W.Frag} {mg : Str → Option Value} {base : Heap} {C CB : Addr}
def sp_wrong_stand (K : PySem.W.Frag) : Sp := fun vs H Q _ => ∃ (n : Int) (t : Addr) (xs : List V), vs = [.int n, .ref t] ∧ H t = some (.tup xs) ∧ (∀ x ∈ xs, ThE K H x) ∧
  (∀ (i : Nat) H', Same H H' → i < xs.length → LOk H n xs i → ¬ LOk H n xs (i + 1) → Q (.int i) H') ∧ (∀ H', Same H H' → LOk H n xs xs.length → Q .non H')
abbrev s_wrong_stand : Stmt := (top 18)
theorem sc_wrong_stand : FnScope ["places", "stands", "last", "at", "stand"] ["places", "stands"] (defScope s_wrong_stand) := ⟨rfl, rfl, rfl, by decide +kernel, rfl, by decide +kernel, by decide +kernel⟩

theorem ok_wrong_stand {f : Addr} {fd : FuncData} (F : Fun K "wrong_stand" "wrong_stand" s_wrong_stand f fd) (hm : mg "wrong_stand" = some (.ref f)) (B : Bl mg) (c_is_lot_below : Cal P w K mg base 3 "is_lot_below" ["size", "thing"] (sp_is_lot_belowA K)) : Cal P w K mg base 4 "wrong_stand" ["places", "stands"] (sp_wrong_stand K) := by
  refine ⟨f, fd, F.ok sc_wrong_stand (fun vs H Q E h => ?_) (fun cdv A outer s H vs Q E hr h => ?_), hm, F.kp, F.binds (ps := ["places", "stands"]) fun _ _ _ _ _ _ us hl => match us, hl with | [_, _], _ => rfl⟩
  · obtain ⟨n, t, xs, rfl, _⟩ := h; rfl
  · obtain ⟨n, t, xs, rfl, ht, hth, kI, kN⟩ := h
    refine ⟨_, (pss_cons (ps_set (i := 2) sc_wrong_stand.nd rfl (by first | exact Or.inl rfl | exact Or.inr rfl) pe_non)
 (pss_cons (ps_for PassesOwn.never rfl (pi_enumT (by rfl) B.enumerate (pa_cons (pv 1) pa_nil)) (pg_tup (by rfl) (pgs_cons (pg_name (i := 3) sc_wrong_stand.nd rfl (by first | exact Or.inl rfl | exact Or.inr rfl)) (pgs_cons (pg_name (i := 4) sc_wrong_stand.nd rfl (by first | exact Or.inl rfl | exact Or.inr rfl)) pgs_nil)))
  (pss_cons (ps_if (pt_not (pt_val (pe_cal c_is_lot_below (hr.mono (by first | decide | omega)) (pa_cons (pv 0) (pa_cons (pv 4) pa_nil))))) (pss_one (ps_ret (pv 3))) pss_nil)
 (pss_cons (ps_if (PW.pt (pw_and (pt_cmpR op_notN (pv 2) pe_non (nomark _)) (pw_and1 (pt_cmpR (op_leT hr.units0) (pv 4) (pv 2) (nomark _))))) (pss_one (ps_ret (pv 3))) pss_nil)
 (pss_one (ps_set (i := 2) sc_wrong_stand.nd rfl (by first | exact Or.inl rfl | exact Or.inr rfl) (pv 4))))))
 (pss_one (ps_ret pe_non)))), ?_⟩
    refine ⟨_, rfl, t, xs, rfl, SqT.of ht, for_it (walk_enumT (K := K) (a := t) (xs := xs)) (fun i σ H' => Same H H' ∧ ∃ (u v : Option V) (la : V) (Ls : List (List Int)), σ = [some (.int n), some (.ref t), some la, u, v] ∧ Paired (LotAt H) (xs.take i) Ls ∧ (∀ l ∈ Ls, Lot n l) ∧ (Ls.Pairwise fun a b => HT.lexLt a b = true) ∧ ((Ls = [] ∧ la = .non) ∨ ∃ Ms m, Ls = Ms ++ [m] ∧ LotAt H la m))
      ⟨L2.Same.refl _, none, none, .non, [], rfl, .nil, by simp, .nil, .inl ⟨rfl, rfl⟩⟩ (fun i σ H' _ p => SqT.of (p.1 _ _ ht)) ?_ ?_⟩
    · rintro i y σ H1 H2 hi ⟨e1, u, v, la, Ls, rfl, hps, hok, hup, hlast⟩ ⟨A1, y1, y2, rfl, hA, rfl, hy1, hy2⟩
      cases hy1
      have e2 : Same H1 (upd H1 A1 (.tup [.int (i : Nat), y2])) := L2.Same.new hA
      have e12 := e1.trans e2
      have hlt : i < xs.length := (List.getElem?_eq_some_iff.mp hy2).1
      have th0 := hth y2 (List.mem_of_getElem? hy2)
      have th2 := th0.ext e12
      have okI : LOk H n xs i := ⟨Ls, hps, hok, hup⟩
      refine ⟨A1, _, rfl, SqT.of upd_same, rfl, _, _, rfl, _, _, rfl, rfl, ?_⟩
      refine ⟨_, rfl, _, rfl, n, y2, rfl, th2.1, fun b hb => ⟨b, rfl, ?_⟩⟩
      have forth : ∀ p, LotAt (upd H1 A1 (.tup [.int (i : Nat), y2])) y2 p → LotAt H y2 p := fun p h => by
        obtain ⟨a, rfl, h2⟩ := h
        cases c : H a with
        | none => exact absurd c (th0.2 a rfl)
        | some o => rw [e12 _ _ c] at h2; cases h2; exact ⟨a, rfl, c⟩
      cases b with
      | false =>
        refine iteT ?_
        refine ⟨_, rfl, kI i _ e12 hlt okI ?_⟩
        rintro ⟨qs, hqs, Gq, _⟩
        obtain ⟨l, ⟨a, ea, ha⟩, rfl⟩ := lots_last hps hy2 hqs
        have := hb.mpr ⟨a, l, ea, e12 _ _ ha, Gq l (by simp)⟩
        cases this
      | true =>
        obtain ⟨a, l, rfl, ha2, hl⟩ := hb.mp rfl
        have hla := forth l ⟨a, rfl, ha2⟩
        refine iteF ?_
        have go : (∀ m ∈ Ls, HT.lexLt m l = true) → (Same H (upd H1 A1 (.tup [.int (i : Nat), .ref a])) ∧ ∃ (u v : Option V) (la : V) (Ls : List (List Int)), [some (.int n), some (.ref t), some (.ref a), some (.int (i : Nat)), some (.ref a)] = [some (.int n), some (.ref t), some la, u, v] ∧ Paired (LotAt H) (xs.take (i + 1)) Ls ∧ (∀ l ∈ Ls, Lot n l) ∧ (Ls.Pairwise fun a b => HT.lexLt a b = true) ∧ ((Ls = [] ∧ la = .non) ∨ ∃ Ms m, Ls = Ms ++ [m] ∧ LotAt H la m)) := fun hm =>
          ⟨e12, _, _, .ref a, Ls ++ [l], rfl, lots_snoc hps hy2 hla, fun m hm => (List.mem_append.mp hm).elim (hok m) (fun h => by simp at h; subst h; exact hl), List.pairwise_append.mpr ⟨hup, by simp, fun x hx y hy => by simp at hy; subst hy; exact hm x hx⟩, .inr ⟨Ls, l, rfl, hla⟩⟩
        rcases hlast with ⟨rfl, rfl⟩ | ⟨Ms, m, rfl, hlm⟩
        · refine ⟨_, rfl, rfl, _, rfl, iteF (iteF ⟨_, rfl, go (by simp)⟩)⟩
        · obtain ⟨b, rfl, hb2⟩ := hlm
          refine ⟨_, rfl, rfl, _, rfl, iteT ?_⟩
          refine ⟨_, rfl, _, rfl, a, b, l, m, rfl, rfl, SqT.of ha2, SqT.of (e12 _ _ hb2), ?_⟩
          rw [leT_lex]
          cases c : HT.lexLt m l with
          | true =>
            refine ⟨_, rfl, iteF ⟨_, rfl, go fun r hr => ?_⟩⟩
            rcases List.mem_append.mp hr with hr | hr
            · exact lex_trans ((List.pairwise_append.mp hup).2.2 r hr m (by simp)) c
            · simp at hr; subst hr; exact c
          | false =>
            refine ⟨_, rfl, iteT ⟨_, rfl, kI i _ e12 hlt okI ?_⟩⟩
            rintro ⟨rs, hrs, _, Gu⟩
            obtain ⟨l', hl', rfl⟩ := lots_last hps hy2 hrs
            have : l' = l := by
              obtain ⟨a1, e1, h1⟩ := hl'
              obtain ⟨a2, e2, h2⟩ := hla
              cases e1.symm.trans e2
              rw [h1] at h2
              injection h2 with h2
              injection h2 with h2
              exact List.map_inj_right (fun a b h => V.int.inj h) |>.mp h2
            subst this
            have := (List.pairwise_append.mp Gu).2.2 m (by simp) l' (by simp)
            rw [c] at this
            cases this
    · rintro σ H' ⟨e1, u, v, la, Ls, rfl, hps, hok, hup, _⟩
      exact kN _ e1 ⟨Ls, hps, hok, hup⟩
end

end Bs

namespace Bs
open PySem PySem.Spec PyProof.Rows L2
/-- what is known of List -/
structure TxtL (K : PySem.W.Frag) (mg : Str → Option Value) (C : Addr) : Prop where
  cl : Cls K C
  nPlaces : NoAttr K C "places"
  nStands : NoAttr K C "stands"
  mg_List : mg "List" = some (.ref C)
  mg_MOST_PLACES : ∃ t, mg "MOST_PLACES" = some (.int 12 t)
  mg_MOST_STANDS : ∃ t, mg "MOST_STANDS" = some (.int 64 t)
/-- what is wrong of places and stands -/
def LBadIs (H : Hp) (sv tv y : V) : Prop :=
  (inI 1 12 sv = false ∧ y = .str "places") ∨ (inI 1 12 sv = true ∧ (∀ a xs, tv = .ref a → H a = some (.tup xs) → ¬ (1 ≤ xs.length ∧ xs.length ≤ 64)) ∧ y = .str "stands") ∨
  ∃ (n : Int) (t : Addr) (xs : List V) (i : Nat), sv = .int n ∧ 1 ≤ n ∧ n ≤ 12 ∧ tv = .ref t ∧ H t = some (.tup xs) ∧ 1 ≤ xs.length ∧ xs.length ≤ 64 ∧ i < xs.length ∧ LOk H n xs i ∧ ¬ LOk H n xs (i + 1) ∧ y = .int i
def ListIs (H : Hp) (sv tv : V) : Prop := ∃ (n : Int) (t : Addr) (xs : List V), sv = .int n ∧ 1 ≤ n ∧ n ≤ 12 ∧ tv = .ref t ∧ H t = some (.tup xs) ∧ 1 ≤ xs.length ∧ xs.length ≤ 64 ∧ LOk H n xs xs.length
def lfV (s t : V) : List (Str × V) := putF "stands" t (putF "places" s [])
section
variable {P : Program} {w : World} {K : PySem.W.Frag} {mg : Str → Option Value} {base : Heap} {C CB : Addr}
def sp_List_initX (K : PySem.W.Frag) (C CB : Addr) : Sp := fun vs H Q E => ∃ (x dx : Addr) (sv tv : V), vs = [.ref x, sv, tv] ∧ H x = some (.ins C dx []) ∧ Item K H sv ∧ ThT K H tv ∧
  (∀ y d H', LBadIs H sv tv y → Same H H' → H d = none → H' d = some (.xd [(("part" : Str), y)]) → E (.ref CB) (some d) H') ∧
  (ListIs H sv tv → ∀ H', ExT x H H' → H' x = some (.ins C dx (lfV sv tv)) → Q .non H')
abbrev s_List_init : Stmt := (inClass (top 17) 0)
theorem sc_List_init : FnScope ["self", "places", "stands", "wrong"] ["self", "places", "stands"] (defScope s_List_init) := ⟨rfl, rfl, rfl, by decide +kernel, rfl, by decide +kernel, by decide +kernel⟩

theorem ok_List_initX {f fI : Addr} {fd fdI : FuncData} (F : Fun K "__init__" "List.__init__" s_List_init f fd) (B : Bl mg) (T : TxtL K mg C) (BT : BadT P w K mg base CB fI fdI) (c_is_number : Cal P w K mg base 2 "is_number" ["thing", "least", "most"] (sp_inI K)) (c_wrong_stand : Cal P w K mg base 4 "wrong_stand" ["places", "stands"] (sp_wrong_stand K)) : FnOk P w K mg base (L2.CX P w) 5 f fd ["self", "places", "stands"] (sp_List_initX K C CB) := by
  refine F.okX sc_List_init (fun vs H Q E h => ?_) (fun cdv A outer s H vs Q E hr h => ?_)
  · obtain ⟨x, dx, sv, tv, rfl, _⟩ := h; rfl
  · obtain ⟨x, dx, sv, tv, rfl, hx, iS, tT, kE, kQ⟩ := h
    obtain ⟨t12, h12⟩ := T.mg_MOST_PLACES
    obtain ⟨t64, h64⟩ := T.mg_MOST_STANDS
    refine ⟨_, (pss_cons (ps_if (pt_not (pt_val (pe_cal c_is_number (hr.mono (by first | decide | omega)) (pa_cons (pv 1) (pa_cons pe_int (pa_cons (pe_glob (v := .int 12) (by rfl) h12 ⟨_, rfl⟩) pa_nil)))))) (pss_one (ps_raise rfl (takes_of rfl rfl rfl rfl) (pmk_oex (dvs := []) BT.T BT.iC BT.tI BT.F1 (hr.mono (by decide)) BT.hb .nil pass0 (by rfl) BT.g (pa_cons pe_str pa_nil)))) pss_nil)
 (pss_cons (ps_if (PW.pt (pw_or (pt_not (pt_val (pe_callB call_isi (by rfl) B.isinstance (by decide +kernel) (pa_cons (pv 2) (pa_cons (pe_bltn (v := .ty "tuple") (by rfl) B.tuple_ (by decide +kernel) rfl) pa_nil))))) (pw_or1 (pt_not (pt_chain op_le op_le pe_int (pe_callB call_len_seq (by rfl) B.len (by decide +kernel) (pa_cons (pv 2) pa_nil)) (pe_glob (v := .int 64) (by rfl) h64 ⟨_, rfl⟩)))))) (pss_one (ps_raise rfl (takes_of rfl rfl rfl rfl) (pmk_oex (dvs := []) BT.T BT.iC BT.tI BT.F1 (hr.mono (by decide)) BT.hb .nil pass0 (by rfl) BT.g (pa_cons pe_str pa_nil)))) pss_nil)
 (pss_cons (ps_set (i := 3) sc_List_init.nd rfl (by first | exact Or.inl rfl | exact Or.inr rfl) (pe_cal c_wrong_stand (hr.mono (by first | decide | omega)) (pa_cons (pv 1) (pa_cons (pv 2) pa_nil))))
 (pss_cons (ps_if (pt_cmpR op_notN (pv 3) pe_non (nomark _)) (pss_one (ps_raise rfl (takes_of rfl rfl rfl rfl) (pmk_oex (dvs := []) BT.T BT.iC BT.tI BT.F1 (hr.mono (by decide)) BT.hb .nil pass0 (by rfl) BT.g (pa_cons (pv 3) pa_nil)))) pss_nil)
 (pss_cons (ps_fld (pv 0) (pv 1) rfl)
 (pss_one (ps_fld (pv 0) (pv 2) rfl))))))), ?_⟩
    refine ⟨_, rfl, sv, 1, 12, rfl, iS, _, rfl, ?_⟩
    cases c : inI 1 12 sv with
    | false =>
      refine iteT ?_
      exact ⟨by decide, bad_read BT.T BT.no fun d H' e h0 h1 => kE _ d H' (.inl ⟨c, rfl⟩) e h0 h1⟩
    | true =>
      obtain ⟨n, rfl, n1, n2⟩ := inI_ex c
      refine iteF ?_
      cases tT with
      | els h h1 =>
        obtain ⟨t, ty, hk⟩ := h
        refine ⟨_, rfl, _, _, _, _, false, rfl, .ty "tuple", ty, hk, false, rfl, iteT (iteT ?_)⟩
        exact ⟨by decide, bad_read BT.T BT.no fun d H' e h0 h2 => kE _ d H' (.inr (.inl ⟨c, fun a xs ea q => absurd q (h1 a xs ea), rfl⟩)) e h0 h2⟩
      | @tup t xs ht hth hlen =>
        refine ⟨_, rfl, _, _, _, _, true, rfl, .ty "tuple", .base (.tup ht), kit_ty (by decide +kernel), true, rfl, iteF ?_⟩
        refine ⟨_, rfl, t, _, rfl, .inr (SqT.of ht), _, _, rfl, rfl, _, rfl, ?_⟩
        have stands_bad : ¬ (1 ≤ xs.length ∧ xs.length ≤ 64) → ∀ d H', Same H H' → H d = none → H' d = some (.xd [(("part" : Str), V.str "stands")]) → E (.ref CB) (some d) H' := fun hb d H' e h0 h2 =>
          kE _ d H' (.inr (.inl ⟨c, fun a ys ea q => by cases ea; rw [ht] at q; injection q with q; injection q with q; subst q; exact hb, rfl⟩)) e h0 h2
        by_cases h1 : (1 : Int) ≤ (xs.length : Int)
        · rw [if_pos (decide_eq_true h1)]
          refine ⟨_, _, rfl, rfl, _, rfl, ?_⟩
          by_cases h2 : (xs.length : Int) ≤ 64
          · rw [decide_eq_true h2]
            refine iteF ?_
            have l1 : 1 ≤ xs.length := by omega
            have l2 : xs.length ≤ 64 := by omega
            refine ⟨_, rfl, _, rfl, n, t, xs, rfl, ht, hth, fun i H1 e1 hi ok nok => ?_, fun H1 e1 ok => ?_⟩
            · refine ⟨_, rfl, rfl, _, rfl, iteT ?_⟩
              refine ⟨_, rfl, (by show 1 ≤ 1000; decide), bad_read BT.T BT.no fun d H' e h0 h1 => kE _ d H' (.inr (.inr ⟨n, t, xs, i, rfl, n1, n2, rfl, ht, l1, l2, hi, ok, nok, rfl⟩)) (e1.trans e) (L2.Same.free e1 h0) h1⟩
            · refine ⟨_, rfl, rfl, _, rfl, iteF ?_⟩
              refine ⟨_, rfl, _, rfl, x, C, dx, [], rfl, e1 _ _ hx, T.cl, T.nPlaces, (by decide), ?_⟩
              refine ⟨_, rfl, _, rfl, x, C, dx, _, rfl, upd_same, T.cl, T.nStands, (by show 1 < 1000; decide), ?_⟩
              exact kQ ⟨n, t, xs, rfl, n1, n2, rfl, ht, l1, l2, ok⟩ _ (e1.exT.upd.upd) upd_same
          · rw [decide_eq_false h2]
            exact iteT ⟨by decide, bad_read BT.T BT.no fun d H' e h0 h1 => stands_bad (fun h => h2 (by omega)) d H' e h0 h1⟩
        · rw [if_neg (by simpa using h1)]
          exact ⟨_, rfl, iteT ⟨by decide, bad_read BT.T BT.no fun d H' e h0 h2 => stands_bad (fun h => h1 (by omega)) d H' e h0 h2⟩⟩
end

end Bs

namespace Bs
open PySem PySem.Spec PyProof.Rows L2
section
variable {P : Program} {w : World} {K : PySem.W.Frag} {mg : Str → Option Value} {base : Heap} {C CB CW : Addr}
theorem chain_up {l : List Int} (h : ∀ i, i + 1 < l.length → l.getD i 0 < l.getD (i + 1) 0) : l.Pairwise (· < ·) := by
  induction l with
  | nil => exact .nil
  | cons a l ih =>
    have ih' := ih fun i hi => by
      have := h (i + 1) (by simp; omega)
      simpa using this
    refine List.pairwise_cons.mpr ⟨fun b hb => ?_, ih'⟩
    cases l with
    | nil => simp at hb
    | cons c l =>
      have h0 : a < c := by
        have := h 0 (by simp)
        simpa using this
      rcases List.mem_cons.mp hb with e | hb
      · omega
      · have := (List.pairwise_cons.mp ih').1 b hb
        omega
theorem up_chain {l : List Int} (h : l.Pairwise (· < ·)) (i : Nat) (hi : i + 1 < l.length) : l.getD i 0 < l.getD (i + 1) 0 := by
  have h1 := List.pairwise_iff_getElem.mp h i (i + 1) (by omega) hi (Nat.lt_succ_self i)
  rw [List.getD_eq_getElem?_getD, List.getD_eq_getElem?_getD, List.getElem?_eq_getElem (by omega), List.getElem?_eq_getElem hi]
  exact h1
theorem intsV_of : ∀ {xs : List V} {a b : Int}, (xs.map (inI a b)).all id = true → ∃ l : List Int, xs = l.map V.int ∧ ∀ x ∈ l, a ≤ x ∧ x ≤ b
  | [], _, _, _ => ⟨[], rfl, by simp⟩
  | x :: xs, a, b, h => by
    rw [List.map_cons, List.all_cons, Bool.and_eq_true] at h
    obtain ⟨i, rfl, h1, h2⟩ := inI_ex h.1
    obtain ⟨l, rfl, h3⟩ := intsV_of (xs := xs) h.2
    refine ⟨i :: l, rfl, fun x hx => ?_⟩
    rcases List.mem_cons.mp hx with e | hx
    · subst e; exact ⟨h1, h2⟩
    · exact h3 x hx
theorem ints_no {l : List Int} {a b : Int} (h : ∀ x ∈ l, a ≤ x ∧ x ≤ b) : ((l.map V.int).map (inI a b)).all id = true := by
  induction l with
  | nil => rfl
  | cons x l ih =>
    rw [List.map_cons, List.map_cons, List.all_cons, ih fun y hy => h y (by simp [hy])]
    have := h x (by simp)
    simp [inI, this]
theorem ints_inj {l l' : List Int} (h : l.map V.int = l'.map V.int) : l = l' := List.map_inj_right (fun a b h => V.int.inj h) |>.mp h
theorem tup_inj {H : Hp} {t : Addr} {xs ys : List V} (h : H t = some (.tup xs)) (h' : H t = some (.tup ys)) : xs = ys := by
  rw [h] at h'
  injection h' with h'
  injection h' with h'
def sp_lis_lot (K : PySem.W.Frag) : Sp := fun vs H Q _ => ∃ n v, vs = [.int n, v] ∧ Thing K H v ∧ ∀ b H', Same H H' → (b = true ↔ LotV H n v) → Q (.bl b) H'
abbrev s__law_is_integer : Stmt := (top 26)
theorem sc__law_is_integer : FnScope ["thing"] ["thing"] (defScope s__law_is_integer) := ⟨rfl, rfl, rfl, by decide +kernel, rfl, by decide +kernel, by decide +kernel⟩

theorem ok_law_is_integerA {f : Addr} {fd : FuncData} (F : Fun K "_law_is_integer" "_law_is_integer" s__law_is_integer f fd) (hm : mg "_law_is_integer" = some (.ref f)) (B : Bl mg) : Cal P w K mg base 1 "_law_is_integer" ["thing"] (sp_isI K) := by
  refine ⟨f, fd, F.ok sc__law_is_integer (fun vs H Q E h => ?_) (fun cdv A outer s H vs Q E hr h => ?_), hm, F.kp, F.binds (ps := ["thing"]) fun _ _ _ _ _ _ us hl => match us, hl with | [_], _ => rfl⟩
  · obtain ⟨v, rfl, _⟩ := h; rfl
  · obtain ⟨v, rfl, iv, k⟩ := h
    refine ⟨_, (pss_one (ps_ret (pe_and (pe_callB call_isi (by rfl) B.isinstance (by decide +kernel) (pa_cons (pv 0) (pa_cons (pe_bltn (v := .ty "int") (by rfl) B.int_ (by decide +kernel) rfl) pa_nil))) (pe_one (pe_not (pe_callB call_isi (by rfl) B.isinstance (by decide +kernel) (pa_cons (pv 0) (pa_cons (pe_bltn (v := .ty "bool") (by rfl) B.bool_ (by decide +kernel) rfl) pa_nil)))))))), ?_⟩
    cases iv with
    | int i =>
      refine ⟨_, rfl, _, _, _, _, true, rfl, .ty "int", .base (.int i), kit_ty (by decide +kernel), true, rfl, iteT ?_⟩
      refine ⟨_, rfl, _, _, _, _, false, rfl, .ty "bool", .base (.int i), kit_ty (by decide +kernel), false, rfl, ?_⟩
      exact k
    | bl b =>
      refine ⟨_, rfl, _, _, _, _, true, rfl, .ty "int", .base (.bl b), kit_ty (by decide +kernel), true, rfl, iteT ?_⟩
      refine ⟨_, rfl, _, _, _, _, true, rfl, .ty "bool", .base (.bl b), kit_ty (by decide +kernel), true, rfl, ?_⟩
      exact k
    | els h h1 =>
      obtain ⟨t, ty, hk⟩ := h
      rw [isI_els h1] at k
      exact ⟨_, rfl, _, _, _, _, false, rfl, .ty "int", ty, hk, false, rfl, iteF k⟩
def sp_deep (K : PySem.W.Frag) : Sp := fun vs H Q _ => vs = [] ∧ ∀ p q H', Same H H' → H p = none → H' p = some (.tup [.ref q]) → Item K H' (.ref q) → Q (.ref p) H'
abbrev s__law_deep : Stmt := (top 36)
theorem sc__law_deep : FnScope ["thing", "turn"] [] (defScope s__law_deep) := ⟨rfl, rfl, rfl, by decide +kernel, rfl, by decide +kernel, by decide +kernel⟩

theorem ok_law_deep {f : Addr} {fd : FuncData} (F : Fun K "_law_deep" "_law_deep" s__law_deep f fd) (hm : mg "_law_deep" = some (.ref f)) (B : Bl mg) : Cal P w K mg base 1 "_law_deep" [] (sp_deep K) := by
  refine ⟨f, fd, F.ok sc__law_deep (fun vs H Q E h => ?_) (fun cdv A outer s H vs Q E hr h => ?_), hm, F.kp, F.binds (ps := []) fun _ _ _ _ _ _ us hl => match us, hl with | [], _ => rfl⟩
  · obtain ⟨rfl, _⟩ := h; rfl
  · obtain ⟨rfl, k⟩ := h
    refine ⟨_, (pss_cons (ps_set (i := 0) sc__law_deep.nd rfl (by first | exact Or.inl rfl | exact Or.inr rfl) (pe_tup (pa_cons pe_non pa_nil)))
 (pss_cons (ps_for PassesOwn.never rfl (pi_range1 (by rfl) B.range (pa_cons pe_int pa_nil)) (pg_name (i := 1) sc__law_deep.nd rfl (by first | exact Or.inl rfl | exact Or.inr rfl))
  (pss_one (ps_set (i := 0) sc__law_deep.nd rfl (by first | exact Or.inl rfl | exact Or.inr rfl) (pe_ifExp (pt_cmpR op_lt (pv 1) pe_int (nomark _)) (pe_lst (pa_cons (pv 0) pa_nil)) (pe_tup (pa_cons (pv 0) pa_nil))))))
 (pss_one (ps_ret (pv 0))))), ?_⟩
    refine ⟨(by show 1 ≤ sizeLine; decide), fun p0 hp0 => ?_⟩
    refine ⟨32, rfl, by decide, by decide, for_range (lo := 0) (n := 32) (fun i σ H' => Same H H' ∧ ∃ (p : Addr) (v : Option V), σ = [some (.ref p), v] ∧ H p = none ∧ (∃ xs, H' p = some (.lst xs) ∨ H' p = some (.tup xs)) ∧ (17 ≤ i → ∃ q, H' p = some (.tup [.ref q]) ∧ Item K H' (.ref q)))
      ⟨L2.Same.new hp0, p0, none, rfl, hp0, ⟨_, .inr upd_same⟩, fun h => by omega⟩ ?_ ?_⟩
    · rintro i σ H1 hi ⟨e1, p, u, rfl, hp, ⟨xs, hx⟩, _⟩
      have ip : Item K H1 (.ref p) := hx.elim (fun h => .lst h) (fun h => .tup h)
      refine ⟨_, rfl, _, _, rfl, rfl, _, rfl, ?_⟩
      show (if decide ((0 : Int) + (i : Nat) < 16) = true then _ else _)
      refine onb (fun c => ?_) (fun c => ?_)
      · refine ⟨_, rfl, (by show 1 ≤ sizeLine; decide), fun z hz => ?_⟩
        exact ⟨e1.new' hz, z, _, rfl, L2.Same.free e1 hz, ⟨_, .inl upd_same⟩, fun h => by omega⟩
      · refine ⟨_, rfl, (by show 1 ≤ sizeLine; decide), fun z hz => ?_⟩
        exact ⟨e1.new' hz, z, _, rfl, L2.Same.free e1 hz, ⟨_, .inr upd_same⟩, fun _ => ⟨p, upd_same, ip.ext (L2.Same.new hz)⟩⟩
    · rintro σ H1 ⟨e1, p, u, rfl, hp, _, h⟩
      obtain ⟨q, h1, h2⟩ := h (by decide)
      exact ⟨_, rfl, k p q H1 e1 hp h1 h2⟩
theorem ThT.ext {H H' : Hp} {v : V} (h : ThT K H v) (e : Same H H') (hv : ∀ a, v = .ref a → H a ≠ none) : ThT K H' v := by
  cases h with
  | tup h h1 h2 => exact .tup (e _ _ h) (fun x hx => (h1 x hx).ext e) h2
  | els h h1 =>
    refine .els (h.ext e) fun a xs ea q => ?_
    cases c : H a with
    | none => exact hv a ea c
    | some o => rw [e _ _ c] at q; cases q; exact h1 a xs ea c
theorem tup_back {H H' : Hp} {t : Addr} {xs : List V} (e : Same H H') (hv : H t ≠ none) (h : H' t = some (.tup xs)) : H t = some (.tup xs) := by
  cases c : H t with
  | none => exact absurd c hv
  | some o => rw [e _ _ c] at h; exact h
theorem elems {H : Hp} {t : Addr} {xs : List V} (tT : ThT K H (.ref t)) (h : H t = some (.tup xs)) : ∀ x ∈ xs, ThE K H x := by
  cases tT with
  | tup h' h1 _ => rw [h] at h'; cases h'; exact h1
  | els _ h1 => exact absurd h (h1 _ _ rfl)
theorem lot_back {H H' : Hp} {v : V} {l : List Int} (t : ThE K H v) (e : Same H H') (h : LotAt H' v l) : LotAt H v l := by
  obtain ⟨a, rfl, h2⟩ := h
  cases c : H a with
  | none => exact absurd c (t.2 a rfl)
  | some o => rw [e _ _ c] at h2; cases h2; exact ⟨a, rfl, c⟩
theorem lots_back {H H' : Hp} (e : Same H H') : ∀ {xs : List V} {Ls : List (List Int)}, (∀ x ∈ xs, ThE K H x) → Paired (LotAt H') xs Ls → Paired (LotAt H) xs Ls
  | _, _, _, .nil => .nil
  | _, _, t, .cons r q => .cons (lot_back (t _ List.mem_cons_self) e r) (lots_back e (fun x hx => t x (List.mem_cons_of_mem _ hx)) q)
theorem lok_back {H H' : Hp} {n : Int} {xs : List V} {i : Nat} (e : Same H H') (t : ∀ x ∈ xs, ThE K H x) : LOk H' n xs i ↔ LOk H n xs i :=
  ⟨fun ⟨Ls, h1, h2⟩ => ⟨Ls, lots_back e (fun x hx => t x (List.mem_of_mem_take hx)) h1, h2⟩, fun ⟨Ls, h1, h2⟩ => ⟨Ls, paired_imp (fun _ _ h => LotAt.tk h e.tk) h1, h2⟩⟩
theorem lbad_back {H H' : Hp} {sv tv y : V} (tT : ThT K H tv) (hv : ∀ a, tv = .ref a → H a ≠ none) (e : Same H H') (h : LBadIs H' sv tv y) : LBadIs H sv tv y := by
  rcases h with h | ⟨h1, h2, h3⟩ | ⟨n, t, xs, i, h1, h2, h3, rfl, h5, h6, h7, h8, h9, h10, h11⟩
  · exact .inl h
  · exact .inr (.inl ⟨h1, fun a xs ea q => h2 a xs ea (e _ _ q), h3⟩)
  · have ht := tup_back e (hv t rfl) h5
    have el := elems tT ht
    exact .inr (.inr ⟨n, t, xs, i, h1, h2, h3, rfl, ht, h6, h7, h8, (lok_back e el).mp h9, fun h => h10 ((lok_back e el).mpr h), h11⟩)
theorem list_back {H H' : Hp} {sv tv : V} (tT : ThT K H tv) (hv : ∀ a, tv = .ref a → H a ≠ none) (e : Same H H') (h : ListIs H' sv tv) : ListIs H sv tv := by
  obtain ⟨n, t, xs, h1, h2, h3, rfl, h5, h6, h7, h8⟩ := h
  have ht := tup_back e (hv t rfl) h5
  exact ⟨n, t, xs, h1, h2, h3, rfl, ht, h6, h7, (lok_back e (elems tT ht)).mp h8⟩
def sp_raised (K : PySem.W.Frag) : Sp := fun vs H Q _ => ∃ (sv tv : V), vs = [sv, tv] ∧ Item K H sv ∧ ThT K H tv ∧ (∀ a, tv = .ref a → H a ≠ none) ∧
  (∀ y p H', LBadIs H sv tv y → Same H H' → H' p = some (.tup [.str "part", y]) → Q (.ref p) H') ∧ (ListIs H sv tv → ∀ H', Same H H' → Q (.str "let") H')
end

end Bs

namespace Bs
open PySem PySem.Spec PyProof.Rows L2
section
variable {P : Program} {w : World} {K : PySem.W.Frag} {mg : Str → Option Value} {base : Heap} {C CB CW : Addr}
def sp_due (K : PySem.W.Frag) : Sp := fun vs H Q _ => ∃ (sv tv : V), vs = [sv, tv] ∧ Item K H sv ∧ ThT K H tv ∧ (∀ a, tv = .ref a → H a ≠ none) ∧
  (∀ y H', LBadIs H sv tv y → Same H H' → Q y H') ∧ (ListIs H sv tv → ∀ H', Same H H' → Q .non H')
end

end Bs

namespace Bs
open PySem PySem.Spec PyProof.Rows L2
section
variable {P : Program} {w : World} {K : PySem.W.Frag} {mg : Str → Option Value} {base : Heap} {C CB CW : Addr}
def sp_some_lot : Sp := fun vs H Q _ => ∃ T n, vs = [.ref T, .int n] ∧ Sr H T ∧ 0 ≤ n ∧ n ≤ 1000 ∧ ∀ p l H', ExT T H H' → Sr H' T → H p = none → H' p = some (.tup (l.map V.int)) → Lot n l → Q (.ref p) H'
abbrev s__law_some_lot : Stmt := (top 38)
theorem sc__law_some_lot : FnScope ["source", "places", "place"] ["source", "places"] (defScope s__law_some_lot) := ⟨rfl, rfl, rfl, by decide +kernel, rfl, by decide +kernel, by decide +kernel⟩

theorem ok_law_some_lot {f : Addr} {fd : FuncData} (F : Fun K "_law_some_lot" "_law_some_lot" s__law_some_lot f fd) (hm : mg "_law_some_lot" = some (.ref f)) (B : Bl mg) (c__law_draw : Cal P w K mg base 1 "_law_draw" ["source", "many"] spDraw) : Cal P w K mg base 2 "_law_some_lot" ["source", "places"] sp_some_lot := by
  refine ⟨f, fd, F.ok sc__law_some_lot (fun vs H Q E h => ?_) (fun cdv A outer s H vs Q E hr h => ?_), hm, F.kp, F.binds (ps := ["source", "places"]) fun _ _ _ _ _ _ us hl => match us, hl with | [_, _], _ => rfl⟩
  · obtain ⟨T, n, rfl, _⟩ := h; rfl
  · obtain ⟨T, n, rfl, hT, n0, n1, k⟩ := h
    refine ⟨_, (pss_one (ps_ret (pe_callTy call_tuple_of (by rfl) B.tuple_ (by decide +kernel) (pa_cons (pe_lc (own := [("place", 2)]) (by rfl) sc__law_some_lot.nd (pi_range1 (by rfl) B.range (pa_cons (pv 1) pa_nil)) (blkOk_by (own := [("place", 2)]) (N := ["source", "places", "place"]) (sc := defScope s__law_some_lot) (by decide +kernel)) (fun _ _ _ _ _ => (pg_name (i := 2) sc__law_some_lot.nd rfl (by first | exact Or.inl rfl | exact Or.inr rfl))) (fun _ _ _ _ _ => (pts_one (pt_cmpR op_eq (pe_cal c__law_draw (hr.mono (by first | decide | omega)) (pa_cons (pv 0) (pa_cons pe_int pa_nil))) pe_int (nomark _)))) (fun _ _ _ _ _ => (pv 2))) pa_nil)))), ?_⟩
    refine ⟨_, rfl, _, rfl, by omega, by omega, fun D hD => lc_range (lo := 0) (n := n.toNat) (fun i H' => ExT T H H' ∧ Sr H' T ∧ ∃ l : List Int, H' D = some (.lst (l.map V.int)) ∧ Lot (i : Nat) l)
      ⟨(L2.Same.new hD).exT, hT.ext (L2.Same.new hD), [], upd_same, .nil, by simp⟩ ?_ ?_⟩
    · rintro i H1 hi ⟨e1, hT1, l, hl, lot⟩
      have DT := hT.neT hD
      refine ⟨rfl, _, rfl, T, 2, rfl, by decide, by decide, hT1, fun r H2 _ _ e2 hT2 => ⟨rfl, _, rfl, ?_⟩⟩
      have hl2 := e2 _ _ DT hl
      show (if decide (V.int r = V.int 0) = true then _ else _)
      refine onb (fun c => ?_) (fun c => ?_)
      · refine ⟨_, rfl, _, hl2, ?_, (e1.trans e2).mut hD, hT2.upd DT, l ++ [(i : Int)], ?_, ?_, fun x hx => ?_⟩
        · rw [List.length_map]
          have := lot_len lot (by omega)
          exact Nat.lt_of_le_of_lt (show l.length ≤ 1000 by omega) (by decide)
        · rw [upd_same, Int.zero_add, List.map_append]; rfl
        · refine List.pairwise_append.mpr ⟨lot.up, by simp, fun x hx y hy => ?_⟩
          simp at hy
          subst hy
          exact (lot.ok x hx).2
        · rcases List.mem_append.mp hx with h | h
          · have := lot.ok x h; omega
          · simp at h; omega
      · exact ⟨e1.trans e2, hT2, l, hl2, lot.up, fun x hx => by have := lot.ok x hx; omega⟩
    · rintro H1 ⟨e1, hT1, l, hl, lot⟩
      refine ⟨D, _, rfl, .inl ⟨SqL.of hl, fun q hq => ?_⟩⟩
      have e2 := L2.Same.new (o := .tup (l.map V.int)) hq
      have en : ((n.toNat : Nat) : Int) = n := by omega
      rw [en] at lot
      exact k q l _ (e1.trans e2.exT) (hT1.ext e2) (ExT.free e1 (hT1.neT hq) hq) upd_same lot
def sp_places : Sp := fun vs H Q _ => ∃ T m, vs = [.ref T, .int m] ∧ Sr H T ∧ 1 ≤ m ∧ m ≤ 1000 ∧ ∀ r H', ExT T H H' → Sr H' T → 1 ≤ r → r ≤ m → Q (.int r) H'
abbrev s__law_places : Stmt := (top 44)
theorem sc__law_places : FnScope ["source", "most"] ["source", "most"] (defScope s__law_places) := ⟨rfl, rfl, rfl, by decide +kernel, rfl, by decide +kernel, by decide +kernel⟩

theorem ok_law_places {f : Addr} {fd : FuncData} (F : Fun K "_law_places" "_law_places" s__law_places f fd) (hm : mg "_law_places" = some (.ref f)) (B : Bl mg) (c__law_draw : Cal P w K mg base 1 "_law_draw" ["source", "many"] spDraw) : Cal P w K mg base 2 "_law_places" ["source", "most"] sp_places := by
  refine ⟨f, fd, F.ok sc__law_places (fun vs H Q E h => ?_) (fun cdv A outer s H vs Q E hr h => ?_), hm, F.kp, F.binds (ps := ["source", "most"]) fun _ _ _ _ _ _ us hl => match us, hl with | [_, _], _ => rfl⟩
  · obtain ⟨T, m, rfl, _⟩ := h; rfl
  · obtain ⟨T, m, rfl, hT, m1, m2, k⟩ := h
    refine ⟨_, (pss_one (ps_ret (pe_ifExp (pt_cmpR op_gt (pe_cal c__law_draw (hr.mono (by first | decide | omega)) (pa_cons (pv 0) (pa_cons pe_int pa_nil))) pe_int (nomark _)) (pe_callB (call_max2 rfl) (by rfl) B.max (by decide +kernel) (pa_cons pe_int (pa_cons (pe_op op_sub (pv 1) (pe_cal c__law_draw (hr.mono (by first | decide | omega)) (pa_cons (pv 0) (pa_cons pe_int pa_nil)))) pa_nil))) (pe_op op_add pe_int (pe_cal c__law_draw (hr.mono (by first | decide | omega)) (pa_cons (pv 0) (pa_cons (pv 1) pa_nil))))))), ?_⟩
    refine ⟨_, rfl, T, 3, rfl, by decide, by decide, hT, fun r H1 _ _ e1 hT1 => ⟨_, _, rfl, rfl, _, rfl, ?_⟩⟩
    show (if decide (r > 0) = true then _ else _)
    refine onb (fun c => ?_) (fun c => ?_)
    · refine ⟨_, rfl, _, rfl, T, 3, rfl, by decide, by decide, hT1, fun r2 H2 r20 r21 e2 hT2 => ⟨_, _, rfl, rfl, _, _, rfl, ?_⟩⟩
      show Q (V.int (if (1 : Int) < m - r2 then m - r2 else 1)) H2
      split
      · exact k _ H2 (e1.trans e2) hT2 (by omega) (by omega)
      · exact k _ H2 (e1.trans e2) hT2 (by omega) (by omega)
    · refine ⟨_, rfl, _, rfl, T, m, rfl, by omega, by omega, hT1, fun r2 H2 r20 r21 e2 hT2 => ⟨_, _, rfl, rfl, ?_⟩⟩
      exact k _ H2 (e1.trans e2) hT2 (by omega) (by omega)
/-- a tuple of lots in order, each once -/
def LotsUp (H : Hp) (t : Addr) (n : Int) (Ls : List (List Int)) : Prop := ∃ xs, H t = some (.tup xs) ∧ Paired (LotAt H) xs Ls ∧ (∀ l ∈ Ls, Lot n l) ∧ Ls.Pairwise fun a b => HT.lexLt a b = true
theorem lex_total : ∀ (a b : List Int), HT.lexLt a b = false → HT.lexLt b a = false → a = b
  | [], [], _, _ => rfl
  | [], _ :: _, h, _ => by simp [HT.lexLt] at h
  | _ :: _, [], _, h => by simp [HT.lexLt] at h
  | x :: xs, y :: ys, h1, h2 => by
    rw [HT.lexLt_cons] at h1 h2
    by_cases e : x = y
    · subst e
      rw [if_pos rfl] at h1 h2
      rw [lex_total xs ys h1 h2]
    · rw [if_neg e] at h1
      rw [if_neg (fun h => e h.symm)] at h2
      have := of_decide_eq_false h1
      have := of_decide_eq_false h2
      omega
/-- sorted, each once: in order -/
theorem lots_up {Ls : List (List Int)} (h : Ls.Pairwise fun a b => HT.lexLt b a = false) (hn : Ls.Nodup) : Ls.Pairwise fun a b => HT.lexLt a b = true := by
  refine List.Pairwise.imp (fun {a b} hab => ?_) (h.and (List.nodup_iff_pairwise_ne.mp hn))
  cases c : HT.lexLt a b with
  | true => rfl
  | false => exact absurd (lex_total a b c hab.1) hab.2
end

end Bs

namespace Bs
open PySem PySem.Spec PyProof.Rows L2
/-! ## few rests: no one is within another -/
theorem rest_anti {n : Int} {ps : List (Int × Int)} {a b : Nat} (ha : InN n a) (hb : InN n b) (ra : RestB n ps a) (rb : RestB n ps b) (h : ∀ k, Has a k → Has b k) : a = b :=
  Nat.eq_of_testBit_eq fun k => Bool.eq_iff_iff.mpr ⟨h k, fun hk => (ra k (hb k hk)).mpr fun q hq => (rb k (hb k hk)).mp hk q (h q hq)⟩
theorem eight : ∀ a0 a1 a2 a3 a4 a5 a6 a7 : Bool, (a0 && a1) = false → (a0 && a2) = false → (a0 && a4) = false → (a1 && a3) = false → (a1 && a5) = false → (a2 && a3) = false → (a2 && a6) = false → (a4 && a5) = false → (a4 && a6) = false → (a3 && a7) = false → (a5 && a7) = false → (a6 && a7) = false → (a0 && a7) = false → (a0 && a3) = false → (a0 && a5) = false → (a0 && a6) = false → (a1 && a7) = false → (a2 && a7) = false → (a4 && a7) = false →
    a0.toNat + a1.toNat + a2.toNat + a3.toNat + a4.toNat + a5.toNat + a6.toNat + a7.toNat ≤ 3 := by
  intro a0 a1 a2 a3 a4 a5 a6 a7
  cases a0 <;> cases a1 <;> cases a2 <;> cases a3 <;> cases a4 <;> cases a5 <;> cases a6 <;> cases a7 <;> simp
theorem range_add8 (m : Nat) : List.range (8 * (m + 1)) = List.range (8 * m) ++ [8 * m + 0, 8 * m + 1, 8 * m + 2, 8 * m + 3, 8 * m + 4, 8 * m + 5, 8 * m + 6, 8 * m + 7] := by
  rw [show 8 * (m + 1) = 8 * m + 8 from by omega, List.range_add]; rfl
theorem filter_one (f : Nat → Bool) (x : Nat) (l : List Nat) : ((x :: l).filter f).length = (f x).toNat + (l.filter f).length := by
  rw [List.filter_cons]
  cases f x <;> simp [Nat.add_comm]
theorem has8 (m i k : Nat) (hi : i < 8) : Has (8 * m + i) k ↔ (if k < 3 then Has i k else Has m (k - 3)) := by
  have := Nat.testBit_two_pow_mul_add m (i := 3) hi k
  show (8 * m + i).testBit k = true ↔ _
  rw [show 8 * m + i = 2 ^ 3 * m + i from rfl, this]
  split <;> exact Iff.rfl
theorem eights (f : Nat → Bool) (h : ∀ a b, f a = true → f b = true → (∀ k, Has a k → Has b k) → a = b) : ∀ m, ((List.range (8 * m)).filter f).length ≤ 3 * m
  | 0 => by simp
  | m + 1 => by
    have ih := eights f h m
    have key : ∀ i j : Nat, i < 8 → j < 8 → i ≠ j → (∀ k, k < 3 → Has i k → Has j k) → (f (8 * m + i) && f (8 * m + j)) = false := fun i j hi hj ne hs => by
      cases ca : f (8 * m + i) with
      | false => rfl
      | true =>
        cases cb : f (8 * m + j) with
        | false => rfl
        | true =>
          have := h _ _ ca cb fun k hk => by
            rw [has8 m i k hi] at hk
            rw [has8 m j k hj]
            by_cases c : k < 3
            · rw [if_pos c] at hk ⊢; exact hs k c hk
            · rw [if_neg c] at hk ⊢; exact hk
          omega
    have kk : ∀ i j : Nat, i < 8 → j < 8 → i ≠ j → ((List.range 3).all fun k => !i.testBit k || j.testBit k) = true → (f (8 * m + i) && f (8 * m + j)) = false := fun i j hi hj ne hs => key i j hi hj ne fun k hk hb => by
      have := List.all_eq_true.mp hs k (List.mem_range.mpr hk)
      rw [show i.testBit k = true from hb] at this
      simpa using this
    have e := eight (f (8 * m + 0)) (f (8 * m + 1)) (f (8 * m + 2)) (f (8 * m + 3)) (f (8 * m + 4)) (f (8 * m + 5)) (f (8 * m + 6)) (f (8 * m + 7)) (kk 0 1 (by decide) (by decide) (by decide) (by decide)) (kk 0 2 (by decide) (by decide) (by decide) (by decide)) (kk 0 4 (by decide) (by decide) (by decide) (by decide)) (kk 1 3 (by decide) (by decide) (by decide) (by decide)) (kk 1 5 (by decide) (by decide) (by decide) (by decide)) (kk 2 3 (by decide) (by decide) (by decide) (by decide)) (kk 2 6 (by decide) (by decide) (by decide) (by decide)) (kk 4 5 (by decide) (by decide) (by decide) (by decide)) (kk 4 6 (by decide) (by decide) (by decide) (by decide)) (kk 3 7 (by decide) (by decide) (by decide) (by decide)) (kk 5 7 (by decide) (by decide) (by decide) (by decide)) (kk 6 7 (by decide) (by decide) (by decide) (by decide)) (kk 0 7 (by decide) (by decide) (by decide) (by decide)) (kk 0 3 (by decide) (by decide) (by decide) (by decide)) (kk 0 5 (by decide) (by decide) (by decide) (by decide)) (kk 0 6 (by decide) (by decide) (by decide) (by decide)) (kk 1 7 (by decide) (by decide) (by decide) (by decide)) (kk 2 7 (by decide) (by decide) (by decide) (by decide)) (kk 4 7 (by decide) (by decide) (by decide) (by decide))
    rw [range_add8, List.filter_append, List.length_append, filter_one, filter_one, filter_one, filter_one, filter_one, filter_one, filter_one, filter_one]
    simp only [List.filter_nil, List.length_nil]
    omega
/-- a web of at most seven parts has few rests -/
theorem rests_few {n : Int} {ps : List (Int × Int)} (n0 : 0 ≤ n) (n7 : n ≤ 7) : ((List.range (2 ^ n.toNat)).filter (isR n ps)).length ≤ 48 := by
  by_cases h5 : n ≤ 5
  · refine Nat.le_trans (List.length_filter_le _ _) ?_
    rw [List.length_range]
    exact Nat.le_trans (Nat.pow_le_pow_right (by decide) (show n.toNat ≤ 5 by omega)) (by decide)
  · have anti : ∀ m, 8 * m = 2 ^ n.toNat → ((List.range (8 * m)).filter (isR n ps)).length ≤ 3 * m := fun m e => by
      have := eights (fun b => isR n ps b && decide (b < 8 * m)) (fun a b ha hb hs => by
        simp only [Bool.and_eq_true, decide_eq_true_eq] at ha hb
        rw [e] at ha hb
        exact rest_anti (in_of_lt n0 ha.2) (in_of_lt n0 hb.2) (isR_iff.mp ha.1) (isR_iff.mp hb.1) hs) m
      rw [List.filter_congr (q := fun b => isR n ps b && decide (b < 8 * m)) fun b hb => by
        have := List.mem_range.mp hb
        rw [decide_eq_true this, Bool.and_true]]
      exact this
    rcases (show n = 6 ∨ n = 7 by omega) with rfl | rfl
    · exact Nat.le_trans (anti 8 (by decide)) (by decide)
    · exact Nat.le_trans (anti 16 (by decide)) (by decide)
theorem greedy {n : Int} {ps : List (Int × Int)} (G : Good n ps) : ∀ m : Nat, ∃ b, (∀ k, Has b k → k < m) ∧ FreeB ps b ∧ ∀ k, k < m → Has b k ∨ ∃ q, Has b q ∧ T ps q k
  | 0 => ⟨0, fun k h => by simp [Has] at h, fun x y h => by simp [Has] at h, fun k h => by omega⟩
  | m + 1 => by
    obtain ⟨b, h1, h2, h3⟩ := greedy G m
    by_cases c : ∃ q, Has b q ∧ T ps q m
    · refine ⟨b, fun k h => Nat.lt_succ_of_lt (h1 k h), h2, fun k hk => ?_⟩
      by_cases e : k = m
      · subst e; exact .inr c
      · exact h3 k (by omega)
    · refine ⟨b ||| 2 ^ m, fun k h => ?_, fun x y hx hy ht => ?_, fun k hk => ?_⟩
      · rcases has_or.mp h with h | h
        · exact Nat.lt_succ_of_lt (h1 k h)
        · have := has_pow.mp h; omega
      · rcases has_or.mp hx with hx1 | hx1
        · rcases has_or.mp hy with hy1 | hy1
          · exact h2 x y hx1 hy1 ht
          · exact c ⟨x, hx1, has_pow.mp hy1 ▸ ht⟩
        · rcases has_or.mp hy with hy1 | hy1
          · exact c ⟨y, hy1, has_pow.mp hx1 ▸ ht.symm⟩
          · exact T.irr G (has_pow.mp hx1 ▸ has_pow.mp hy1 ▸ ht)
      · by_cases e : k = m
        · subst e; exact .inl (has_or.mpr (.inr (has_pow.mpr rfl)))
        · rcases h3 k (by omega) with h | ⟨q, h, ht⟩
          · exact .inl (has_or.mpr (.inl h))
          · exact .inr ⟨q, has_or.mpr (.inl h), ht⟩
/-- at least one rest is there -/
theorem rests_any {n : Int} {ps : List (Int × Int)} (G : Good n ps) (n0 : 0 ≤ n) : ∃ l, RestL n ps l := by
  obtain ⟨b, h1, h2, h3⟩ := greedy G n.toNat
  exact ⟨_, free_rest G (fun k hk => by have := h1 k hk; omega) h2 fun k hk => h3 k (by omega)⟩

end Bs

namespace Bs
open PySem PySem.Spec PyProof.Rows L2
/-! ## what is seen of lots -/
theorem ks_of {H : Hp} : ∀ {xs : List V} {Ls : List (List Int)}, Paired (LotAt H) xs Ls → ∃ ks : List (Addr × List Int), xs = ks.map (fun p => V.ref p.1) ∧ Ls = ks.map (·.2) ∧ ∀ p ∈ ks, H p.1 = some (.tup (p.2.map V.int))
  | _, _, .nil => ⟨[], rfl, rfl, by simp⟩
  | _, _, .cons r t => by
    obtain ⟨a, rfl, h⟩ := r
    obtain ⟨ks, rfl, rfl, hk⟩ := ks_of t
    refine ⟨(a, _) :: ks, rfl, rfl, fun p hp => ?_⟩
    rcases List.mem_cons.mp hp with rfl | hp
    · exact h
    · exact hk p hp
theorem ks_paired {H : Hp} : ∀ {ks : List (Addr × List Int)}, (∀ p ∈ ks, H p.1 = some (.tup (p.2.map V.int))) → Paired (LotAt H) (ks.map fun p => V.ref p.1) (ks.map (·.2))
  | [], _ => .nil
  | p :: ks, h => .cons ⟨p.1, rfl, h p (by simp)⟩ (ks_paired fun q hq => h q (by simp [hq]))
theorem sub_lenL {α : Type} [DecidableEq α] : ∀ {A B : List α}, A.Nodup → (∀ x ∈ A, x ∈ B) → A.length ≤ B.length
  | [], B, _, _ => Nat.zero_le _
  | a :: A, B, hn, hs => by
    have ha := hs a List.mem_cons_self
    have h2 := sub_lenL (A := A) (B := B.erase a) (List.nodup_cons.mp hn).2 fun x hx => by
      refine (List.mem_erase_of_ne (fun e => ?_)).mpr (hs x (List.mem_cons_of_mem _ hx))
      subst e
      exact (List.nodup_cons.mp hn).1 hx
    rw [List.length_erase_of_mem ha] at h2
    have := List.length_pos_of_mem ha
    rw [List.length_cons]
    omega
/-- sorted, each once, as a tuple: lots in order -/
theorem up_done {H : Hp} {q : Addr} {n : Int} {L : List (Addr × List Int)} (hq : H q = some (.tup (L.map fun p => V.ref p.1))) (hL : ∀ p ∈ L, H p.1 = some (.tup (p.2.map V.int))) (hl : ∀ p ∈ L, Lot n p.2) (hn : (L.map (·.2)).Nodup)
    (hs : L.Pairwise fun p r => HT.lexLt r.2 p.2 = false) : LotsUp H q n (L.map (·.2)) := by
  refine ⟨_, hq, ks_paired hL, fun l h => ?_, lots_up (List.pairwise_map.mpr hs) hn⟩
  obtain ⟨p, hp, rfl⟩ := List.mem_map.mp h
  exact hl p hp
def seenL (sh l : List Int) : List Int := ((List.range sh.length).filter fun i => decide (sh.getD i 0 ∈ l)).map fun i : Nat => (i : Int)
theorem seen_lot (sh l : List Int) : Lot sh.length (seenL sh l) := by
  refine ⟨?_, fun x hx => ?_⟩
  · unfold seenL
    rw [List.pairwise_map]
    exact (List.pairwise_lt_range.filter _).imp fun h => by omega
  · obtain ⟨i, hi, rfl⟩ := List.mem_map.mp hx
    have := List.mem_range.mp (List.mem_filter.mp hi).1
    omega
section
variable {P : Program} {w : World} {K : PySem.W.Frag} {mg : Str → Option Value} {base : Heap} {C CB CW : Addr}
def sp_seen (K : PySem.W.Frag) : Sp := fun vs H Q _ => ∃ (p t : Addr) (xs : List V) (Ls : List (List Int)) (sh : List Int), vs = [.ref p, .ref t] ∧ H p = some (.lst xs) ∧ Paired (LotAt H) xs Ls ∧ Ls.length < 64 ∧ H t = some (.tup (sh.map V.int)) ∧ sh.length ≤ 1000 ∧
  ∀ q Us H', Same H H' → H q = none → LotsUp H' q sh.length Us → (∀ u, u ∈ Us ↔ ∃ l ∈ Ls, u = seenL sh l) → Q (.ref q) H'
abbrev s__law_seen : Stmt := (top 37)
theorem sc__law_seen : FnScope ["known", "showing", "lots", "lot", "place"] ["known", "showing"] (defScope s__law_seen) := ⟨rfl, rfl, rfl, by decide +kernel, rfl, by decide +kernel, by decide +kernel⟩

theorem ok_law_seen {f : Addr} {fd : FuncData} (F : Fun K "_law_seen" "_law_seen" s__law_seen f fd) (hm : mg "_law_seen" = some (.ref f)) (B : Bl mg) (Z : mg "set" = none ∧ True) : Cal P w K mg base 1 "_law_seen" ["known", "showing"] (sp_seen K) := by
  refine ⟨f, fd, F.ok sc__law_seen (fun vs H Q E h => ?_) (fun cdv A outer s H vs Q E hr h => ?_), hm, F.kp, F.binds (ps := ["known", "showing"]) fun _ _ _ _ _ _ us hl => match us, hl with | [_, _], _ => rfl⟩
  · obtain ⟨p, t, xs, Ls, sh, rfl, _⟩ := h; rfl
  · obtain ⟨p, t, xs, Ls, sh, rfl, hp, hxs, hfew, ht, hsh, k⟩ := h
    refine ⟨_, (pss_cons (ps_set (i := 2) sc__law_seen.nd rfl (by first | exact Or.inl rfl | exact Or.inr rfl) (pe_lst pa_nil))
 (pss_cons (ps_for PassesOwn.never rfl (pi_list (pv 0)) (pg_name (i := 3) sc__law_seen.nd rfl (by first | exact Or.inl rfl | exact Or.inr rfl))
  (pss_one (ps_expr (pe_bm PySem.F.plainAttrs_list PySem.F.slot_list_append PySem.F.type_list_append mt_append (pv 2) (pa_cons (pe_callTy call_tuple_of (by rfl) B.tuple_ (by decide +kernel) (pa_cons (pe_lc (own := [("place", 4)]) (tt := (tTest (tOp (rIn K false) (tOp (rIxT K) _ _) _))) (by rfl) sc__law_seen.nd (pi_range1 (by rfl) B.range (pa_cons (pe_callB call_len_seq (by rfl) B.len (by decide +kernel) (pa_cons (pv 1) pa_nil)) pa_nil)) (blkOk_by (own := [("place", 4)]) (N := ["known", "showing", "lots", "lot", "place"]) (sc := defScope s__law_seen) (by decide +kernel)) (fun _ _ _ _ _ => (pg_name (i := 4) sc__law_seen.nd rfl (by first | exact Or.inl rfl | exact Or.inr rfl))) (fun _ _ _ _ _ => (pts_one (pt_cmpR op_in_seq (pe_ix ix_tup (pv 1) (pv 4) (fun _ _ => rfl)) (pv 3) (by rfl)))) (fun _ _ _ _ _ => (pv 4))) pa_nil)) pa_nil)))))
 (pss_one (ps_ret (pe_callTy call_tuple_of (by rfl) B.tuple_ (by decide +kernel) (pa_cons (pe_callB (cr_sortedSetAny rfl (Nat.lt_of_succ_lt (units65 hr))) (by rfl) B.sorted (by decide +kernel) (pa_cons (pe_callTy (cr_setOfT rfl (Nat.lt_of_succ_lt (units65 hr))) (by rfl) Z.1 (by decide +kernel) (pa_cons (pv 2) pa_nil)) pa_nil)) pa_nil)))))), ?_⟩
    refine ⟨Nat.zero_le _, fun fo hfo => ?_⟩
    have e1 := L2.Same.new (o := .lst []) hfo
    have lenx := Paired.len hxs
    refine ⟨_, rfl, p, rfl, ⟨_, SqL.of (e1 _ _ hp)⟩, for_list (K := K) (a := p) (xs := xs) (fun i σ H' => ∃ (v3 : Option V) (ws : List V), σ = [some (.ref p), some (.ref t), some (.ref fo), v3, none] ∧ Same H H' ∧ H' fo = some (.lst ws) ∧ Paired (LotAt H') ws ((Ls.take i).map (seenL sh)))
      ⟨none, [], rfl, e1, upd_same, by simp; exact .nil⟩ (fun i σ H' _ ⟨_, _, _, e, _⟩ => SqL.of (e _ _ hp)) ?_ ?_⟩
    · rintro i x σ H1 hx ⟨v3, ws, rfl, e2, hws, hpw⟩
      obtain ⟨l, hl, hlx⟩ := Paired.get hxs hx
      obtain ⟨a, rfl, ha⟩ := hlx
      have hlen : ws.length = min i Ls.length := by have := Paired.len hpw; rw [List.length_map, List.length_take] at this; exact this
      have ha2 := e2 _ _ ha
      have ht2 := e2 _ _ ht
      have hi : i < Ls.length := (List.getElem?_eq_some_iff.mp hl).1
      refine ⟨_, rfl, .inl ⟨rfl, _, SqL.of hws⟩, ?_⟩
      have hL : ((sh.map V.int).length : Int) = (sh.length : Int) := by rw [List.length_map]
      refine ⟨_, rfl, t, _, rfl, .inr (SqT.of ht2), _, rfl, by rw [hL]; omega, by rw [hL]; omega, fun D hD => lc_data (walk_range (lo := 0) (n := (((sh.map V.int).length : Int)).toNat)) (List.range sh.length) (by rw [List.length_range, hL]; omega) (fun j => decide (sh.getD j 0 ∈ l)) (fun _ v j => v = .int (j : Nat)) (fun _ _ _ _ _ q => q) hD (fun _ _ => trivial) (by rw [List.length_range]; exact Nat.lt_of_le_of_lt hsh (by decide)) ?_ (fun _ _ _ _ _ y => by rw [y.1]; exact L2.Same.refl _) ?_⟩
      · rintro j b v H5 H6 Ny Nn hbi e5 ⟨rfl, rfl⟩ kE kN
        have hj : j < sh.length := by have := (List.getElem?_eq_some_iff.mp hbi).1; rw [List.length_range] at this; exact this
        have ea : b = j := by
          rw [List.getElem?_range hj] at hbi
          exact (Option.some.inj hbi).symm
        subst ea
        have e0 : V.int ((0 : Int) + (b : Nat)) = V.int (b : Nat) := by rw [Int.zero_add]
        show gName 4 (V.int ((0 : Int) + (b : Nat))) _ _ _
        rw [e0]
        have g1 : (sh.map V.int)[b]? = some (.int (sh.getD b 0)) := by
          rw [List.getElem?_map, List.getD_eq_getElem?_getD, List.getElem?_eq_getElem hj]; rfl
        refine ⟨rfl, _, rfl, _, rfl, t, _, _, _, rfl, rfl, SqT.of (e5 _ _ ht2), at_of (j := b) (by omega) g1, ?_⟩
        refine ⟨_, rfl, a, _, rfl, .inr (SqT.of (e5 _ _ ha2)), rfl, flat_ints l, _, rfl, ?_⟩
        rw [inV_ints]
        cases c : decide (sh.getD b 0 ∈ l) with
        | true => exact iteT ⟨_, rfl, kE _ _ c (L2.Same.refl _) rfl⟩
        | false => exact iteF (kN _ c (L2.Same.refl _))
      intro zs H3 e3 hzs hpr
      have ez := paired_eq (g := fun j : Nat => V.int (j : Nat)) hpr
      subst ez
      have ec : ((List.range sh.length).filter fun j => decide (sh.getD j 0 ∈ l)).map (fun j : Nat => V.int (j : Nat)) = (seenL sh l).map V.int := by
        unfold seenL; rw [List.map_map]; rfl
      rw [ec] at hzs
      refine ⟨D, _, rfl, .inl ⟨SqL.of hzs, fun q hq => ?_⟩⟩
      have e4 : Same H3 (upd H3 q (.tup ((seenL sh l).map V.int))) := L2.Same.new hq
      have e34 := e3.trans e4
      refine ⟨fo, ws, _, rfl, rfl, e34 _ _ hws, Nat.lt_of_le_of_lt (show ws.length ≤ 64 by omega) (by decide), ?_⟩
      have nfo : fo ≠ q := fun z => by
        subst z
        rw [e3 _ _ hws] at hq; cases hq
      refine ⟨_, ws ++ [.ref q], rfl, (e2.trans e34).mut hfo, upd_same, ?_⟩
      rw [take_snoc hl, List.map_append]
      have keep : ∀ v l', LotAt H1 v l' → LotAt (upd (upd H3 q (.tup ((seenL sh l).map V.int))) fo (.lst (ws ++ [.ref q]))) v l' := fun v l' ⟨z, ez, hz⟩ => ⟨z, ez, by
        have : z ≠ fo := fun z' => by subst z'; rw [hws] at hz; cases hz
        rw [upd_ne this]; exact e34 _ _ hz⟩
      refine Paired.app (paired_imp keep hpw) (.cons ⟨q, rfl, ?_⟩ .nil)
      rw [upd_ne nfo.symm]
      exact upd_same
    · rintro σ H1 ⟨v3, ws, rfl, e2, hws, hpw⟩
      rw [lenx, List.take_length] at hpw
      obtain ⟨ks, rfl, hks, hk⟩ := ks_of hpw
      have kl : ks.length < 64 := by have := congrArg List.length hks; rw [List.length_map, List.length_map] at this; omega
      refine ⟨_, rfl, fo, ks, rfl, SqL.of hws, fun p hp => SqT.of (hk p hp), kl, fun S L hS h1 h2 => ?_⟩
      have s1 := L2.Same.new (o := SetTO P w S L) hS
      have hkL : ∀ p ∈ L, (upd H1 S (SetTO P w S L)) p.1 = some (.tup (p.2.map V.int)) := fun p hp => s1 _ _ (hk p (h1 p hp))
      refine ⟨S, L, rfl, upd_same, fun p hp => SqT.of (hkL p hp), fun L' p pm nd few pw hp => ?_⟩
      have s2 := L2.Same.new (o := .lst (L'.map fun q => V.ref q.1)) hp
      refine ⟨_, _, rfl, .inl ⟨SqL.of upd_same, fun q hq => ?_⟩⟩
      have s3 := L2.Same.new (o := .tup (L'.map fun q => V.ref q.1)) hq
      have s13 := s1.trans (s2.trans s3)
      refine k q (L'.map (·.2)) _ (e2.trans s13) (L2.Same.free (e2.trans (s1.trans s2)) hq) (up_done upd_same (fun p hp => (s2.trans s3) _ _ (hkL p (pm.mem_iff.mp hp))) (fun p hp => ?_) nd pw) fun u => ?_
      · have : p.2 ∈ Ls.map (seenL sh) := by rw [hks]; exact List.mem_map.mpr ⟨p, h1 p (pm.mem_iff.mp hp), rfl⟩
        obtain ⟨l, _, e⟩ := List.mem_map.mp this
        rw [← e]; exact seen_lot sh l
      · rw [(pm.map (·.2)).mem_iff]
        have : u ∈ L.map (·.2) ↔ u ∈ Ls.map (seenL sh) := by
          rw [hks]
          constructor
          · intro h
            obtain ⟨p, hp, rfl⟩ := List.mem_map.mp h
            exact List.mem_map.mpr ⟨p, h1 p hp, rfl⟩
          · intro h
            obtain ⟨p, hp, rfl⟩ := List.mem_map.mp h
            exact h2 p hp
        rw [this, List.mem_map]
        exact ⟨fun ⟨l, h, e⟩ => ⟨l, h, e.symm⟩, fun ⟨l, h, e⟩ => ⟨l, h, e.symm⟩⟩
end

end Bs

namespace Bs
open PySem PySem.Spec PyProof.Rows L2
/-! ## a list that a web shows -/
theorem cut_take (xs : List V) (k : Nat) : cutV xs none (some (k : Int)) = xs.take k := by
  unfold cutV
  rw [HT.sIx_nat, HT.sIx_none, List.drop_zero, Nat.sub_zero]
  by_cases h : k ≤ xs.length
  · rw [Nat.min_eq_left h]
  · rw [Nat.min_eq_right (by omega), List.take_length, List.take_of_length_le (by omega)]
theorem cut_drop (xs : List V) (k : Nat) : cutV xs (some (k : Int)) none = xs.drop k := by
  unfold cutV
  rw [HT.sIx_nat, HT.sIx_none]
  by_cases h : k ≤ xs.length
  · rw [Nat.min_eq_left h, List.take_of_length_le (by rw [List.length_drop]; omega)]
  · rw [Nat.min_eq_right (by omega), Nat.sub_self, List.take_zero, List.drop_eq_nil_of_le (by omega)]
/-- v is the tuple of a list, a size, ties and what is shown -/
def Shown (H : Hp) (v : Addr) (pl more : Int) (Us : List (List Int)) : Prop := ∃ (s : Addr) (z : Int) (t sh : Addr) (xs : List V) (ps : List (Int × Int)) (ns : List Int),
  H v = some (.tup [.ref s, .int z, .ref t, .ref sh]) ∧ LotsUp H s pl Us ∧ Us ≠ [] ∧ Us.length ≤ 48 ∧ pl ≤ z ∧ z ≤ pl + more ∧ H t = some (.tup xs) ∧ Pairs H xs ps ∧ Good z ps ∧
  H sh = some (.tup (ns.map V.int)) ∧ (ns.length : Int) = pl ∧ ns.Nodup ∧ (∀ x ∈ ns, 0 ≤ x ∧ x < z) ∧ ∀ u, u ∈ Us ↔ ∃ l, RestL z ps l ∧ u = seenL ns l
theorem LotsUp.tk {H H' : Hp} {t : Addr} {n : Int} {Ls : List (List Int)} (h : LotsUp H t n Ls) (e : TK H H') : LotsUp H' t n Ls := by
  obtain ⟨xs, h1, h2, h3, h4⟩ := h
  exact ⟨xs, e _ _ h1, paired_imp (fun _ _ h => LotAt.tk h e) h2, h3, h4⟩
section
variable {P : Program} {w : World} {K : PySem.W.Frag} {mg : Str → Option Value} {base : Heap} {C CB CW : Addr}
def sp_web_list : Sp := fun vs H Q _ => ∃ (T : Addr) (pl more : Int), vs = [.ref T, .int pl, .int more] ∧ Sr H T ∧ 1 ≤ pl ∧ 0 ≤ more ∧ pl + more ≤ 7 ∧ ∀ v Us H', ExT T H H' → Sr H' T → Shown H' v pl more Us → Q (.ref v) H'
abbrev s__law_web_list : Stmt := (top 39)
theorem sc__law_web_list : FnScope ["source", "places", "more", "size", "ties", "showing"] ["source", "places", "more"] (defScope s__law_web_list) := ⟨rfl, rfl, rfl, by decide +kernel, rfl, by decide +kernel, by decide +kernel⟩

theorem ok_law_web_list {f : Addr} {fd : FuncData} (F : Fun K "_law_web_list" "_law_web_list" s__law_web_list f fd) (hm : mg "_law_web_list" = some (.ref f)) (B : Bl mg) (c__law_draw : Cal P w K mg base 1 "_law_draw" ["source", "many"] spDraw) (c__law_perm : Cal P w K mg base 2 "_law_perm" ["source", "many"] sp_perm) (c__law_ties : Cal P w K mg base 3 "_law_ties" ["source", "size"] sp_ties) (c__law_rests : Cal P w K mg base 2 "_law_rests" ["size", "ties"] sp_lrests) (c__law_seen : Cal P w K mg base 1 "_law_seen" ["known", "showing"] (sp_seen K)) : Cal P w K mg base 4 "_law_web_list" ["source", "places", "more"] sp_web_list := by
  refine ⟨f, fd, F.ok sc__law_web_list (fun vs H Q E h => ?_) (fun cdv A outer s H vs Q E hr h => ?_), hm, F.kp, F.binds (ps := ["source", "places", "more"]) fun _ _ _ _ _ _ us hl => match us, hl with | [_, _, _], _ => rfl⟩
  · obtain ⟨T, pl, more, rfl, _⟩ := h; rfl
  · obtain ⟨T, pl, more, rfl, hT, p1, m0, pm, k⟩ := h
    refine ⟨_, (pss_cons (ps_set (i := 3) sc__law_web_list.nd rfl (by first | exact Or.inl rfl | exact Or.inr rfl) (pe_op op_add (pv 1) (pe_cal c__law_draw (hr.mono (by first | decide | omega)) (pa_cons (pv 0) (pa_cons (pe_op op_add (pv 2) pe_int) pa_nil)))))
 (pss_cons (ps_set (i := 4) sc__law_web_list.nd rfl (by first | exact Or.inl rfl | exact Or.inr rfl) (pe_cal c__law_ties (hr.mono (by first | decide | omega)) (pa_cons (pv 0) (pa_cons (pv 3) pa_nil))))
 (pss_cons (ps_set (i := 5) sc__law_web_list.nd rfl (by first | exact Or.inl rfl | exact Or.inr rfl) (pe_callTy call_tuple_of (by rfl) B.tuple_ (by decide +kernel) (pa_cons (pe_slice sl_list (pe_cal c__law_perm (hr.mono (by first | decide | omega)) (pa_cons (pv 0) (pa_cons (pv 3) pa_nil))) po_none (po_some (pv 1))) pa_nil)))
 (pss_one (ps_ret (pe_tup (pa_cons (pe_cal c__law_seen (hr.mono (by first | decide | omega)) (pa_cons (pe_cal c__law_rests (hr.mono (by first | decide | omega)) (pa_cons (pv 3) (pa_cons (pv 4) pa_nil))) (pa_cons (pv 5) pa_nil))) (pa_cons (pv 3) (pa_cons (pv 4) (pa_cons (pv 5) pa_nil)))))))))), ?_⟩
    refine ⟨_, rfl, _, rfl, _, rfl, _, _, rfl, rfl, T, _, rfl, by omega, by omega, hT, fun r H1 r0 r1 e1 hT1 => ⟨_, _, rfl, rfl, ?_⟩⟩
    refine ⟨_, rfl, _, rfl, T, _, rfl, hT1, by omega, by omega, fun t xs ps H2 e2 hT2 nt ht hP G => ?_⟩
    refine ⟨_, rfl, _, rfl, T, _, rfl, hT2, by omega, by omega, fun p ns H3 e3 hT3 np hp N => ?_⟩
    have nT2 := hT1.neT nt
    have ht3 := (hT2.tk e3) _ _ ht
    have hP3 := hP.tk (hT2.tk e3)
    have nlen : ns.length = (pl + r).toNat := by have := N.len; omega
    refine ⟨_, rfl, _, rfl, p, _, rfl, SqL.of hp, fun q hq => ?_⟩
    have s4 := L2.Same.new (o := .lst (cutV (ns.map V.int) none (some pl))) hq
    refine ⟨_, _, rfl, .inl ⟨SqL.of upd_same, fun sh hsh => ?_⟩⟩
    have ecut : cutV (ns.map V.int) none (some pl) = (ns.take pl.toNat).map V.int := by
      have := cut_take (ns.map V.int) pl.toNat
      rw [Int.toNat_of_nonneg (by omega)] at this
      rw [this, List.map_take]
    rw [ecut] at s4 hsh ⊢
    have s5 := L2.Same.new (o := .tup ((ns.take pl.toNat).map V.int)) hsh
    have s45 := s4.trans s5
    have e13 := (e1.trans e2).trans e3
    have ht5 := s45 _ _ ht3
    have hP5 := hP3.tk s45.tk
    have slen : ((ns.take pl.toNat).length : Int) = pl := by rw [List.length_take]; omega
    refine ⟨_, rfl, _, rfl, _, t, xs, ps, rfl, ht5, hP5, G, by omega, by omega, fun rs ys Ls H6 e6 nrs hrs hLs hmem _ hperm => ?_⟩
    have few : Ls.length ≤ 48 := by rw [hperm.length_eq, List.length_map]; exact rests_few (by omega) (by omega)
    have hsh6 := e6 _ _ (show (upd (upd H3 q (.lst ((ns.take pl.toNat).map V.int))) sh (.tup ((ns.take pl.toNat).map V.int))) sh = some (.tup ((ns.take pl.toNat).map V.int)) from upd_same)
    refine ⟨_, rfl, rs, sh, ys, Ls, ns.take pl.toNat, rfl, hrs, hLs, by omega, hsh6, by omega, fun z Us H7 e7 nz hU hUm => ?_⟩
    refine ⟨_, rfl, _, rfl, _, rfl, (by show 4 ≤ sizeLine; decide), fun v hv => ?_⟩
    have e8 := L2.Same.new (o := .tup [V.ref z, .int (pl + r), .ref t, .ref sh]) hv
    have e68 := e6.trans (e7.trans e8)
    have E := e13.trans ((s45.trans e68).exT)
    obtain ⟨l0, h0⟩ := rests_any G (show 0 ≤ pl + r by omega)
    have hUnd : Us.Nodup := by
      obtain ⟨_, _, _, _, h4⟩ := id hU
      exact h4.imp fun {a b} h e => by subst e; rw [lex_irr] at h; cases h
    have hUl : Us.length ≤ 48 := by
      have := sub_lenL (B := Ls.map (seenL (ns.take pl.toNat))) hUnd fun u hu => by
        obtain ⟨l, h1, h2⟩ := (hUm u).mp hu
        exact List.mem_map.mpr ⟨l, h1, h2.symm⟩
      rw [List.length_map] at this
      omega
    have hU8 := hU.tk e8.tk
    rw [slen] at hU8
    refine k v Us _ E (hT3.ext (s45.trans e68)) ⟨z, pl + r, t, sh, xs, ps, ns.take pl.toNat, upd_same, hU8, fun e => ?_, hUl, by omega, by omega, e68 _ _ ht5, hP5.tk e68.tk, G, (e7.trans e8) _ _ hsh6, slen, (List.take_sublist _ _).nodup N.nd, fun x hx => N.ok x (List.mem_of_mem_take hx), fun u => ?_⟩
    · have := (hUm _).mpr ⟨l0, (hmem l0).mpr h0, rfl⟩
      rw [e] at this; cases this
    · rw [hUm]
      exact ⟨fun ⟨l, h1, h2⟩ => ⟨l, (hmem l).mp h1, h2⟩, fun ⟨l, h1, h2⟩ => ⟨l, (hmem l).mpr h1, h2⟩⟩
end

end Bs

namespace Bs
open PySem PySem.Spec PyProof.Rows L2
theorem cr_setTT {X : Cx} (hu : X.A.units + 64 < cLine) (hc : X.calm = true) : CallR X (.type "set") (rSetOfTT X.K X.prog X.w) := cr_setOfTT hc hu
theorem paired_take {α β : Type} {F : α → β → Prop} : ∀ (n : Nat) {xs : List α} {ys : List β}, Paired F xs ys → Paired F (xs.take n) (ys.take n)
  | 0, _, _, _ => .nil
  | _ + 1, _, _, .nil => .nil
  | n + 1, _, _, .cons r t => .cons r (paired_take n t)
theorem paired_drop {α β : Type} {F : α → β → Prop} : ∀ (n : Nat) {xs : List α} {ys : List β}, Paired F xs ys → Paired F (xs.drop n) (ys.drop n)
  | 0, _, _, h => h
  | _ + 1, _, _, .nil => .nil
  | n + 1, _, _, .cons r t => paired_drop n t
/-- one left out -/
theorem up_erase {H : Hp} {b : Addr} {n : Int} {xs : List V} {Us : List (List Int)} (at' : Nat) (hb : H b = some (.tup (xs.take at' ++ xs.drop (at' + 1)))) (hp : Paired (LotAt H) xs Us) (hl : ∀ l ∈ Us, Lot n l) (hu : Us.Pairwise fun a b => HT.lexLt a b = true) :
    LotsUp H b n (Us.take at' ++ Us.drop (at' + 1)) := by
  have hs : (Us.take at' ++ Us.drop (at' + 1)).Sublist Us := by rw [← List.eraseIdx_eq_take_drop_succ]; exact List.eraseIdx_sublist _ _
  exact ⟨_, hb, Paired.app (paired_take _ hp) (paired_drop _ hp), fun l h => hl l (hs.subset h), hu.sublist hs⟩
theorem lots_nodup {H : Hp} {t : Addr} {n : Int} {Us : List (List Int)} (h : LotsUp H t n Us) : Us.Nodup := by
  obtain ⟨_, _, _, _, h4⟩ := h
  exact h4.imp fun {a b} h e => by subst e; rw [lex_irr] at h; cases h
section
variable {P : Program} {w : World} {K : PySem.W.Frag} {mg : Str → Option Value} {base : Heap} {C CB CW : Addr}
/-- tuple(sorted(set)) of lots -/
theorem set_done {H : Hp} {S : Addr} {n : Int} {ks L : List (Addr × List Int)} {Q : VK} (hk : ∀ p ∈ ks, H p.1 = some (.tup (p.2.map V.int))) (hl : ∀ p ∈ ks, Lot n p.2) (hS : H S = none) (h1 : ∀ p ∈ L, p ∈ ks) (h2 : ∀ p ∈ ks, p.2 ∈ L.map (·.2))
    (k : ∀ q Us H', Same H H' → LotsUp H' q n Us → Us.length ≤ ks.length → (∀ u, u ∈ Us ↔ u ∈ ks.map (·.2)) → Q (.ref q) H') :
    rSortedSetAny K P w [.ref S] (upd H S (SetTO P w S L)) fun v H1 => ∃ p ys, [v] = [V.ref p] ∧ ((SqL K H1 p ys ∧ ∀ l, H1 l = none → Q (.ref l) (upd H1 l (.tup ys))) ∨ (SqT K H1 p ys ∧ Q (.ref p) H1)) := by
  have s1 := L2.Same.new (o := SetTO P w S L) hS
  have hkL : ∀ p ∈ L, (upd H S (SetTO P w S L)) p.1 = some (.tup (p.2.map V.int)) := fun p hp => s1 _ _ (hk p (h1 p hp))
  refine ⟨S, L, rfl, upd_same, fun p hp => SqT.of (hkL p hp), fun L' p pm nd few pw hp => ?_⟩
  have s2 := L2.Same.new (o := .lst (L'.map fun q => V.ref q.1)) hp
  refine ⟨_, _, rfl, .inl ⟨SqL.of upd_same, fun q hq => ?_⟩⟩
  have s3 := L2.Same.new (o := .tup (L'.map fun q => V.ref q.1)) hq
  have hm : ∀ u, u ∈ L'.map (·.2) ↔ u ∈ ks.map (·.2) := fun u => by
    rw [(pm.map (·.2)).mem_iff]
    constructor
    · intro h
      obtain ⟨p, hp, rfl⟩ := List.mem_map.mp h
      exact List.mem_map.mpr ⟨p, h1 p hp, rfl⟩
    · intro h
      obtain ⟨p, hp, rfl⟩ := List.mem_map.mp h
      exact h2 p hp
  refine k q (L'.map (·.2)) _ (s1.trans (s2.trans s3)) (up_done upd_same (fun p hp => (s2.trans s3) _ _ (hkL p (pm.mem_iff.mp hp))) (fun p hp => hl p (h1 p (pm.mem_iff.mp hp))) nd pw) ?_ hm
  have := sub_lenL (B := ks.map (·.2)) nd fun u hu => (hm u).mp hu
  simpa using this
def sp_stands : Sp := fun vs H Q _ => ∃ (T : Addr) (pl : Int), vs = [.ref T, .int pl] ∧ Sr H T ∧ 1 ≤ pl ∧ pl ≤ 5 ∧ ∀ q Us H', ExT T H H' → Sr H' T → LotsUp H' q pl Us → Us ≠ [] → Us.length ≤ 49 → Q (.ref q) H'
abbrev s__law_stands : Stmt := (top 40)
theorem sc__law_stands : FnScope ["source", "places", "kind", "turn", "lots", "stands", "at", "stand", "cut", "place"] ["source", "places"] (defScope s__law_stands) := ⟨rfl, rfl, rfl, by decide +kernel, rfl, by decide +kernel, by decide +kernel⟩

theorem ok_law_stands {f : Addr} {fd : FuncData} (F : Fun K "_law_stands" "_law_stands" s__law_stands f fd) (hm : mg "_law_stands" = some (.ref f)) (B : Bl mg) (Z : mg "set" = none ∧ True) (c__law_draw : Cal P w K mg base 1 "_law_draw" ["source", "many"] spDraw) (c__law_some_lot : Cal P w K mg base 2 "_law_some_lot" ["source", "places"] sp_some_lot) (c__law_web_list : Cal P w K mg base 4 "_law_web_list" ["source", "places", "more"] sp_web_list) : Cal P w K mg base 5 "_law_stands" ["source", "places"] sp_stands := by
  refine ⟨f, fd, F.ok sc__law_stands (fun vs H Q E h => ?_) (fun cdv A outer s H vs Q E hr h => ?_), hm, F.kp, F.binds (ps := ["source", "places"]) fun _ _ _ _ _ _ us hl => match us, hl with | [_, _], _ => rfl⟩
  · obtain ⟨T, pl, rfl, _⟩ := h; rfl
  · obtain ⟨T, pl, rfl, hT, p1, p5, k⟩ := h
    refine ⟨_, (pss_cons (ps_set (i := 2) sc__law_stands.nd rfl (by first | exact Or.inl rfl | exact Or.inr rfl) (pe_cal c__law_draw (hr.mono (by first | decide | omega)) (pa_cons (pv 0) (pa_cons pe_int pa_nil))))
 (Evl.pss_cut (ps_if (pt_cmpR op_eq (pv 2) pe_int (nomark _)) (pss_cons (ps_setLc (i := 4) (own := [("turn", 3)]) (by rfl) sc__law_stands.nd rfl rfl (sw_true rfl rfl rfl (by decide +kernel)) (pi_range1 (by rfl) B.range (pa_cons (pe_op op_add pe_int (pe_cal c__law_draw (hr.mono (by first | decide | omega)) (pa_cons (pv 0) (pa_cons pe_int pa_nil)))) pa_nil)) (blkOk_by (own := [("turn", 3)]) (N := ["source", "places", "kind", "turn", "lots", "stands", "at", "stand", "cut", "place"]) (sc := defScope s__law_stands) (by decide +kernel)) (fun _ _ _ _ _ => (pg_name (i := 3) sc__law_stands.nd rfl (by first | exact Or.inl rfl | exact Or.inr rfl))) (fun _ _ _ _ _ => pts_nil) (fun _ _ _ _ _ => (pe_cal c__law_some_lot (hr.mono (by first | decide | omega)) (pa_cons (pv 0) (pa_cons (pv 1) pa_nil)))))
 (pss_one (ps_ret (pe_callTy call_tuple_of (by rfl) B.tuple_ (by decide +kernel) (pa_cons (pe_callB (cr_sortedSetAny rfl (Nat.lt_of_succ_lt (units65 hr))) (by rfl) B.sorted (by decide +kernel) (pa_cons (pe_callTy (cr_setOfT rfl (Nat.lt_of_succ_lt (units65 hr))) (by rfl) Z.1 (by decide +kernel) (pa_cons (pv 4) pa_nil)) pa_nil)) pa_nil))))) pss_nil)
 (pss_cons (ps_set (i := 5) sc__law_stands.nd rfl (by first | exact Or.inl rfl | exact Or.inr rfl) (pe_ix ix_tup (pe_cal c__law_web_list (hr.mono (by first | decide | omega)) (pa_cons (pv 0) (pa_cons (pv 1) (pa_cons pe_int pa_nil)))) pe_int (fun _ _ => rfl)))
 (Evl.pss_cut (ps_if (PW.pt (pw_and (pt_cmpR op_eq (pv 2) pe_int (nomark _)) (pw_and1 (pt_cmpR op_gt (pe_callB call_len_seq (by rfl) B.len (by decide +kernel) (pa_cons (pv 5) pa_nil)) pe_int (nomark _))))) (pss_cons (ps_set (i := 6) sc__law_stands.nd rfl (by first | exact Or.inl rfl | exact Or.inr rfl) (pe_cal c__law_draw (hr.mono (by first | decide | omega)) (pa_cons (pv 0) (pa_cons (pe_callB call_len_seq (by rfl) B.len (by decide +kernel) (pa_cons (pv 5) pa_nil)) pa_nil))))
 (pss_one (ps_ret (pe_op op_catA (pe_slice sl_tupA (pv 5) po_none (po_some (pv 6))) (pe_slice sl_tupA (pv 5) (po_some (pe_op op_add (pv 6) pe_int)) po_none))))) pss_nil)
 (pss_cons (ps_if (pt_cmpR op_eq (pv 2) pe_int (nomark _)) (pss_one (ps_ret (pe_callTy call_tuple_of (by rfl) B.tuple_ (by decide +kernel) (pa_cons (pe_callB (cr_sortedSetAny rfl (Nat.lt_of_succ_lt (units65 hr))) (by rfl) B.sorted (by decide +kernel) (pa_cons (pe_callTy (cr_setTT (Nat.lt_of_succ_lt (units65 hr)) rfl) (by rfl) Z.1 (by decide +kernel) (pa_cons (pe_op op_catA (pv 5) (pe_tup (pa_cons (pe_cal c__law_some_lot (hr.mono (by first | decide | omega)) (pa_cons (pv 0) (pa_cons (pv 1) pa_nil))) pa_nil))) pa_nil)) pa_nil)) pa_nil)))) pss_nil)
 (pss_cons (ps_if (pt_cmpR op_eq (pv 2) pe_int (nomark _)) (pss_cons (ps_set (i := 7) sc__law_stands.nd rfl (by first | exact Or.inl rfl | exact Or.inr rfl) (pe_ix ix_tup (pv 5) (pe_cal c__law_draw (hr.mono (by first | decide | omega)) (pa_cons (pv 0) (pa_cons (pe_callB call_len_seq (by rfl) B.len (by decide +kernel) (pa_cons (pv 5) pa_nil)) pa_nil))) (fun _ _ => rfl)))
 (pss_cons (ps_set (i := 8) sc__law_stands.nd rfl (by first | exact Or.inl rfl | exact Or.inr rfl) (pe_cal c__law_draw (hr.mono (by first | decide | omega)) (pa_cons (pv 0) (pa_cons (pv 1) pa_nil))))
 (pss_one (ps_ret (pe_callTy call_tuple_of (by rfl) B.tuple_ (by decide +kernel) (pa_cons (pe_callB (cr_sortedSetAny rfl (Nat.lt_of_succ_lt (units65 hr))) (by rfl) B.sorted (by decide +kernel) (pa_cons (pe_callTy (cr_setTT (Nat.lt_of_succ_lt (units65 hr)) rfl) (by rfl) Z.1 (by decide +kernel) (pa_cons (pe_op op_catA (pv 5) (pe_tup (pa_cons (pe_callTy call_tuple_of (by rfl) B.tuple_ (by decide +kernel) (pa_cons (pe_lc (own := [("place", 9)]) (by rfl) sc__law_stands.nd (pi_tup (pv 7)) (blkOk_by (own := [("place", 9)]) (N := ["source", "places", "kind", "turn", "lots", "stands", "at", "stand", "cut", "place"]) (sc := defScope s__law_stands) (by decide +kernel)) (fun _ _ _ _ _ => (pg_name (i := 9) sc__law_stands.nd rfl (by first | exact Or.inl rfl | exact Or.inr rfl))) (fun _ _ _ _ _ => (pts_one (pt_cmpR op_ne (pv 9) (pv 8) (nomark _)))) (fun _ _ _ _ _ => (pv 9))) pa_nil)) pa_nil))) pa_nil)) pa_nil)) pa_nil)))))) pss_nil)
 (pss_one (ps_ret (pv 5))))))))), ?_⟩
    refine ⟨_, rfl, T, 5, rfl, by decide, by decide, hT, fun kd H1 k0 k5 e1 hT1 => ?_⟩
    refine ⟨fun σ H' => H' = H1 ∧ σ = [some (.ref T), some (.int pl), some (.int kd), none, none, none, none, none, none, none], ?_, ?_⟩
    · refine ⟨_, rfl, rfl, _, rfl, ?_⟩
      show (if decide (V.int kd = V.int 0) = true then _ else _)
      refine onb (fun c => ?_) (fun c => ⟨rfl, rfl⟩)
      refine ⟨_, rfl, T, 6, rfl, by decide, by decide, hT1, fun r H2 r0 r1 e2 hT2 => ⟨_, _, rfl, rfl, _, rfl, by omega, by omega, fun D hD => lc_range (lo := 0) (n := (1 + r).toNat) (fun i H' => ExT T H2 H' ∧ Sr H' T ∧ ∃ (zs : List V) (Ls : List (List Int)), H' D = some (.lst zs) ∧ Paired (LotAt H') zs Ls ∧ (∀ l ∈ Ls, Lot pl l) ∧ Ls.length = i)
        ⟨(L2.Same.new hD).exT, hT2.ext (L2.Same.new hD), [], [], upd_same, .nil, by simp, rfl⟩ ?_ ?_⟩⟩
      · rintro i H3 hi ⟨e3, hT3, zs, Ls, hzs, hp, hl, hn⟩
        have DT := hT2.neT hD
        refine ⟨rfl, yes_if ?_⟩
        refine ⟨_, rfl, _, rfl, T, pl, rfl, hT3, by omega, by omega, fun p l H4 e4 hT4 np hpl lot => ?_⟩
        have hz4 := e4 _ _ DT hzs
        have zl : zs.length = i := by rw [Paired.len hp, hn]
        have keep : ∀ v l', LotAt H3 v l' → LotAt (upd H4 D (.lst (zs ++ [.ref p]))) v l' := fun v l' ⟨z, ez, hz⟩ => ⟨z, ez, by
          have n1 : z ≠ D := fun z' => by subst z'; rw [hzs] at hz; cases hz
          rw [upd_ne n1]; exact (hT3.tk e4) _ _ hz⟩
        have nD : p ≠ D := fun z' => by subst z'; rw [hzs] at np; cases np
        refine ⟨zs, hz4, Nat.lt_of_le_of_lt (show zs.length ≤ 64 by omega) (by decide), (e3.trans e4).mut hD, hT4.upd DT, zs ++ [.ref p], Ls ++ [l], upd_same, Paired.app (paired_imp keep hp) (.cons ⟨p, rfl, by rw [upd_ne nD]; exact hpl⟩ .nil), fun m hm => ?_, by rw [List.length_append, hn]; rfl⟩
        rcases List.mem_append.mp hm with h | h
        · exact hl m h
        · simp at h; subst h; exact lot
      · rintro H3 ⟨e3, hT3, zs, Ls, hzs, hp, hl, hn⟩
        obtain ⟨ks, rfl, rfl, hk⟩ := ks_of hp
        rw [List.length_map] at hn
        refine ⟨_, rfl, D, ks, rfl, SqL.of hzs, fun p hp => SqT.of (hk p hp), by omega, fun S L hS h1 h2 => set_done hk (fun p hp => hl _ (List.mem_map.mpr ⟨p, hp, rfl⟩)) hS h1 h2 fun q Us H4 e4 hU ul hm => k q Us H4 ((e1.trans (e2.trans e3)).trans e4.exT) (hT3.ext e4) hU (fun e => ?_) (by omega)⟩
        subst e
        cases ks with
        | nil => simp at hn; omega
        | cons p ks => have := (hm p.2).mpr (by simp); cases this
    rintro σ H2 ⟨rfl, rfl⟩
    refine ⟨_, rfl, _, rfl, T, pl, 2, rfl, hT1, p1, by decide, by omega, fun v Us H2 e2 hT2 sh => ?_⟩
    obtain ⟨s', z, t', sh', xs', ps', ns', hv, hU, hne, h48, _⟩ := sh
    obtain ⟨xs, hs, hp, hl, hu⟩ := id hU
    have E2 := e1.trans e2
    have xl := Paired.len hp
    have u1 : 1 ≤ Us.length := by cases Us with | nil => exact absurd rfl hne | cons _ _ => simp
    -- one lot more
    have more : ∀ {H3 : Hp} {p c : Addr} {l : List Int}, ExT T H2 H3 → Sr H3 T → H3 p = some (.tup (l.map V.int)) → Lot pl l → H3 c = some (.tup [.ref p]) →
        rCatA K (.ref s') (.ref c) H3 (fun v H4 => rSetOfTT K P w [v] H4 fun v H5 => rSortedSetAny K P w [v] H5 fun v H1 => ∃ p ys, [v] = [V.ref p] ∧ ((SqL K H1 p ys ∧ ∀ l, H1 l = none → Q (.ref l) (upd H1 l (.tup ys))) ∨ (SqT K H1 p ys ∧ Q (.ref p) H1))) := by
      intro H3 p c l e3 hT3 hpl lot hc
      have tk3 := hT2.tk e3
      refine cat_any (tk3 _ _ hs) hc (Nat.le_trans (show xs.length + 1 ≤ 64 by omega) (by decide)) fun d H4 s4 hd => ?_
      have hp4 : Paired (LotAt H4) (xs ++ [.ref p]) (Us ++ [l]) := Paired.app (paired_imp (fun _ _ h => LotAt.tk (LotAt.tk h tk3) s4.tk) hp) (.cons ⟨p, rfl, s4 _ _ hpl⟩ .nil)
      obtain ⟨ks, eks, els, hk⟩ := ks_of hp4
      rw [eks] at hd
      have kl : ks.length = Us.length + 1 := by have := congrArg List.length els; simpa using this.symm
      have hlk : ∀ p ∈ ks, Lot pl p.2 := fun q hq => by
        have : q.2 ∈ Us ++ [l] := by rw [els]; exact List.mem_map.mpr ⟨q, hq, rfl⟩
        rcases List.mem_append.mp this with h | h
        · exact hl _ h
        · simp at h; rw [h]; exact lot
      refine ⟨d, ks, rfl, SqT.of hd, fun p hp => SqT.of (hk p hp), by omega, fun S L hS h1 h2 => set_done hk hlk hS h1 h2 fun q Ws H5 e5 hW wl hm => ?_⟩
      refine k q Ws H5 ((E2.trans e3).trans (s4.trans e5).exT) (hT3.ext (s4.trans e5)) hW (fun e => ?_) (by omega)
      subst e
      have := (hm l).mpr (by rw [← els]; simp)
      cases this
    refine ⟨v, _, _, _, rfl, rfl, SqT.of hv, rfl, ?_⟩
    refine ⟨fun σ H' => H' = H2 ∧ σ = [some (.ref T), some (.int pl), some (.int kd), none, none, some (.ref s'), none, none, none, none], ?_, ?_⟩
    · refine ⟨_, rfl, rfl, _, rfl, ?_⟩
      show (if decide (V.int kd = V.int 1) = true then _ else _)
      refine onb (fun c1 => ?_) (fun c1 => iteF ⟨rfl, rfl⟩)
      refine ⟨_, rfl, s', _, rfl, .inr (SqT.of hs), _, _, rfl, rfl, _, rfl, ?_⟩
      show (if decide ((xs.length : Int) > 1) = true then _ else _)
      refine onb (fun c2 => ?_) (fun c2 => ⟨rfl, rfl⟩)
      refine ⟨_, rfl, _, rfl, s', _, rfl, .inr (SqT.of hs), T, _, rfl, by omega, by omega, hT2, fun r H3 r0 r1 e3 hT3 => ?_⟩
      have hs3 := (hT2.tk e3) _ _ hs
      have hp3 := paired_imp (fun _ _ h => LotAt.tk h (hT2.tk e3)) hp
      refine ⟨_, rfl, _, rfl, _, rfl, sl_any hs3 fun b1 H4 s4 hb1 => ?_⟩
      refine ⟨_, rfl, _, rfl, _, _, rfl, rfl, _, rfl, sl_from (s4 _ _ hs3) fun b2 H5 s5 hb2 => ?_⟩
      obtain ⟨rn, rfl⟩ : ∃ rn : Nat, r = (rn : Int) := ⟨r.toNat, by omega⟩
      rw [cut_take] at hb1
      have e6 : ((rn : Int) + 1) = ((rn + 1 : Nat) : Int) := by omega
      rw [e6, cut_drop] at hb2
      refine cat_any (s5 _ _ hb1) hb2 (Nat.le_trans (show _ ≤ 128 by rw [List.length_take, List.length_drop]; omega) (by decide)) fun t1 H6 s6 ht1 => ?_
      have s46 := s4.trans (s5.trans s6)
      refine k t1 _ H6 ((E2.trans e3).trans s46.exT) (hT3.ext s46) (up_erase rn ht1 (paired_imp (fun _ _ h => LotAt.tk h s46.tk) hp3) hl hu) (fun e => ?_) (by rw [List.length_append, List.length_take, List.length_drop]; omega)
      have := congrArg List.length e
      rw [List.length_append, List.length_take, List.length_drop, List.length_nil] at this
      omega
    rintro σ H3 ⟨rfl, rfl⟩
    refine ⟨_, rfl, rfl, _, rfl, ?_⟩
    show (if decide (V.int kd = V.int 2) = true then _ else _)
    refine onb (fun c1 => ?_) (fun c1 => ?_)
    · refine ⟨_, rfl, _, rfl, _, rfl, T, pl, rfl, hT2, by omega, by omega, fun p l H4 e4 hT4 np hpl lot => ⟨(by show 1 ≤ sizeLine; decide), fun c hc => ?_⟩⟩
      have s5 := L2.Same.new (o := .tup [.ref p]) hc
      exact more (e4.trans s5.exT) (hT4.ext s5) (s5 _ _ hpl) lot upd_same
    refine ⟨_, rfl, rfl, _, rfl, ?_⟩
    show (if decide (V.int kd = V.int 3) = true then _ else _)
    refine onb (fun c3 => ?_) (fun c3 => ?_)
    · refine ⟨_, rfl, _, rfl, _, rfl, s', _, rfl, .inr (SqT.of hs), T, _, rfl, by omega, by omega, hT2, fun r H4 r0 r1 e4 hT4 => ?_⟩
      have hs4 := (hT2.tk e4) _ _ hs
      have hr : r.toNat < xs.length := by omega
      have hx : xs[r.toNat]? = some xs[r.toNat] := List.getElem?_eq_getElem hr
      obtain ⟨l, hl1, a, ea, ha⟩ := Paired.get hp hx
      rw [ea] at hx
      refine ⟨s', _, _, _, rfl, rfl, SqT.of hs4, at_of (j := r.toNat) (by omega) hx, ?_⟩
      refine ⟨_, rfl, _, rfl, T, pl, rfl, by omega, by omega, hT4, fun r2 H5 _ _ e5 hT5 => ?_⟩
      have ha5 := (hT4.tk e5) _ _ ((hT2.tk e4) _ _ ha)
      have lot := hl l (List.mem_of_getElem? hl1)
      have ll := lot_len lot (by omega)
      refine ⟨_, rfl, _, rfl, a, rfl, ⟨_, SqT.of ha5⟩, fun D hD => lc_data walk_tup (l.map V.int) rfl (fun x => !decide (x = V.int r2)) (fun _ v x => v = x) (fun _ _ _ _ _ q => q) hD (fun H' e => SqT.of (e _ _ ha5)) (by rw [List.length_map]; exact Nat.lt_of_le_of_lt (show l.length ≤ 100 by omega) (by decide)) ?_ (fun _ _ _ _ _ y => yat_same y) ?_⟩
      · rintro i x v H6 H7 Ny Nn hxi e6 ⟨rfl, hv⟩ kE kN
        rw [hxi] at hv
        cases hv
        rw [List.getElem?_map] at hxi
        obtain ⟨n, _, rfl⟩ := Option.map_eq_some_iff.mp hxi
        refine ⟨rfl, _, rfl, _, rfl, rfl, _, rfl, ?_⟩
        cases c : decide (V.int n = V.int r2) with
        | true => exact iteF (kN _ (by rw [c]; rfl) (L2.Same.refl _))
        | false => exact iteT ⟨_, rfl, kE _ _ (by rw [c]; rfl) (L2.Same.refl _) rfl⟩
      · intro ys H6 e6 hys hpr
        have ey := paired_eq (g := fun x : V => x) hpr
        rw [List.map_id'', List.filter_map] at ey
        · subst ey
          have lot2 := lot.filt ((fun x => !decide (x = V.int r2)) ∘ V.int)
          refine ⟨D, _, rfl, .inl ⟨SqL.of hys, fun p hpn => ⟨(by show 1 ≤ sizeLine; decide), fun c hc => ?_⟩⟩⟩
          have s7 := L2.Same.new (o := .tup ((l.filter ((fun x => !decide (x = V.int r2)) ∘ V.int)).map V.int)) hpn
          have s8 := L2.Same.new (o := .tup [.ref p]) hc
          have s68 := e6.trans (s7.trans s8)
          exact more ((e4.trans e5).trans s68.exT) (hT5.ext s68) (s8 _ _ upd_same) lot2 upd_same
        · exact fun _ => rfl
    · exact ⟨_, rfl, k s' Us _ E2 hT2 hU hne (by omega)⟩
end

end Bs

namespace Bs
open PySem PySem.Spec PyProof.Rows L2
def tD (l : List Int) : PyData := .tuple (l.map PyData.int)
theorem tD_lay (l : List Int) : (tD l).canLay0 = true := by unfold tD; simp only [PyData.canLay0]; exact iD_lay l
theorem tD_depth (l : List Int) : (tD l).depth = 1 := by
  have := iD_depth l
  unfold tD
  simp only [PyData.depth]
  omega
theorem tDs_lay : ∀ Ls : List (List Int), PyData.canLayAll0 (Ls.map tD) = true
  | [] => by simp [PyData.canLayAll0]
  | l :: Ls => by simp [PyData.canLayAll0, tD_lay l, tDs_lay Ls]
theorem tDs_depth : ∀ Ls : List (List Int), PyData.depthAll (Ls.map tD) ≤ 1
  | [] => by simp [PyData.depthAll]
  | l :: Ls => by
    have h1 := tDs_depth Ls
    have h2 := tD_depth l
    simp only [List.map_cons, PyData.depthAll]
    omega
theorem tDs_eqvA : ∀ Ls Ms : List (List Int), PyData.eqvAll (Ls.map tD) (Ms.map tD) = decide (Ls = Ms)
  | [], [] => by simp [PyData.eqvAll]
  | [], m :: Ms => by simp [PyData.eqvAll]
  | l :: Ls, [] => by simp [PyData.eqvAll]
  | l :: Ls, m :: Ms => by
    rw [List.map_cons, List.map_cons]
    simp only [PyData.eqvAll]
    have h := iD_eqv l m
    rw [show PyData.eqv (tD l) (tD m) = decide (l = m) from h, tDs_eqvA Ls Ms]
    by_cases h1 : l = m
    · by_cases h2 : Ls = Ms <;> simp [h1, h2]
    · simp [h1]
theorem dp_lots {K : PySem.W.Frag} {H : Hp} : ∀ {xs : List V} {Ls : List (List Int)}, Paired (LotAt H) xs Ls → DpAll K H xs (Ls.map tD)
  | _, _, .nil => .nil
  | _, _, .cons ⟨a, e, h⟩ t => .cons (e ▸ dp_lot h) (dp_lots t)
/-- all lots of the parts below i -/
def subsL : Nat → List (List Int)
  | 0 => [[]]
  | i + 1 => subsL i ++ (subsL i).map fun l => l ++ [(i : Int)]
theorem subsL_len : ∀ i, (subsL i).length = 2 ^ i
  | 0 => rfl
  | i + 1 => by rw [subsL, List.length_append, List.length_map, subsL_len i, Nat.pow_succ]; omega
theorem subsL_mem : ∀ (i : Nat) (l : List Int), l ∈ subsL i ↔ Lot (i : Int) l
  | 0, l => by
    rw [subsL, List.mem_singleton]
    constructor
    · rintro rfl; exact ⟨.nil, by simp⟩
    · intro h
      cases l with
      | nil => rfl
      | cons x l => have := h.ok x (by simp); omega
  | i + 1, l => by
    rw [subsL, List.mem_append, List.mem_map, subsL_mem i l]
    constructor
    · rintro (h | ⟨l', h, rfl⟩)
      · exact ⟨h.up, fun x hx => by have := h.ok x hx; omega⟩
      · have h := (subsL_mem i l').mp h
        refine ⟨List.pairwise_append.mpr ⟨h.up, by simp, fun a ha b hb => ?_⟩, fun x hx => ?_⟩
        · simp at hb; subst hb; exact (h.ok a ha).2
        · rcases List.mem_append.mp hx with hx | hx
          · have := h.ok x hx; omega
          · simp at hx; subst hx; omega
    · intro h
      by_cases hi : (i : Int) ∈ l
      · refine .inr ⟨l.filter fun q => !decide (q = (i : Int)), (subsL_mem i _).mpr ⟨h.up.filter _, fun x hx => ?_⟩, ?_⟩
        · have h1 := List.mem_filter.mp hx
          have h2 : x ≠ (i : Int) := by simpa using h1.2
          have := h.ok x h1.1
          omega
        · refine ups_ext (List.pairwise_append.mpr ⟨h.up.filter _, by simp, fun a ha b hb => ?_⟩) h.up fun x => ?_
          · simp at hb; subst hb
            have h1 := List.mem_filter.mp ha
            have h2 : a ≠ (i : Int) := by simpa using h1.2
            have := h.ok a h1.1
            omega
          · rw [List.mem_append, List.mem_filter]
            by_cases e : x = (i : Int)
            · simp [e, hi]
            · simp [e]
      · refine .inl ⟨h.up, fun x hx => ?_⟩
        have := h.ok x hx
        have h2 : x ≠ (i : Int) := fun e => hi (e ▸ hx)
        omega
theorem tDs_tup (Ls : List (List Int)) : SeqAt.shaped (.tuple (Ls.map tD)) = true := by
  have h1 := tDs_depth Ls
  have h2 : PyData.depth (.tuple (Ls.map tD)) ≤ 64 := by
    simp only [PyData.depth]
    omega
  show (PyData.canLay0 (.tuple (Ls.map tD)) && decide (PyData.depth (.tuple (Ls.map tD)) ≤ 64)) = true
  rw [Bool.and_eq_true]
  exact ⟨by simp only [PyData.canLay0]; exact tDs_lay Ls, decide_eq_true h2⟩
theorem tDt_eqv (Ls Ms : List (List Int)) : PyData.eqv (.tuple (Ls.map tD)) (.tuple (Ms.map tD)) = decide (Ls = Ms) := by
  simp only [PyData.eqv]
  exact tDs_eqvA Ls Ms
theorem subsL_nodup : ∀ i, (subsL i).Nodup
  | 0 => by rw [subsL]; simp
  | i + 1 => by
    have ih := subsL_nodup i
    rw [subsL]
    refine List.nodup_append.mpr ⟨ih, ?_, fun a ha b hb e => ?_⟩
    · refine List.pairwise_map.mpr (List.Pairwise.imp (fun {a b} h e => h ?_) (List.nodup_iff_pairwise_ne.mp ih))
      exact List.append_cancel_right e
    · obtain ⟨l, hl, rfl⟩ := List.mem_map.mp hb
      subst e
      have := ((subsL_mem i _).mp ha).ok (i : Int) (by simp)
      omega
/-- an instance of List -/
def ListAt (C : Addr) (H : Hp) (x : Addr) (n : Int) (t : Addr) (Us : List (List Int)) : Prop := (∃ dx, H x = some (.ins C dx (lfV (.int n) (.ref t)))) ∧ LotsUp H t n Us
/-- what more is known of the class -/
structure TxtL2 (K : PySem.W.Frag) (C : Addr) : Prop where
  xc : PySem.W.findIn K (.ref C) "__class__" = some (some (.builtin "object.__class__"))
  xg : PySem.W.specialIn K (.builtin "object.__class__") "__get__" = some (some (.builtin "getset_descriptor.__get__"))
  xt : PySem.W.takesIn K (.builtin "object.__class__") = some true
  xm : PySem.W.mroIn K C (.type "object") = some true
theorem ps_sp : ¬ (("places" : Str) = "stands") := by decide +kernel
theorem lf_places (s t : V) : (lfV s t).lookup ("places" : Str) = some s := by
  unfold lfV
  rw [lookup_putF, if_neg ps_sp, lookup_putF, if_pos rfl]
theorem lf_stands (s t : V) : (lfV s t).lookup ("stands" : Str) = some t := by
  unfold lfV
  rw [lookup_putF, if_pos rfl]
section
variable {P : Program} {w : World} {K : PySem.W.Frag} {mg : Str → Option Value} {base : Heap} {C CB CW : Addr}
def sp_List_eq (K : PySem.W.Frag) (C : Addr) : Sp := fun vs H Q _ => ∃ a y n t Us, vs = [.ref a, y] ∧ ListAt C H a n t Us ∧
  ((∃ b m u Ws, y = .ref b ∧ ListAt C H b m u Ws ∧ Q (.bl (decide (n = m ∧ Us = Ws))) H) ∨ (∃ ty, TyX K H y ty ∧ PySem.W.kitOne K ty (.ref C) = some false ∧ Q (.bl false) H))
abbrev s_List_eq : Stmt := (inClass (top 17) 1)
theorem sc_List_eq : FnScope ["self", "other"] ["self", "other"] (defScope s_List_eq) := ⟨rfl, rfl, rfl, by decide +kernel, rfl, by decide +kernel, by decide +kernel⟩

theorem ok_List_eq {f : Addr} {fd : FuncData} (F : Fun K "__eq__" "List.__eq__" s_List_eq f fd) (B : Bl mg) (T : TxtL K mg C) (T2 : TxtL2 K C) : FnOk P w K mg base CX0 1 f fd ["self", "other"] (sp_List_eq K C) := by
  refine F.ok sc_List_eq (fun vs H Q E h => ?_) (fun cdv A outer s H vs Q E hr h => ?_)
  · obtain ⟨a, y, n, t, Us, rfl, _⟩ := h; rfl
  · obtain ⟨a, y, n, t, Us, rfl, ⟨⟨dx, h1⟩, xs, h4, h5, _⟩, h⟩ := h
    refine ⟨_, (pss_one (ps_ret (pe_and (pe_callB call_isi (by rfl) B.isinstance (by decide +kernel) (pa_cons (pv 1) (pa_cons (pe_globR T.mg_List) pa_nil))) (pe_and (pe_cmpR op_eq (pe_fld (pv 0) rfl) (pe_fld (pv 1) rfl) (nomark _)) (pe_one (pe_cmpR (op_eqD hr.units) (pe_fld (pv 0) rfl) (pe_fld (pv 1) rfl) (nomark _))))))), ?_⟩
    rcases h with ⟨b, m, u, Ws, rfl, ⟨⟨dy, g1⟩, ys, g4, g5, _⟩, k⟩ | ⟨ty, hty, hk, k⟩
    · refine ⟨_, rfl, _, _, _, _, true, rfl, .own C, .base (.ins g1 T.cl T2.xc T2.xg T2.xt T2.xm), kit_own, true, rfl, iteT ?_⟩
      refine ⟨_, rfl, a, C, dx, _, _, rfl, h1, T.cl, T.nPlaces, lf_places _ _, _, rfl, b, C, dy, _, _, rfl, g1, T.cl, T.nPlaces, lf_places _ _, rfl, _, rfl, ?_⟩
      by_cases e : n = m
      · rw [if_pos (decide_eq_true (by rw [e]))]
        refine ⟨_, rfl, a, C, dx, _, _, rfl, h1, T.cl, T.nStands, lf_stands _ _, _, rfl, b, C, dy, _, _, rfl, g1, T.cl, T.nStands, lf_stands _ _, _, _, .tup (SqT.of h4) (dp_lots h5), .tup (SqT.of g4) (dp_lots g5), tDs_tup Us, tDs_tup Ws, ?_⟩
        rw [tDt_eqv]
        have e2 : decide (n = m ∧ Us = Ws) = decide (Us = Ws) := by simp [e]
        rw [e2] at k
        exact k
      · rw [if_neg (by simpa using e)]
        have e2 : decide (n = m ∧ Us = Ws) = false := decide_eq_false fun q => e q.1
        rw [e2] at k
        exact k
    · exact ⟨_, rfl, _, _, _, _, false, rfl, .own C, hty, hk, false, rfl, iteF k⟩
def sp_all_lots : Sp := fun vs H Q _ => ∃ m : Int, vs = [.int m] ∧ 0 ≤ m ∧ m ≤ 10 ∧ ∀ q xs H', Same H H' → H' q = some (.lst xs) → Paired (LotAt H') xs (subsL m.toNat) → Q (.ref q) H'
end

end Bs

namespace Bs
open PySem PySem.Spec PyProof.Rows L2
theorem lots_front {H : Hp} : ∀ {xs : List V} {x : V} {Ls : List (List Int)}, Paired (LotAt H) (xs ++ [x]) Ls → ∃ Ms l, Ls = Ms ++ [l] ∧ Paired (LotAt H) xs Ms
  | [], _, [l], _ => ⟨[], l, rfl, .nil⟩
  | [], _, [], h => by cases h
  | [], _, p :: q :: r, .cons _ t => by cases t
  | y :: ys, x, p :: ps, .cons r t => by
    obtain ⟨Ms, l, rfl, h⟩ := lots_front t
    exact ⟨p :: Ms, l, rfl, .cons r h⟩
theorem lok_le {H : Hp} {n : Int} {xs : List V} {i j : Nat} (h : LOk H n xs j) (hij : i ≤ j) : LOk H n xs i := by
  obtain ⟨Ls, h1, h2, h3⟩ := h
  refine ⟨Ls.take i, ?_, fun l hl => h2 l (List.mem_of_mem_take hl), h3.sublist (List.take_sublist _ _)⟩
  have := paired_take i h1
  rw [List.take_take, Nat.min_eq_left hij] at this
  exact this
theorem lbad_list {H : Hp} {sv tv y : V} (h : LBadIs H sv tv y) (h' : ListIs H sv tv) : False := by
  obtain ⟨n, t, xs, rfl, n1, n2, rfl, ht, l1, l2, ok⟩ := h'
  rcases h with ⟨h1, _⟩ | ⟨_, h2, _⟩ | ⟨n', t', xs', i, e1, _, _, e2, ht', _, _, hi, _, nok, _⟩
  · exact absurd ⟨n1, n2⟩ (of_decide_eq_false h1)
  · exact h2 _ _ rfl ht ⟨l1, l2⟩
  · cases e1
    cases e2
    rw [ht] at ht'
    cases ht'
    exact nok (lok_le ok hi)
theorem list_is {H : Hp} {n : Int} {t : Addr} {Us : List (List Int)} (hU : LotsUp H t n Us) (n1 : 1 ≤ n) (n2 : n ≤ 12) (h1 : Us ≠ []) (h2 : Us.length ≤ 64) : ListIs H (.int n) (.ref t) := by
  obtain ⟨xs, ht, hp, hl, hu⟩ := hU
  have := Paired.len hp
  have : 1 ≤ Us.length := by cases Us with | nil => exact absurd rfl h1 | cons _ _ => simp
  exact ⟨n, t, xs, rfl, n1, n2, rfl, ht, by omega, by omega, Us, by rw [List.take_length]; exact hp, hl, hu⟩
theorem lot_the {K : PySem.W.Frag} {H : Hp} {v : V} {n : Int} {l : List Int} (h : LotAt H v l) (hl : Lot n l) (h0 : 0 ≤ n) (hn : n ≤ 1000) : ThE K H v ∧ Item K H v := by
  obtain ⟨a, rfl, h⟩ := h
  have := lot_len hl h0
  exact ⟨.tup h (fun y hy => by obtain ⟨i, _, rfl⟩ := List.mem_map.mp hy; exact .int _) (by rw [List.length_map]; omega), .tup h⟩
theorem lots_the {K : PySem.W.Frag} {H : Hp} {n : Int} (h0 : 0 ≤ n) (hn : n ≤ 1000) : ∀ {xs : List V} {Ls : List (List Int)}, Paired (LotAt H) xs Ls → (∀ l ∈ Ls, Lot n l) → ∀ x ∈ xs, ThE K H x ∧ Item K H x
  | _, _, .nil, _, x, hx => by cases hx
  | _, _, .cons r t, h, x, hx => by
    rcases List.mem_cons.mp hx with rfl | hx
    · exact lot_the r (h _ (by simp)) h0 hn
    · exact lots_the h0 hn t (fun l hl => h l (by simp [hl])) x hx
section
variable {P : Program} {w : World} {K : PySem.W.Frag} {mg : Str → Option Value} {base : Heap} {C CB CW : Addr}
def sp_long : Sp := fun vs H Q _ => ∃ T, vs = [.ref T] ∧ Sr H T ∧ ∀ H', Q (.bl true) H'
end

end Bs

namespace Bs
open PySem PySem.Spec PyProof.Rows L2
section
variable {P : Program} {w : World} {K : PySem.W.Frag} {mg : Str → Option Value} {base : Heap} {C CB CW : Addr}
def sp_deepE (K : PySem.W.Frag) : Sp := fun vs H Q _ => vs = [] ∧ ∀ p q H', Same H H' → H p = none → H' p = some (.tup [.ref q]) → Item K H' (.ref q) → ThE K H' (.ref q) → Q (.ref p) H'
theorem ok_law_deepE {f : Addr} {fd : FuncData} (F : Fun K "_law_deep" "_law_deep" s__law_deep f fd) (hm : mg "_law_deep" = some (.ref f)) (B : Bl mg) : Cal P w K mg base 1 "_law_deep" [] (sp_deepE K) := by
  refine ⟨f, fd, F.ok sc__law_deep (fun vs H Q E h => ?_) (fun cdv A outer s H vs Q E hr h => ?_), hm, F.kp, F.binds (ps := []) fun _ _ _ _ _ _ us hl => match us, hl with | [], _ => rfl⟩
  · obtain ⟨rfl, _⟩ := h; rfl
  · obtain ⟨rfl, k⟩ := h
    refine ⟨_, (pss_cons (ps_set (i := 0) sc__law_deep.nd rfl (by first | exact Or.inl rfl | exact Or.inr rfl) (pe_tup (pa_cons pe_non pa_nil)))
 (pss_cons (ps_for PassesOwn.never rfl (pi_range1 (by rfl) B.range (pa_cons pe_int pa_nil)) (pg_name (i := 1) sc__law_deep.nd rfl (by first | exact Or.inl rfl | exact Or.inr rfl))
  (pss_one (ps_set (i := 0) sc__law_deep.nd rfl (by first | exact Or.inl rfl | exact Or.inr rfl) (pe_ifExp (pt_cmpR op_lt (pv 1) pe_int (nomark _)) (pe_lst (pa_cons (pv 0) pa_nil)) (pe_tup (pa_cons (pv 0) pa_nil))))))
 (pss_one (ps_ret (pv 0))))), ?_⟩
    refine ⟨(by show 1 ≤ sizeLine; decide), fun p0 hp0 => ?_⟩
    refine ⟨32, rfl, by decide, by decide, for_range (lo := 0) (n := 32) (fun i σ H' => Same H H' ∧ ∃ (p : Addr) (v : Option V), σ = [some (.ref p), v] ∧ H p = none ∧ Item K H' (.ref p) ∧ ThE K H' (.ref p) ∧ (17 ≤ i → ∃ q, H' p = some (.tup [.ref q]) ∧ Item K H' (.ref q) ∧ ThE K H' (.ref q)))
      ⟨L2.Same.new hp0, p0, none, rfl, hp0, .tup upd_same, .tup upd_same (fun x hx => by simp at hx; subst hx; exact .non) (by show 1 ≤ 100000; decide), fun h => by omega⟩ ?_ ?_⟩
    · rintro i σ H1 hi ⟨e1, p, u, rfl, hp, ip, tp, _⟩
      refine ⟨_, rfl, _, _, rfl, rfl, _, rfl, ?_⟩
      show (if decide ((0 : Int) + (i : Nat) < 16) = true then _ else _)
      refine onb (fun c => ?_) (fun c => ?_)
      · refine ⟨_, rfl, (by show 1 ≤ sizeLine; decide), fun z hz => ?_⟩
        exact ⟨e1.new' hz, z, _, rfl, L2.Same.free e1 hz, .lst upd_same, .lst upd_same, fun h => by omega⟩
      · refine ⟨_, rfl, (by show 1 ≤ sizeLine; decide), fun z hz => ?_⟩
        exact ⟨e1.new' hz, z, _, rfl, L2.Same.free e1 hz, .tup upd_same, .tup upd_same (fun x hx => by simp at hx; subst hx; exact ip.ext (L2.Same.new hz)) (by show 1 ≤ 100000; decide), fun _ => ⟨p, upd_same, ip.ext (L2.Same.new hz), tp.ext (L2.Same.new hz)⟩⟩
    · rintro σ H1 ⟨e1, p, u, rfl, hp, _, _, h⟩
      obtain ⟨q, h1, h2, h3⟩ := h (by decide)
      exact ⟨_, rfl, k p q H1 e1 hp h1 h2 h3⟩
/-- things that are there, all of them -/
def TsE (K : PySem.W.Frag) (H : Hp) (xs : List V) : Prop := ∀ x ∈ xs, ThE K H x
theorem TsE.ext {H H' : Hp} {xs : List V} (h : TsE K H xs) (e : Same H H') : TsE K H' xs := fun x hx => (h x hx).ext e
theorem TsE.cut {H : Hp} {xs : List V} (h : TsE K H xs) (lo hi : Option Int) : TsE K H (cutV xs lo hi) := fun x hx => h x (cut_mem hx)
theorem TsE.app {H : Hp} {xs ys : List V} (h : TsE K H xs) (h' : TsE K H ys) : TsE K H (xs ++ ys) := fun x hx => (List.mem_append.mp hx).elim (h x) (h' x)
theorem TsE.one {H : Hp} {x : V} (h : ThE K H x) : TsE K H [x] := fun y hy => by simp at hy; subst hy; exact h
theorem ThT.there {H : Hp} {a : Addr} {xs : List V} (h : H a = some (.tup xs)) (h1 : TsE K H xs) (h2 : xs.length ≤ 100000) : ThT K H (.ref a) ∧ ∀ b, V.ref a = .ref b → H b ≠ none := ⟨.tup h h1 h2, fun b e => by cases e; rw [h]; exact Option.some_ne_none _⟩
end
theorem there_same {H H' : Hp} {v : V} (e : Same H H') (hv : ∀ a, v = .ref a → H a ≠ none) : ∀ a, v = .ref a → H' a ≠ none := fun a ea q => by
  cases c : H a with
  | none => exact hv a ea c
  | some o => rw [e _ _ c] at q; cases q
/-! ## across draws -/
theorem Item.src {K : PySem.W.Frag} {H H' : Hp} {T : Addr} {v : V} (h : Item K H v) (hT : Sr H T) (hT' : Sr H' T) (e : ExT T H H') : Item K H' v := by
  obtain ⟨l, h1⟩ := hT.lst
  obtain ⟨l', h2⟩ := hT'.lst
  exact h.exT e h1 h2
theorem ThE.src {K : PySem.W.Frag} {H H' : Hp} {T : Addr} {v : V} (h : ThE K H v) (hT : Sr H T) (hT' : Sr H' T) (e : ExT T H H') : ThE K H' v := by
  obtain ⟨l, h1⟩ := hT.lst
  obtain ⟨l', h2⟩ := hT'.lst
  refine ⟨h.1.exT e h1 h2 h.2, fun a ea q => ?_⟩
  by_cases ca : a = T
  · rw [ca, h2] at q; cases q
  · cases c : H a with
    | none => exact h.2 a ea c
    | some o => rw [e _ _ ca c] at q; cases q
theorem TsE.src {K : PySem.W.Frag} {H H' : Hp} {T : Addr} {xs : List V} (h : TsE K H xs) (hT : Sr H T) (hT' : Sr H' T) (e : ExT T H H') : TsE K H' xs := fun x hx => (h x hx).src hT hT' e
theorem Typ.src {K : PySem.W.Frag} {H H' : Hp} {T : Addr} {v : V} {n : String} {b : Bool} (h : Typ K H v n b) (hT : Sr H T) (hT' : Sr H' T) (e : ExT T H H') : Typ K H' v n b := by
  obtain ⟨l, h1⟩ := hT.lst
  obtain ⟨l', h2⟩ := hT'.lst
  exact h.exT e h1 h2
theorem there_src {H H' : Hp} {T : Addr} {v : V} (hT' : Sr H' T) (e : ExT T H H') (hv : ∀ a, v = .ref a → H a ≠ none) : ∀ a, v = .ref a → H' a ≠ none := fun a ea q => by
  obtain ⟨l', h2⟩ := hT'.lst
  by_cases ca : a = T
  · rw [ca, h2] at q; cases q
  · cases c : H a with
    | none => exact hv a ea c
    | some o => rw [e _ _ ca c] at q; cases q
theorem ThT.src {K : PySem.W.Frag} {H H' : Hp} {T : Addr} {v : V} (h : ThT K H v) (hT : Sr H T) (hT' : Sr H' T) (e : ExT T H H') (hv : ∀ a, v = .ref a → H a ≠ none) : ThT K H' v := by
  cases h with
  | tup h h1 h2 => exact .tup (hT.tk e _ _ h) (fun x hx => (h1 x hx).src hT hT' e) h2
  | els h h1 =>
    obtain ⟨l', hl'⟩ := hT'.lst
    refine .els (h.src hT hT' e) fun a xs ea q => ?_
    by_cases ca : a = T
    · rw [ca, hl'] at q; cases q
    · cases c : H a with
      | none => exact hv a ea c
      | some o => rw [e _ _ ca c] at q; cases q; exact h1 a xs ea c
theorem ThE.bl {K : PySem.W.Frag} {H : Hp} (x : Bool) : ThE K H (.bl x) := ⟨.bl x, fun _ => V.noConfusion⟩
section
variable {P : Program} {w : World} {K : PySem.W.Frag} {mg : Str → Option Value} {base : Heap} {C CB CW : Addr}
/-- no tuple, and there -/
structure NoT (K : PySem.W.Frag) (H : Hp) (v : V) : Prop where
  it : Item K H v
  th : ThE K H v
  ty : Typ K H v "tuple" false
  no : ∀ a xs, v = .ref a → H a ≠ some (.tup xs)
theorem NoT.same {H H' : Hp} {v : V} (h : NoT K H v) (e : Same H H') : NoT K H' v := ⟨h.it.ext e, h.th.ext e, h.ty.ext e, fun a xs ea q => by
  cases c : H a with
  | none => exact h.th.2 a ea c
  | some o => rw [e _ _ c] at q; cases q; exact h.no a xs ea c⟩
theorem NoT.src {H H' : Hp} {T : Addr} {v : V} (h : NoT K H v) (hT : Sr H T) (hT' : Sr H' T) (e : ExT T H H') : NoT K H' v := ⟨h.it.src hT hT' e, h.th.src hT hT' e, h.ty.src hT hT' e, fun a xs ea q => by
  obtain ⟨l', hl'⟩ := hT'.lst
  by_cases ca : a = T
  · rw [ca, hl'] at q; cases q
  · cases c : H a with
    | none => exact h.th.2 a ea c
    | some o => rw [e _ _ ca c] at q; cases q; exact h.no a xs ea c⟩
def sp_bentS (K : PySem.W.Frag) : Sp := fun vs H Q _ => ∃ (T : Addr) (n : Int) (t : Addr) (Us : List (List Int)) (th : V), vs = [.ref T, .int n, .ref t, th] ∧ Sr H T ∧ LotsUp H t n Us ∧ Us ≠ [] ∧ Us.length ≤ 64 ∧ 1 ≤ n ∧ n ≤ 12 ∧ NoT K H th ∧
  ∀ v H', ExT T H H' → Sr H' T → ThT K H' v → (∀ a, v = .ref a → H' a ≠ none) → Q v H'
end

end Bs

namespace Bs
open PySem PySem.Spec PyProof.Rows L2
section
variable {P : Program} {w : World} {K : PySem.W.Frag} {mg : Str → Option Value} {base : Heap} {C CB CW : Addr}
def sp_List_init (C : Addr) : Sp := fun vs H Q _ => ∃ (x dx : Addr) (n : Int) (t : Addr) (Us : List (List Int)), vs = [.ref x, .int n, .ref t] ∧ H x = some (.ins C dx []) ∧ 1 ≤ n ∧ n ≤ 12 ∧ LotsUp H t n Us ∧ Us ≠ [] ∧ Us.length ≤ 64 ∧ ∀ H', ExT x H H' → H' x = some (.ins C dx (lfV (.int n) (.ref t))) → Q .non H'
theorem ok_List_init {f : Addr} {fd : FuncData} (F : Fun K "__init__" "List.__init__" s_List_init f fd) (B : Bl mg) (T : TxtL K mg C) (c_is_number : Cal P w K mg base 2 "is_number" ["thing", "least", "most"] (sp_inI K)) (c_wrong_stand : Cal P w K mg base 4 "wrong_stand" ["places", "stands"] (sp_wrong_stand K)) : FnOk P w K mg base CX0 5 f fd ["self", "places", "stands"] (sp_List_init C) := by
  refine F.ok sc_List_init (fun vs H Q E h => ?_) (fun cdv A outer s H vs Q E hr h => ?_)
  · obtain ⟨x, dx, n, t, Us, rfl, _⟩ := h; rfl
  · obtain ⟨x, dx, n, t, Us, rfl, hx, n1, n2, hU, hne, hl, k⟩ := h
    obtain ⟨t12, h12⟩ := T.mg_MOST_PLACES
    obtain ⟨t64, h64⟩ := T.mg_MOST_STANDS
    obtain ⟨xs, ht, hp, hlot, hup⟩ := id hU
    have xl := Paired.len hp
    have u1 : 1 ≤ Us.length := by cases Us with | nil => exact absurd rfl hne | cons _ _ => simp
    refine ⟨_, (pss_cons (ps_if (pt_not (pt_val (pe_cal c_is_number (hr.mono (by first | decide | omega)) (pa_cons (pv 1) (pa_cons pe_int (pa_cons (pe_glob (v := .int 12) (by rfl) h12 ⟨_, rfl⟩) pa_nil)))))) (pss_one ps_never) pss_nil)
 (pss_cons (ps_if (PW.pt (pw_or (pt_not (pt_val (pe_callB call_isi (by rfl) B.isinstance (by decide +kernel) (pa_cons (pv 2) (pa_cons (pe_bltn (v := .ty "tuple") (by rfl) B.tuple_ (by decide +kernel) rfl) pa_nil))))) (pw_or1 (pt_not (pt_chain op_le op_le pe_int (pe_callB call_len_seq (by rfl) B.len (by decide +kernel) (pa_cons (pv 2) pa_nil)) (pe_glob (v := .int 64) (by rfl) h64 ⟨_, rfl⟩)))))) (pss_one ps_never) pss_nil)
 (pss_cons (ps_set (i := 3) sc_List_init.nd rfl (by first | exact Or.inl rfl | exact Or.inr rfl) (pe_cal c_wrong_stand (hr.mono (by first | decide | omega)) (pa_cons (pv 1) (pa_cons (pv 2) pa_nil))))
 (pss_cons (ps_if (pt_cmpR op_notN (pv 3) pe_non (nomark _)) (pss_one ps_never) pss_nil)
 (pss_cons (ps_fld (pv 0) (pv 1) rfl)
 (pss_one (ps_fld (pv 0) (pv 2) rfl))))))), ?_⟩
    refine ⟨_, rfl, .int n, 1, 12, rfl, .int n, _, rfl, ?_⟩
    rw [show inI 1 12 (.int n) = true from decide_eq_true ⟨n1, n2⟩]
    refine iteF ?_
    refine ⟨_, rfl, _, _, _, _, true, rfl, .ty "tuple", .base (.tup ht), kit_ty (by decide +kernel), true, rfl, iteF ?_⟩
    refine ⟨_, rfl, t, _, rfl, .inr (SqT.of ht), _, _, rfl, rfl, _, rfl, ?_⟩
    rw [if_pos (decide_eq_true (show (1 : Int) ≤ (xs.length : Int) by omega))]
    refine ⟨_, _, rfl, rfl, _, rfl, ?_⟩
    rw [decide_eq_true (show (xs.length : Int) ≤ 64 by omega)]
    refine iteF ?_
    have okA : LOk H n xs xs.length := ⟨Us, by rw [List.take_length]; exact hp, hlot, hup⟩
    refine ⟨_, rfl, _, rfl, n, t, xs, rfl, ht, fun x hx => (lots_the (by omega) (by omega) hp hlot x hx).1, fun i H1 e1 hi ok nok => (nok (lok_le okA hi)).elim, fun H1 e1 ok => ?_⟩
    refine ⟨_, rfl, rfl, _, rfl, iteF ?_⟩
    refine ⟨_, rfl, _, rfl, x, C, dx, [], rfl, e1 _ _ hx, T.cl, T.nPlaces, (by decide), ?_⟩
    refine ⟨_, rfl, _, rfl, x, C, dx, _, rfl, upd_same, T.cl, T.nStands, (by show 1 < 1000; decide), ?_⟩
    exact k _ (e1.exT.upd.upd) upd_same
/-- List(places, stands) -/
theorem make_list {H : Hp} {n : Int} {t : Addr} {Us : List (List Int)} {Q : Addr → Hp → Prop} (n1 : 1 ≤ n) (n2 : n ≤ 12) (hU : LotsUp H t n Us) (hne : Us ≠ []) (hl : Us.length ≤ 64)
    (k : ∀ x H', Same H H' → H x = none → ListAt C H' x n t Us → Q x H') :
    ∀ x dx, H x = none → H dx = none → dx ≠ x → sp_List_init C (.ref x :: ([.int n, .ref t] ++ [])) (upd (upd H dx (.own x)) x (.ins C dx [])) (fun v H2 => v = .non ∧ Q x H2) E0 := by
  intro x dx nx nd ne
  have s0 : Same H (upd (upd H dx (.own x)) x (.ins C dx [])) := fun b o e => by
    rw [upd_ne (ne_of_none e nx), upd_ne (ne_of_none e nd)]
    exact e
  refine ⟨x, dx, n, t, Us, rfl, upd_same, n1, n2, hU.tk s0.tk, hne, hl, fun H' e' h' => ⟨rfl, ?_⟩⟩
  have s1 : Same H H' := fun b o e => e' _ _ (ne_of_none e nx) (s0 _ _ e)
  exact k x H' s1 nx ⟨⟨dx, h'⟩, hU.tk s1.tk⟩
theorem ListAt.same {H H' : Hp} {x t : Addr} {n : Int} {Us : List (List Int)} (h : ListAt C H x n t Us) (e : Same H H') : ListAt C H' x n t Us := ⟨let ⟨dx, q⟩ := h.1; ⟨dx, e _ _ q⟩, h.2.tk e.tk⟩
theorem ListAt.src {H H' : Hp} {x t T : Addr} {n : Int} {Us : List (List Int)} (h : ListAt C H x n t Us) (hT : Sr H T) (e : ExT T H H') : ListAt C H' x n t Us := by
  obtain ⟨⟨dx, q⟩, hU⟩ := h
  obtain ⟨l, hl⟩ := hT.lst
  exact ⟨⟨dx, e _ _ (fun z => by rw [z, hl] at q; cases q) q⟩, hU.tk (hT.tk e)⟩
theorem ex_same {S : Addr} {H H' : Hp} (e : ExT S H H') (h : H S = none) : Same H H' := fun b o hb => e b o (fun z => by rw [z, h] at hb; cases hb) hb
end
theorem lots_prefix : ∀ {H : Hp} {sv tv y z : V}, LBadIs H sv tv y → LBadIs H sv tv z → y = z := by
  intro H sv tv y z h h'
  rcases h with ⟨h1, rfl⟩ | ⟨h1, h2, rfl⟩ | ⟨n, t, xs, i, rfl, n1, n2, rfl, ht, l1, l2, hi, ok, nok, rfl⟩
  · rcases h' with ⟨_, rfl⟩ | ⟨h2, _⟩ | ⟨n, t, xs, i, rfl, n1, n2, _⟩
    · rfl
    · rw [h1] at h2; cases h2
    · exact absurd ⟨n1, n2⟩ (of_decide_eq_false h1)
  · rcases h' with ⟨h3, _⟩ | ⟨_, _, rfl⟩ | ⟨n, t, xs, i, rfl, n1, n2, rfl, ht, l1, l2, _⟩
    · rw [h1] at h3; cases h3
    · rfl
    · exact absurd ⟨l1, l2⟩ (h2 _ _ rfl ht)
  · rcases h' with ⟨h3, _⟩ | ⟨_, h2, _⟩ | ⟨n', t', xs', j, e1, _, _, e2, ht', _, _, hj, ok', nok', rfl⟩
    · exact absurd ⟨n1, n2⟩ (of_decide_eq_false h3)
    · exact absurd ⟨l1, l2⟩ (h2 _ _ rfl ht)
    · cases e1
      cases e2
      rw [ht] at ht'
      cases ht'
      have h1 : ¬ i < j := fun h => nok (lok_le ok' (by omega))
      have h2 : ¬ j < i := fun h => nok' (lok_le ok (by omega))
      have : i = j := by omega
      rw [this]
theorem lbad_non {H : Hp} {sv tv y : V} (h : LBadIs H sv tv y) : y ≠ .non := by
  rcases h with ⟨_, rfl⟩ | ⟨_, _, rfl⟩ | ⟨_, _, _, _, _, _, _, _, _, _, _, _, _, _, rfl⟩ <;> exact V.noConfusion
/-- how what is wrong is seen -/
theorem lbad_dp {K : PySem.W.Frag} {H : Hp} {sv tv y : V} (h : LBadIs H sv tv y) : ∃ d, (∀ H', Dp K H' y d) ∧ SeqAt.shaped (.tuple [.str "part", d]) = true ∧ PyData.eqv (.tuple [.str "part", d]) (.tuple [.str "part", d]) = true := by
  rcases h with ⟨_, rfl⟩ | ⟨_, _, rfl⟩ | ⟨_, _, _, i, _, _, _, _, _, _, _, _, _, _, rfl⟩
  · exact ⟨_, fun _ => .str _, by decide +kernel, by decide +kernel⟩
  · exact ⟨_, fun _ => .str _, by decide +kernel, by decide +kernel⟩
  · refine ⟨.int i, fun _ => .int _, ?_, by simp [PyData.eqv, PyData.eqvAll]⟩
    show (PyData.canLay0 (.tuple [.str "part", .int i]) && decide (PyData.depth (.tuple [.str "part", .int i]) ≤ 64)) = true
    simp [PyData.canLay0, PyData.canLayAll0, PyData.depth, PyData.depthAll]
    decide +kernel

end Bs

namespace Bs
open PySem PySem.Spec PyProof.Rows L2
section
variable {P : Program} {w : World} {K : PySem.W.Frag} {mg : Str → Option Value} {base : Heap} {C CB CW : Addr}
abbrev s_bits_of : Stmt := (top 8)
theorem sc_bits_of : FnScope ["lot", "bits", "part"] ["lot"] (defScope s_bits_of) := ⟨rfl, rfl, rfl, by decide +kernel, rfl, by decide +kernel, by decide +kernel⟩

theorem ok_bits_of {f : Addr} {fd : FuncData} (F : Fun K "bits_of" "bits_of" s_bits_of f fd) (hm : mg "bits_of" = some (.ref f)) (B : Bl mg) : Cal P w K mg base 1 "bits_of" ["lot"] sp_bits_of := by
  refine ⟨f, fd, F.ok sc_bits_of (fun vs H Q E h => ?_) (fun cdv A outer s H vs Q E hr h => ?_), hm, F.kp, F.binds (ps := ["lot"]) fun _ _ _ _ _ _ us hl => match us, hl with | [_], _ => rfl⟩
  · obtain ⟨t, l, rfl, _⟩ := h; rfl
  · obtain ⟨t, l, rfl, ht, hl, k⟩ := h
    refine ⟨_, (pss_cons (ps_set (i := 1) sc_bits_of.nd rfl (by first | exact Or.inl rfl | exact Or.inr rfl) pe_int)
 (pss_cons (ps_for PassesOwn.never rfl (pi_tup (pv 0)) (pg_name (i := 2) sc_bits_of.nd rfl (by first | exact Or.inl rfl | exact Or.inr rfl))
  (pss_one (ps_aug (i := 1) sc_bits_of.nd rfl (by first | exact Or.inl rfl | exact Or.inr rfl) (pe_op op_shl pe_int (pv 2)) ip_or)))
 (pss_one (ps_ret (pv 1))))), ?_⟩
    refine ⟨_, rfl, t, rfl, ⟨_, SqT.of ht⟩, for_tup (K := K) (a := t) (xs := l.map V.int) (fun i σ H' => H' = H ∧ ∃ v : Option V, σ = [some (.ref t), some (.int (bitsN (l.take i) : Nat)), v])
      ⟨rfl, none, rfl⟩ (fun i σ H' _ p => by rw [p.1]; exact SqT.of ht) ?_ ?_⟩
    · rintro i v σ H' hv ⟨rfl, u, rfl⟩
      obtain ⟨y, hy, rfl⟩ := map_get hv
      have hy2 := hl y (List.mem_of_getElem? hy)
      refine ⟨_, rfl, _, rfl, _, _, rfl, rfl, ⟨hy2.1, by omega, by decide⟩, _, _, rfl, rfl, rfl, some (.int y), ?_⟩
      rw [p2i hy2.1]
      dsimp only
      rw [or_pp, take_snoc hy, bitsN_snoc]
      rfl
    · rintro σ H' ⟨rfl, v, rfl⟩
      rw [show (l.map V.int).length = l.length from List.length_map ..] 
      rw [List.take_length]
      exact ⟨_, rfl, k⟩
end
/-! ## lacks -/
theorem has_bits {n : Int} {l : List Int} (h : Lot n l) (k : Nat) : Has (bitsN l) k ↔ (k : Int) ∈ l := by
  have := bitsN_bit (l := l) (fun x hx => (h.ok x hx).1) k
  show (bitsN l).testBit k = true ↔ _
  rw [this]; simp
theorem andn_zero {a b : Nat} : andn a b = 0 ↔ ∀ k, Has a k → Has b k := by
  constructor
  · intro h k hk
    have e := andn_bit a b k
    rw [h, Nat.zero_testBit, show a.testBit k = true from hk] at e
    cases c : b.testBit k with
    | true => exact c
    | false => rw [c] at e; cases e
  · intro h
    refine Nat.eq_of_testBit_eq fun k => ?_
    rw [andn_bit, Nat.zero_testBit]
    cases c : a.testBit k with
    | false => rfl
    | true => rw [h k c]; rfl
/-- what may stand in a lack -/
structure OddV (K : PySem.W.Frag) (H : Hp) (v : V) : Prop where
  it : Item K H v
  th : ThE K H v
  st : ∃ b, Typ K H v "str" b ∧ (b = true ↔ ∃ s, v = .str s)
theorem OddV.same {K : PySem.W.Frag} {H H' : Hp} {v : V} (h : OddV K H v) (e : Same H H') : OddV K H' v := ⟨h.it.ext e, h.th.ext e, let ⟨b, h1, h2⟩ := h.st; ⟨b, h1.ext e, h2⟩⟩
theorem OddV.src {K : PySem.W.Frag} {H H' : Hp} {T : Addr} {v : V} (h : OddV K H v) (hT : Sr H T) (hT' : Sr H' T) (e : ExT T H H') : OddV K H' v := ⟨h.it.src hT hT' e, h.th.src hT hT' e, let ⟨b, h1, h2⟩ := h.st; ⟨b, h1.src hT hT' e, h2⟩⟩
/-- a tuple of such things, or no tuple -/
inductive ThO (K : PySem.W.Frag) (H : Hp) : V → Prop where
  | tup {a : Addr} {xs : List V} (h : H a = some (.tup xs)) (h1 : ∀ x ∈ xs, OddV K H x) (h2 : xs.length ≤ 1000) : ThO K H (.ref a)
  | els {v : V} (h : NoT K H v) : ThO K H v
def major (la lb lc : List Int) (p : Int) : Prop := (p ∈ la ∧ p ∈ lb) ∨ (p ∈ la ∧ p ∈ lc) ∨ (p ∈ lb ∧ p ∈ lc)
def NeverIs (n : Int) (Us : List (List Int)) (xs : List V) : Prop := ∃ p : Int, xs = [.str "never", .int p] ∧ 0 ≤ p ∧ p < n ∧ ∀ l ∈ Us, p ∉ l
def ThreeIs (Us : List (List Int)) (xs : List V) : Prop := ∃ (a b c : Nat) (la lb lc : List Int), xs = [.str "three", .int a, .int b, .int c] ∧ a < b ∧ b < c ∧ Us[a]? = some la ∧ Us[b]? = some lb ∧ Us[c]? = some lc ∧ ∀ l ∈ Us, ¬ ∀ p, major la lb lc p → p ∈ l
theorem major_bits {n : Int} {la lb lc l : List Int} (ha : Lot n la) (hb : Lot n lb) (hc : Lot n lc) (hl : Lot n l) : (∀ k, Has (bitsN la &&& bitsN lb ||| bitsN la &&& bitsN lc ||| bitsN lb &&& bitsN lc) k → Has (bitsN l) k) ↔ ∀ p, major la lb lc p → p ∈ l := by
  have key : ∀ k : Nat, Has (bitsN la &&& bitsN lb ||| bitsN la &&& bitsN lc ||| bitsN lb &&& bitsN lc) k ↔ major la lb lc (k : Int) := fun k => by
    rw [has_or, has_or, has_and, has_and, has_and, has_bits ha, has_bits hb, has_bits hc]
    unfold major
    rw [or_assoc]
  constructor
  · intro h p hp
    have p0 : 0 ≤ p := by
      rcases hp with h | h | h
      · exact (ha.ok p h.1).1
      · exact (ha.ok p h.1).1
      · exact (hb.ok p h.1).1
    obtain ⟨k, rfl⟩ : ∃ k : Nat, p = (k : Int) := ⟨p.toNat, by omega⟩
    exact (has_bits hl k).mp (h k ((key k).mpr hp))
  · intro h k hk
    exact (has_bits hl k).mpr (h _ ((key k).mp hk))
section
variable {P : Program} {w : World} {K : PySem.W.Frag} {mg : Str → Option Value} {base : Heap} {C CB CW : Addr}
def sp_shown (C : Addr) : Sp := fun vs H Q _ => ∃ (x : Addr) (n : Int) (t : Addr) (Us : List (List Int)) (p : Int), vs = [.ref x, .int p] ∧ ListAt C H x n t Us ∧ ∀ b, (b = true ↔ ∃ l ∈ Us, p ∈ l) → Q (.bl b) H
abbrev s_is_shown : Stmt := (top 19)
theorem sc_is_shown : FnScope ["a_list", "place", "stand"] ["a_list", "place"] (defScope s_is_shown) := ⟨rfl, rfl, rfl, by decide +kernel, rfl, by decide +kernel, by decide +kernel⟩

theorem ok_is_shown {f : Addr} {fd : FuncData} (F : Fun K "is_shown" "is_shown" s_is_shown f fd) (hm : mg "is_shown" = some (.ref f)) (B : Bl mg) (T : TxtL K mg C) : Cal P w K mg base 1 "is_shown" ["a_list", "place"] (sp_shown C) := by
  refine ⟨f, fd, F.ok sc_is_shown (fun vs H Q E h => ?_) (fun cdv A outer s H vs Q E hr h => ?_), hm, F.kp, F.binds (ps := ["a_list", "place"]) fun _ _ _ _ _ _ us hl => match us, hl with | [_, _], _ => rfl⟩
  · obtain ⟨x, n, t, Us, p, rfl, _⟩ := h; rfl
  · obtain ⟨x, n, t, Us, p, rfl, ⟨⟨dx, h1⟩, xs, h4, h5, _⟩, k⟩ := h
    refine ⟨_, (pss_cons (ps_for PassesOwn.never rfl (pi_tup (pe_fld (pv 0) rfl)) (pg_name (i := 2) sc_is_shown.nd rfl (by first | exact Or.inl rfl | exact Or.inr rfl))
  (pss_one (ps_if (pt_cmpR op_in_seq (pv 1) (pv 2) (by rfl)) (pss_one (ps_ret pe_bl)) pss_nil)))
 (pss_one (ps_ret pe_bl))), ?_⟩
    refine ⟨_, rfl, x, C, dx, _, _, rfl, h1, T.cl, T.nStands, lf_stands _ _, t, rfl, ⟨_, SqT.of h4⟩, for_tup (K := K) (a := t) (xs := xs) (fun i σ H' => H' = H ∧ (∃ v : Option V, σ = [some (.ref x), some (.int p), v]) ∧ ∀ l ∈ Us.take i, p ∉ l)
      ⟨rfl, ⟨none, rfl⟩, by simp⟩ (fun i σ H' _ q => by rw [q.1]; exact SqT.of h4) ?_ ?_⟩
    · rintro i v σ H' hv ⟨rfl, ⟨u, rfl⟩, hno⟩
      obtain ⟨l, hl, a, rfl, ha⟩ := Paired.get h5 hv
      refine ⟨_, rfl, _, rfl, a, _, rfl, .inr (SqT.of ha), rfl, flat_ints l, _, rfl, ?_⟩
      rw [inV_ints]
      cases c : decide (p ∈ l) with
      | true => exact iteT (k true ⟨fun _ => ⟨l, List.mem_of_getElem? hl, of_decide_eq_true c⟩, fun _ => rfl⟩)
      | false =>
        refine iteF ⟨rfl, ⟨_, rfl⟩, fun m hm => ?_⟩
        rw [take_snoc hl] at hm
        rcases List.mem_append.mp hm with h | h
        · exact hno m h
        · simp at h; subst h; exact of_decide_eq_false c
    · rintro σ H' ⟨rfl, _, hno⟩
      rw [Paired.len h5, List.take_length] at hno
      exact k false ⟨fun e => (by cases e), fun ⟨l, h1, h2⟩ => (hno l h1 h2).elim⟩
def sp_are_held : Sp := fun vs H Q _ => ∃ (p : Addr) (bs : List Nat) (m : Nat), vs = [.ref p, .int (m : Nat)] ∧ H p = some (.lst (nints bs)) ∧ ∀ b, (b = true ↔ ∃ c ∈ bs, ∀ k, Has m k → Has c k) → Q (.bl b) H
abbrev s_are_held : Stmt := (top 20)
theorem sc_are_held : FnScope ["held", "places", "bits"] ["held", "places"] (defScope s_are_held) := ⟨rfl, rfl, rfl, by decide +kernel, rfl, by decide +kernel, by decide +kernel⟩

theorem ok_are_held {f : Addr} {fd : FuncData} (F : Fun K "are_held" "are_held" s_are_held f fd) (hm : mg "are_held" = some (.ref f)) (B : Bl mg) : Cal P w K mg base 1 "are_held" ["held", "places"] sp_are_held := by
  refine ⟨f, fd, F.ok sc_are_held (fun vs H Q E h => ?_) (fun cdv A outer s H vs Q E hr h => ?_), hm, F.kp, F.binds (ps := ["held", "places"]) fun _ _ _ _ _ _ us hl => match us, hl with | [_, _], _ => rfl⟩
  · obtain ⟨p, bs, m, rfl, _⟩ := h; rfl
  · obtain ⟨p, bs, m, rfl, hp, k⟩ := h
    refine ⟨_, (pss_cons (ps_for PassesOwn.never rfl (pi_list (pv 0)) (pg_name (i := 2) sc_are_held.nd rfl (by first | exact Or.inl rfl | exact Or.inr rfl))
  (pss_one (ps_if (pt_not (pt_truth (pe_op op_and (pv 1) (pe_un un_inv (pv 2))) (by intro _; rfl))) (pss_one (ps_ret pe_bl)) pss_nil)))
 (pss_one (ps_ret pe_bl))), ?_⟩
    refine ⟨_, rfl, p, rfl, ⟨_, SqL.of hp⟩, for_list (K := K) (a := p) (xs := nints bs) (fun i σ H' => H' = H ∧ (∃ v : Option V, σ = [some (.ref p), some (.int (m : Nat)), v]) ∧ ∀ c ∈ bs.take i, ¬ ∀ k, Has m k → Has c k)
      ⟨rfl, ⟨none, rfl⟩, by simp⟩ (fun i σ H' _ q => by rw [q.1]; exact SqL.of hp) ?_ ?_⟩
    · rintro i v σ H' hv ⟨rfl, ⟨u, rfl⟩, hno⟩
      obtain ⟨c, hc, rfl⟩ : ∃ c, bs[i]? = some c ∧ V.int (c : Nat) = v := by
        unfold nints at hv
        rw [List.getElem?_map] at hv
        exact Option.map_eq_some_iff.mp hv
      refine ⟨_, rfl, _, rfl, _, rfl, _, _, rfl, rfl, _, rfl, ?_⟩
      rw [and_inv]
      by_cases z : andn m c = 0
      · rw [z]
        refine iteT (k true ⟨fun _ => ⟨c, List.mem_of_getElem? hc, andn_zero.mp z⟩, fun _ => rfl⟩)
      · rw [show (((andn m c : Nat) : Int) != 0) = true from by simpa using z]
        refine iteF ⟨rfl, ⟨_, rfl⟩, fun m' hm => ?_⟩
        rw [take_snoc hc] at hm
        rcases List.mem_append.mp hm with h | h
        · exact hno m' h
        · simp at h; subst h; exact fun q => z (andn_zero.mpr q)
    · rintro σ H' ⟨rfl, _, hno⟩
      rw [show (nints bs).length = bs.length from List.length_map .., List.take_length] at hno
      exact k false ⟨fun e => (by cases e), fun ⟨l, h1, h2⟩ => (hno l h1 h2).elim⟩
def sp_mostly : Sp := fun vs H Q _ => ∃ (p : Addr) (bs : List Nat) (a b c x y z : Nat), vs = [.ref p, .int (a : Nat), .int (b : Nat), .int (c : Nat)] ∧ H p = some (.lst (nints bs)) ∧ bs[a]? = some x ∧ bs[b]? = some y ∧ bs[c]? = some z ∧ Q (.int (((x &&& y) ||| (x &&& z) ||| (y &&& z) : Nat) : Int)) H
abbrev s_mostly : Stmt := (top 21)
theorem sc_mostly : FnScope ["held", "a", "b", "c"] ["held", "a", "b", "c"] (defScope s_mostly) := ⟨rfl, rfl, rfl, by decide +kernel, rfl, by decide +kernel, by decide +kernel⟩

theorem ok_mostly {f : Addr} {fd : FuncData} (F : Fun K "mostly" "mostly" s_mostly f fd) (hm : mg "mostly" = some (.ref f)) (B : Bl mg) : Cal P w K mg base 1 "mostly" ["held", "a", "b", "c"] sp_mostly := by
  refine ⟨f, fd, F.ok sc_mostly (fun vs H Q E h => ?_) (fun cdv A outer s H vs Q E hr h => ?_), hm, F.kp, F.binds (ps := ["held", "a", "b", "c"]) fun _ _ _ _ _ _ us hl => match us, hl with | [_, _, _, _], _ => rfl⟩
  · obtain ⟨p, bs, a, b, c, x, y, z, rfl, _⟩ := h; rfl
  · obtain ⟨p, bs, a, b, c, x, y, z, rfl, hp, hx, hy, hz, k⟩ := h
    refine ⟨_, (pss_one (ps_ret (pe_op op_or (pe_op op_or (pe_op op_and (pe_ix ix_list (pv 0) (pv 1) (fun _ _ => rfl)) (pe_ix ix_list (pv 0) (pv 2) (fun _ _ => rfl))) (pe_op op_and (pe_ix ix_list (pv 0) (pv 1) (fun _ _ => rfl)) (pe_ix ix_list (pv 0) (pv 3) (fun _ _ => rfl)))) (pe_op op_and (pe_ix ix_list (pv 0) (pv 2) (fun _ _ => rfl)) (pe_ix ix_list (pv 0) (pv 3) (fun _ _ => rfl)))))), ?_⟩
    have ix : ∀ {i v : Nat}, bs[i]? = some v → (nints bs)[i]? = some (.int (v : Nat)) := fun h => by unfold nints; rw [List.getElem?_map, h]; rfl
    refine ⟨_, rfl, _, rfl, p, _, _, _, rfl, rfl, SqL.of hp, at_of (j := a) (by omega) (ix hx), ?_⟩
    refine ⟨_, rfl, _, rfl, p, _, _, _, rfl, rfl, SqL.of hp, at_of (j := b) (by omega) (ix hy), ?_⟩
    refine ⟨_, _, rfl, rfl, ?_⟩
    refine ⟨_, rfl, _, rfl, p, _, _, _, rfl, rfl, SqL.of hp, at_of (j := a) (by omega) (ix hx), ?_⟩
    refine ⟨_, rfl, _, rfl, p, _, _, _, rfl, rfl, SqL.of hp, at_of (j := c) (by omega) (ix hz), ?_⟩
    refine ⟨_, _, rfl, rfl, ?_⟩
    refine ⟨_, _, rfl, rfl, ?_⟩
    refine ⟨_, rfl, _, rfl, p, _, _, _, rfl, rfl, SqL.of hp, at_of (j := b) (by omega) (ix hy), ?_⟩
    refine ⟨_, rfl, _, rfl, p, _, _, _, rfl, rfl, SqL.of hp, at_of (j := c) (by omega) (ix hz), ?_⟩
    refine ⟨_, _, rfl, rfl, ?_⟩
    refine ⟨_, _, rfl, rfl, ?_⟩
    rw [and_pp, and_pp, and_pp, or_pp]
    show Q (V.int (Builtin.bitOr _ _)) H
    rw [or_pp]
    exact k
def sp_is_never (K : PySem.W.Frag) (C : Addr) : Sp := fun vs H Q _ => ∃ (x : Addr) (n : Int) (t : Addr) (Us : List (List Int)) (a : Addr) (xs : List V) (s : Str), vs = [.ref x, .ref a] ∧ ListAt C H x n t Us ∧ H a = some (.tup xs) ∧ (∀ y ∈ xs, OddV K H y) ∧ xs[0]? = some (.str s) ∧ ∀ b, (b = true ↔ NeverIs n Us xs) → Q (.bl b) H
abbrev s_is_never : Stmt := (top 22)
theorem sc_is_never : FnScope ["a_list", "thing"] ["a_list", "thing"] (defScope s_is_never) := ⟨rfl, rfl, rfl, by decide +kernel, rfl, by decide +kernel, by decide +kernel⟩

theorem ok_is_never {f : Addr} {fd : FuncData} (F : Fun K "is_never" "is_never" s_is_never f fd) (hm : mg "is_never" = some (.ref f)) (B : Bl mg) (T : TxtL K mg C) (c_is_number : Cal P w K mg base 2 "is_number" ["thing", "least", "most"] (sp_inI K)) (c_is_shown : Cal P w K mg base 1 "is_shown" ["a_list", "place"] (sp_shown C)) : Cal P w K mg base 3 "is_never" ["a_list", "thing"] (sp_is_never K C) := by
  refine ⟨f, fd, F.ok sc_is_never (fun vs H Q E h => ?_) (fun cdv A outer s H vs Q E hr h => ?_), hm, F.kp, F.binds (ps := ["a_list", "thing"]) fun _ _ _ _ _ _ us hl => match us, hl with | [_, _], _ => rfl⟩
  · obtain ⟨x, n, t, Us, a, xs, s, rfl, _⟩ := h; rfl
  · obtain ⟨x, n, t, Us, a, xs, st, rfl, L, ha, hxs, h0, k⟩ := h
    obtain ⟨⟨dx, h1⟩, us, h4, h5, _⟩ := id L
    refine ⟨_, (pss_cons (ps_if (PW.pt (pw_or (pt_cmpR op_ne (pe_callB call_len_seq (by rfl) B.len (by decide +kernel) (pa_cons (pv 1) pa_nil)) pe_int (nomark _)) (pw_or1 (pt_not (pt_val (pe_cal c_is_number (hr.mono (by first | decide | omega)) (pa_cons (pe_ix ix_tup (pv 1) pe_int (fun _ _ => rfl)) (pa_cons pe_int (pa_cons (pe_op op_sub (pe_fld (pv 0) rfl) pe_int) pa_nil))))))))) (pss_one (ps_ret pe_bl)) pss_nil)
 (pss_one (ps_ret (pe_and (pe_cmpR op_eq (pe_ix ix_tup (pv 1) pe_int (fun _ _ => rfl)) pe_str (nomark _)) (pe_one (pe_not (pe_cal c_is_shown (hr.mono (by first | decide | omega)) (pa_cons (pv 0) (pa_cons (pe_ix ix_tup (pv 1) pe_int (fun _ _ => rfl)) pa_nil))))))))), ?_⟩
    refine ⟨_, rfl, a, _, rfl, .inr (SqT.of ha), rfl, _, rfl, ?_⟩
    by_cases c2 : xs.length = 2
    · obtain ⟨u, v, rfl⟩ : ∃ u v, xs = [u, v] := by
        match xs, c2 with
        | [u, v], _ => exact ⟨u, v, rfl⟩
      simp at h0
      subst h0
      rw [show (!decide (V.int (([V.str st, v].length : Nat) : Int) = V.int 2)) = false from by simp]
      refine iteF ?_
      have ov := hxs v (by simp)
      refine ⟨_, rfl, a, _, _, _, rfl, rfl, SqT.of ha, rfl, _, rfl, x, C, dx, _, _, rfl, h1, T.cl, T.nPlaces, lf_places _ _, _, _, rfl, rfl, v, 0, n - 1, rfl, ov.it, _, rfl, ?_⟩
      cases c : inI 0 (n - 1) v with
      | false =>
        refine iteT (k false ⟨fun e => (by cases e), ?_⟩)
        rintro ⟨p, e, p0, p1, _⟩
        simp at e
        rw [e.2] at c
        exact absurd ⟨p0, by omega⟩ (of_decide_eq_false c)
      | true =>
        obtain ⟨p, rfl, p0, p1⟩ := inI_ex c
        refine iteF ?_
        refine ⟨_, rfl, a, _, _, _, rfl, rfl, SqT.of ha, rfl, rfl, ?_⟩
        refine ⟨_, rfl, ?_⟩
        show (if decide (V.str st = V.str "never") = true then _ else _)
        refine onb (fun cs => ?_) (fun cs => k false ⟨fun e => (by cases e), ?_⟩)
        · cases cs
          refine ⟨_, rfl, _, rfl, a, _, _, _, rfl, rfl, SqT.of ha, rfl, x, n, t, Us, p, rfl, L, fun b hb => ⟨b, rfl, ?_⟩⟩
          refine k (!b) ⟨fun e => ⟨p, rfl, p0, by omega, fun l hl hp => ?_⟩, ?_⟩
          · have := hb.mpr ⟨l, hl, hp⟩
            rw [this] at e; cases e
          · rintro ⟨p', e, _, _, hno⟩
            simp at e
            subst e
            cases b with
            | false => rfl
            | true => obtain ⟨l, hl, hp⟩ := hb.mp rfl; exact (hno l hl hp).elim
        · rintro ⟨p', e, _⟩
          simp at e
          exact (cs (by rw [e.1])).elim
    · rw [show (!decide (V.int ((xs.length : Nat) : Int) = V.int 2)) = true from by simp; omega]
      refine iteT (iteT (k false ⟨fun e => (by cases e), ?_⟩))
      rintro ⟨p, e, _⟩
      rw [e] at c2
      exact absurd rfl c2
def sp_is_three (K : PySem.W.Frag) (C : Addr) : Sp := fun vs H Q _ => ∃ (x : Addr) (n : Int) (t : Addr) (Us : List (List Int)) (a : Addr) (xs : List V) (s : Str), vs = [.ref x, .ref a] ∧ ListAt C H x n t Us ∧ n ≤ 12 ∧ Us.length ≤ 64 ∧ H a = some (.tup xs) ∧ (∀ y ∈ xs, OddV K H y) ∧ xs[0]? = some (.str s) ∧ ∀ b H', Same H H' → (b = true ↔ ThreeIs Us xs) → Q (.bl b) H'
abbrev s_is_three : Stmt := (top 23)
theorem sc_is_three : FnScope ["a_list", "thing", "stand", "held"] ["a_list", "thing"] (defScope s_is_three) := ⟨rfl, rfl, rfl, by decide +kernel, rfl, by decide +kernel, by decide +kernel⟩

theorem ok_is_three {f : Addr} {fd : FuncData} (F : Fun K "is_three" "is_three" s_is_three f fd) (hm : mg "is_three" = some (.ref f)) (B : Bl mg) (T : TxtL K mg C) (c_is_lot_below : Cal P w K mg base 3 "is_lot_below" ["size", "thing"] (sp_is_lot_belowA K)) (c_bits_of : Cal P w K mg base 1 "bits_of" ["lot"] sp_bits_of) (c_are_held : Cal P w K mg base 1 "are_held" ["held", "places"] sp_are_held) (c_mostly : Cal P w K mg base 1 "mostly" ["held", "a", "b", "c"] sp_mostly) : Cal P w K mg base 4 "is_three" ["a_list", "thing"] (sp_is_three K C) := by
  refine ⟨f, fd, F.ok sc_is_three (fun vs H Q E h => ?_) (fun cdv A outer s H vs Q E hr h => ?_), hm, F.kp, F.binds (ps := ["a_list", "thing"]) fun _ _ _ _ _ _ us hl => match us, hl with | [_, _], _ => rfl⟩
  · obtain ⟨x, n, t, Us, a, xs, s, rfl, _⟩ := h; rfl
  · obtain ⟨x, n, t, Us, a, xs, st, rfl, L, n12, h64, ha, hxs, h0, k⟩ := h
    obtain ⟨⟨dx, h1⟩, us, h4, h5, hlot, _⟩ := id L
    have ul := Paired.len h5
    refine ⟨_, (pss_cons (ps_if (PW.pt (pw_or (pt_cmpR op_ne (pe_callB call_len_seq (by rfl) B.len (by decide +kernel) (pa_cons (pv 1) pa_nil)) pe_int (nomark _)) (pw_or1 (pt_cmpR op_ne (pe_ix ix_tup (pv 1) pe_int (fun _ _ => rfl)) pe_str (nomark _))))) (pss_one (ps_ret pe_bl)) pss_nil)
 (pss_cons (ps_if (pt_not (pt_val (pe_cal c_is_lot_below (hr.mono (by first | decide | omega)) (pa_cons (pe_callB call_len_seq (by rfl) B.len (by decide +kernel) (pa_cons (pe_fld (pv 0) rfl) pa_nil)) (pa_cons (pe_slice sl_tupA (pv 1) (po_some pe_int) po_none) pa_nil))))) (pss_one (ps_ret pe_bl)) pss_nil)
 (pss_cons (ps_setLc (i := 3) (own := [("stand", 2)]) (by rfl) sc_is_three.nd rfl rfl (sw_true rfl rfl rfl (by decide +kernel)) (pi_tup (pe_fld (pv 0) rfl)) (blkOk_by (own := [("stand", 2)]) (N := ["a_list", "thing", "stand", "held"]) (sc := defScope s_is_three) (by decide +kernel)) (fun _ _ _ _ _ => (pg_name (i := 2) sc_is_three.nd rfl (by first | exact Or.inl rfl | exact Or.inr rfl))) (fun _ _ _ _ _ => pts_nil) (fun _ _ _ _ _ => (pe_cal c_bits_of (hr.mono (by first | decide | omega)) (pa_cons (pv 2) pa_nil))))
 (pss_one (ps_ret (pe_not (pe_cal c_are_held (hr.mono (by first | decide | omega)) (pa_cons (pv 3) (pa_cons (pe_cal c_mostly (hr.mono (by first | decide | omega)) (pa_cons (pv 3) (pa_cons (pe_ix ix_tup (pv 1) pe_int (fun _ _ => rfl)) (pa_cons (pe_ix ix_tup (pv 1) pe_int (fun _ _ => rfl)) (pa_cons (pe_ix ix_tup (pv 1) pe_int (fun _ _ => rfl)) pa_nil))))) pa_nil))))))))), ?_⟩
    refine ⟨_, rfl, a, _, rfl, .inr (SqT.of ha), rfl, _, rfl, ?_⟩
    by_cases c4 : xs.length = 4
    · obtain ⟨u0, u1, u2, u3, rfl⟩ : ∃ u0 u1 u2 u3, xs = [u0, u1, u2, u3] := by
        match xs, c4 with
        | [u0, u1, u2, u3], _ => exact ⟨u0, u1, u2, u3, rfl⟩
      simp at h0
      subst h0
      rw [show (!decide (V.int (([V.str st, u1, u2, u3].length : Nat) : Int) = V.int 4)) = false from by simp]
      refine iteF ?_
      refine ⟨_, rfl, a, _, _, _, rfl, rfl, SqT.of ha, rfl, rfl, _, rfl, ?_⟩
      show (if (!decide (V.str st = V.str "three")) = true then _ else _)
      refine onbN (fun cs => k false H (L2.Same.refl H) ⟨fun e => (by cases e), ?_⟩) (fun cs => ?_)
      · rintro ⟨p, q, r, _, _, _, e, _⟩
        simp at e
        exact (cs (by rw [e.1])).elim
      cases cs
      refine ⟨_, rfl, x, C, dx, _, _, rfl, h1, T.cl, T.nStands, lf_stands _ _, t, _, rfl, .inr (SqT.of h4), _, rfl, _, rfl, sl_from ha fun p9 H9 s9 hp9 => ?_⟩
      have e3 : cutV [V.str "three", u1, u2, u3] (some 1) none = [u1, u2, u3] := rfl
      rw [e3] at hp9
      refine ⟨_, _, rfl, .tup hp9 (fun y hy => ((hxs y (List.mem_cons_of_mem _ hy)).same s9).it) (by show 3 ≤ 100000; decide), fun b hb => ⟨b, rfl, ?_⟩⟩
      cases b with
      | false =>
        refine iteT (k false H9 s9 ⟨fun e => (by cases e), ?_⟩)
        rintro ⟨p, q, r, la, lb, lc, e, pq, qr, ga, gb, gc, _⟩
        simp at e
        obtain ⟨rfl, rfl, rfl⟩ := e
        have gl := (List.getElem?_eq_some_iff.mp gc).1
        have := hb.mpr ⟨p9, [(p : Int), (q : Int), (r : Int)], rfl, hp9, by simp; omega, fun x hx => by simp at hx; rcases hx with rfl | rfl | rfl <;> omega⟩
        cases this
      | true =>
        obtain ⟨p', l, e, hl, lot⟩ := hb.mp rfl
        cases e
        have el := tup_inj hp9 hl
        obtain ⟨i1, i2, i3, rfl⟩ : ∃ i1 i2 i3, l = [i1, i2, i3] := by
          match l, el with
          | [i1, i2, i3], _ => exact ⟨i1, i2, i3, rfl⟩
        simp at el
        obtain ⟨rfl, rfl, rfl⟩ := el
        have b1 := lot.ok i1 (by simp)
        have b2 := lot.ok i2 (by simp)
        have b3 := lot.ok i3 (by simp)
        have up := lot.up
        simp at up
        obtain ⟨j1, rfl⟩ : ∃ j : Nat, i1 = (j : Int) := ⟨i1.toNat, by omega⟩
        obtain ⟨j2, rfl⟩ : ∃ j : Nat, i2 = (j : Int) := ⟨i2.toNat, by omega⟩
        obtain ⟨j3, rfl⟩ : ∃ j : Nat, i3 = (j : Int) := ⟨i3.toNat, by omega⟩
        refine iteF ?_
        have h49 := s9 _ _ h4
        have h59 := paired_imp (fun _ _ h => LotAt.tk h s9.tk) h5
        refine ⟨_, rfl, x, C, dx, _, _, rfl, s9 _ _ h1, T.cl, T.nStands, lf_stands _ _, t, rfl, ⟨_, SqT.of h49⟩, fun D hD => lc_data walk_tup Us ul.symm (fun _ => true) (fun _ v l => v = .int (bitsN l : Nat)) (fun _ _ _ _ _ q => q) hD (fun H' e => SqT.of (e _ _ h49)) (Nat.lt_of_le_of_lt h64 (by decide)) ?_ (fun _ _ _ _ _ y => yat_same y) ?_⟩
        · rintro i l v H3 H4 Ny Nn hli e3 ⟨rfl, hv⟩ kE kN
          obtain ⟨la, rfl, hla⟩ := paired_at h59 hv hli
          have lotl := hlot l (List.mem_of_getElem? hli)
          refine ⟨rfl, yes_if ?_⟩
          exact ⟨_, rfl, la, l, rfl, e3 _ _ hla, fun y hy => by have := lotl.ok y hy; omega, kE _ _ rfl (L2.Same.refl _) rfl⟩
        · intro ys H6 e6 hys hpr
          rw [filter_yes] at hpr
          have ey := paired_eq (g := fun l : List Int => V.int (bitsN l : Nat)) hpr
          have ey2 : ys = nints (Us.map bitsN) := by rw [ey]; unfold nints; rw [List.map_map]; rfl
          subst ey2
          have s6 := s9.trans e6
          have ha6 := s6 _ _ ha
          obtain ⟨la, ga⟩ : ∃ la, Us[j1]? = some la := ⟨_, List.getElem?_eq_getElem (show j1 < Us.length by omega)⟩
          obtain ⟨lb, gb⟩ : ∃ la, Us[j2]? = some la := ⟨_, List.getElem?_eq_getElem (show j2 < Us.length by omega)⟩
          obtain ⟨lc, gc⟩ : ∃ la, Us[j3]? = some la := ⟨_, List.getElem?_eq_getElem (show j3 < Us.length by omega)⟩
          have bm : ∀ {j l}, Us[j]? = some l → (Us.map bitsN)[j]? = some (bitsN l) := fun h => by rw [List.getElem?_map, h]; rfl
          refine ⟨_, rfl, _, rfl, _, rfl, a, _, _, _, rfl, rfl, SqT.of ha6, rfl, _, rfl, a, _, _, _, rfl, rfl, SqT.of ha6, rfl, _, rfl, a, _, _, _, rfl, rfl, SqT.of ha6, rfl, ?_⟩
          refine ⟨D, _, j1, j2, j3, _, _, _, rfl, hys, bm ga, bm gb, bm gc, ?_⟩
          refine ⟨D, _, _, rfl, hys, fun b hb => ⟨b, rfl, ?_⟩⟩
          have lots := fun {j : Nat} {l : List Int} (h : Us[j]? = some l) => hlot l (List.mem_of_getElem? h)
          have hb2 : b = true ↔ ∃ l ∈ Us, ∀ p, major la lb lc p → p ∈ l := hb.trans ⟨fun ⟨c, hc, q⟩ => by
            obtain ⟨l, hl, rfl⟩ := List.mem_map.mp hc
            exact ⟨l, hl, (major_bits (lots ga) (lots gb) (lots gc) (hlot l hl)).mp q⟩, fun ⟨l, hl, q⟩ => ⟨_, List.mem_map.mpr ⟨l, hl, rfl⟩, (major_bits (lots ga) (lots gb) (lots gc) (hlot l hl)).mpr q⟩⟩
          refine k (!b) H6 s6 ⟨fun e => ⟨j1, j2, j3, la, lb, lc, rfl, by omega, by omega, ga, gb, gc, fun l hl q => ?_⟩, ?_⟩
          · rw [hb2.mpr ⟨l, hl, q⟩] at e; cases e
          · rintro ⟨p, q, r, la', lb', lc', e, _, _, ga', gb', gc', hno⟩
            simp at e
            obtain ⟨e1, e2, e3⟩ := e
            obtain rfl : j1 = p := by omega
            obtain rfl : j2 = q := by omega
            obtain rfl : j3 = r := by omega
            cases ga.symm.trans ga'
            cases gb.symm.trans gb'
            cases gc.symm.trans gc'
            cases b with
            | false => rfl
            | true => obtain ⟨l, hl, q⟩ := hb2.mp rfl; exact (hno l hl q).elim
    · rw [show (!decide (V.int ((xs.length : Nat) : Int) = V.int 4)) = true from by simp; omega]
      refine iteT (iteT (k false H (L2.Same.refl H) ⟨fun e => (by cases e), ?_⟩))
      rintro ⟨p, q, r, _, _, _, e, _⟩
      rw [e] at c4
      exact absurd rfl c4
def sp_is_lack (K : PySem.W.Frag) (C : Addr) : Sp := fun vs H Q _ => ∃ (x : Addr) (n : Int) (t : Addr) (Us : List (List Int)) (v : V), vs = [.ref x, v] ∧ ListAt C H x n t Us ∧ n ≤ 12 ∧ Us.length ≤ 64 ∧ ThO K H v ∧ ∀ b H', Same H H' → (b = true ↔ ∃ a xs, v = .ref a ∧ H a = some (.tup xs) ∧ (NeverIs n Us xs ∨ ThreeIs Us xs)) → Q (.bl b) H'
abbrev s_is_lack : Stmt := (top 24)
theorem sc_is_lack : FnScope ["a_list", "thing"] ["a_list", "thing"] (defScope s_is_lack) := ⟨rfl, rfl, rfl, by decide +kernel, rfl, by decide +kernel, by decide +kernel⟩

theorem ok_is_lack {f : Addr} {fd : FuncData} (F : Fun K "is_lack" "is_lack" s_is_lack f fd) (hm : mg "is_lack" = some (.ref f)) (B : Bl mg) (c_is_never : Cal P w K mg base 3 "is_never" ["a_list", "thing"] (sp_is_never K C)) (c_is_three : Cal P w K mg base 4 "is_three" ["a_list", "thing"] (sp_is_three K C)) : Cal P w K mg base 5 "is_lack" ["a_list", "thing"] (sp_is_lack K C) := by
  refine ⟨f, fd, F.ok sc_is_lack (fun vs H Q E h => ?_) (fun cdv A outer s H vs Q E hr h => ?_), hm, F.kp, F.binds (ps := ["a_list", "thing"]) fun _ _ _ _ _ _ us hl => match us, hl with | [_, _], _ => rfl⟩
  · obtain ⟨x, n, t, Us, v, rfl, _⟩ := h; rfl
  · obtain ⟨x, n, t, Us, v, rfl, L, n12, h64, tv, k⟩ := h
    refine ⟨_, (pss_cons (ps_if (PW.pt (pw_or (pt_not (pt_val (pe_callB call_isi (by rfl) B.isinstance (by decide +kernel) (pa_cons (pv 1) (pa_cons (pe_bltn (v := .ty "tuple") (by rfl) B.tuple_ (by decide +kernel) rfl) pa_nil))))) (pw_or (pt_not (pt_truth (pv 1) (by intro _; rfl))) (pw_or1 (pt_not (pt_val (pe_callB call_isi (by rfl) B.isinstance (by decide +kernel) (pa_cons (pe_ix ix_tup (pv 1) pe_int (fun _ _ => rfl)) (pa_cons (pe_bltn (v := .ty "str") (by rfl) B.str_ (by decide +kernel) rfl) pa_nil))))))))) (pss_one (ps_ret pe_bl)) pss_nil)
 (pss_one (ps_ret (pe_or (pe_cal c_is_never (hr.mono (by first | decide | omega)) (pa_cons (pv 0) (pa_cons (pv 1) pa_nil))) (pe_one (pe_cal c_is_three (hr.mono (by first | decide | omega)) (pa_cons (pv 0) (pa_cons (pv 1) pa_nil)))))))), ?_⟩
    cases tv with
    | els N =>
      obtain ⟨t, ty, hk⟩ := N.ty
      refine ⟨_, rfl, _, _, _, _, false, rfl, .ty "tuple", ty, hk, false, rfl, iteT (iteT (k false H (L2.Same.refl H) ⟨fun e => (by cases e), ?_⟩))⟩
      rintro ⟨a, xs, e, q, _⟩
      exact (N.no a xs e q).elim
    | @tup a xs ha hxs hl =>
      refine ⟨_, rfl, _, _, _, _, true, rfl, .ty "tuple", .base (.tup ha), kit_ty (by decide +kernel), true, rfl, iteF ?_⟩
      have none_of : (∀ s r, xs ≠ V.str s :: r) → Q (.bl false) H := fun h => k false H (L2.Same.refl H) ⟨fun e => (by cases e), by
        rintro ⟨a', xs', e, q, hh⟩
        cases e
        have := tup_inj ha q
        subst this
        rcases hh with ⟨p, e, _⟩ | ⟨_, _, _, _, _, _, e, _⟩
        · exact (h _ _ e).elim
        · exact (h _ _ e).elim⟩
      refine ⟨_, rfl, _, .inr (.inl ⟨xs, SqT.of ha, rfl⟩), ?_⟩
      cases xs with
      | nil => exact iteT (iteT (none_of fun s r e => by cases e))
      | cons u us =>
        refine iteF ?_
        have ou := hxs u (by simp)
        obtain ⟨b, hty, hb⟩ := ou.st
        obtain ⟨ty, hty, hk⟩ := hty
        refine ⟨_, rfl, a, _, _, _, rfl, rfl, SqT.of ha, at_of (j := 0) (by omega) rfl, _, _, _, _, b, rfl, .ty "str", hty, hk, b, rfl, ?_⟩
        have kk : ∀ b' H', Same H H' → (b' = true ↔ (NeverIs n Us (u :: us) ∨ ThreeIs Us (u :: us))) → Q (.bl b') H' := fun b' H' s h => k b' H' s (h.trans ⟨fun q => ⟨a, _, rfl, ha, q⟩, fun ⟨a', xs', e, q, hh⟩ => by
          cases e
          have := tup_inj ha q
          subst this
          exact hh⟩)
        cases b with
        | false =>
          refine iteT (none_of fun s r e => ?_)
          cases e
          have := hb.mpr ⟨s, rfl⟩
          cases this
        | true =>
          obtain ⟨s, rfl⟩ := hb.mp rfl
          refine iteF ?_
          refine ⟨_, rfl, _, rfl, x, n, t, Us, a, _, s, rfl, L, ha, hxs, rfl, fun b1 hb1 => ⟨b1, rfl, ?_⟩⟩
          cases b1 with
          | true => exact kk true H (L2.Same.refl H) ⟨fun _ => .inl (hb1.mp rfl), fun _ => rfl⟩
          | false =>
            refine ⟨_, rfl, _, rfl, x, n, t, Us, a, _, s, rfl, L, n12, h64, ha, hxs, rfl, fun b2 H2 s2 hb2 => kk b2 H2 s2 ⟨fun e => .inr (hb2.mp e), fun h => ?_⟩⟩
            rcases h with h | h
            · have := hb1.mpr h; cases this
            · exact hb2.mpr h
end
end Bs

namespace Bs
open PySem PySem.Spec PyProof.Rows L2
section
variable {P : Program} {w : World} {K : PySem.W.Frag} {mg : Str → Option Value} {base : Heap} {C CB CW : Addr}
def sp_is_hold : Sp := fun vs H Q _ => ∃ (t : Addr) (xs : List V) (Us : List (List Int)) (a : Addr) (l : List Int), vs = [.ref t, .ref a] ∧ H t = some (.tup xs) ∧ Paired (LotAt H) xs Us ∧ Us.length ≤ 64 ∧ H a = some (.tup (l.map V.int)) ∧ l.length ≤ 1000 ∧ ∀ b H', Same H H' → (b = true ↔ ∃ u ∈ Us, ∀ p ∈ l, p ∈ u) → Q (.bl b) H'
abbrev s__law_is_hold : Stmt := (top 41)
theorem sc__law_is_hold : FnScope ["stands", "lot", "place", "stand"] ["stands", "lot"] (defScope s__law_is_hold) := ⟨rfl, rfl, rfl, by decide +kernel, rfl, by decide +kernel, by decide +kernel⟩

theorem ok_law_is_hold {f : Addr} {fd : FuncData} (F : Fun K "_law_is_hold" "_law_is_hold" s__law_is_hold f fd) (hm : mg "_law_is_hold" = some (.ref f)) (B : Bl mg) (Z : mg "any" = none ∧ True) : Cal P w K mg base 1 "_law_is_hold" ["stands", "lot"] sp_is_hold := by
  refine ⟨f, fd, F.ok sc__law_is_hold (fun vs H Q E h => ?_) (fun cdv A outer s H vs Q E hr h => ?_), hm, F.kp, F.binds (ps := ["stands", "lot"]) fun _ _ _ _ _ _ us hl => match us, hl with | [_, _], _ => rfl⟩
  · obtain ⟨t, xs, Us, a, l, rfl, _⟩ := h; rfl
  · obtain ⟨t, xs, Us, a, l, rfl, ht, hp, h64, ha, hl, k⟩ := h
    have ul := Paired.len hp
    refine ⟨_, (pss_one (ps_ret (pe_callB (cr_any rfl) (by rfl) Z.1 (by decide +kernel) (pa_cons (pe_lc (own := [("stand", 3)]) (te := (tCB (rAll K) (tCons (tLc (iTup K (tVar 1)) (gName 2) tYes (tOp (rIn K false) (tVar 2) (tVar 3)) [2]) tNil))) (by rfl) sc__law_is_hold.nd (pi_tup (pv 0)) (blkOk_by (own := [("stand", 3)]) (N := ["stands", "lot", "place", "stand"]) (sc := defScope s__law_is_hold) (by decide +kernel)) (fun _ _ _ _ _ => (pg_name (i := 3) sc__law_is_hold.nd rfl (by first | exact Or.inl rfl | exact Or.inr rfl))) (fun _ _ _ _ _ => pts_nil) (fun _ _ _ _ _ => (pe_callB (cr_all rfl) (by rfl) B.all (by decide +kernel) (pa_cons (pe_lc (own := [("place", 2)]) (te := (tOp (rIn K false) _ _)) (by rfl) sc__law_is_hold.nd (pi_tup (pv 1)) (blkOk_by (own := [("place", 2)]) (N := ["stands", "lot", "place", "stand"]) (sc := { kind := .function, names := [(".0", .local), ("stand", .cell), ("all", .globalImplicit), ("lot", .cell)], isGenerator := false, isCoroutine := false }) (by decide +kernel)) (fun _ _ _ _ _ => (pg_name (i := 2) sc__law_is_hold.nd rfl (by first | exact Or.inl rfl | exact Or.inr rfl))) (fun _ _ _ _ _ => pts_nil) (fun _ _ _ _ _ => (pe_cmpR op_in_seq (pv 2) (pv 3) (by rfl)))) pa_nil)))) pa_nil)))), ?_⟩
    refine ⟨_, rfl, t, rfl, ⟨_, SqT.of ht⟩, fun D hD => lc_data walk_tup Us ul.symm (fun _ => true) (fun _ v u => v = .bl (l.all fun p => decide (p ∈ u))) (fun _ _ _ _ _ q => q) hD (fun H' e => SqT.of (e _ _ ht)) (Nat.lt_of_le_of_lt h64 (by decide)) ?_ (fun _ _ _ _ _ y => yat_same y) ?_⟩
    · rintro i u v H3 H4 Ny Nn hui e3 ⟨rfl, hv⟩ kE kN
      obtain ⟨c, rfl, hc⟩ := paired_at hp hv hui
      refine ⟨rfl, yes_if ?_⟩
      have ha3 := e3 _ _ ha
      have hc3 := e3 _ _ hc
      refine ⟨_, rfl, a, rfl, ⟨_, SqT.of ha3⟩, fun D2 hD2 => lc_data walk_tup l (List.length_map ..).symm (fun _ => true) (fun _ v p => v = .bl (decide (p ∈ u))) (fun _ _ _ _ _ q => q) hD2 (fun H' e => SqT.of (e _ _ ha3)) (Nat.lt_of_le_of_lt hl (by decide)) ?_ (fun _ _ _ _ _ y => yat_same y) ?_⟩
      · rintro j p v H5 H6 My Mn hpj e5 ⟨rfl, hv2⟩ jE jN
        rw [List.getElem?_map, hpj] at hv2
        cases hv2
        refine ⟨rfl, yes_if ?_⟩
        refine ⟨_, rfl, _, rfl, c, _, rfl, .inr (SqT.of (e5 _ _ hc3)), rfl, flat_ints u, ?_⟩
        refine jE _ _ rfl (L2.Same.refl _) ?_
        rw [inV_ints]
        rfl
      · intro ys H5 e5 hys hpr
        rw [filter_yes] at hpr
        have ey := paired_eq (g := fun p : Int => V.bl (decide (p ∈ u))) hpr
        refine ⟨D2, l.map fun p => decide (p ∈ u), rfl, SqL.of (by rw [hys, ey, List.map_map]; rfl), ?_⟩
        refine kE _ _ rfl e5 ?_
        rw [List.all_map]
        rfl
    · intro ys H6 e6 hys hpr
      rw [filter_yes] at hpr
      have ey := paired_eq (g := fun u : List Int => V.bl (l.all fun p => decide (p ∈ u))) hpr
      refine ⟨D, Us.map fun u => l.all fun p => decide (p ∈ u), rfl, SqL.of (by rw [hys, ey, List.map_map]; rfl), ?_⟩
      refine k _ _ e6 ?_
      rw [List.any_map, List.any_eq_true]
      constructor
      · rintro ⟨u, hu, h⟩
        exact ⟨u, hu, fun p hp => by have := List.all_eq_true.mp h p hp; simpa using this⟩
      · rintro ⟨u, hu, h⟩
        exact ⟨u, hu, List.all_eq_true.mpr fun p hp => by simpa using h p hp⟩
def sp_both : Sp := fun vs H Q _ => ∃ (a b c : Addr) (la lb lc : List Int) (n : Int), vs = [.ref a, .ref b, .ref c] ∧ H a = some (.tup (la.map V.int)) ∧ H b = some (.tup (lb.map V.int)) ∧ H c = some (.tup (lc.map V.int)) ∧ Lot n la ∧ Lot n lb ∧ Lot n lc ∧ 0 ≤ n ∧ n ≤ 12 ∧
  ∀ (q : Addr) (l : List Int) H', Same H H' → H' q = some (.tup (l.map V.int)) → (∀ p, p ∈ l ↔ major la lb lc p) → l.length ≤ 1000 → Q (.ref q) H'
abbrev s__law_both : Stmt := (top 42)
theorem sc__law_both : FnScope ["one", "other", "third", "every", "place"] ["one", "other", "third"] (defScope s__law_both) := ⟨rfl, rfl, rfl, by decide +kernel, rfl, by decide +kernel, by decide +kernel⟩

theorem ok_law_both {f : Addr} {fd : FuncData} (F : Fun K "_law_both" "_law_both" s__law_both f fd) (hm : mg "_law_both" = some (.ref f)) (B : Bl mg) (Z : mg "set" = none ∧ True) : Cal P w K mg base 1 "_law_both" ["one", "other", "third"] sp_both := by
  refine ⟨f, fd, F.ok sc__law_both (fun vs H Q E h => ?_) (fun cdv A outer s H vs Q E hr h => ?_), hm, F.kp, F.binds (ps := ["one", "other", "third"]) fun _ _ _ _ _ _ us hl => match us, hl with | [_, _, _], _ => rfl⟩
  · obtain ⟨a, b, c, la, lb, lc, n, rfl, _⟩ := h; rfl
  · obtain ⟨a, b, c, la, lb, lc, n, rfl, ha, hb, hc, ga, gb, gc, n0, n12, k⟩ := h
    have l1 := lot_len ga n0
    have l2 := lot_len gb n0
    have l3 := lot_len gc n0
    refine ⟨_, (pss_cons (ps_set (i := 3) sc__law_both.nd rfl (by first | exact Or.inl rfl | exact Or.inr rfl) (pe_callB (cr_sortedSet rfl) (by rfl) B.sorted (by decide +kernel) (pa_cons (pe_callTy (cr_setTI rfl) (by rfl) Z.1 (by decide +kernel) (pa_cons (pe_op op_catA (pe_op op_catA (pv 0) (pv 1)) (pv 2)) pa_nil)) pa_nil)))
 (pss_one (ps_ret (pe_callTy call_tuple_of (by rfl) B.tuple_ (by decide +kernel) (pa_cons (pe_lc (own := [("place", 4)]) (tt := (tTest (tOp _ (tOp _ (tOp _ (tCB _ (tCons (tOp (rIn K false) (tVar 4) (tVar 0)) tNil)) (tCB _ (tCons (tOp (rIn K false) (tVar 4) (tVar 1)) tNil))) (tCB _ (tCons (tOp (rIn K false) (tVar 4) (tVar 2)) tNil))) _))) (by rfl) sc__law_both.nd (pi_list (pv 3)) (blkOk_by (own := [("place", 4)]) (N := ["one", "other", "third", "every", "place"]) (sc := defScope s__law_both) (by decide +kernel)) (fun _ _ _ _ _ => (pg_name (i := 4) sc__law_both.nd rfl (by first | exact Or.inl rfl | exact Or.inr rfl))) (fun _ _ _ _ _ => (pts_one (pt_cmpR op_gt (pe_op op_add (pe_op op_add (pe_callTy call_int1 (by rfl) B.int_ (by decide +kernel) (pa_cons (pe_cmpR op_in_seq (pv 4) (pv 0) (by rfl)) pa_nil)) (pe_callTy call_int1 (by rfl) B.int_ (by decide +kernel) (pa_cons (pe_cmpR op_in_seq (pv 4) (pv 1) (by rfl)) pa_nil))) (pe_callTy call_int1 (by rfl) B.int_ (by decide +kernel) (pa_cons (pe_cmpR op_in_seq (pv 4) (pv 2) (by rfl)) pa_nil))) pe_int (nomark _)))) (fun _ _ _ _ _ => (pv 4))) pa_nil))))), ?_⟩
    refine ⟨_, rfl, _, rfl, cat_any ha hb (by rw [List.length_map, List.length_map]; exact Nat.le_trans (show la.length + lb.length ≤ 100 by omega) (by decide)) fun d H1 e1 hd => ?_⟩
    rw [← List.map_append] at hd
    refine ⟨_, rfl, cat_any hd (e1 _ _ hc) (by rw [List.length_map, List.length_map, List.length_append]; exact Nat.le_trans (show la.length + lb.length + lc.length ≤ 100 by omega) (by decide)) fun d2 H2 e2 hd2 => ?_⟩
    rw [← List.map_append] at hd2
    refine ⟨d2, la ++ lb ++ lc, rfl, hd2, by rw [List.length_append, List.length_append]; omega, fun S m hS hm => ?_⟩
    have s2 := L2.Same.new (o := SetO w S (fun j => decide (j ∈ la ++ lb ++ lc)) m) hS
    refine ⟨S, _, m, rfl, upd_same, by rw [List.length_append, List.length_append] at hm; omega, fun ns p hup hns hn hp => ?_⟩
    have s3 := L2.Same.new (o := .lst (ns.map V.int)) hp
    have s23 := s2.trans s3
    have hcat : ∀ p, p ∈ ns ↔ p ∈ la ∨ p ∈ lb ∨ p ∈ lc := fun p => by rw [hns p, decide_eq_true_eq, List.mem_append, List.mem_append, or_assoc]
    have hz := (L2.Same.new (H := upd H2 S (SetO w S (fun j => decide (j ∈ la ++ lb ++ lc)) m)) (o := .lst (ns.map V.int)) hp)
    have hpz : (upd (upd H2 S (SetO w S (fun j => decide (j ∈ la ++ lb ++ lc)) m)) p (.lst (ns.map V.int))) p = some (.lst (ns.map V.int)) := upd_same
    have e13 : Same H (upd (upd H2 S (SetO w S (fun j => decide (j ∈ la ++ lb ++ lc)) m)) p (.lst (ns.map V.int))) := e1.trans (e2.trans s23)
    have nl : ns.length ≤ 100 := by
      rw [hn]; rw [List.length_append, List.length_append] at hm; omega
    refine ⟨_, rfl, p, rfl, ⟨_, SqL.of hpz⟩, fun D hD => lc_data (walk_list (K := K) (a := p) (xs := ns.map V.int)) ns (List.length_map ..).symm (fun x => decide (1 < ((if decide (x ∈ la) = true then (1 : Int) else 0) + (if decide (x ∈ lb) = true then 1 else 0) + (if decide (x ∈ lc) = true then 1 else 0)))) (fun _ v x => v = .int x) (fun _ _ _ _ _ q => q) hD (fun H' e => SqL.of (e _ _ hpz)) (Nat.lt_of_le_of_lt nl (by decide)) ?_ (fun _ _ _ _ _ y => yat_same y) ?_⟩
    · rintro i x v H4 H5 Ny Nn hxi e4 ⟨rfl, hv⟩ kE kN
      rw [List.getElem?_map, hxi] at hv
      cases hv
      have e14 := e13.trans e4
      refine ⟨rfl, ?_⟩
      refine ⟨_, rfl, _, rfl, a, _, rfl, .inr (SqT.of (e14 _ _ ha)), rfl, flat_ints la, .inr ⟨_, rfl, ?_⟩⟩
      refine ⟨_, rfl, _, rfl, b, _, rfl, .inr (SqT.of (e14 _ _ hb)), rfl, flat_ints lb, .inr ⟨_, rfl, ?_⟩⟩
      refine ⟨_, _, rfl, rfl, ?_⟩
      refine ⟨_, rfl, _, rfl, c, _, rfl, .inr (SqT.of (e14 _ _ hc)), rfl, flat_ints lc, .inr ⟨_, rfl, ?_⟩⟩
      refine ⟨_, _, rfl, rfl, ?_⟩
      refine ⟨_, _, rfl, rfl, _, rfl, ?_⟩
      simp only [Bool.false_eq_true, if_false]
      rw [inV_ints, inV_ints, inV_ints]
      cases cc : decide (1 < ((if decide (x ∈ la) = true then (1 : Int) else 0) + (if decide (x ∈ lb) = true then 1 else 0) + (if decide (x ∈ lc) = true then 1 else 0))) with
      | true => exact iteT ⟨_, rfl, kE _ _ cc (L2.Same.refl _) rfl⟩
      | false => exact iteF (kN _ cc (L2.Same.refl _))
    · intro ys H4 e4 hys hpr
      have ey := paired_eq (g := fun x : Int => V.int x) hpr
      subst ey
      refine ⟨D, _, rfl, .inl ⟨SqL.of hys, fun q hq => ?_⟩⟩
      have s5 := L2.Same.new (o := .tup ((ns.filter fun x => decide (1 < ((if decide (x ∈ la) = true then (1 : Int) else 0) + (if decide (x ∈ lb) = true then 1 else 0) + (if decide (x ∈ lc) = true then 1 else 0)))).map V.int)) hq
      refine k q (ns.filter fun x => decide (1 < ((if decide (x ∈ la) = true then (1 : Int) else 0) + (if decide (x ∈ lb) = true then 1 else 0) + (if decide (x ∈ lc) = true then 1 else 0)))) _ (e13.trans (e4.trans s5)) upd_same (fun x => ?_) (Nat.le_trans (List.length_filter_le _ _) (by omega))
      rw [List.mem_filter, hcat, decide_eq_true_eq]
      unfold major
      by_cases c1 : x ∈ la <;> by_cases c2 : x ∈ lb <;> by_cases c3 : x ∈ lc <;> simp [c1, c2, c3]
end
end Bs

namespace Bs
open PySem PySem.Spec PyProof.Rows L2
section
variable {P : Program} {w : World} {K : PySem.W.Frag} {mg : Str → Option Value} {base : Heap} {C CB CW : Addr}
/-- a lack's own look, or none -/
def LackV (H : Hp) (v : V) : Prop := v = .non ∨ ∃ q xs, v = .ref q ∧ H q = some (.tup xs) ∧ (∀ x ∈ xs, (∃ s, x = .str s) ∨ ∃ i, x = .int i) ∧ 2 ≤ xs.length ∧ xs.length ≤ 4
def sp_lack : Sp := fun vs H Q _ => ∃ (n : Int) (t : Addr) (Us : List (List Int)), vs = [.int n, .ref t] ∧ LotsUp H t n Us ∧ 0 ≤ n ∧ n ≤ 12 ∧ Us.length ≤ 64 ∧ ∀ v H', Same H H' → LackV H' v → Q v H'
abbrev s__law_lack : Stmt := (top 43)
theorem sc__law_lack : FnScope ["places", "stands", "place", "many", "a", "b", "c"] ["places", "stands"] (defScope s__law_lack) := ⟨rfl, rfl, rfl, by decide +kernel, rfl, by decide +kernel, by decide +kernel⟩

theorem ok_law_lack {f : Addr} {fd : FuncData} (F : Fun K "_law_lack" "_law_lack" s__law_lack f fd) (hm : mg "_law_lack" = some (.ref f)) (B : Bl mg) (c__law_is_hold : Cal P w K mg base 1 "_law_is_hold" ["stands", "lot"] sp_is_hold) (c__law_both : Cal P w K mg base 1 "_law_both" ["one", "other", "third"] sp_both) : Cal P w K mg base 2 "_law_lack" ["places", "stands"] sp_lack := by
  refine ⟨f, fd, F.ok sc__law_lack (fun vs H Q E h => ?_) (fun cdv A outer s H vs Q E hr h => ?_), hm, F.kp, F.binds (ps := ["places", "stands"]) fun _ _ _ _ _ _ us hl => match us, hl with | [_, _], _ => rfl⟩
  · obtain ⟨n, t, Us, rfl, _⟩ := h; rfl
  · obtain ⟨n, t, Us, rfl, hU, n0, n12, h64, k⟩ := h
    obtain ⟨xs, ht, hp, hlot, _⟩ := id hU
    have xl := Paired.len hp
    refine ⟨_, (pss_cons (ps_for PassesOwn.never rfl (pi_range1 (by rfl) B.range (pa_cons (pv 0) pa_nil)) (pg_name (i := 2) sc__law_lack.nd rfl (by first | exact Or.inl rfl | exact Or.inr rfl))
  (pss_one (ps_if (pt_not (pt_val (pe_cal c__law_is_hold (hr.mono (by first | decide | omega)) (pa_cons (pv 1) (pa_cons (pe_tup (pa_cons (pv 2) pa_nil)) pa_nil))))) (pss_one (ps_ret (pe_tup (pa_cons pe_str (pa_cons (pv 2) pa_nil))))) pss_nil)))
 (pss_cons (ps_set (i := 3) sc__law_lack.nd rfl (by first | exact Or.inl rfl | exact Or.inr rfl) (pe_callB call_len_seq (by rfl) B.len (by decide +kernel) (pa_cons (pv 1) pa_nil)))
 (pss_cons (ps_for PassesOwn.never rfl (pi_range1 (by rfl) B.range (pa_cons (pv 3) pa_nil)) (pg_name (i := 4) sc__law_lack.nd rfl (by first | exact Or.inl rfl | exact Or.inr rfl))
  (pss_one (ps_for PassesOwn.never rfl (pi_range2 (by rfl) B.range (pa_cons (pe_op op_add (pv 4) pe_int) (pa_cons (pv 3) pa_nil))) (pg_name (i := 5) sc__law_lack.nd rfl (by first | exact Or.inl rfl | exact Or.inr rfl))
  (pss_one (ps_for PassesOwn.never rfl (pi_range2 (by rfl) B.range (pa_cons (pe_op op_add (pv 5) pe_int) (pa_cons (pv 3) pa_nil))) (pg_name (i := 6) sc__law_lack.nd rfl (by first | exact Or.inl rfl | exact Or.inr rfl))
  (pss_one (ps_if (pt_not (pt_val (pe_cal c__law_is_hold (hr.mono (by first | decide | omega)) (pa_cons (pv 1) (pa_cons (pe_cal c__law_both (hr.mono (by first | decide | omega)) (pa_cons (pe_ix ix_tup (pv 1) (pv 4) (fun _ _ => rfl)) (pa_cons (pe_ix ix_tup (pv 1) (pv 5) (fun _ _ => rfl)) (pa_cons (pe_ix ix_tup (pv 1) (pv 6) (fun _ _ => rfl)) pa_nil)))) pa_nil))))) (pss_one (ps_ret (pe_tup (pa_cons pe_str (pa_cons (pv 4) (pa_cons (pv 5) (pa_cons (pv 6) pa_nil))))))) pss_nil)))))))
 (pss_one (ps_ret pe_non))))), ?_⟩
    refine ⟨_, rfl, _, rfl, by omega, by omega, for_range (lo := 0) (n := n.toNat) (fun i σ H' => ∃ v2 : Option V, σ = [some (.int n), some (.ref t), v2, none, none, none, none] ∧ Same H H')
      ⟨none, rfl, L2.Same.refl _⟩ ?_ ?_⟩
    · rintro i σ H1 hi ⟨v2, rfl, e1⟩
      refine ⟨_, rfl, _, rfl, (by show 1 ≤ sizeLine; decide), fun q hq => ?_⟩
      have s2 := L2.Same.new (o := .tup [V.int (0 + (i : Nat))]) hq
      have e2 := e1.trans s2
      refine ⟨t, xs, Us, q, [0 + (i : Int)], rfl, e2 _ _ ht, paired_imp (fun _ _ h => LotAt.tk h e2.tk) hp, h64, upd_same, by show 1 ≤ 1000; decide, fun b H3 e3 hb => ⟨b, rfl, ?_⟩⟩
      cases b with
      | true => exact iteF ⟨_, rfl, e2.trans e3⟩
      | false =>
        refine iteT ⟨_, rfl, (by show 2 ≤ sizeLine; decide), fun r hr => ?_⟩
        exact k _ _ ((e2.trans e3).trans (L2.Same.new hr)) (.inr ⟨r, _, rfl, upd_same, fun x hx => by simp at hx; rcases hx with rfl | rfl <;> first | exact .inl ⟨_, rfl⟩ | exact .inr ⟨_, rfl⟩, by show 2 ≤ 2; decide, by show 2 ≤ 4; decide⟩)
    · rintro σ H1 ⟨v2, rfl, e1⟩
      refine ⟨_, rfl, t, _, rfl, .inr (SqT.of (e1 _ _ ht)), ?_⟩
      have x0 : (0 : Int) ≤ (xs.length : Int) := Int.natCast_nonneg _
      have x64 : xs.length ≤ 64 := by omega
      refine ⟨_, rfl, _, rfl, by omega, by omega, for_range (lo := 0) (n := ((xs.length : Int)).toNat) (fun i σ H' => ∃ v4 v5 v6 : Option V, σ = [some (.int n), some (.ref t), v2, some (.int (xs.length : Int)), v4, v5, v6] ∧ Same H H')
        ⟨none, none, none, rfl, e1⟩ ?_ ?_⟩
      · rintro i σ H2 hi ⟨v4, v5, v6, rfl, e2⟩
        refine ⟨_, rfl, _, _, rfl, rfl, _, rfl, _, _, rfl, ⟨by omega, by omega, by omega, by omega⟩, for_range (lo := 0 + (i : Int) + 1) (n := ((xs.length : Int) - (0 + (i : Int) + 1)).toNat) (fun j σ H' => ∃ v5 v6 : Option V, σ = [some (.int n), some (.ref t), v2, some (.int (xs.length : Int)), some (.int (0 + (i : Int))), v5, v6] ∧ Same H H')
          ⟨_, _, rfl, e2⟩ ?_ (fun σ H' ⟨_, _, h, e⟩ => ⟨_, _, _, h, e⟩)⟩
        rintro j σ H3 hj ⟨v5, v6, rfl, e3⟩
        refine ⟨_, rfl, _, _, rfl, rfl, _, rfl, _, _, rfl, ⟨by omega, by omega, by omega, by omega⟩, for_range (lo := 0 + (i : Int) + 1 + (j : Int) + 1) (n := ((xs.length : Int) - (0 + (i : Int) + 1 + (j : Int) + 1)).toNat) (fun l σ H' => ∃ v6 : Option V, σ = [some (.int n), some (.ref t), v2, some (.int (xs.length : Int)), some (.int (0 + (i : Int))), some (.int (0 + (i : Int) + 1 + (j : Int))), v6] ∧ Same H H')
          ⟨_, rfl, e3⟩ ?_ (fun σ H' ⟨_, h, e⟩ => ⟨_, _, h, e⟩)⟩
        rintro l σ H4 hl ⟨v6, rfl, e4⟩
        have ht4 := e4 _ _ ht
        have hp4 := paired_imp (fun _ _ h => LotAt.tk h e4.tk) hp
        have get : ∀ z : Nat, z < xs.length → ∃ (a : Addr) (la : List Int), xs[z]? = some (.ref a) ∧ H4 a = some (.tup (la.map V.int)) ∧ Lot n la := fun z hz => by
          have hx : xs[z]? = some xs[z] := List.getElem?_eq_getElem hz
          obtain ⟨la, h1, a, ea, ha⟩ := Paired.get hp4 hx
          rw [ea] at hx
          exact ⟨a, la, hx, ha, hlot la (List.mem_of_getElem? h1)⟩
        obtain ⟨a, la, xa, ha, ga⟩ := get i (by omega)
        obtain ⟨b, lb, xb, hb, gb⟩ := get (i + 1 + j) (by omega)
        obtain ⟨c, lc, xc, hc, gc⟩ := get (i + 1 + j + 1 + l) (by omega)
        refine ⟨_, rfl, _, rfl, _, rfl, t, _, _, _, rfl, rfl, SqT.of ht4, at_of (j := i) (by omega) xa, ?_⟩
        refine ⟨_, rfl, _, rfl, t, _, _, _, rfl, rfl, SqT.of ht4, at_of (j := i + 1 + j) (by omega) xb, ?_⟩
        refine ⟨_, rfl, _, rfl, t, _, _, _, rfl, rfl, SqT.of ht4, at_of (j := i + 1 + j + 1 + l) (by omega) xc, ?_⟩
        refine ⟨a, b, c, la, lb, lc, n, rfl, ha, hb, hc, ga, gb, gc, n0, n12, fun q m H5 e5 hq hmm hml => ?_⟩
        have e45 := e4.trans e5
        refine ⟨t, xs, Us, q, m, rfl, e45 _ _ ht, paired_imp (fun _ _ h => LotAt.tk h e45.tk) hp, h64, hq, hml, fun b' H6 e6 hb' => ⟨b', rfl, ?_⟩⟩
        cases b' with
        | true => exact iteF ⟨_, rfl, e45.trans e6⟩
        | false =>
          refine iteT ⟨_, rfl, _, rfl, _, rfl, (by show 4 ≤ sizeLine; decide), fun r hr => ?_⟩
          exact k _ _ ((e45.trans e6).trans (L2.Same.new hr)) (.inr ⟨r, _, rfl, upd_same, fun x hx => by simp at hx; rcases hx with rfl | rfl | rfl | rfl <;> first | exact .inl ⟨_, rfl⟩ | exact .inr ⟨_, rfl⟩, by show 2 ≤ 4; decide, by show 4 ≤ 4; decide⟩)
      · rintro σ H2 ⟨v4, v5, v6, rfl, e2⟩
        exact k _ _ e2 (.inl rfl)
end
end Bs

namespace Bs
open PySem PySem.Spec PyProof.Rows L2
theorem all_isI {xs : List V} (h : ∀ x ∈ xs, isI x = true) : ∃ l : List Int, xs = l.map V.int := by
  induction xs with
  | nil => exact ⟨[], rfl⟩
  | cons x xs ih =>
    obtain ⟨l, rfl⟩ := ih fun y hy => h y (by simp [hy])
    have := h x (by simp)
    obtain ⟨i, rfl⟩ : ∃ i, x = .int i := by cases x <;> first | exact ⟨_, rfl⟩ | cases this
    exact ⟨i :: l, rfl⟩
section
variable {P : Program} {w : World} {K : PySem.W.Frag} {mg : Str → Option Value} {base : Heap} {C CB CW : Addr}
def sp_lis_lack (K : PySem.W.Frag) : Sp := fun vs H Q _ => ∃ (n : Int) (t : Addr) (Us : List (List Int)) (v : V), vs = [.int n, .ref t, v] ∧ LotsUp H t n Us ∧ 0 ≤ n ∧ n ≤ 12 ∧ Us.length ≤ 64 ∧ ThO K H v ∧ ∀ b H', Same H H' → (b = true ↔ ∃ a xs, v = .ref a ∧ H a = some (.tup xs) ∧ (NeverIs n Us xs ∨ ThreeIs Us xs)) → Q (.bl b) H'
abbrev s__law_is_lack : Stmt := (top 45)
theorem sc__law_is_lack : FnScope ["places", "stands", "thing", "number"] ["places", "stands", "thing"] (defScope s__law_is_lack) := ⟨rfl, rfl, rfl, by decide +kernel, rfl, by decide +kernel, by decide +kernel⟩

theorem ok_law_is_lack {f : Addr} {fd : FuncData} (F : Fun K "_law_is_lack" "_law_is_lack" s__law_is_lack f fd) (hm : mg "_law_is_lack" = some (.ref f)) (B : Bl mg) (c__law_is_integer : Cal P w K mg base 1 "_law_is_integer" ["thing"] (sp_isI K)) (c__law_is_hold : Cal P w K mg base 1 "_law_is_hold" ["stands", "lot"] sp_is_hold) (c__law_both : Cal P w K mg base 1 "_law_both" ["one", "other", "third"] sp_both) : Cal P w K mg base 2 "_law_is_lack" ["places", "stands", "thing"] (sp_lis_lack K) := by
  refine ⟨f, fd, F.ok sc__law_is_lack (fun vs H Q E h => ?_) (fun cdv A outer s H vs Q E hr h => ?_), hm, F.kp, F.binds (ps := ["places", "stands", "thing"]) fun _ _ _ _ _ _ us hl => match us, hl with | [_, _, _], _ => rfl⟩
  · obtain ⟨n, t, Us, v, rfl, _⟩ := h; rfl
  · obtain ⟨n, t, Us, v, rfl, hU, n0, n12, h64, tv, k⟩ := h
    obtain ⟨ts, ht, hp, hlot, _⟩ := id hU
    have tl := Paired.len hp
    refine ⟨_, (pss_cons (ps_if (PW.pt (pw_or (pt_not (pt_val (pe_callB call_isi (by rfl) B.isinstance (by decide +kernel) (pa_cons (pv 2) (pa_cons (pe_bltn (v := .ty "tuple") (by rfl) B.tuple_ (by decide +kernel) rfl) pa_nil))))) (pw_or (pt_cmpR op_eq (pe_callB call_len_seq (by rfl) B.len (by decide +kernel) (pa_cons (pv 2) pa_nil)) pe_int (nomark _)) (pw_or1 (pt_not (pt_val (pe_callB call_isi (by rfl) B.isinstance (by decide +kernel) (pa_cons (pe_ix ix_tup (pv 2) pe_int (fun _ _ => rfl)) (pa_cons (pe_bltn (v := .ty "str") (by rfl) B.str_ (by decide +kernel) rfl) pa_nil))))))))) (pss_one (ps_ret pe_bl)) pss_nil)
 (pss_cons (ps_if (pt_not (pt_val (pe_callB (cr_all rfl) (by rfl) B.all (by decide +kernel) (pa_cons (pe_lc (own := [("number", 3)]) (by rfl) sc__law_is_lack.nd (pi_tup (pe_slice sl_tupA (pv 2) (po_some pe_int) po_none)) (blkOk_by (own := [("number", 3)]) (N := ["places", "stands", "thing", "number"]) (sc := defScope s__law_is_lack) (by decide +kernel)) (fun _ _ _ _ _ => (pg_name (i := 3) sc__law_is_lack.nd rfl (by first | exact Or.inl rfl | exact Or.inr rfl))) (fun _ _ _ _ _ => pts_nil) (fun _ _ _ _ _ => (pe_cal c__law_is_integer (hr.mono (by first | decide | omega)) (pa_cons (pv 3) pa_nil)))) pa_nil)))) (pss_one (ps_ret pe_bl)) pss_nil)
 (Evl.pss_cut (ps_if (PW.pt (pw_and (pt_cmpR op_eq (pe_ix ix_tup (pv 2) pe_int (fun _ _ => rfl)) pe_str (nomark _)) (pw_and1 (pt_cmpR op_eq (pe_callB call_len_seq (by rfl) B.len (by decide +kernel) (pa_cons (pv 2) pa_nil)) pe_int (nomark _))))) (pss_one (ps_ret (pe_and (pe_chain op_le op_lt pe_int (pe_ix ix_tup (pv 2) pe_int (fun _ _ => rfl)) (pv 0)) (pe_one (pe_not (pe_cal c__law_is_hold (hr.mono (by first | decide | omega)) (pa_cons (pv 1) (pa_cons (pe_slice sl_tupA (pv 2) (po_some pe_int) po_none) pa_nil)))))))) pss_nil)
 (pss_cons (ps_if (PW.pt (pw_or (pt_cmpR op_ne (pe_ix ix_tup (pv 2) pe_int (fun _ _ => rfl)) pe_str (nomark _)) (pw_or (pt_cmpR op_ne (pe_callB call_len_seq (by rfl) B.len (by decide +kernel) (pa_cons (pv 2) pa_nil)) pe_int (nomark _)) (pw_or1 (pt_not (pt_chain4 op_le op_lt op_lt op_lt pe_int (pe_ix ix_tup (pv 2) pe_int (fun _ _ => rfl)) (pe_ix ix_tup (pv 2) pe_int (fun _ _ => rfl)) (pe_ix ix_tup (pv 2) pe_int (fun _ _ => rfl)) (pe_callB call_len_seq (by rfl) B.len (by decide +kernel) (pa_cons (pv 1) pa_nil)))))))) (pss_one (ps_ret pe_bl)) pss_nil)
 (pss_one (ps_ret (pe_not (pe_cal c__law_is_hold (hr.mono (by first | decide | omega)) (pa_cons (pv 1) (pa_cons (pe_cal c__law_both (hr.mono (by first | decide | omega)) (pa_cons (pe_ix ix_tup (pv 1) (pe_ix ix_tup (pv 2) pe_int (fun _ _ => rfl)) (fun _ _ => rfl)) (pa_cons (pe_ix ix_tup (pv 1) (pe_ix ix_tup (pv 2) pe_int (fun _ _ => rfl)) (fun _ _ => rfl)) (pa_cons (pe_ix ix_tup (pv 1) (pe_ix ix_tup (pv 2) pe_int (fun _ _ => rfl)) (fun _ _ => rfl)) pa_nil)))) pa_nil)))))))))), ?_⟩
    cases tv with
    | els N =>
      obtain ⟨t, ty, hk⟩ := N.ty
      refine ⟨_, rfl, _, _, _, _, false, rfl, .ty "tuple", ty, hk, false, rfl, iteT (iteT (k false H (L2.Same.refl H) ⟨fun e => (by cases e), ?_⟩))⟩
      rintro ⟨a, xs, e, q, _⟩
      exact (N.no a xs e q).elim
    | @tup a xs ha hxs hl =>
      refine ⟨_, rfl, _, _, _, _, true, rfl, .ty "tuple", .base (.tup ha), kit_ty (by decide +kernel), true, rfl, iteF ?_⟩
      have none_of : ∀ H', Same H H' → (∀ s r, xs ≠ V.str s :: r) → Q (.bl false) H' := fun H' e' h => k false H' e' ⟨fun e => (by cases e), by
        rintro ⟨a', xs', e, q, hh⟩
        cases e
        have := tup_inj ha q
        subst this
        rcases hh with ⟨p, e, _⟩ | ⟨_, _, _, _, _, _, e, _⟩
        · exact (h _ _ e).elim
        · exact (h _ _ e).elim⟩
      refine ⟨_, rfl, a, _, rfl, .inr (SqT.of ha), rfl, _, rfl, ?_⟩
      cases xs with
      | nil => exact iteT (iteT (none_of H (L2.Same.refl H) fun s r e => by cases e))
      | cons u us =>
        rw [show decide (V.int (((u :: us).length : Nat) : Int) = V.int 0) = false from by simp; omega]
        refine iteF ?_
        have ou := hxs u (by simp)
        obtain ⟨b, hty, hb⟩ := ou.st
        obtain ⟨ty, hty, hk⟩ := hty
        refine ⟨_, rfl, a, _, _, _, rfl, rfl, SqT.of ha, at_of (j := 0) (by omega) rfl, _, _, _, _, b, rfl, .ty "str", hty, hk, b, rfl, ?_⟩
        have kk : ∀ b' H', Same H H' → (b' = true ↔ (NeverIs n Us (u :: us) ∨ ThreeIs Us (u :: us))) → Q (.bl b') H' := fun b' H' s h => k b' H' s (h.trans ⟨fun q => ⟨a, _, rfl, ha, q⟩, fun ⟨a', xs', e, q, hh⟩ => by
          cases e
          have := tup_inj ha q
          subst this
          exact hh⟩)
        cases b with
        | false =>
          refine iteT (none_of H (L2.Same.refl H) fun s r e => ?_)
          cases e
          have := hb.mpr ⟨s, rfl⟩
          cases this
        | true =>
          obtain ⟨st, rfl⟩ := hb.mp rfl
          refine iteF ?_
          refine ⟨_, rfl, _, rfl, sl_from ha fun p9 H9 s9 hp9 => ?_⟩
          have e3 : cutV (V.str st :: us) (some 1) none = us := cut_drop (V.str st :: us) 1
          rw [e3] at hp9
          have usl : us.length ≤ 1000 := by simp at hl; omega
          refine ⟨p9, rfl, ⟨_, SqT.of hp9⟩, fun D hD => lc_data walk_tup us rfl (fun _ => true) (fun _ v x => v = .bl (isI x)) (fun _ _ _ _ _ q => q) hD (fun H' e => SqT.of (e _ _ hp9)) (Nat.lt_of_le_of_lt usl (by decide)) ?_ (fun _ _ _ _ _ y => yat_same y) ?_⟩
          · rintro i x v H3 H4 Ny Nn hxi e3 ⟨rfl, hv⟩ kE kN
            rw [hxi] at hv
            cases hv
            have iv := ((hxs x (by simp [List.mem_of_getElem? hxi])).same (s9.trans e3)).it
            exact ⟨rfl, yes_if ⟨_, rfl, x, rfl, iv, kE _ _ rfl (L2.Same.refl _) rfl⟩⟩
          · intro ys H5 e5 hys hpr
            rw [filter_yes] at hpr
            have ey := paired_eq (g := fun x : V => V.bl (isI x)) hpr
            have s5 := s9.trans e5
            refine ⟨D, us.map isI, rfl, SqL.of (by rw [hys, ey, List.map_map]; rfl), _, rfl, ?_⟩
            cases call : (us.map isI).all id with
            | false =>
              refine iteT (kk false H5 s5 ⟨fun e => (by cases e), ?_⟩)
              rw [List.all_map, List.all_eq_false] at call
              obtain ⟨x, hx, hno⟩ := call
              rintro (⟨p, e, _⟩ | ⟨_, _, _, _, _, _, e, _⟩)
              · simp at e
                obtain ⟨_, rfl⟩ := e
                simp at hx; subst hx; exact (hno rfl).elim
              · simp at e
                obtain ⟨_, rfl⟩ := e
                simp at hx; rcases hx with rfl | rfl | rfl <;> exact (hno rfl).elim
            | true =>
              refine iteF ?_
              obtain ⟨l, rfl⟩ := all_isI (xs := us) fun x hx => by
                rw [List.all_map] at call
                exact List.all_eq_true.mp call x hx
              have ha5 := s5 _ _ ha
              have ht5 := s5 _ _ ht
              have hp5 := paired_imp (fun _ _ h => LotAt.tk h s5.tk) hp
              refine ⟨fun σ H' => H' = H5 ∧ σ = [some (.int n), some (.ref t), some (.ref a), none] ∧ ¬ NeverIs n Us (.str st :: l.map V.int), ?_, ?_⟩
              · refine ⟨_, rfl, a, _, _, _, rfl, rfl, SqT.of ha5, at_of (j := 0) (by omega) rfl, rfl, _, rfl, ?_⟩
                show (if decide (V.str st = V.str "never") = true then _ else _)
                refine onb (fun cs => ?_) (fun cs => iteF ⟨rfl, rfl, fun ⟨p, e, _⟩ => by simp at e; exact cs (by rw [e.1])⟩)
                cases cs
                refine ⟨_, rfl, a, _, rfl, .inr (SqT.of ha5), rfl, _, rfl, ?_⟩
                by_cases c2 : l.length = 1
                · obtain ⟨p, rfl⟩ : ∃ p, l = [p] := by
                    match l, c2 with
                    | [p], _ => exact ⟨p, rfl⟩
                  refine iteT ?_
                  refine ⟨_, rfl, a, _, _, _, rfl, rfl, SqT.of ha5, at_of (j := 1) (by omega) rfl, _, _, rfl, rfl, _, rfl, ?_⟩
                  have no : Q (.bl false) H5 ∨ (0 ≤ p ∧ p < n) := by
                    by_cases c : 0 ≤ p ∧ p < n
                    · exact .inr c
                    · refine .inl (kk false H5 s5 ⟨fun e => (by cases e), ?_⟩)
                      rintro (⟨q, e, q0, q1, _⟩ | ⟨_, _, _, _, _, _, e, _⟩)
                      · simp at e; subst e; exact (c ⟨q0, q1⟩).elim
                      · simp at e
                  by_cases p0 : 0 ≤ p
                  · rw [if_pos (decide_eq_true p0)]
                    refine ⟨_, rfl, _, _, rfl, rfl, _, rfl, ?_⟩
                    show (if decide (p < n) = true then _ else _)
                    refine onb (fun p1 => ?_) (fun p1 => no.elim id fun h => absurd h.2 p1)
                    refine ⟨_, rfl, _, rfl, _, rfl, sl_from ha5 fun p7 H7 s7 hp7 => ?_⟩
                    have e3 : cutV [V.str "never", .int p] (some 1) none = [p].map V.int := rfl
                    have s57 := s5.trans s7
                    refine ⟨t, ts, Us, p7, [p], rfl, s57 _ _ ht, paired_imp (fun _ _ h => LotAt.tk h s57.tk) hp, h64, hp7, by show 1 ≤ 1000; decide, fun b H8 s8 hb => ⟨b, rfl, ?_⟩⟩
                    refine kk (!b) H8 (s57.trans s8) ⟨fun e => .inl ⟨p, rfl, p0, p1, fun u hu hpu => ?_⟩, ?_⟩
                    · rw [hb.mpr ⟨u, hu, fun q hq => by simp at hq; subst hq; exact hpu⟩] at e; cases e
                    · rintro (⟨q, e, _, _, hno⟩ | ⟨_, _, _, _, _, _, e, _⟩)
                      · simp at e
                        subst e
                        cases b with
                        | false => rfl
                        | true => obtain ⟨u, hu, hpu⟩ := hb.mp rfl; exact (hno u hu (hpu p (by simp))).elim
                      · simp at e
                  · rw [if_neg (by simpa using p0)]
                    exact ⟨_, rfl, iteF (no.elim id fun h => absurd h.1 p0)⟩
                · rw [show decide (V.int (((V.str "never" :: l.map V.int).length : Nat) : Int) = V.int 2) = false from by simp; omega]
                  refine iteF ⟨rfl, rfl, fun ⟨p, e, _⟩ => ?_⟩
                  simp at e
                  have := congrArg List.length e
                  simp at this
                  exact c2 this
              rintro σ H6 ⟨rfl, rfl, nn⟩
              refine ⟨_, rfl, a, _, _, _, rfl, rfl, SqT.of ha5, at_of (j := 0) (by omega) rfl, rfl, _, rfl, ?_⟩
              show (if (!decide (V.str st = V.str "three")) = true then _ else _)
              refine onbN (fun cs => ?_) (fun cs => ?_)
              · refine kk false H6 s5 ⟨fun e => (by cases e), ?_⟩
                rintro (h | ⟨_, _, _, _, _, _, e, _⟩)
                · exact (nn h).elim
                · simp at e; exact (cs (by rw [e.1])).elim
              cases cs
              refine ⟨_, rfl, a, _, rfl, .inr (SqT.of ha5), rfl, _, rfl, ?_⟩
              by_cases c3 : l.length = 3
              · obtain ⟨i1, i2, i3, rfl⟩ : ∃ i1 i2 i3, l = [i1, i2, i3] := by
                  match l, c3 with
                  | [i1, i2, i3], _ => exact ⟨i1, i2, i3, rfl⟩
                refine iteF ?_
                have no : Q (.bl false) H6 ∨ (0 ≤ i1 ∧ i1 < i2 ∧ i2 < i3 ∧ i3 < (ts.length : Int)) := by
                  by_cases c : 0 ≤ i1 ∧ i1 < i2 ∧ i2 < i3 ∧ i3 < (ts.length : Int)
                  · exact .inr c
                  · refine .inl (kk false H6 s5 ⟨fun e => (by cases e), ?_⟩)
                    rintro (h | ⟨p, q, r, la, lb, lc, e, pq, qr, ga, gb, gc, _⟩)
                    · exact (nn h).elim
                    · simp at e
                      obtain ⟨rfl, rfl, rfl⟩ := e
                      have := (List.getElem?_eq_some_iff.mp gc).1
                      exact (c (by omega)).elim
                refine ⟨_, rfl, a, _, _, _, rfl, rfl, SqT.of ha5, at_of (j := 1) (by omega) rfl, _, _, rfl, rfl, _, rfl, ?_⟩
                refine onb (fun c1 => ?_) (fun c1 => iteT (no.elim id fun h => absurd h.1 c1))
                refine ⟨_, rfl, a, _, _, _, rfl, rfl, SqT.of ha5, at_of (j := 2) (by omega) rfl, _, _, rfl, rfl, _, rfl, ?_⟩
                show (if decide (i1 < i2) = true then _ else _)
                refine onb (fun c2 => ?_) (fun c2 => iteT (no.elim id fun h => absurd h.2.1 c2))
                refine ⟨_, rfl, a, _, _, _, rfl, rfl, SqT.of ha5, at_of (j := 3) (by omega) rfl, _, _, rfl, rfl, _, rfl, ?_⟩
                show (if decide (i2 < i3) = true then _ else _)
                refine onb (fun c3 => ?_) (fun c3 => iteT (no.elim id fun h => absurd h.2.2.1 c3))
                refine ⟨_, rfl, t, _, rfl, .inr (SqT.of ht5), _, _, rfl, rfl, _, rfl, ?_⟩
                show (if (!decide (i3 < (ts.length : Int))) = true then _ else _)
                refine onbN (fun c4 => no.elim id fun h => absurd h.2.2.2 c4) (fun c4 => ?_)
                obtain ⟨j1, rfl⟩ : ∃ j : Nat, i1 = (j : Int) := ⟨i1.toNat, by omega⟩
                obtain ⟨j2, rfl⟩ : ∃ j : Nat, i2 = (j : Int) := ⟨i2.toNat, by omega⟩
                obtain ⟨j3, rfl⟩ : ∃ j : Nat, i3 = (j : Int) := ⟨i3.toNat, by omega⟩
                have get : ∀ z : Nat, z < ts.length → ∃ (b : Addr) (la : List Int), ts[z]? = some (.ref b) ∧ H6 b = some (.tup (la.map V.int)) ∧ Lot n la ∧ Us[z]? = some la := fun z hz => by
                  have hx : ts[z]? = some ts[z] := List.getElem?_eq_getElem hz
                  obtain ⟨la, h1, a, ea, ha⟩ := Paired.get hp5 hx
                  rw [ea] at hx
                  exact ⟨a, la, hx, ha, hlot la (List.mem_of_getElem? h1), h1⟩
                obtain ⟨b1, la, x1, hb1, g1, u1⟩ := get j1 (by omega)
                obtain ⟨b2, lb, x2, hb2, g2, u2⟩ := get j2 (by omega)
                obtain ⟨b3, lc, x3, hb3, g3, u3⟩ := get j3 (by omega)
                refine ⟨_, rfl, _, rfl, _, rfl, a, _, _, _, rfl, rfl, SqT.of ha5, at_of (j := 1) (by omega) rfl, t, _, _, _, rfl, rfl, SqT.of ht5, at_of (j := j1) (by omega) x1, ?_⟩
                refine ⟨_, rfl, _, rfl, a, _, _, _, rfl, rfl, SqT.of ha5, at_of (j := 2) (by omega) rfl, t, _, _, _, rfl, rfl, SqT.of ht5, at_of (j := j2) (by omega) x2, ?_⟩
                refine ⟨_, rfl, _, rfl, a, _, _, _, rfl, rfl, SqT.of ha5, at_of (j := 3) (by omega) rfl, t, _, _, _, rfl, rfl, SqT.of ht5, at_of (j := j3) (by omega) x3, ?_⟩
                refine ⟨b1, b2, b3, la, lb, lc, n, rfl, hb1, hb2, hb3, g1, g2, g3, n0, n12, fun q m H7 s7 hq hmm hml => ?_⟩
                have s57 := s5.trans s7
                refine ⟨t, ts, Us, q, m, rfl, s57 _ _ ht, paired_imp (fun _ _ h => LotAt.tk h s57.tk) hp, h64, hq, hml, fun b H8 s8 hb => ⟨b, rfl, ?_⟩⟩
                refine kk (!b) H8 (s57.trans s8) ⟨fun e => .inr ⟨j1, j2, j3, la, lb, lc, rfl, by omega, by omega, u1, u2, u3, fun u hu h => ?_⟩, ?_⟩
                · rw [hb.mpr ⟨u, hu, fun p hp => h p ((hmm p).mp hp)⟩] at e; cases e
                · rintro (h | ⟨p, q, r, la', lb', lc', e, _, _, ga, gb, gc, hno⟩)
                  · exact (nn h).elim
                  · simp at e
                    obtain ⟨e1, e2, e3⟩ := e
                    obtain rfl : j1 = p := by omega
                    obtain rfl : j2 = q := by omega
                    obtain rfl : j3 = r := by omega
                    cases u1.symm.trans ga
                    cases u2.symm.trans gb
                    cases u3.symm.trans gc
                    cases b with
                    | false => rfl
                    | true => obtain ⟨u, hu, h⟩ := hb.mp rfl; exact (hno u hu fun p hp => h p ((hmm p).mpr hp)).elim
              · rw [show (!decide (V.int (((V.str "three" :: l.map V.int).length : Nat) : Int) = V.int 4)) = true from by simp; omega]
                refine iteT (iteT (kk false H6 s5 ⟨fun e => (by cases e), ?_⟩))
                rintro (h | ⟨_, _, _, _, _, _, e, _⟩)
                · exact (nn h).elim
                · simp at e
                  have := congrArg List.length e
                  simp at this
                  exact (c3 this).elim
end
end Bs

namespace Bs
open PySem PySem.Spec PyProof.Rows L2
theorem OddV.non {K : PySem.W.Frag} {H : Hp} : OddV K H .non := ⟨.non, .non, false, typ_non (by decide +kernel), by simp⟩
theorem OddV.bl {K : PySem.W.Frag} {H : Hp} (b : Bool) : OddV K H (.bl b) := ⟨.bl b, .bl b, false, typ_bl (by decide +kernel), by simp⟩
theorem OddV.int {K : PySem.W.Frag} {H : Hp} (i : Int) : OddV K H (.int i) := ⟨.int i, .int i, false, typ_int (by decide +kernel), by simp⟩
theorem OddV.str {K : PySem.W.Frag} {H : Hp} (s : Str) : OddV K H (.str s) := ⟨.str s, .str s, true, typ_str (by decide +kernel), by simp⟩
theorem OddV.tup {K : PySem.W.Frag} {H : Hp} {a : Addr} {xs : List V} (h : H a = some (.tup xs)) (h1 : ∀ x ∈ xs, Item K H x) (h2 : xs.length ≤ 100000) : OddV K H (.ref a) := ⟨.tup h, .tup h h1 h2, false, typ_tup h (by decide +kernel), by simp⟩
def TsO (K : PySem.W.Frag) (H : Hp) (xs : List V) : Prop := ∀ x ∈ xs, OddV K H x
theorem TsO.ext {K : PySem.W.Frag} {H H' : Hp} {xs : List V} (h : TsO K H xs) (e : Same H H') : TsO K H' xs := fun x hx => (h x hx).same e
theorem TsO.src {K : PySem.W.Frag} {H H' : Hp} {T : Addr} {xs : List V} (h : TsO K H xs) (hT : Sr H T) (hT' : Sr H' T) (e : ExT T H H') : TsO K H' xs := fun x hx => (h x hx).src hT hT' e
theorem TsO.cut {K : PySem.W.Frag} {H : Hp} {xs : List V} (h : TsO K H xs) (lo hi : Option Int) : TsO K H (cutV xs lo hi) := fun x hx => h x (cut_mem hx)
theorem TsO.app {K : PySem.W.Frag} {H : Hp} {xs ys : List V} (h : TsO K H xs) (h' : TsO K H ys) : TsO K H (xs ++ ys) := fun x hx => (List.mem_append.mp hx).elim (h x) (h' x)
theorem TsO.one {K : PySem.W.Frag} {H : Hp} {x : V} (h : OddV K H x) : TsO K H [x] := fun y hy => by simp at hy; subst hy; exact h
theorem ThO.src {K : PySem.W.Frag} {H H' : Hp} {T : Addr} {v : V} (h : ThO K H v) (hT : Sr H T) (hT' : Sr H' T) (e : ExT T H H') : ThO K H' v := by
  cases h with
  | tup h h1 h2 => exact .tup (hT.tk e _ _ h) (fun x hx => (h1 x hx).src hT hT' e) h2
  | els h => exact .els (h.src hT hT' e)
theorem ThO.same {K : PySem.W.Frag} {H H' : Hp} {v : V} (h : ThO K H v) (e : Same H H') : ThO K H' v := by
  cases h with
  | tup h h1 h2 => exact .tup (e _ _ h) (fun x hx => (h1 x hx).same e) h2
  | els h => exact .els (h.same e)
theorem NoT.non {K : PySem.W.Frag} {H : Hp} : NoT K H .non := ⟨.non, .non, typ_non (by decide +kernel), fun _ _ => V.noConfusion⟩
theorem NoT.str {K : PySem.W.Frag} {H : Hp} (s : Str) : NoT K H (.str s) := ⟨.str s, .str s, typ_str (by decide +kernel), fun _ _ => V.noConfusion⟩
theorem NoT.int {K : PySem.W.Frag} {H : Hp} (i : Int) : NoT K H (.int i) := ⟨.int i, .int i, typ_int (by decide +kernel), fun _ _ => V.noConfusion⟩
theorem NoT.lst {K : PySem.W.Frag} {H : Hp} {a : Addr} {xs : List V} (h : H a = some (.lst xs)) : NoT K H (.ref a) := ⟨.lst h, .lst h, typ_lst h (by decide +kernel), fun b ys e q => by cases e; rw [h] at q; cases q⟩
theorem NoT.dK {K : PySem.W.Frag} {H : Hp} {a : Addr} {xs : List (L2.Key × V)} (h : H a = some (.dK xs)) : NoT K H (.ref a) := ⟨.dK h, .dK h, typ_dK h (by decide +kernel), fun b ys e q => by cases e; rw [h] at q; cases q⟩
theorem OddV.lst {K : PySem.W.Frag} {H : Hp} {a : Addr} {xs : List V} (h : H a = some (.lst xs)) : OddV K H (.ref a) := ⟨.lst h, .lst h, false, typ_lst h (by decide +kernel), by simp⟩
section
variable {P : Program} {w : World} {K : PySem.W.Frag} {mg : Str → Option Value} {base : Heap} {C CB CW : Addr}
def sp_deepO (K : PySem.W.Frag) : Sp := fun vs H Q _ => vs = [] ∧ ∀ p q H', Same H H' → H p = none → H' p = some (.tup [.ref q]) → OddV K H' (.ref q) → Q (.ref p) H'
theorem ok_law_deepO {f : Addr} {fd : FuncData} (F : Fun K "_law_deep" "_law_deep" s__law_deep f fd) (hm : mg "_law_deep" = some (.ref f)) (B : Bl mg) : Cal P w K mg base 1 "_law_deep" [] (sp_deepO K) := by
  refine ⟨f, fd, F.ok sc__law_deep (fun vs H Q E h => ?_) (fun cdv A outer s H vs Q E hr h => ?_), hm, F.kp, F.binds (ps := []) fun _ _ _ _ _ _ us hl => match us, hl with | [], _ => rfl⟩
  · obtain ⟨rfl, _⟩ := h; rfl
  · obtain ⟨rfl, k⟩ := h
    refine ⟨_, (pss_cons (ps_set (i := 0) sc__law_deep.nd rfl (by first | exact Or.inl rfl | exact Or.inr rfl) (pe_tup (pa_cons pe_non pa_nil)))
 (pss_cons (ps_for PassesOwn.never rfl (pi_range1 (by rfl) B.range (pa_cons pe_int pa_nil)) (pg_name (i := 1) sc__law_deep.nd rfl (by first | exact Or.inl rfl | exact Or.inr rfl))
  (pss_one (ps_set (i := 0) sc__law_deep.nd rfl (by first | exact Or.inl rfl | exact Or.inr rfl) (pe_ifExp (pt_cmpR op_lt (pv 1) pe_int (nomark _)) (pe_lst (pa_cons (pv 0) pa_nil)) (pe_tup (pa_cons (pv 0) pa_nil))))))
 (pss_one (ps_ret (pv 0))))), ?_⟩
    refine ⟨(by show 1 ≤ sizeLine; decide), fun p0 hp0 => ?_⟩
    refine ⟨32, rfl, by decide, by decide, for_range (lo := 0) (n := 32) (fun i σ H' => Same H H' ∧ ∃ (p : Addr) (v : Option V), σ = [some (.ref p), v] ∧ H p = none ∧ OddV K H' (.ref p) ∧ (17 ≤ i → ∃ q, H' p = some (.tup [.ref q]) ∧ OddV K H' (.ref q)))
      ⟨L2.Same.new hp0, p0, none, rfl, hp0, .tup upd_same (fun x hx => by simp at hx; subst hx; exact .non) (by show 1 ≤ 100000; decide), fun h => by omega⟩ ?_ ?_⟩
    · rintro i σ H1 hi ⟨e1, p, u, rfl, hp, op, _⟩
      refine ⟨_, rfl, _, _, rfl, rfl, _, rfl, ?_⟩
      show (if decide ((0 : Int) + (i : Nat) < 16) = true then _ else _)
      refine onb (fun c => ?_) (fun c => ?_)
      · refine ⟨_, rfl, (by show 1 ≤ sizeLine; decide), fun z hz => ?_⟩
        exact ⟨e1.new' hz, z, _, rfl, L2.Same.free e1 hz, .lst upd_same, fun h => by omega⟩
      · refine ⟨_, rfl, (by show 1 ≤ sizeLine; decide), fun z hz => ?_⟩
        have s2 := L2.Same.new (o := .tup [V.ref p]) hz
        exact ⟨e1.new' hz, z, _, rfl, L2.Same.free e1 hz, .tup upd_same (fun x hx => by simp at hx; subst hx; exact (op.same s2).it) (by show 1 ≤ 100000; decide), fun _ => ⟨p, upd_same, op.same s2⟩⟩
    · rintro σ H1 ⟨e1, p, u, rfl, hp, _, h⟩
      obtain ⟨q, h1, h2⟩ := h (by decide)
      exact ⟨_, rfl, k p q H1 e1 hp h1 h2⟩
end
section
variable {P : Program} {w : World} {K : PySem.W.Frag} {mg : Str → Option Value} {base : Heap} {C CB CW : Addr}
def sp_bentL (K : PySem.W.Frag) : Sp := fun vs H Q _ => ∃ (T a : Addr) (xs : List V) (wv ov : V), vs = [.ref T, .ref a, wv, ov] ∧ Sr H T ∧ H a = some (.tup xs) ∧ TsO K H xs ∧ 1 ≤ xs.length ∧ xs.length ≤ 100 ∧ NoT K H wv ∧ OddV K H wv ∧ NoT K H ov ∧ OddV K H ov ∧
  ∀ v H', ExT T H H' → Sr H' T → ThO K H' v → Q v H'
abbrev s__law_bent : Stmt := (top 46)
theorem sc__law_bent : FnScope ["source", "thing", "web", "one", "at", "odds", "odd", "things"] ["source", "thing", "web", "one"] (defScope s__law_bent) := ⟨rfl, rfl, rfl, by decide +kernel, rfl, by decide +kernel, by decide +kernel⟩

theorem ok_law_bent {f : Addr} {fd : FuncData} (F : Fun K "_law_bent" "_law_bent" s__law_bent f fd) (hm : mg "_law_bent" = some (.ref f)) (B : Bl mg) (c__law_draw : Cal P w K mg base 1 "_law_draw" ["source", "many"] spDraw) (c__law_deep : Cal P w K mg base 1 "_law_deep" [] (sp_deepO K)) : Cal P w K mg base 2 "_law_bent" ["source", "thing", "web", "one"] (sp_bentL K) := by
  refine ⟨f, fd, F.ok sc__law_bent (fun vs H Q E h => ?_) (fun cdv A outer s H vs Q E hr h => ?_), hm, F.kp, F.binds (ps := ["source", "thing", "web", "one"]) fun _ _ _ _ _ _ us hl => match us, hl with | [_, _, _, _], _ => rfl⟩
  · obtain ⟨T, a, xs, wv, ov, rfl, _⟩ := h; rfl
  · obtain ⟨T, a, xs, wv, ov, rfl, hT, ha, hxs, l1, l2, nw, ow, no, oo, k⟩ := h
    refine ⟨_, (pss_cons (ps_set (i := 4) sc__law_bent.nd rfl (by first | exact Or.inl rfl | exact Or.inr rfl) (pe_cal c__law_draw (hr.mono (by first | decide | omega)) (pa_cons (pv 0) (pa_cons (pe_callB call_len_seq (by rfl) B.len (by decide +kernel) (pa_cons (pv 1) pa_nil)) pa_nil))))
 (pss_cons (ps_set (i := 5) sc__law_bent.nd rfl (by first | exact Or.inl rfl | exact Or.inr rfl) (pe_lst (pa_cons pe_non (pa_cons pe_bl (pa_cons pe_bl (pa_cons (pe_un un_neg pe_int) (pa_cons pe_int (pa_cons pe_str (pa_cons pe_str (pa_cons pe_str (pa_cons (pe_tup (pa_cons pe_int pa_nil)) (pa_cons pe_int (pa_cons pe_int (pa_cons pe_int (pa_cons (pe_cal0 c__law_deep (hr.mono (by first | decide | omega))) (pa_cons (pv 2) (pa_cons (pv 3) pa_nil)))))))))))))))))
 (pss_cons (ps_set (i := 6) sc__law_bent.nd rfl (by first | exact Or.inl rfl | exact Or.inr rfl) (pe_ix ix_list (pv 5) (pe_cal c__law_draw (hr.mono (by first | decide | omega)) (pa_cons (pv 0) (pa_cons pe_int pa_nil))) (fun _ _ => rfl)))
 (pss_cons (ps_set (i := 7) sc__law_bent.nd rfl (by first | exact Or.inl rfl | exact Or.inr rfl) (pe_lst (pa_cons (pv 1) (pa_cons (pe_op op_catA (pe_op op_catA (pe_slice sl_tupA (pv 1) po_none (po_some (pv 4))) (pe_tup (pa_cons (pv 6) pa_nil))) (pe_slice sl_tupA (pv 1) (po_some (pe_op op_add (pv 4) pe_int)) po_none)) (pa_cons (pe_op op_catA (pe_op op_catA (pe_slice sl_tupA (pv 1) po_none (po_some (pv 4))) (pe_tup (pa_cons (pv 6) pa_nil))) (pe_slice sl_tupA (pv 1) (po_some (pe_op op_add (pv 4) pe_int)) po_none)) (pa_cons (pe_op op_catA (pv 1) (pe_tup (pa_cons (pv 6) pa_nil))) (pa_cons (pe_slice sl_tupA (pv 1) po_none (po_some (pe_un un_neg pe_int))) pa_nil)))))))
 (pss_cons (ps_set (i := 7) sc__law_bent.nd rfl (by first | exact Or.inl rfl | exact Or.inr rfl) (pe_op op_cat (pv 7) (pe_lst (pa_cons (pe_callTy call_list_of (by rfl) B.list_ (by decide +kernel) (pa_cons (pv 1) pa_nil)) (pa_cons (pe_op op_catA (pe_slice sl_tupA (pv 1) po_none (po_some pe_int)) (pe_rev0 (pv 1))) (pa_cons (pe_slice sl_tupA (pv 1) (po_some pe_int) po_none) (pa_cons pe_non (pa_cons pe_dnewK (pa_cons pe_str (pa_cons pe_int (pa_cons (pe_tup pa_nil) (pa_cons (pe_cal0 c__law_deep (hr.mono (by first | decide | omega))) (pa_cons (pv 2) (pa_cons (pv 3) pa_nil))))))))))))))
 (pss_one (ps_ret (pe_ix ix_list (pv 7) (pe_cal c__law_draw (hr.mono (by first | decide | omega)) (pa_cons (pv 0) (pa_cons pe_int pa_nil))) (fun _ _ => rfl))))))))), ?_⟩
    refine ⟨_, rfl, _, rfl, a, _, rfl, .inr (SqT.of ha), T, _, rfl, by omega, by omega, hT, fun r H1 r0 r1 e1 hT1 => ?_⟩
    have ha1 := (hT.tk e1) _ _ ha
    have hxs1 := hxs.src hT hT1 e1
    have nw1 := nw.src hT hT1 e1
    have ow1 := ow.src hT hT1 e1
    have no1 := no.src hT hT1 e1
    have oo1 := oo.src hT hT1 e1
    -- odds
    refine ⟨_, rfl, (by show 1 ≤ sizeLine; decide), fun p1 hp1 => ?_⟩
    have q1 := L2.Same.new (o := .tup [V.int 0]) hp1
    refine ⟨rfl, fun p2 d2 H2 q2' np2 hp2 iq2 => ?_⟩
    have q2 := q1.trans q2'
    refine ⟨_, rfl, _, rfl, (by show 15 ≤ sizeLine; decide), fun D hD => ?_⟩
    have q3' := L2.Same.new (o := .lst [V.non, .bl true, .bl false, .int (-1), .int 64, .str "0", .str "three", .str "never", .ref p1, .int 0, .int 1, .int 2, .ref p2, wv, ov]) hD
    have q3 := q2.trans q3'
    have hDl : (upd H2 D (.lst [V.non, .bl true, .bl false, .int (-1), .int 64, .str "0", .str "three", .str "never", .ref p1, .int 0, .int 1, .int 2, .ref p2, wv, ov])) D = some (.lst [V.non, .bl true, .bl false, .int (-1), .int 64, .str "0", .str "three", .str "never", .ref p1, .int 0, .int 1, .int 2, .ref p2, wv, ov]) := upd_same
    have odds : TsO K (upd H2 D (.lst [V.non, .bl true, .bl false, .int (-1), .int 64, .str "0", .str "three", .str "never", .ref p1, .int 0, .int 1, .int 2, .ref p2, wv, ov])) [V.non, .bl true, .bl false, .int (-1), .int 64, .str "0", .str "three", .str "never", .ref p1, .int 0, .int 1, .int 2, .ref p2, wv, ov] := by
      intro x hx
      simp only [List.mem_cons, List.not_mem_nil, or_false] at hx
      rcases hx with rfl | rfl | rfl | rfl | rfl | rfl | rfl | rfl | rfl | rfl | rfl | rfl | rfl | rfl | rfl
      · exact .non
      · exact .bl _
      · exact .bl _
      · exact .int _
      · exact .int _
      · exact .str _
      · exact .str _
      · exact .str _
      · exact .tup ((q2'.trans q3') _ _ upd_same) (fun x hx => by simp at hx; subst hx; exact .int _) (by show 1 ≤ 100000; decide)
      · exact .int _
      · exact .int _
      · exact .int _
      · exact .tup (q3' _ _ hp2) (fun x hx => by simp at hx; subst hx; exact (iq2.same q3').it) (by show 1 ≤ 100000; decide)
      · exact ow1.same q3
      · exact oo1.same q3
    have DT : D ≠ T := (hT1.ext q2).neT hD
    generalize upd H2 D (.lst [V.non, .bl true, .bl false, .int (-1), .int 64, .str "0", .str "three", .str "never", .ref p1, .int 0, .int 1, .int 2, .ref p2, wv, ov]) = H3 at q3 hDl odds ⊢
    obtain ⟨its, il, hDl, odds⟩ : ∃ its : List V, its.length = 15 ∧ H3 D = some (.lst its) ∧ TsO K H3 its := ⟨_, rfl, hDl, odds⟩
    have hT3 := hT1.ext q3
    refine ⟨_, rfl, _, rfl, T, 15, rfl, by decide, by decide, hT3, fun i H4 i0 i1 e4 hT4 => ?_⟩
    have hi : i.toNat < its.length := by omega
    have hgi : its[i.toNat]? = some its[i.toNat] := List.getElem?_eq_getElem hi
    refine ⟨D, its, _, _, rfl, rfl, SqL.of (e4 _ _ DT hDl), at_of (j := i.toNat) (by omega) hgi, ?_⟩
    have odd : OddV K H4 its[i.toNat] := (odds _ (List.mem_of_getElem? hgi)).src hT3 hT4 e4
    generalize its[i.toNat] = od at odd hgi
    have ha4 := (hT3.tk e4) _ _ (q3 _ _ ha1)
    have xs4 := (hxs1.ext q3).src hT3 hT4 e4
    have nw4 := (nw1.same q3).src hT3 hT4 e4
    have no4 := (no1.same q3).src hT3 hT4 e4
    have E4 : ExT T H H4 := e1.trans (q3.exT.trans e4)
    have cl : ∀ lo hi, (cutV xs lo hi).length ≤ 100 := fun lo hi => Nat.le_trans (cutV_length _ _ _) l2
    have big : ∀ m : Nat, m ≤ 1000 → m ≤ sizeLine := fun m h => Nat.le_trans h (by decide)
    clear q1 q2 q2' q3 q3' hp1 hp2 np2 iq2 hD odds hDl hgi hxs1 nw1 ow1 no1 oo1 hxs nw ow no oo ha1
    -- things
    refine ⟨_, rfl, _, rfl, _, rfl, _, rfl, sl_any ((L2.Same.refl H4) _ _ ha4) fun b1 H1a s1a hb1 => ?_⟩
    refine ⟨_, rfl, (by show 1 ≤ sizeLine; decide), fun c1 hc1 => ?_⟩
    have s1b := L2.Same.new (o := .tup [od]) hc1
    refine cat_any (s1b _ _ hb1) upd_same (big _ (by have := cl none (some r); show _ + 1 ≤ 1000; omega)) fun d1 H1c s1c hd1 => ?_
    have w1 := ((L2.Same.refl H4)).trans (s1a.trans (s1b.trans s1c))
    refine ⟨_, rfl, _, rfl, _, _, rfl, rfl, _, rfl, sl_from (w1 _ _ ha4) fun e1 H1d s1d he1 => ?_⟩
    refine cat_any (s1d _ _ hd1) he1 (big _ (by have := cl none (some r); have := cl (some (r + 1)) none; rw [List.length_append]; show _ + 1 + _ ≤ 1000; omega)) fun t1 H1e s1e ht1 => ?_
    have z1 := w1.trans (s1d.trans s1e)
    refine ⟨_, rfl, _, rfl, _, rfl, sl_any (z1 _ _ ha4) fun b2 H2a s2a hb2 => ?_⟩
    refine ⟨_, rfl, (by show 1 ≤ sizeLine; decide), fun c2 hc2 => ?_⟩
    have s2b := L2.Same.new (o := .tup [od]) hc2
    refine cat_any (s2b _ _ hb2) upd_same (big _ (by have := cl none (some r); show _ + 1 ≤ 1000; omega)) fun d2 H2c s2c hd2 => ?_
    have w2 := (z1).trans (s2a.trans (s2b.trans s2c))
    refine ⟨_, rfl, _, rfl, _, _, rfl, rfl, _, rfl, sl_from (w2 _ _ ha4) fun e2 H2d s2d he2 => ?_⟩
    refine cat_any (s2d _ _ hd2) he2 (big _ (by have := cl none (some r); have := cl (some (r + 1)) none; rw [List.length_append]; show _ + 1 + _ ≤ 1000; omega)) fun t2 H2e s2e ht2 => ?_
    have z2 := w2.trans (s2d.trans s2e)
    refine ⟨_, rfl, _, rfl, (by show 1 ≤ sizeLine; decide), fun c3 hc3 => ?_⟩
    have s3b := L2.Same.new (o := .tup [od]) hc3
    refine cat_any ((z2.trans s3b) _ _ ha4) upd_same (big _ (by show xs.length + 1 ≤ 1000; omega)) fun t3 H3c s3c ht3 => ?_
    have z3 := z2.trans (s3b.trans s3c)
    refine ⟨_, rfl, _, rfl, _, rfl, sl_any (z3 _ _ ha4) fun t4 H4d s4d ht4 => ?_⟩
    have z4 := z3.trans s4d
    refine ⟨(by show 5 ≤ sizeLine; decide), fun G1 hG1 => ?_⟩
    have s5 := L2.Same.new (o := .lst [V.ref a, .ref t1, .ref t2, .ref t3, .ref t4]) hG1
    have z5 := z4.trans s5
    have gG1 : (upd H4d G1 (.lst [V.ref a, .ref t1, .ref t2, .ref t3, .ref t4])) G1 = some (.lst [V.ref a, .ref t1, .ref t2, .ref t3, .ref t4]) := upd_same
    have g1 := (s5) _ _ (s4d _ _ ((s3b.trans s3c) _ _ ((s2a.trans (s2b.trans (s2c.trans (s2d.trans s2e)))) _ _ ht1)))
    have g2 := s5 _ _ (s4d _ _ ((s3b.trans s3c) _ _ ht2))
    have g3 := s5 _ _ (s4d _ _ ht3)
    have g4 := s5 _ _ ht4
    generalize upd H4d G1 (.lst [V.ref a, .ref t1, .ref t2, .ref t3, .ref t4]) = H6 at z5 gG1 g1 g2 g3 g4 ⊢
    clear s5 z4 z3 z2 z1 w1 w2 s1a s1b s1c s1d s1e s2a s2b s2c s2d s2e s3b s3c s4d hc1 hc2 hc3 hb1 hb2 hd1 hd2 he1 he2 ht1 ht2 ht3 ht4 hG1
    refine ⟨_, rfl, _, rfl, a, _, rfl, .inr (SqT.of (z5 _ _ ha4)), fun m1 hm1 => ?_⟩
    have s6 := L2.Same.new (o := .lst xs) hm1
    refine ⟨_, rfl, _, rfl, sl_any ((z5.trans s6) _ _ ha4) fun b6 H7 s7 hb6 => ?_⟩
    have z7 := z5.trans (s6.trans s7)
    obtain ⟨u0, us, hu⟩ : ∃ u0 us, xs = u0 :: us := by
      cases xs with
      | nil => simp at l1
      | cons u0 us => exact ⟨_, _, rfl⟩
    have ha7 := z7 _ _ ha4
    rw [hu] at ha7
    refine ⟨_, rfl, a, u0, us, rfl, SqT.of ha7, fun b7 hb7 => ?_⟩
    have s8 := L2.Same.new (o := .tup us.reverse) hb7
    refine cat_any (s8 _ _ hb6) upd_same (big _ (by have := cl none (some 1); have : us.length ≤ 100 := (by rw [hu] at l2; simp at l2; omega); rw [List.length_reverse]; omega)) fun m2 H9 s9 hm2 => ?_
    have z9 := z7.trans (s8.trans s9)
    refine ⟨_, rfl, _, rfl, sl_from (z9 _ _ ha4) fun m3 H10 s10 hm3 => ?_⟩
    have z10 := z9.trans s10
    refine fun m4 hm4 => ?_
    have s11 := L2.Same.new (o := .dK []) hm4
    refine ⟨Nat.zero_le _, fun m5 hm5 => ?_⟩
    have s12 := L2.Same.new (o := .tup []) hm5
    refine ⟨rfl, fun m6 d6 H13 s13 nm6 hm6 iq6 => ?_⟩
    refine ⟨_, rfl, _, rfl, (by show 11 ≤ sizeLine; decide), fun G2 hG2 => ?_⟩
    have s14 := L2.Same.new (o := .lst [V.ref m1, .ref m2, .ref m3, .non, .ref m4, .str "never", .int 0, .ref m5, .ref m6, wv, ov]) hG2
    have z14 := z10.trans (s11.trans (s12.trans (s13.trans s14)))
    refine ⟨G1, G2, _, _, rfl, rfl, ((s6.trans (s7.trans (s8.trans (s9.trans (s10.trans (s11.trans (s12.trans (s13.trans s14)))))))) _ _ gG1), upd_same, (by show 16 ≤ sizeLine; decide), fun G hG => ?_⟩
    have s15 := L2.Same.new (o := .lst ([V.ref a, .ref t1, .ref t2, .ref t3, .ref t4] ++ [V.ref m1, .ref m2, .ref m3, .non, .ref m4, .str "never", .int 0, .ref m5, .ref m6, wv, ov])) hG
    have z15 := z14.trans s15
    have GT : G ≠ T := (hT4.ext z14).neT hG
    have tups : ∀ {b : Addr} {ys : List V}, H6 b = some (.tup ys) → TsO K H4 ys → ys.length ≤ 1000 → ThO K (upd (upd H13 G2 (.lst [V.ref m1, .ref m2, .ref m3, .non, .ref m4, .str "never", .int 0, .ref m5, .ref m6, wv, ov])) G (.lst ([V.ref a, .ref t1, .ref t2, .ref t3, .ref t4] ++ [V.ref m1, .ref m2, .ref m3, .non, .ref m4, .str "never", .int 0, .ref m5, .ref m6, wv, ov]))) (.ref b) := fun h1 h2 h3 =>
      .tup ((s6.trans (s7.trans (s8.trans (s9.trans (s10.trans (s11.trans (s12.trans (s13.trans (s14.trans s15))))))))) _ _ h1) (h2.ext z15) h3
    have mid : ∀ lo hi, TsO K H4 (cutV xs none lo ++ [od] ++ cutV xs hi none) := fun lo hi => ((xs4.cut _ _).app (TsO.one odd)).app (xs4.cut _ _)
    have ml : ∀ lo hi, (cutV xs none lo ++ [od] ++ cutV xs hi none).length ≤ 1000 := fun lo hi => by
      have := cl none lo; have := cl hi none
      rw [List.length_append, List.length_append]; show _ + 1 + _ ≤ 1000; omega
    have tss : ∀ x ∈ [V.ref a, .ref t1, .ref t2, .ref t3, .ref t4] ++ [V.ref m1, .ref m2, .ref m3, .non, .ref m4, .str "never", .int 0, .ref m5, .ref m6, wv, ov], ThO K (upd (upd H13 G2 (.lst [V.ref m1, .ref m2, .ref m3, .non, .ref m4, .str "never", .int 0, .ref m5, .ref m6, wv, ov])) G (.lst ([V.ref a, .ref t1, .ref t2, .ref t3, .ref t4] ++ [V.ref m1, .ref m2, .ref m3, .non, .ref m4, .str "never", .int 0, .ref m5, .ref m6, wv, ov]))) x := by
      intro x hx
      simp only [List.cons_append, List.nil_append, List.mem_cons, List.not_mem_nil, or_false] at hx
      rcases hx with rfl | rfl | rfl | rfl | rfl | rfl | rfl | rfl | rfl | rfl | rfl | rfl | rfl | rfl | rfl | rfl
      · exact tups (z5 _ _ ha4) xs4 (by omega)
      · exact tups g1 (mid _ _) (ml _ _)
      · exact tups g2 (mid _ _) (ml _ _)
      · exact tups g3 (xs4.app (TsO.one odd)) (by rw [List.length_append]; show xs.length + 1 ≤ 1000; omega)
      · exact tups g4 (xs4.cut _ _) (Nat.le_trans (cl _ _) (by decide))
      · exact .els (NoT.lst ((s7.trans (s8.trans (s9.trans (s10.trans (s11.trans (s12.trans (s13.trans (s14.trans s15)))))))) _ _ upd_same))
      · refine .tup ((s10.trans (s11.trans (s12.trans (s13.trans (s14.trans s15))))) _ _ hm2) (((xs4.cut _ _).app fun x hx => xs4 x (by rw [hu]; exact List.mem_cons_of_mem _ (List.mem_reverse.mp hx))).ext z15) ?_
        have := cl none (some 1)
        have : us.length ≤ 100 := (by rw [hu] at l2; simp at l2; omega)
        rw [List.length_append, List.length_reverse]; omega
      · exact .tup ((s11.trans (s12.trans (s13.trans (s14.trans s15)))) _ _ hm3) ((xs4.cut _ _).ext z15) (Nat.le_trans (cl _ _) (by decide))
      · exact .els NoT.non
      · exact .els (NoT.dK ((s12.trans (s13.trans (s14.trans s15))) _ _ upd_same))
      · exact .els (NoT.str _)
      · exact .els (NoT.int _)
      · exact .tup ((s13.trans (s14.trans s15)) _ _ upd_same) (fun x hx => by cases hx) (Nat.zero_le _)
      · exact .tup ((s14.trans s15) _ _ hm6) (fun x hx => by simp at hx; subst hx; exact iq6.same (s14.trans s15)) (by show 1 ≤ 1000; decide)
      · exact .els (nw4.same z15)
      · exact .els (no4.same z15)
    have hGl : (upd (upd H13 G2 (.lst [V.ref m1, .ref m2, .ref m3, .non, .ref m4, .str "never", .int 0, .ref m5, .ref m6, wv, ov])) G (.lst ([V.ref a, .ref t1, .ref t2, .ref t3, .ref t4] ++ [V.ref m1, .ref m2, .ref m3, .non, .ref m4, .str "never", .int 0, .ref m5, .ref m6, wv, ov]))) G = some (.lst ([V.ref a, .ref t1, .ref t2, .ref t3, .ref t4] ++ [V.ref m1, .ref m2, .ref m3, .non, .ref m4, .str "never", .int 0, .ref m5, .ref m6, wv, ov])) := upd_same
    have hTF := hT4.ext z15
    refine ⟨_, rfl, _, rfl, T, 16, rfl, by decide, by decide, hTF, fun i3 HZ j0 j1 eZ hTZ => ?_⟩
    generalize hL : [V.ref a, .ref t1, .ref t2, .ref t3, .ref t4] ++ [V.ref m1, .ref m2, .ref m3, .non, .ref m4, .str "never", .int 0, .ref m5, .ref m6, wv, ov] = LL at tss hGl hTF eZ z15 s15 ⊢
    have ll : LL.length = 16 := by rw [← hL]; rfl
    have hi : i3.toNat < LL.length := by omega
    have hgi : LL[i3.toNat]? = some LL[i3.toNat] := List.getElem?_eq_getElem hi
    refine ⟨G, LL, _, _, rfl, rfl, SqL.of (eZ _ _ GT hGl), at_of (j := i3.toNat) (by omega) hgi, ?_⟩
    exact k _ HZ (E4.trans (z15.exT.trans eZ)) hTZ ((tss _ (List.mem_of_getElem? hgi)).src hTF hTZ eZ)
end
end Bs

namespace Bs
open PySem PySem.Spec PyProof.Rows L2
theorem inst_odd {K : PySem.W.Frag} {C x dx : Addr} {fs : List (Str × V)} {H : Hp} (cl : Cls K C) (xc : PySem.W.findIn K (.ref C) "__class__" = some (some (.builtin "object.__class__"))) (xg : PySem.W.specialIn K (.builtin "object.__class__") "__get__" = some (some (.builtin "getset_descriptor.__get__"))) (xt : PySem.W.takesIn K (.builtin "object.__class__") = some true) (xm : PySem.W.mroIn K C (.type "object") = some true)
    (CT : ClsTy K C) (ks : PySem.W.kitOne K (.ref C) (.type "str") = some false) (h : H x = some (.ins C dx fs)) : NoT K H (.ref x) ∧ OddV K H (.ref x) := by
  have ty : TyX K H (.ref x) (.ref C) := .base (.ins h cl xc xg xt xm)
  have nt : ∀ a xs, V.ref x = .ref a → H a ≠ some (.tup xs) := fun a ys e q => by cases e; rw [h] at q; cases q
  have i1 : Item K H (.ref x) := .els ⟨_, ty, CT.int⟩ (fun _ => V.noConfusion)
  have i2 : ThE K H (.ref x) := ⟨.els ⟨_, ty, CT.tup⟩ nt, fun a e q => by cases e; rw [h] at q; cases q⟩
  exact ⟨⟨i1, i2, ⟨_, ty, CT.tup⟩, nt⟩, i1, i2, false, ⟨_, ty, ks⟩, by simp⟩
theorem lack_same {K : PySem.W.Frag} {H H' : Hp} {v : V} {R : List V → Prop} (t : ThO K H v) (e : Same H H') : (∃ a xs, v = .ref a ∧ H a = some (.tup xs) ∧ R xs) ↔ ∃ a xs, v = .ref a ∧ H' a = some (.tup xs) ∧ R xs := by
  constructor
  · rintro ⟨a, xs, h1, h2, h3⟩
    exact ⟨a, xs, h1, e _ _ h2, h3⟩
  · rintro ⟨a, xs, h1, h2, h3⟩
    cases t with
    | tup h _ _ =>
      cases h1
      have := tup_inj (e _ _ h) h2
      subst this
      exact ⟨_, _, rfl, h, h3⟩
    | els N =>
      cases c : H a with
      | none => exact absurd c (N.th.2 a h1)
      | some o => rw [e _ _ c] at h2; cases h2; exact absurd c (N.no a xs h1)
theorem if_two {c : Prop} [Decidable c] {A B v3 : V} {G : V → Prop} (h1 : c → v3 = A) (h2 : ¬ c → v3 = B) (hG : G v3) : if decide c = true then (∃ v, some (some A) = some (some v) ∧ G v) else (∃ v, some (some B) = some (some v) ∧ G v) := by
  by_cases h : c
  · rw [if_pos (decide_eq_true h)]; exact ⟨A, rfl, h1 h ▸ hG⟩
  · rw [if_neg (by simpa using h)]; exact ⟨B, rfl, h2 h ▸ hG⟩
def ThingOk (K : PySem.W.Frag) (H : Hp) (v : V) : Prop := ∃ a xs, v = .ref a ∧ H a = some (.tup xs) ∧ TsO K H xs ∧ 1 ≤ xs.length ∧ xs.length ≤ 100
theorem ThingOk.same {K : PySem.W.Frag} {H H' : Hp} {v : V} (h : ThingOk K H v) (e : Same H H') : ThingOk K H' v := let ⟨a, xs, h1, h2, h3, h4⟩ := h; ⟨a, xs, h1, e _ _ h2, h3.ext e, h4⟩
theorem ThingOk.src {K : PySem.W.Frag} {H H' : Hp} {T : Addr} {v : V} (h : ThingOk K H v) (hT : Sr H T) (hT' : Sr H' T) (e : ExT T H H') : ThingOk K H' v := let ⟨a, xs, h1, h2, h3, h4⟩ := h; ⟨a, xs, h1, hT.tk e _ _ h2, h3.src hT hT' e, h4⟩
section
variable {P : Program} {w : World} {K : PySem.W.Frag} {mg : Str → Option Value} {base : Heap} {C D : Addr}
def sp_law (K : PySem.W.Frag) : Sp := fun vs H Q _ => ∃ (a : Addr) (ns : List Int), vs = [.ref a] ∧ SqL K H a (ns.map V.int) ∧ ∀ H', Q (.bl true) H'
abbrev s_law : Stmt := (top 47)
theorem sc_law : FnScope ["script", "k", "source", "places", "stands", "one", "web", "drawn", "known", "thing", "turn", "bent"] ["script"] (defScope s_law) := ⟨rfl, rfl, rfl, by decide +kernel, rfl, by decide +kernel, by decide +kernel⟩

theorem ok_law {f fe : Addr} {fd fde : FuncData} (F : Fun K "law" "law" s_law f fd) (B : Bl mg) (TW : Txt K mg D) (CT : ClsTy K D) (ksW : PySem.W.kitOne K (.ref D) (.type "str") = some false) (T : TxtL K mg C) (T2 : TxtL2 K C) (CL : ClsTy K C) (ksL : PySem.W.kitOne K (.ref C) (.type "str") = some false) (N : OwnNe K C fe) (Feq : FnOk P w K mg base CX0 1 fe fde ["self", "other"] (sp_List_eq K C)) (bEq : Binds K fde ["self", "other"] [])
    (m_Web : Mkc P w K mg base 5 D "Web" ["self", "size", "ties"] (sp_Web_init D)) (m_List : Mkc P w K mg base 5 C "List" ["self", "places", "stands"] (sp_List_init C))
    (c__law_source : Cal P w K mg base 1 "_law_source" ["script", "k"] (sp_source K)) (c__law_draw : Cal P w K mg base 1 "_law_draw" ["source", "many"] spDraw) (c__law_perm : Cal P w K mg base 2 "_law_perm" ["source", "many"] sp_perm) (c__law_places : Cal P w K mg base 2 "_law_places" ["source", "most"] sp_places) (c__law_stands : Cal P w K mg base 5 "_law_stands" ["source", "places"] sp_stands)
    (c__law_lack : Cal P w K mg base 2 "_law_lack" ["places", "stands"] sp_lack) (c__law_bent : Cal P w K mg base 2 "_law_bent" ["source", "thing", "web", "one"] (sp_bentL K)) (c__law_is_lack : Cal P w K mg base 2 "_law_is_lack" ["places", "stands", "thing"] (sp_lis_lack K)) (c_is_lack : Cal P w K mg base 5 "is_lack" ["a_list", "thing"] (sp_is_lack K C)) (c__law_flag : Cal P w K mg base 1 "_law_flag" ["told", "due"] sp_flag) :
    FnOk P w K mg base CX0 7 f fd ["script"] (sp_law K) := by
  refine F.ok sc_law (fun vs H Q E h => ?_) (fun cdv A outer s H vs Q E hr h => ?_)
  · obtain ⟨a, ns, rfl, _⟩ := h; rfl
  · obtain ⟨a, ns, rfl, hS, k⟩ := h
    refine ⟨_, (pss_cons (ps_for PassesOwn.never rfl (pi_range1 (by rfl) B.range (pa_cons pe_int pa_nil)) (pg_name (i := 1) sc_law.nd rfl (by first | exact Or.inl rfl | exact Or.inr rfl))
  (pss_cons (ps_set (i := 2) sc_law.nd rfl (by first | exact Or.inl rfl | exact Or.inr rfl) (pe_cal c__law_source (hr.mono (by first | decide | omega)) (pa_cons (pv 0) (pa_cons (pv 1) pa_nil))))
 (pss_cons (ps_set (i := 3) sc_law.nd rfl (by first | exact Or.inl rfl | exact Or.inr rfl) (pe_cal c__law_places (hr.mono (by first | decide | omega)) (pa_cons (pv 2) (pa_cons pe_int pa_nil))))
 (pss_cons (ps_set (i := 4) sc_law.nd rfl (by first | exact Or.inl rfl | exact Or.inr rfl) (pe_cal c__law_stands (hr.mono (by first | decide | omega)) (pa_cons (pv 2) (pa_cons (pv 3) pa_nil))))
 (pss_cons (ps_set (i := 5) sc_law.nd rfl (by first | exact Or.inl rfl | exact Or.inr rfl) (pe_mkc m_List (hr.mono (by first | decide | omega)) (pa_cons (pv 3) (pa_cons (pv 4) pa_nil))))
 (pss_cons (ps_set (i := 6) sc_law.nd rfl (by first | exact Or.inl rfl | exact Or.inr rfl) (pe_mkc m_Web (hr.mono (by first | decide | omega)) (pa_cons pe_int (pa_cons (pe_tup (pa_cons (pe_tup (pa_cons pe_int (pa_cons pe_int pa_nil))) pa_nil)) pa_nil))))
 (pss_cons (ps_set (i := 7) sc_law.nd rfl (by first | exact Or.inl rfl | exact Or.inr rfl) (pe_op op_catA (pe_tup (pa_cons pe_str pa_nil)) (pe_callTy call_tuple_of (by rfl) B.tuple_ (by decide +kernel) (pa_cons (pe_callB cr_sortedI (by rfl) B.sorted (by decide +kernel) (pa_cons (pe_slice sl_list (pe_cal c__law_perm (hr.mono (by first | decide | omega)) (pa_cons (pv 2) (pa_cons (pe_op op_add (pe_callB call_len_seq (by rfl) B.len (by decide +kernel) (pa_cons (pv 4) pa_nil)) pe_int) pa_nil))) po_none (po_some pe_int)) pa_nil)) pa_nil))))
 (pss_cons (ps_set (i := 8) sc_law.nd rfl (by first | exact Or.inl rfl | exact Or.inr rfl) (pe_cal c__law_lack (hr.mono (by first | decide | omega)) (pa_cons (pv 3) (pa_cons (pv 4) pa_nil))))
 (pss_cons (ps_for PassesOwn.never rfl (pi_list (pe_lst (pa_cons (pv 7) (pa_cons (pe_tup (pa_cons pe_str (pa_cons (pe_cal c__law_draw (hr.mono (by first | decide | omega)) (pa_cons (pv 2) (pa_cons (pv 3) pa_nil))) pa_nil))) (pa_cons (pe_ifExp (pt_cmpR op_isN (pv 8) pe_non (nomark _)) (pv 7) (pv 8)) pa_nil))))) (pg_name (i := 9) sc_law.nd rfl (by first | exact Or.inl rfl | exact Or.inr rfl))
  (pss_one (ps_for PassesOwn.never rfl (pi_range1 (by rfl) B.range (pa_cons pe_int pa_nil)) (pg_name (i := 10) sc_law.nd rfl (by first | exact Or.inl rfl | exact Or.inr rfl))
  (pss_cons (ps_set (i := 11) sc_law.nd rfl (by first | exact Or.inl rfl | exact Or.inr rfl) (pe_cal c__law_bent (hr.mono (by first | decide | omega)) (pa_cons (pv 2) (pa_cons (pv 9) (pa_cons (pv 6) (pa_cons (pv 5) pa_nil))))))
 (pss_one (ps_if (pt_not (pt_val (pe_cal c__law_flag (hr.mono (by first | decide | omega)) (pa_cons (pe_cal c_is_lack (hr.mono (by first | decide | omega)) (pa_cons (pv 5) (pa_cons (pv 11) pa_nil))) (pa_cons (pe_cal c__law_is_lack (hr.mono (by first | decide | omega)) (pa_cons (pv 3) (pa_cons (pv 4) (pa_cons (pv 11) pa_nil)))) pa_nil))))) (pss_one (ps_ret pe_bl)) pss_nil))))))
 (pss_one (ps_if (pt_cmpR (op_neAny N Feq (hr.mono (by decide)) bEq) (pv 5) (pe_mkc m_List (hr.mono (by first | decide | omega)) (pa_cons (pv 3) (pa_cons (pv 4) pa_nil))) (nomark _)) (pss_one (ps_ret pe_bl)) pss_nil)))))))))))
 (pss_one (ps_ret pe_bl))), ?_⟩
    refine ⟨5, rfl, by decide, by decide, for_range (lo := 0) (n := 5) (fun i σ H' => ∃ v1 v2 v3 v4 v5 v6 v7 v8 v9 v10 v11 : Option V, σ = [some (.ref a), v1, v2, v3, v4, v5, v6, v7, v8, v9, v10, v11] ∧ Same H H')
      ⟨none, none, none, none, none, none, none, none, none, none, none, rfl, L2.Same.refl _⟩ ?_ (fun σ H' _ => k H')⟩
    rintro i σ H2 hi ⟨v1, v2, v3, v4, v5, v6, v7, v8, v9, v10, v11, rfl, e2⟩
    refine ⟨_, rfl, _, rfl, a, ns, _, rfl, e2.seq hS, by omega, fun S H3 e3 nS hT3 => ?_⟩
    refine ⟨_, rfl, S, 5, rfl, hT3, by decide, by decide, fun pl H4 e4 hT4 p1 p5 => ?_⟩
    refine ⟨_, rfl, _, rfl, S, pl, rfl, hT4, p1, p5, fun st Us H5 e5 hT5 hU hne h49 => ?_⟩
    refine ⟨_, rfl, _, rfl, make_list p1 (by omega) hU hne (by omega) fun y H6 s6 ny L => ?_⟩
    refine ⟨(by show 2 ≤ sizeLine; decide), fun t0 ht0 => ⟨(by show 1 ≤ sizeLine; decide), fun t1 ht1 => ?_⟩⟩
    have f1 := L2.Same.new (o := .tup [V.int 0, .int 1]) ht0
    have f2 := L2.Same.new (o := .tup [V.ref t0]) ht1
    have G01 : Good 2 [(0, 1)] := ⟨by simp, by simp⟩
    refine make_web (C := D) (by decide) (by decide) upd_same (.cons ⟨t0, rfl, f2 _ _ upd_same⟩ .nil) G01 fun x H7 s7 nx W hx => ?_
    obtain ⟨dw, hw⟩ := hx
    have s57 := s6.trans ((f1.trans f2).trans s7)
    have hT7 := hT5.ext s57
    have hU7 := hU.tk s57.tk
    have L7 := L.same ((f1.trans f2).trans s7)
    have E7 : ExT S H2 H7 := (e3.exT.trans (e4.trans e5)).trans s57.exT
    obtain ⟨xs, hst, hp7, hlot, _⟩ := id hU7
    have xl := Paired.len hp7
    clear f1 f2 ht0 ht1 W
    -- drawn
    refine ⟨(by show 1 ≤ sizeLine; decide), fun r1 hr1 => ?_⟩
    have s8 := L2.Same.new (o := .tup [V.str "three"]) hr1
    refine ⟨_, rfl, _, rfl, st, _, rfl, .inr (SqT.of (s8 _ _ hst)), _, _, rfl, rfl, S, _, rfl, hT7.ext s8, by omega, by omega, fun p ms H9 e9 hT9 np hpm Nm => ?_⟩
    have hT8 := hT7.ext s8
    have hr9 := (hT8.tk e9) _ _ (show (upd H7 r1 (.tup [V.str "three"])) r1 = some (.tup [V.str "three"]) from upd_same)
    refine ⟨_, rfl, p, _, rfl, SqL.of hpm, fun q hq => ?_⟩
    have s10 := L2.Same.new (o := .lst (cutV (ms.map V.int) none (some 3))) hq
    have ecut : cutV (ms.map V.int) none (some 3) = (ms.take 3).map V.int := by
      have := cut_take (ms.map V.int) 3
      rw [show ((3 : Nat) : Int) = 3 from rfl] at this
      rw [this, List.map_take]
    rw [ecut] at s10 ⊢
    refine ⟨q, ms.take 3, rfl, SqL.of upd_same, fun ns' p2 hperm hsort hp2 => ?_⟩
    have s11 := L2.Same.new (o := .lst (ns'.map V.int)) hp2
    refine ⟨_, _, rfl, .inl ⟨SqL.of upd_same, fun q2 hq2 => ?_⟩⟩
    have s12 := L2.Same.new (o := .tup (ns'.map V.int)) hq2
    have n3 : ns'.length = 3 := by
      have := Nm.len
      rw [hperm.length_eq, List.length_take]; omega
    refine cat_any ((s10.trans (s11.trans s12)) _ _ hr9) upd_same (by rw [List.length_map, n3]; decide) fun dr H13 s13 hdr => ?_
    have s913 := s10.trans (s11.trans (s12.trans s13))
    have hT13 := hT9.ext s913
    have e713 : ExT S H7 H13 := (s8.exT.trans e9).trans s913.exT
    have odr : ThingOk K H13 (.ref dr) := ⟨dr, _, rfl, hdr, fun x hx => by
      rcases List.mem_append.mp hx with h | h
      · simp at h; subst h; exact .str _
      · obtain ⟨i, _, rfl⟩ := List.mem_map.mp h
        exact .int _, by rw [List.length_append, List.length_map, n3]; decide, by rw [List.length_append, List.length_map, n3]; decide⟩
    have hU13 := hU7.tk (hT7.tk e713)
    have L13 := L7.src hT7 e713
    have hw13 : H13 x = some (.ins D dw (wf 2 t1)) := e713 _ _ (fun z => by
      obtain ⟨l, hl⟩ := hT7.lst
      rw [z, hl] at hw; cases hw) hw
    have E13 := E7.trans e713
    clear s8 s10 s11 s12 s13 s913 hq hp2 hq2 hr1 hr9 hpm hdr
    -- known
    refine ⟨_, rfl, _, rfl, pl, st, Us, rfl, hU13, by omega, by omega, by omega, fun kn H14 s14 hkn => ?_⟩
    have hT14 := hT13.ext s14
    -- the list
    refine ⟨_, rfl, _, rfl, _, rfl, S, pl, rfl, by omega, by omega, hT14, fun i1 H15 j0 j1 e15 hT15 => ⟨(by show 2 ≤ sizeLine; decide), fun nv hnv => ?_⟩⟩
    have s16 := L2.Same.new (o := .tup [V.str "never", .int i1]) hnv
    have hnv16 : (upd H15 nv (.tup [V.str "never", .int i1])) nv = some (.tup [V.str "never", .int i1]) := upd_same
    have e1316 : ExT S H13 (upd H15 nv (.tup [V.str "never", .int i1])) := (s14.exT.trans e15).trans s16.exT
    have hT16 := hT15.ext s16
    generalize upd H15 nv (.tup [V.str "never", .int i1]) = H16 at s16 hnv16 e1316 hT16 ⊢
    have odr16 : ThingOk K H16 (.ref dr) := odr.src hT13 hT16 e1316
    have onv16 : ThingOk K H16 (.ref nv) := ⟨nv, _, rfl, hnv16, fun x hx => by simp at hx; rcases hx with rfl | rfl <;> first | exact .str _ | exact .int _, by show 1 ≤ 2; decide, by show 2 ≤ 100; decide⟩
    obtain ⟨v3, o3, hc1, hc2⟩ : ∃ v3, ThingOk K H16 v3 ∧ (kn = .non → v3 = .ref dr) ∧ (¬ kn = .non → v3 = kn) := by
      by_cases c : kn = .non
      · exact ⟨_, odr16, fun _ => rfl, fun h => absurd c h⟩
      · refine ⟨kn, ?_, fun h => absurd h c, fun _ => rfl⟩
        rcases hkn with h | ⟨q, zs, rfl, hq, hz, z2, z4⟩
        · exact absurd h c
        · have o14 : ThingOk K H14 (.ref q) := ⟨q, zs, rfl, hq, fun x hx => by rcases hz x hx with ⟨s, rfl⟩ | ⟨i, rfl⟩ <;> first | exact .str _ | exact .int _, by omega, by omega⟩
          exact (o14.src hT14 hT15 e15).same s16
    refine ⟨_, rfl, rfl, _, rfl, ?_⟩
    refine if_two (A := .ref dr) (B := kn) hc1 hc2 ?_
    refine ⟨(by show 3 ≤ sizeLine; decide), fun G hG => ?_⟩
    have s17 := L2.Same.new (o := .lst [V.ref dr, .ref nv, v3]) hG
    have hG17 : (upd H16 G (.lst [V.ref dr, .ref nv, v3])) G = some (.lst [V.ref dr, .ref nv, v3]) := upd_same
    have GS : G ≠ S := hT16.neT hG
    have hT17 := hT16.ext s17
    have e1317 := e1316.trans s17.exT
    have things : ∀ v ∈ [V.ref dr, .ref nv, v3], ThingOk K (upd H16 G (.lst [V.ref dr, .ref nv, v3])) v := fun v hv => by
      simp only [List.mem_cons, List.not_mem_nil, or_false] at hv
      rcases hv with rfl | rfl | rfl
      · exact odr16.same s17
      · exact onv16.same s17
      · exact o3.same s17
    generalize upd H16 G (.lst [V.ref dr, .ref nv, v3]) = H17 at s17 hG17 hT17 e1317 things ⊢
    have hU17 := hU13.tk (hT13.tk e1317)
    have L17 := L13.src hT13 e1317
    have hw17 : H17 x = some (.ins D dw (wf 2 t1)) := e1317 _ _ (fun z => by
      obtain ⟨l, hl⟩ := hT13.lst
      rw [z, hl] at hw13; cases hw13) hw13
    have E17 := E13.trans e1317
    obtain ⟨⟨dl, hl17⟩, _⟩ := id L17
    obtain ⟨nw, ow⟩ := inst_odd (K := K) TW.cl TW.xc TW.xg TW.xt TW.xm CT ksW hw17
    obtain ⟨nl, ol⟩ := inst_odd (K := K) T.cl T2.xc T2.xg T2.xt T2.xm CL ksL hl17
    clear s14 s16 s17 e15 hnv16 odr odr16 onv16 o3 hc1 hc2 hT14 hT15 hT16 e1316 hkn hU13 L13 hw13 hnv hG
    refine ⟨G, rfl, ⟨_, SqL.of hG17⟩, for_list (K := K) (a := G) (xs := [V.ref dr, .ref nv, v3]) (fun j σ H' => ∃ v9 v10 v11 : Option V, σ = [some (.ref a), some (.int (0 + (i : Nat))), some (.ref S), some (.int pl), some (.ref st), some (.ref y), some (.ref x), some (.ref dr), some kn, v9, v10, v11] ∧ ExT S H17 H' ∧ Sr H' S)
      ⟨_, _, _, rfl, fun _ _ _ h => h, hT17⟩ (fun j σ H' _ ⟨_, _, _, _, e, _⟩ => SqL.of (e _ _ GS hG17)) ?_ ?_⟩
    · rintro j v σ H18 hv ⟨v9, v10, v11, rfl, e18, hT18⟩
      have ov := things v (List.mem_of_getElem? hv)
      refine ⟨3, rfl, by decide, by decide, for_range (lo := 0) (n := 3) (fun m σ H' => ∃ v10 v11 : Option V, σ = [some (.ref a), some (.int (0 + (i : Nat))), some (.ref S), some (.int pl), some (.ref st), some (.ref y), some (.ref x), some (.ref dr), some kn, some v, v10, v11] ∧ ExT S H17 H' ∧ Sr H' S)
        ⟨_, _, rfl, e18, hT18⟩ ?_ (fun σ H' ⟨_, _, h, e, q⟩ => ⟨_, _, _, h, e, q⟩)⟩
      rintro m σ H19 hm ⟨v10, v11, rfl, e19, hT19⟩
      obtain ⟨ta, tx, rfl, hta, htx, tl1, tl2⟩ := ov.src hT17 hT19 e19
      have hU19 := hU17.tk (hT17.tk e19)
      have L19 := L17.src hT17 e19
      refine ⟨_, rfl, _, rfl, _, rfl, _, rfl, S, ta, tx, .ref x, .ref y, rfl, hT19, hta, htx, tl1, tl2, nw.src hT17 hT19 e19, ow.src hT17 hT19 e19, nl.src hT17 hT19 e19, ol.src hT17 hT19 e19, fun bv H20 e20 hT20 tB => ?_⟩
      have L20 := L19.src hT19 e20
      have hU20 := hU19.tk (hT19.tk e20)
      refine ⟨_, rfl, _, rfl, y, pl, st, Us, bv, rfl, L20, by omega, by omega, tB, fun b1 H21 s21 hb1 => ?_⟩
      refine ⟨_, rfl, _, rfl, _, rfl, pl, st, Us, bv, rfl, hU20.tk s21.tk, by omega, by omega, by omega, tB.same s21, fun b2 H22 s22 hb2 => ?_⟩
      have eb : b1 = b2 := Bool.eq_iff_iff.mpr (hb1.trans ((lack_same tB s21).trans hb2.symm))
      subst eb
      refine ⟨b1, rfl, true, rfl, iteF ?_⟩
      exact ⟨_, _, rfl, (e19.trans e20).trans (s21.trans s22).exT, hT20.ext (s21.trans s22)⟩
    · rintro σ H18 ⟨v9, v10, v11, rfl, e18, hT18⟩
      have hU18 := hU17.tk (hT17.tk e18)
      have L18 := L17.src hT17 e18
      obtain ⟨⟨dy, hy18⟩, _⟩ := id L18
      refine ⟨_, rfl, _, rfl, _, rfl, make_list p1 (by omega) hU18 hne (by omega) fun z H19 s19 nz Lz => ?_⟩
      obtain ⟨⟨dz, hz⟩, _⟩ := id Lz
      refine ⟨y, dy, _, rfl, s19 _ _ hy18, .same hz, y, .ref z, pl, st, Us, rfl, L18.same s19, .inl ⟨z, pl, st, Us, rfl, Lz, _, rfl, ?_⟩⟩
      rw [decide_eq_true (⟨rfl, rfl⟩ : pl = pl ∧ Us = Us)]
      exact ⟨_, rfl, iteF ⟨_, _, _, _, _, _, _, _, _, _, _, rfl, e2.trans (ex_same ((E17.trans e18).trans s19.exT) nS)⟩⟩
end
end Bs

namespace Bs
open PySem PySem.Spec PyProof.Rows L2
section
variable {P : Program} {w : World} {K : PySem.W.Frag} {mg : Str → Option Value} {base : Heap} {C CB CW : Addr}
abbrev s__law_flag : Stmt := (top 35)
theorem sc__law_flag : FnScope ["told", "due"] ["told", "due"] (defScope s__law_flag) := ⟨rfl, rfl, rfl, by decide +kernel, rfl, by decide +kernel, by decide +kernel⟩

theorem ok_law_flag {f : Addr} {fd : FuncData} (F : Fun K "_law_flag" "_law_flag" s__law_flag f fd) (hm : mg "_law_flag" = some (.ref f)) (B : Bl mg) : Cal P w K mg base 1 "_law_flag" ["told", "due"] sp_flag := by
  refine ⟨f, fd, F.ok sc__law_flag (fun vs H Q E h => ?_) (fun cdv A outer s H vs Q E hr h => ?_), hm, F.kp, F.binds (ps := ["told", "due"]) fun _ _ _ _ _ _ us hl => match us, hl with | [_, _], _ => rfl⟩
  · obtain ⟨b, rfl, _⟩ := h; rfl
  · obtain ⟨b, rfl, k⟩ := h
    refine ⟨_, (pss_one (ps_ret (pe_and (pe_callB call_isi (by rfl) B.isinstance (by decide +kernel) (pa_cons (pv 0) (pa_cons (pe_bltn (v := .ty "bool") (by rfl) B.bool_ (by decide +kernel) rfl) pa_nil))) (pe_one (pe_cmpR op_eq (pv 0) (pv 1) (nomark _)))))), ?_⟩
    refine ⟨_, rfl, _, _, _, _, true, rfl, .ty "bool", .base (.bl b), kit_ty (by decide +kernel), true, rfl, iteT ?_⟩
    refine ⟨_, rfl, _, rfl, rfl, ?_⟩
    rw [decide_eq_true rfl]
    exact k
end
end Bs

namespace Bs
open PySem PySem.Spec PyProof.Rows L2
theorem kit_sub {K : PySem.W.Frag} {C : Addr} {T : String} {b : Bool} (hm : PySem.W.kitMeta T = true) (h : PySem.W.subIn K (.ref C) (.type T) = some b) : PySem.W.kitOne K (.ref C) (.type T) = some b := by
  unfold PySem.W.kitOne
  rw [if_neg (by simp)]
  show (if PySem.W.kitMeta T = true then _ else _) = _
  rw [if_pos hm]
  exact h
theorem kit_refs {K : PySem.W.Frag} {C D : Addr} (hd : PySem.W.hasDictIn K D = true) (ht : PySem.W.typeIn K (.ref D) = some (.type "type")) (hs : PySem.W.subIn K (.ref C) (.ref D) = some true) : PySem.W.kitOne K (.ref C) (.ref D) = some true := by
  obtain ⟨cd, hc, _⟩ := PySem.W.any_some hd
  have e2 : ((PySem.W.clsIn K D).isSome && PySem.W.typeIn K (.ref D) == some (.type "type")) = true := by rw [hc, ht] <;> rfl
  unfold PySem.W.kitOne
  split
  · rfl
  · show (if ((PySem.W.clsIn K D).isSome && PySem.W.typeIn K (.ref D) == some (.type "type")) = true then PySem.W.subIn K (.ref C) (.ref D) else none) = some true
    rw [if_pos e2]
    exact hs
theorem all_mk {l : PySem.W.OpenLaw} {w : World} {K : PySem.W.Frag} {h : Heap} {mg : Str → Option Value} {fa C_Web C_List : Addr} {tk tk2 tk3 : Tok} (X : K.In h) (G : h.Ns mainGlobals mg) (hfa : mg "law" = some (.ref fa))
    {f_is_integer : Addr} {oc_is_integer kV_is_integer dc_is_integer pm_is_integer cd_is_integer ct_is_integer : Value} {od_is_integer an_is_integer : Option Addr} {sl_is_integer : Array (Option Value)}
    {f_is_number : Addr} {oc_is_number kV_is_number dc_is_number pm_is_number cd_is_number ct_is_number : Value} {od_is_number an_is_number : Option Addr} {sl_is_number : Array (Option Value)}
    {f_is_lot_below : Addr} {oc_is_lot_below kV_is_lot_below dc_is_lot_below pm_is_lot_below cd_is_lot_below ct_is_lot_below : Value} {od_is_lot_below an_is_lot_below : Option Addr} {sl_is_lot_below : Array (Option Value)}
    {f_bits_of : Addr} {oc_bits_of kV_bits_of dc_bits_of pm_bits_of cd_bits_of ct_bits_of : Value} {od_bits_of an_bits_of : Option Addr} {sl_bits_of : Array (Option Value)}
    {f_is_tie : Addr} {oc_is_tie kV_is_tie dc_is_tie pm_is_tie cd_is_tie ct_is_tie : Value} {od_is_tie an_is_tie : Option Addr} {sl_is_tie : Array (Option Value)}
    {f_wrong_tie : Addr} {oc_wrong_tie kV_wrong_tie dc_wrong_tie pm_wrong_tie cd_wrong_tie ct_wrong_tie : Value} {od_wrong_tie an_wrong_tie : Option Addr} {sl_wrong_tie : Array (Option Value)}
    {f_wrong_stand : Addr} {oc_wrong_stand kV_wrong_stand dc_wrong_stand pm_wrong_stand cd_wrong_stand ct_wrong_stand : Value} {od_wrong_stand an_wrong_stand : Option Addr} {sl_wrong_stand : Array (Option Value)}
    {f_is_shown : Addr} {oc_is_shown kV_is_shown dc_is_shown pm_is_shown cd_is_shown ct_is_shown : Value} {od_is_shown an_is_shown : Option Addr} {sl_is_shown : Array (Option Value)}
    {f_are_held : Addr} {oc_are_held kV_are_held dc_are_held pm_are_held cd_are_held ct_are_held : Value} {od_are_held an_are_held : Option Addr} {sl_are_held : Array (Option Value)}
    {f_mostly : Addr} {oc_mostly kV_mostly dc_mostly pm_mostly cd_mostly ct_mostly : Value} {od_mostly an_mostly : Option Addr} {sl_mostly : Array (Option Value)}
    {f_is_never : Addr} {oc_is_never kV_is_never dc_is_never pm_is_never cd_is_never ct_is_never : Value} {od_is_never an_is_never : Option Addr} {sl_is_never : Array (Option Value)}
    {f_is_three : Addr} {oc_is_three kV_is_three dc_is_three pm_is_three cd_is_three ct_is_three : Value} {od_is_three an_is_three : Option Addr} {sl_is_three : Array (Option Value)}
    {f_is_lack : Addr} {oc_is_lack kV_is_lack dc_is_lack pm_is_lack cd_is_lack ct_is_lack : Value} {od_is_lack an_is_lack : Option Addr} {sl_is_lack : Array (Option Value)}
    {f__law_is_integer : Addr} {oc__law_is_integer kV__law_is_integer dc__law_is_integer pm__law_is_integer cd__law_is_integer ct__law_is_integer : Value} {od__law_is_integer an__law_is_integer : Option Addr} {sl__law_is_integer : Array (Option Value)}
    {f__law_source : Addr} {oc__law_source kV__law_source dc__law_source pm__law_source cd__law_source ct__law_source : Value} {od__law_source an__law_source : Option Addr} {sl__law_source : Array (Option Value)}
    {f__law_draw : Addr} {oc__law_draw kV__law_draw dc__law_draw pm__law_draw cd__law_draw ct__law_draw : Value} {od__law_draw an__law_draw : Option Addr} {sl__law_draw : Array (Option Value)}
    {f__law_perm : Addr} {oc__law_perm kV__law_perm dc__law_perm pm__law_perm cd__law_perm ct__law_perm : Value} {od__law_perm an__law_perm : Option Addr} {sl__law_perm : Array (Option Value)}
    {f__law_ties : Addr} {oc__law_ties kV__law_ties dc__law_ties pm__law_ties cd__law_ties ct__law_ties : Value} {od__law_ties an__law_ties : Option Addr} {sl__law_ties : Array (Option Value)}
    {f__law_near : Addr} {oc__law_near kV__law_near dc__law_near pm__law_near cd__law_near ct__law_near : Value} {od__law_near an__law_near : Option Addr} {sl__law_near : Array (Option Value)}
    {f__law_lot : Addr} {oc__law_lot kV__law_lot dc__law_lot pm__law_lot cd__law_lot ct__law_lot : Value} {od__law_lot an__law_lot : Option Addr} {sl__law_lot : Array (Option Value)}
    {f__law_is_rest : Addr} {oc__law_is_rest kV__law_is_rest dc__law_is_rest pm__law_is_rest cd__law_is_rest ct__law_is_rest : Value} {od__law_is_rest an__law_is_rest : Option Addr} {sl__law_is_rest : Array (Option Value)}
    {f__law_rests : Addr} {oc__law_rests kV__law_rests dc__law_rests pm__law_rests cd__law_rests ct__law_rests : Value} {od__law_rests an__law_rests : Option Addr} {sl__law_rests : Array (Option Value)}
    {f__law_flag : Addr} {oc__law_flag kV__law_flag dc__law_flag pm__law_flag cd__law_flag ct__law_flag : Value} {od__law_flag an__law_flag : Option Addr} {sl__law_flag : Array (Option Value)}
    {f__law_deep : Addr} {oc__law_deep kV__law_deep dc__law_deep pm__law_deep cd__law_deep ct__law_deep : Value} {od__law_deep an__law_deep : Option Addr} {sl__law_deep : Array (Option Value)}
    {f__law_seen : Addr} {oc__law_seen kV__law_seen dc__law_seen pm__law_seen cd__law_seen ct__law_seen : Value} {od__law_seen an__law_seen : Option Addr} {sl__law_seen : Array (Option Value)}
    {f__law_some_lot : Addr} {oc__law_some_lot kV__law_some_lot dc__law_some_lot pm__law_some_lot cd__law_some_lot ct__law_some_lot : Value} {od__law_some_lot an__law_some_lot : Option Addr} {sl__law_some_lot : Array (Option Value)}
    {f__law_web_list : Addr} {oc__law_web_list kV__law_web_list dc__law_web_list pm__law_web_list cd__law_web_list ct__law_web_list : Value} {od__law_web_list an__law_web_list : Option Addr} {sl__law_web_list : Array (Option Value)}
    {f__law_stands : Addr} {oc__law_stands kV__law_stands dc__law_stands pm__law_stands cd__law_stands ct__law_stands : Value} {od__law_stands an__law_stands : Option Addr} {sl__law_stands : Array (Option Value)}
    {f__law_is_hold : Addr} {oc__law_is_hold kV__law_is_hold dc__law_is_hold pm__law_is_hold cd__law_is_hold ct__law_is_hold : Value} {od__law_is_hold an__law_is_hold : Option Addr} {sl__law_is_hold : Array (Option Value)}
    {f__law_both : Addr} {oc__law_both kV__law_both dc__law_both pm__law_both cd__law_both ct__law_both : Value} {od__law_both an__law_both : Option Addr} {sl__law_both : Array (Option Value)}
    {f__law_lack : Addr} {oc__law_lack kV__law_lack dc__law_lack pm__law_lack cd__law_lack ct__law_lack : Value} {od__law_lack an__law_lack : Option Addr} {sl__law_lack : Array (Option Value)}
    {f__law_places : Addr} {oc__law_places kV__law_places dc__law_places pm__law_places cd__law_places ct__law_places : Value} {od__law_places an__law_places : Option Addr} {sl__law_places : Array (Option Value)}
    {f__law_is_lack : Addr} {oc__law_is_lack kV__law_is_lack dc__law_is_lack pm__law_is_lack cd__law_is_lack ct__law_is_lack : Value} {od__law_is_lack an__law_is_lack : Option Addr} {sl__law_is_lack : Array (Option Value)}
    {f__law_bent : Addr} {oc__law_bent kV__law_bent dc__law_bent pm__law_bent cd__law_bent ct__law_bent : Value} {od__law_bent an__law_bent : Option Addr} {sl__law_bent : Array (Option Value)}
    {f_law : Addr} {oc_law kV_law dc_law pm_law cd_law ct_law : Value} {od_law an_law : Option Addr} {sl_law : Array (Option Value)}
    {f_Web_init : Addr} {oc_Web_init kV_Web_init dc_Web_init pm_Web_init cd_Web_init ct_Web_init : Value} {od_Web_init an_Web_init : Option Addr} {sl_Web_init : Array (Option Value)}
    {f_List_init : Addr} {oc_List_init kV_List_init dc_List_init pm_List_init cd_List_init ct_List_init : Value} {od_List_init an_List_init : Option Addr} {sl_List_init : Array (Option Value)}
    {f_List_eq : Addr} {oc_List_eq kV_List_eq dc_List_eq pm_List_eq cd_List_eq ct_List_eq : Value} {od_List_eq an_List_eq : Option Addr} {sl_List_eq : Array (Option Value)}
    (a_Web : PySem.W.nsIn K mainGlobals "Web" = some (some (.ref C_Web)))
    (a_MP : PySem.W.nsIn K mainGlobals "MOST_PARTS" = some (some (.int 24 tk)))
    (pg : PySem.W.plainGet K C_Web Str.empty = true)
    (hd : PySem.W.hasDictIn K C_Web = true)
    (po : PySem.W.plainOver K C_Web = true)
    (sa : PySem.W.findIn K (.ref C_Web) "__setattr__" = some (some (.builtin "object.__setattr__")))
    (mk : PySem.W.makesIn K C_Web = true)
    (kc : PySem.W.keepIn K (.ref C_Web) = true)
    (nS : PySem.W.findIn K (.ref C_Web) "size" = some none)
    (nT : PySem.W.findIn K (.ref C_Web) "ties" = some none)
    (xc : PySem.W.findIn K (.ref C_Web) "__class__" = some (some (.builtin "object.__class__")))
    (xg : PySem.W.specialIn K (.builtin "object.__class__") "__get__" = some (some (.builtin "getset_descriptor.__get__")))
    (xt : PySem.W.takesIn K (.builtin "object.__class__") = some true)
    (xm : PySem.W.mroIn K C_Web (.type "object") = some true)
    (a_List : PySem.W.nsIn K mainGlobals "List" = some (some (.ref C_List)))
    (a_PL : PySem.W.nsIn K mainGlobals "MOST_PLACES" = some (some (.int 12 tk2)))
    (a_ST : PySem.W.nsIn K mainGlobals "MOST_STANDS" = some (some (.int 64 tk3)))
    (pgL : PySem.W.plainGet K C_List Str.empty = true)
    (hdL : PySem.W.hasDictIn K C_List = true)
    (poL : PySem.W.plainOver K C_List = true)
    (saL : PySem.W.findIn K (.ref C_List) "__setattr__" = some (some (.builtin "object.__setattr__")))
    (mkL : PySem.W.makesIn K C_List = true)
    (kcL : PySem.W.keepIn K (.ref C_List) = true)
    (nPL : PySem.W.findIn K (.ref C_List) "places" = some none)
    (nST : PySem.W.findIn K (.ref C_List) "stands" = some none)
    (xcL : PySem.W.findIn K (.ref C_List) "__class__" = some (some (.builtin "object.__class__")))
    (xmL : PySem.W.mroIn K C_List (.type "object") = some true)
    (xnL : PySem.W.findIn K (.ref C_List) "__ne__" = some (some (.builtin "object.__ne__")))
    (xsL : PySem.W.subIn K (.ref C_List) (.type "object") = some true)
    (win : PySem.W.subIn K (.ref C_Web) (.type "int") = some false)
    (wtu : PySem.W.subIn K (.ref C_Web) (.type "tuple") = some false)
    (wst : PySem.W.subIn K (.ref C_Web) (.type "str") = some false)
    (lin : PySem.W.subIn K (.ref C_List) (.type "int") = some false)
    (ltu : PySem.W.subIn K (.ref C_List) (.type "tuple") = some false)
    (lst : PySem.W.subIn K (.ref C_List) (.type "str") = some false)
    (a_is_integer : PySem.W.nsIn K mainGlobals "is_integer" = some (some (.ref f_is_integer)))
    (l_is_integer : K.lookup f_is_integer = some ⟨oc_is_integer, od_is_integer, .func (PySem.W.fnOf "is_integer" "is_integer" (defArgs s_is_integer) (defBody s_is_integer) (defScope s_is_integer) .none kV_is_integer dc_is_integer pm_is_integer an_is_integer cd_is_integer ct_is_integer), sl_is_integer⟩)
    (c_is_integer : PySem.W.codeIn K cd_is_integer "is_integer" = true)
    (k_is_integer : PySem.W.keepIn K (.ref f_is_integer) = true)
    (a_is_number : PySem.W.nsIn K mainGlobals "is_number" = some (some (.ref f_is_number)))
    (l_is_number : K.lookup f_is_number = some ⟨oc_is_number, od_is_number, .func (PySem.W.fnOf "is_number" "is_number" (defArgs s_is_number) (defBody s_is_number) (defScope s_is_number) .none kV_is_number dc_is_number pm_is_number an_is_number cd_is_number ct_is_number), sl_is_number⟩)
    (c_is_number : PySem.W.codeIn K cd_is_number "is_number" = true)
    (k_is_number : PySem.W.keepIn K (.ref f_is_number) = true)
    (a_is_lot_below : PySem.W.nsIn K mainGlobals "is_lot_below" = some (some (.ref f_is_lot_below)))
    (l_is_lot_below : K.lookup f_is_lot_below = some ⟨oc_is_lot_below, od_is_lot_below, .func (PySem.W.fnOf "is_lot_below" "is_lot_below" (defArgs s_is_lot_below) (defBody s_is_lot_below) (defScope s_is_lot_below) .none kV_is_lot_below dc_is_lot_below pm_is_lot_below an_is_lot_below cd_is_lot_below ct_is_lot_below), sl_is_lot_below⟩)
    (c_is_lot_below : PySem.W.codeIn K cd_is_lot_below "is_lot_below" = true)
    (k_is_lot_below : PySem.W.keepIn K (.ref f_is_lot_below) = true)
    (a_bits_of : PySem.W.nsIn K mainGlobals "bits_of" = some (some (.ref f_bits_of)))
    (l_bits_of : K.lookup f_bits_of = some ⟨oc_bits_of, od_bits_of, .func (PySem.W.fnOf "bits_of" "bits_of" (defArgs s_bits_of) (defBody s_bits_of) (defScope s_bits_of) .none kV_bits_of dc_bits_of pm_bits_of an_bits_of cd_bits_of ct_bits_of), sl_bits_of⟩)
    (c_bits_of : PySem.W.codeIn K cd_bits_of "bits_of" = true)
    (k_bits_of : PySem.W.keepIn K (.ref f_bits_of) = true)
    (a_is_tie : PySem.W.nsIn K mainGlobals "is_tie" = some (some (.ref f_is_tie)))
    (l_is_tie : K.lookup f_is_tie = some ⟨oc_is_tie, od_is_tie, .func (PySem.W.fnOf "is_tie" "is_tie" (defArgs s_is_tie) (defBody s_is_tie) (defScope s_is_tie) .none kV_is_tie dc_is_tie pm_is_tie an_is_tie cd_is_tie ct_is_tie), sl_is_tie⟩)
    (c_is_tie : PySem.W.codeIn K cd_is_tie "is_tie" = true)
    (k_is_tie : PySem.W.keepIn K (.ref f_is_tie) = true)
    (a_wrong_tie : PySem.W.nsIn K mainGlobals "wrong_tie" = some (some (.ref f_wrong_tie)))
    (l_wrong_tie : K.lookup f_wrong_tie = some ⟨oc_wrong_tie, od_wrong_tie, .func (PySem.W.fnOf "wrong_tie" "wrong_tie" (defArgs s_wrong_tie) (defBody s_wrong_tie) (defScope s_wrong_tie) .none kV_wrong_tie dc_wrong_tie pm_wrong_tie an_wrong_tie cd_wrong_tie ct_wrong_tie), sl_wrong_tie⟩)
    (c_wrong_tie : PySem.W.codeIn K cd_wrong_tie "wrong_tie" = true)
    (k_wrong_tie : PySem.W.keepIn K (.ref f_wrong_tie) = true)
    (a_wrong_stand : PySem.W.nsIn K mainGlobals "wrong_stand" = some (some (.ref f_wrong_stand)))
    (l_wrong_stand : K.lookup f_wrong_stand = some ⟨oc_wrong_stand, od_wrong_stand, .func (PySem.W.fnOf "wrong_stand" "wrong_stand" (defArgs s_wrong_stand) (defBody s_wrong_stand) (defScope s_wrong_stand) .none kV_wrong_stand dc_wrong_stand pm_wrong_stand an_wrong_stand cd_wrong_stand ct_wrong_stand), sl_wrong_stand⟩)
    (c_wrong_stand : PySem.W.codeIn K cd_wrong_stand "wrong_stand" = true)
    (k_wrong_stand : PySem.W.keepIn K (.ref f_wrong_stand) = true)
    (a_is_shown : PySem.W.nsIn K mainGlobals "is_shown" = some (some (.ref f_is_shown)))
    (l_is_shown : K.lookup f_is_shown = some ⟨oc_is_shown, od_is_shown, .func (PySem.W.fnOf "is_shown" "is_shown" (defArgs s_is_shown) (defBody s_is_shown) (defScope s_is_shown) .none kV_is_shown dc_is_shown pm_is_shown an_is_shown cd_is_shown ct_is_shown), sl_is_shown⟩)
    (c_is_shown : PySem.W.codeIn K cd_is_shown "is_shown" = true)
    (k_is_shown : PySem.W.keepIn K (.ref f_is_shown) = true)
    (a_are_held : PySem.W.nsIn K mainGlobals "are_held" = some (some (.ref f_are_held)))
    (l_are_held : K.lookup f_are_held = some ⟨oc_are_held, od_are_held, .func (PySem.W.fnOf "are_held" "are_held" (defArgs s_are_held) (defBody s_are_held) (defScope s_are_held) .none kV_are_held dc_are_held pm_are_held an_are_held cd_are_held ct_are_held), sl_are_held⟩)
    (c_are_held : PySem.W.codeIn K cd_are_held "are_held" = true)
    (k_are_held : PySem.W.keepIn K (.ref f_are_held) = true)
    (a_mostly : PySem.W.nsIn K mainGlobals "mostly" = some (some (.ref f_mostly)))
    (l_mostly : K.lookup f_mostly = some ⟨oc_mostly, od_mostly, .func (PySem.W.fnOf "mostly" "mostly" (defArgs s_mostly) (defBody s_mostly) (defScope s_mostly) .none kV_mostly dc_mostly pm_mostly an_mostly cd_mostly ct_mostly), sl_mostly⟩)
    (c_mostly : PySem.W.codeIn K cd_mostly "mostly" = true)
    (k_mostly : PySem.W.keepIn K (.ref f_mostly) = true)
    (a_is_never : PySem.W.nsIn K mainGlobals "is_never" = some (some (.ref f_is_never)))
    (l_is_never : K.lookup f_is_never = some ⟨oc_is_never, od_is_never, .func (PySem.W.fnOf "is_never" "is_never" (defArgs s_is_never) (defBody s_is_never) (defScope s_is_never) .none kV_is_never dc_is_never pm_is_never an_is_never cd_is_never ct_is_never), sl_is_never⟩)
    (c_is_never : PySem.W.codeIn K cd_is_never "is_never" = true)
    (k_is_never : PySem.W.keepIn K (.ref f_is_never) = true)
    (a_is_three : PySem.W.nsIn K mainGlobals "is_three" = some (some (.ref f_is_three)))
    (l_is_three : K.lookup f_is_three = some ⟨oc_is_three, od_is_three, .func (PySem.W.fnOf "is_three" "is_three" (defArgs s_is_three) (defBody s_is_three) (defScope s_is_three) .none kV_is_three dc_is_three pm_is_three an_is_three cd_is_three ct_is_three), sl_is_three⟩)
    (c_is_three : PySem.W.codeIn K cd_is_three "is_three" = true)
    (k_is_three : PySem.W.keepIn K (.ref f_is_three) = true)
    (a_is_lack : PySem.W.nsIn K mainGlobals "is_lack" = some (some (.ref f_is_lack)))
    (l_is_lack : K.lookup f_is_lack = some ⟨oc_is_lack, od_is_lack, .func (PySem.W.fnOf "is_lack" "is_lack" (defArgs s_is_lack) (defBody s_is_lack) (defScope s_is_lack) .none kV_is_lack dc_is_lack pm_is_lack an_is_lack cd_is_lack ct_is_lack), sl_is_lack⟩)
    (c_is_lack : PySem.W.codeIn K cd_is_lack "is_lack" = true)
    (k_is_lack : PySem.W.keepIn K (.ref f_is_lack) = true)
    (a__law_is_integer : PySem.W.nsIn K mainGlobals "_law_is_integer" = some (some (.ref f__law_is_integer)))
    (l__law_is_integer : K.lookup f__law_is_integer = some ⟨oc__law_is_integer, od__law_is_integer, .func (PySem.W.fnOf "_law_is_integer" "_law_is_integer" (defArgs s__law_is_integer) (defBody s__law_is_integer) (defScope s__law_is_integer) .none kV__law_is_integer dc__law_is_integer pm__law_is_integer an__law_is_integer cd__law_is_integer ct__law_is_integer), sl__law_is_integer⟩)
    (c__law_is_integer : PySem.W.codeIn K cd__law_is_integer "_law_is_integer" = true)
    (k__law_is_integer : PySem.W.keepIn K (.ref f__law_is_integer) = true)
    (a__law_source : PySem.W.nsIn K mainGlobals "_law_source" = some (some (.ref f__law_source)))
    (l__law_source : K.lookup f__law_source = some ⟨oc__law_source, od__law_source, .func (PySem.W.fnOf "_law_source" "_law_source" (defArgs s__law_source) (defBody s__law_source) (defScope s__law_source) .none kV__law_source dc__law_source pm__law_source an__law_source cd__law_source ct__law_source), sl__law_source⟩)
    (c__law_source : PySem.W.codeIn K cd__law_source "_law_source" = true)
    (k__law_source : PySem.W.keepIn K (.ref f__law_source) = true)
    (a__law_draw : PySem.W.nsIn K mainGlobals "_law_draw" = some (some (.ref f__law_draw)))
    (l__law_draw : K.lookup f__law_draw = some ⟨oc__law_draw, od__law_draw, .func (PySem.W.fnOf "_law_draw" "_law_draw" (defArgs s__law_draw) (defBody s__law_draw) (defScope s__law_draw) .none kV__law_draw dc__law_draw pm__law_draw an__law_draw cd__law_draw ct__law_draw), sl__law_draw⟩)
    (c__law_draw : PySem.W.codeIn K cd__law_draw "_law_draw" = true)
    (k__law_draw : PySem.W.keepIn K (.ref f__law_draw) = true)
    (a__law_perm : PySem.W.nsIn K mainGlobals "_law_perm" = some (some (.ref f__law_perm)))
    (l__law_perm : K.lookup f__law_perm = some ⟨oc__law_perm, od__law_perm, .func (PySem.W.fnOf "_law_perm" "_law_perm" (defArgs s__law_perm) (defBody s__law_perm) (defScope s__law_perm) .none kV__law_perm dc__law_perm pm__law_perm an__law_perm cd__law_perm ct__law_perm), sl__law_perm⟩)
    (c__law_perm : PySem.W.codeIn K cd__law_perm "_law_perm" = true)
    (k__law_perm : PySem.W.keepIn K (.ref f__law_perm) = true)
    (a__law_ties : PySem.W.nsIn K mainGlobals "_law_ties" = some (some (.ref f__law_ties)))
    (l__law_ties : K.lookup f__law_ties = some ⟨oc__law_ties, od__law_ties, .func (PySem.W.fnOf "_law_ties" "_law_ties" (defArgs s__law_ties) (defBody s__law_ties) (defScope s__law_ties) .none kV__law_ties dc__law_ties pm__law_ties an__law_ties cd__law_ties ct__law_ties), sl__law_ties⟩)
    (c__law_ties : PySem.W.codeIn K cd__law_ties "_law_ties" = true)
    (k__law_ties : PySem.W.keepIn K (.ref f__law_ties) = true)
    (a__law_near : PySem.W.nsIn K mainGlobals "_law_near" = some (some (.ref f__law_near)))
    (l__law_near : K.lookup f__law_near = some ⟨oc__law_near, od__law_near, .func (PySem.W.fnOf "_law_near" "_law_near" (defArgs s__law_near) (defBody s__law_near) (defScope s__law_near) .none kV__law_near dc__law_near pm__law_near an__law_near cd__law_near ct__law_near), sl__law_near⟩)
    (c__law_near : PySem.W.codeIn K cd__law_near "_law_near" = true)
    (k__law_near : PySem.W.keepIn K (.ref f__law_near) = true)
    (a__law_lot : PySem.W.nsIn K mainGlobals "_law_lot" = some (some (.ref f__law_lot)))
    (l__law_lot : K.lookup f__law_lot = some ⟨oc__law_lot, od__law_lot, .func (PySem.W.fnOf "_law_lot" "_law_lot" (defArgs s__law_lot) (defBody s__law_lot) (defScope s__law_lot) .none kV__law_lot dc__law_lot pm__law_lot an__law_lot cd__law_lot ct__law_lot), sl__law_lot⟩)
    (c__law_lot : PySem.W.codeIn K cd__law_lot "_law_lot" = true)
    (k__law_lot : PySem.W.keepIn K (.ref f__law_lot) = true)
    (a__law_is_rest : PySem.W.nsIn K mainGlobals "_law_is_rest" = some (some (.ref f__law_is_rest)))
    (l__law_is_rest : K.lookup f__law_is_rest = some ⟨oc__law_is_rest, od__law_is_rest, .func (PySem.W.fnOf "_law_is_rest" "_law_is_rest" (defArgs s__law_is_rest) (defBody s__law_is_rest) (defScope s__law_is_rest) .none kV__law_is_rest dc__law_is_rest pm__law_is_rest an__law_is_rest cd__law_is_rest ct__law_is_rest), sl__law_is_rest⟩)
    (c__law_is_rest : PySem.W.codeIn K cd__law_is_rest "_law_is_rest" = true)
    (k__law_is_rest : PySem.W.keepIn K (.ref f__law_is_rest) = true)
    (a__law_rests : PySem.W.nsIn K mainGlobals "_law_rests" = some (some (.ref f__law_rests)))
    (l__law_rests : K.lookup f__law_rests = some ⟨oc__law_rests, od__law_rests, .func (PySem.W.fnOf "_law_rests" "_law_rests" (defArgs s__law_rests) (defBody s__law_rests) (defScope s__law_rests) .none kV__law_rests dc__law_rests pm__law_rests an__law_rests cd__law_rests ct__law_rests), sl__law_rests⟩)
    (c__law_rests : PySem.W.codeIn K cd__law_rests "_law_rests" = true)
    (k__law_rests : PySem.W.keepIn K (.ref f__law_rests) = true)
    (a__law_flag : PySem.W.nsIn K mainGlobals "_law_flag" = some (some (.ref f__law_flag)))
    (l__law_flag : K.lookup f__law_flag = some ⟨oc__law_flag, od__law_flag, .func (PySem.W.fnOf "_law_flag" "_law_flag" (defArgs s__law_flag) (defBody s__law_flag) (defScope s__law_flag) .none kV__law_flag dc__law_flag pm__law_flag an__law_flag cd__law_flag ct__law_flag), sl__law_flag⟩)
    (c__law_flag : PySem.W.codeIn K cd__law_flag "_law_flag" = true)
    (k__law_flag : PySem.W.keepIn K (.ref f__law_flag) = true)
    (a__law_deep : PySem.W.nsIn K mainGlobals "_law_deep" = some (some (.ref f__law_deep)))
    (l__law_deep : K.lookup f__law_deep = some ⟨oc__law_deep, od__law_deep, .func (PySem.W.fnOf "_law_deep" "_law_deep" (defArgs s__law_deep) (defBody s__law_deep) (defScope s__law_deep) .none kV__law_deep dc__law_deep pm__law_deep an__law_deep cd__law_deep ct__law_deep), sl__law_deep⟩)
    (c__law_deep : PySem.W.codeIn K cd__law_deep "_law_deep" = true)
    (k__law_deep : PySem.W.keepIn K (.ref f__law_deep) = true)
    (a__law_seen : PySem.W.nsIn K mainGlobals "_law_seen" = some (some (.ref f__law_seen)))
    (l__law_seen : K.lookup f__law_seen = some ⟨oc__law_seen, od__law_seen, .func (PySem.W.fnOf "_law_seen" "_law_seen" (defArgs s__law_seen) (defBody s__law_seen) (defScope s__law_seen) .none kV__law_seen dc__law_seen pm__law_seen an__law_seen cd__law_seen ct__law_seen), sl__law_seen⟩)
    (c__law_seen : PySem.W.codeIn K cd__law_seen "_law_seen" = true)
    (k__law_seen : PySem.W.keepIn K (.ref f__law_seen) = true)
    (a__law_some_lot : PySem.W.nsIn K mainGlobals "_law_some_lot" = some (some (.ref f__law_some_lot)))
    (l__law_some_lot : K.lookup f__law_some_lot = some ⟨oc__law_some_lot, od__law_some_lot, .func (PySem.W.fnOf "_law_some_lot" "_law_some_lot" (defArgs s__law_some_lot) (defBody s__law_some_lot) (defScope s__law_some_lot) .none kV__law_some_lot dc__law_some_lot pm__law_some_lot an__law_some_lot cd__law_some_lot ct__law_some_lot), sl__law_some_lot⟩)
    (c__law_some_lot : PySem.W.codeIn K cd__law_some_lot "_law_some_lot" = true)
    (k__law_some_lot : PySem.W.keepIn K (.ref f__law_some_lot) = true)
    (a__law_web_list : PySem.W.nsIn K mainGlobals "_law_web_list" = some (some (.ref f__law_web_list)))
    (l__law_web_list : K.lookup f__law_web_list = some ⟨oc__law_web_list, od__law_web_list, .func (PySem.W.fnOf "_law_web_list" "_law_web_list" (defArgs s__law_web_list) (defBody s__law_web_list) (defScope s__law_web_list) .none kV__law_web_list dc__law_web_list pm__law_web_list an__law_web_list cd__law_web_list ct__law_web_list), sl__law_web_list⟩)
    (c__law_web_list : PySem.W.codeIn K cd__law_web_list "_law_web_list" = true)
    (k__law_web_list : PySem.W.keepIn K (.ref f__law_web_list) = true)
    (a__law_stands : PySem.W.nsIn K mainGlobals "_law_stands" = some (some (.ref f__law_stands)))
    (l__law_stands : K.lookup f__law_stands = some ⟨oc__law_stands, od__law_stands, .func (PySem.W.fnOf "_law_stands" "_law_stands" (defArgs s__law_stands) (defBody s__law_stands) (defScope s__law_stands) .none kV__law_stands dc__law_stands pm__law_stands an__law_stands cd__law_stands ct__law_stands), sl__law_stands⟩)
    (c__law_stands : PySem.W.codeIn K cd__law_stands "_law_stands" = true)
    (k__law_stands : PySem.W.keepIn K (.ref f__law_stands) = true)
    (a__law_is_hold : PySem.W.nsIn K mainGlobals "_law_is_hold" = some (some (.ref f__law_is_hold)))
    (l__law_is_hold : K.lookup f__law_is_hold = some ⟨oc__law_is_hold, od__law_is_hold, .func (PySem.W.fnOf "_law_is_hold" "_law_is_hold" (defArgs s__law_is_hold) (defBody s__law_is_hold) (defScope s__law_is_hold) .none kV__law_is_hold dc__law_is_hold pm__law_is_hold an__law_is_hold cd__law_is_hold ct__law_is_hold), sl__law_is_hold⟩)
    (c__law_is_hold : PySem.W.codeIn K cd__law_is_hold "_law_is_hold" = true)
    (k__law_is_hold : PySem.W.keepIn K (.ref f__law_is_hold) = true)
    (a__law_both : PySem.W.nsIn K mainGlobals "_law_both" = some (some (.ref f__law_both)))
    (l__law_both : K.lookup f__law_both = some ⟨oc__law_both, od__law_both, .func (PySem.W.fnOf "_law_both" "_law_both" (defArgs s__law_both) (defBody s__law_both) (defScope s__law_both) .none kV__law_both dc__law_both pm__law_both an__law_both cd__law_both ct__law_both), sl__law_both⟩)
    (c__law_both : PySem.W.codeIn K cd__law_both "_law_both" = true)
    (k__law_both : PySem.W.keepIn K (.ref f__law_both) = true)
    (a__law_lack : PySem.W.nsIn K mainGlobals "_law_lack" = some (some (.ref f__law_lack)))
    (l__law_lack : K.lookup f__law_lack = some ⟨oc__law_lack, od__law_lack, .func (PySem.W.fnOf "_law_lack" "_law_lack" (defArgs s__law_lack) (defBody s__law_lack) (defScope s__law_lack) .none kV__law_lack dc__law_lack pm__law_lack an__law_lack cd__law_lack ct__law_lack), sl__law_lack⟩)
    (c__law_lack : PySem.W.codeIn K cd__law_lack "_law_lack" = true)
    (k__law_lack : PySem.W.keepIn K (.ref f__law_lack) = true)
    (a__law_places : PySem.W.nsIn K mainGlobals "_law_places" = some (some (.ref f__law_places)))
    (l__law_places : K.lookup f__law_places = some ⟨oc__law_places, od__law_places, .func (PySem.W.fnOf "_law_places" "_law_places" (defArgs s__law_places) (defBody s__law_places) (defScope s__law_places) .none kV__law_places dc__law_places pm__law_places an__law_places cd__law_places ct__law_places), sl__law_places⟩)
    (c__law_places : PySem.W.codeIn K cd__law_places "_law_places" = true)
    (k__law_places : PySem.W.keepIn K (.ref f__law_places) = true)
    (a__law_is_lack : PySem.W.nsIn K mainGlobals "_law_is_lack" = some (some (.ref f__law_is_lack)))
    (l__law_is_lack : K.lookup f__law_is_lack = some ⟨oc__law_is_lack, od__law_is_lack, .func (PySem.W.fnOf "_law_is_lack" "_law_is_lack" (defArgs s__law_is_lack) (defBody s__law_is_lack) (defScope s__law_is_lack) .none kV__law_is_lack dc__law_is_lack pm__law_is_lack an__law_is_lack cd__law_is_lack ct__law_is_lack), sl__law_is_lack⟩)
    (c__law_is_lack : PySem.W.codeIn K cd__law_is_lack "_law_is_lack" = true)
    (k__law_is_lack : PySem.W.keepIn K (.ref f__law_is_lack) = true)
    (a__law_bent : PySem.W.nsIn K mainGlobals "_law_bent" = some (some (.ref f__law_bent)))
    (l__law_bent : K.lookup f__law_bent = some ⟨oc__law_bent, od__law_bent, .func (PySem.W.fnOf "_law_bent" "_law_bent" (defArgs s__law_bent) (defBody s__law_bent) (defScope s__law_bent) .none kV__law_bent dc__law_bent pm__law_bent an__law_bent cd__law_bent ct__law_bent), sl__law_bent⟩)
    (c__law_bent : PySem.W.codeIn K cd__law_bent "_law_bent" = true)
    (k__law_bent : PySem.W.keepIn K (.ref f__law_bent) = true)
    (a_law : PySem.W.nsIn K mainGlobals "law" = some (some (.ref f_law)))
    (l_law : K.lookup f_law = some ⟨oc_law, od_law, .func (PySem.W.fnOf "law" "law" (defArgs s_law) (defBody s_law) (defScope s_law) .none kV_law dc_law pm_law an_law cd_law ct_law), sl_law⟩)
    (c_law : PySem.W.codeIn K cd_law "law" = true)
    (k_law : PySem.W.keepIn K (.ref f_law) = true)
    (a_Web_init : PySem.W.findIn K (.ref C_Web) "__init__" = some (some (.ref f_Web_init)))
    (i_Web_init : PySem.W.isFn K (.ref f_Web_init) = true)
    (l_Web_init : K.lookup f_Web_init = some ⟨oc_Web_init, od_Web_init, .func (PySem.W.fnOf "__init__" "Web.__init__" (defArgs s_Web_init) (defBody s_Web_init) (defScope s_Web_init) .none kV_Web_init dc_Web_init pm_Web_init an_Web_init cd_Web_init ct_Web_init), sl_Web_init⟩)
    (c_Web_init : PySem.W.codeIn K cd_Web_init "Web.__init__" = true)
    (k_Web_init : PySem.W.keepIn K (.ref f_Web_init) = true)
    (a_List_init : PySem.W.findIn K (.ref C_List) "__init__" = some (some (.ref f_List_init)))
    (i_List_init : PySem.W.isFn K (.ref f_List_init) = true)
    (l_List_init : K.lookup f_List_init = some ⟨oc_List_init, od_List_init, .func (PySem.W.fnOf "__init__" "List.__init__" (defArgs s_List_init) (defBody s_List_init) (defScope s_List_init) .none kV_List_init dc_List_init pm_List_init an_List_init cd_List_init ct_List_init), sl_List_init⟩)
    (c_List_init : PySem.W.codeIn K cd_List_init "List.__init__" = true)
    (k_List_init : PySem.W.keepIn K (.ref f_List_init) = true)
    (a_List_eq : PySem.W.findIn K (.ref C_List) "__eq__" = some (some (.ref f_List_eq)))
    (i_List_eq : PySem.W.isFn K (.ref f_List_eq) = true)
    (l_List_eq : K.lookup f_List_eq = some ⟨oc_List_eq, od_List_eq, .func (PySem.W.fnOf "__eq__" "List.__eq__" (defArgs s_List_eq) (defBody s_List_eq) (defScope s_List_eq) .none kV_List_eq dc_List_eq pm_List_eq an_List_eq cd_List_eq ct_List_eq), sl_List_eq⟩)
    (c_List_eq : PySem.W.codeIn K cd_List_eq "List.__eq__" = true)
    (k_List_eq : PySem.W.keepIn K (.ref f_List_eq) = true)
    (z_isinstance : PySem.W.nsIn K mainGlobals "isinstance" = some none)
    (z_len : PySem.W.nsIn K mainGlobals "len" = some none)
    (z_sorted : PySem.W.nsIn K mainGlobals "sorted" = some none)
    (z_min : PySem.W.nsIn K mainGlobals "min" = some none)
    (z_max : PySem.W.nsIn K mainGlobals "max" = some none)
    (z_all : PySem.W.nsIn K mainGlobals "all" = some none)
    (z_zip : PySem.W.nsIn K mainGlobals "zip" = some none)
    (z_range : PySem.W.nsIn K mainGlobals "range" = some none)
    (z_enumerate : PySem.W.nsIn K mainGlobals "enumerate" = some none)
    (z_int : PySem.W.nsIn K mainGlobals "int" = some none)
    (z_bool : PySem.W.nsIn K mainGlobals "bool" = some none)
    (z_str : PySem.W.nsIn K mainGlobals "str" = some none)
    (z_list : PySem.W.nsIn K mainGlobals "list" = some none)
    (z_tuple : PySem.W.nsIn K mainGlobals "tuple" = some none)
    (z_set : PySem.W.nsIn K mainGlobals "set" = some none)
    (z_any : PySem.W.nsIn K mainGlobals "any" = some none) :
    ∃ fd : FuncData, (∀ (s : Shared) (v : Value), BindsTo s fd ⟨[v], []⟩ [("script", v)]) ∧ ∀ base : Heap, K.In base → base.Ns mainGlobals mg → FnOk l.prog w K mg base CX0 7 fa fd ["script"] (sp_law (K := K)) := by
  have e := hfa.symm.trans (PySem.W.mg_of X G a_law)
  cases e
  have B : Bl mg := ⟨PySem.W.mg_none_of X G z_isinstance, PySem.W.mg_none_of X G z_len, PySem.W.mg_none_of X G z_sorted, PySem.W.mg_none_of X G z_min, PySem.W.mg_none_of X G z_max, PySem.W.mg_none_of X G z_all, PySem.W.mg_none_of X G z_zip, PySem.W.mg_none_of X G z_range, PySem.W.mg_none_of X G z_enumerate, PySem.W.mg_none_of X G z_int, PySem.W.mg_none_of X G z_bool, PySem.W.mg_none_of X G z_str, PySem.W.mg_none_of X G z_list, PySem.W.mg_none_of X G z_tuple⟩
  have TW : Txt K mg C_Web := ⟨⟨pg, hd, po, sa⟩, nS, nT, PySem.W.mg_of X G a_Web, ⟨_, PySem.W.mg_of X G a_MP⟩, xc, xg, xt, xm⟩
  have CT : ClsTy K C_Web := ⟨kit_sub (by decide +kernel) win, kit_sub (by decide +kernel) wtu⟩
  have CL : ClsTy K C_List := ⟨kit_sub (by decide +kernel) lin, kit_sub (by decide +kernel) ltu⟩
  have ksW : PySem.W.kitOne K (.ref C_Web) (.type "str") = some false := kit_sub (by decide +kernel) wst
  have ksL : PySem.W.kitOne K (.ref C_List) (.type "str") = some false := kit_sub (by decide +kernel) lst
  have Z : mg "set" = none ∧ True := ⟨PySem.W.mg_none_of X G z_set, trivial⟩
  have ZA : mg "any" = none ∧ True := ⟨PySem.W.mg_none_of X G z_any, trivial⟩
  have T : TxtL K mg C_List := ⟨⟨pgL, hdL, poL, saL⟩, nPL, nST, PySem.W.mg_of X G a_List, ⟨_, PySem.W.mg_of X G a_PL⟩, ⟨_, PySem.W.mg_of X G a_ST⟩⟩
  have T2 : TxtL2 K C_List := ⟨xcL, xg, xt, xmL⟩
  have N : OwnNe K C_List f_List_eq := ⟨a_List_eq, i_List_eq, xnL, xsL⟩
  have F_is_integer := fun_mk (st := s_is_integer) l_is_integer c_is_integer k_is_integer
  have m_is_integer := PySem.W.mg_of X G a_is_integer
  have F_is_number := fun_mk (st := s_is_number) l_is_number c_is_number k_is_number
  have m_is_number := PySem.W.mg_of X G a_is_number
  have F_is_lot_below := fun_mk (st := s_is_lot_below) l_is_lot_below c_is_lot_below k_is_lot_below
  have m_is_lot_below := PySem.W.mg_of X G a_is_lot_below
  have F_bits_of := fun_mk (st := s_bits_of) l_bits_of c_bits_of k_bits_of
  have m_bits_of := PySem.W.mg_of X G a_bits_of
  have F_is_tie := fun_mk (st := s_is_tie) l_is_tie c_is_tie k_is_tie
  have m_is_tie := PySem.W.mg_of X G a_is_tie
  have F_wrong_tie := fun_mk (st := s_wrong_tie) l_wrong_tie c_wrong_tie k_wrong_tie
  have m_wrong_tie := PySem.W.mg_of X G a_wrong_tie
  have F_wrong_stand := fun_mk (st := s_wrong_stand) l_wrong_stand c_wrong_stand k_wrong_stand
  have m_wrong_stand := PySem.W.mg_of X G a_wrong_stand
  have F_is_shown := fun_mk (st := s_is_shown) l_is_shown c_is_shown k_is_shown
  have m_is_shown := PySem.W.mg_of X G a_is_shown
  have F_are_held := fun_mk (st := s_are_held) l_are_held c_are_held k_are_held
  have m_are_held := PySem.W.mg_of X G a_are_held
  have F_mostly := fun_mk (st := s_mostly) l_mostly c_mostly k_mostly
  have m_mostly := PySem.W.mg_of X G a_mostly
  have F_is_never := fun_mk (st := s_is_never) l_is_never c_is_never k_is_never
  have m_is_never := PySem.W.mg_of X G a_is_never
  have F_is_three := fun_mk (st := s_is_three) l_is_three c_is_three k_is_three
  have m_is_three := PySem.W.mg_of X G a_is_three
  have F_is_lack := fun_mk (st := s_is_lack) l_is_lack c_is_lack k_is_lack
  have m_is_lack := PySem.W.mg_of X G a_is_lack
  have F__law_is_integer := fun_mk (st := s__law_is_integer) l__law_is_integer c__law_is_integer k__law_is_integer
  have m__law_is_integer := PySem.W.mg_of X G a__law_is_integer
  have F__law_source := fun_mk (st := s__law_source) l__law_source c__law_source k__law_source
  have m__law_source := PySem.W.mg_of X G a__law_source
  have F__law_draw := fun_mk (st := s__law_draw) l__law_draw c__law_draw k__law_draw
  have m__law_draw := PySem.W.mg_of X G a__law_draw
  have F__law_perm := fun_mk (st := s__law_perm) l__law_perm c__law_perm k__law_perm
  have m__law_perm := PySem.W.mg_of X G a__law_perm
  have F__law_ties := fun_mk (st := s__law_ties) l__law_ties c__law_ties k__law_ties
  have m__law_ties := PySem.W.mg_of X G a__law_ties
  have F__law_near := fun_mk (st := s__law_near) l__law_near c__law_near k__law_near
  have m__law_near := PySem.W.mg_of X G a__law_near
  have F__law_lot := fun_mk (st := s__law_lot) l__law_lot c__law_lot k__law_lot
  have m__law_lot := PySem.W.mg_of X G a__law_lot
  have F__law_is_rest := fun_mk (st := s__law_is_rest) l__law_is_rest c__law_is_rest k__law_is_rest
  have m__law_is_rest := PySem.W.mg_of X G a__law_is_rest
  have F__law_rests := fun_mk (st := s__law_rests) l__law_rests c__law_rests k__law_rests
  have m__law_rests := PySem.W.mg_of X G a__law_rests
  have F__law_flag := fun_mk (st := s__law_flag) l__law_flag c__law_flag k__law_flag
  have m__law_flag := PySem.W.mg_of X G a__law_flag
  have F__law_deep := fun_mk (st := s__law_deep) l__law_deep c__law_deep k__law_deep
  have m__law_deep := PySem.W.mg_of X G a__law_deep
  have F__law_seen := fun_mk (st := s__law_seen) l__law_seen c__law_seen k__law_seen
  have m__law_seen := PySem.W.mg_of X G a__law_seen
  have F__law_some_lot := fun_mk (st := s__law_some_lot) l__law_some_lot c__law_some_lot k__law_some_lot
  have m__law_some_lot := PySem.W.mg_of X G a__law_some_lot
  have F__law_web_list := fun_mk (st := s__law_web_list) l__law_web_list c__law_web_list k__law_web_list
  have m__law_web_list := PySem.W.mg_of X G a__law_web_list
  have F__law_stands := fun_mk (st := s__law_stands) l__law_stands c__law_stands k__law_stands
  have m__law_stands := PySem.W.mg_of X G a__law_stands
  have F__law_is_hold := fun_mk (st := s__law_is_hold) l__law_is_hold c__law_is_hold k__law_is_hold
  have m__law_is_hold := PySem.W.mg_of X G a__law_is_hold
  have F__law_both := fun_mk (st := s__law_both) l__law_both c__law_both k__law_both
  have m__law_both := PySem.W.mg_of X G a__law_both
  have F__law_lack := fun_mk (st := s__law_lack) l__law_lack c__law_lack k__law_lack
  have m__law_lack := PySem.W.mg_of X G a__law_lack
  have F__law_places := fun_mk (st := s__law_places) l__law_places c__law_places k__law_places
  have m__law_places := PySem.W.mg_of X G a__law_places
  have F__law_is_lack := fun_mk (st := s__law_is_lack) l__law_is_lack c__law_is_lack k__law_is_lack
  have m__law_is_lack := PySem.W.mg_of X G a__law_is_lack
  have F__law_bent := fun_mk (st := s__law_bent) l__law_bent c__law_bent k__law_bent
  have m__law_bent := PySem.W.mg_of X G a__law_bent
  have F_law := fun_mk (st := s_law) l_law c_law k_law
  have m_law := PySem.W.mg_of X G a_law
  have F_Web_init := fun_mk (st := s_Web_init) l_Web_init c_Web_init k_Web_init
  have F_List_init := fun_mk (st := s_List_init) l_List_init c_List_init k_List_init
  have F_List_eq := fun_mk (st := s_List_eq) l_List_eq c_List_eq k_List_eq
  refine ⟨PySem.W.fnOf "law" "law" (defArgs s_law) (defBody s_law) (defScope s_law) .none kV_law dc_law pm_law an_law cd_law ct_law, fun s v => .of_eq rfl, fun base _ _ => ?_⟩
  have c1 := ok_is_integer (P := l.prog) (w := w) (base := base) F_is_integer m_is_integer B
  have c2 := ok_is_number F_is_number m_is_number B c1
  have c5 := ok_is_tie F_is_tie m_is_tie B c2
  have c6 := ok_wrong_tie F_wrong_tie m_wrong_tie B c5
  have wI := ok_Web_init F_Web_init B TW c2 c6
  have bI := F_Web_init.binds (ps := ["self", "size", "ties"]) fun _ _ _ _ _ _ us hl => match us, hl with | [_, _, _], _ => rfl
  have mW : Mkc l.prog w K mg base 5 C_Web "Web" ["self", "size", "ties"] (sp_Web_init C_Web) := ⟨f_Web_init, _, ⟨mk, a_Web_init, i_Web_init, kc⟩, wI, TW.mg_Web, bI⟩
  have g1 := ok_is_integerA (P := l.prog) (w := w) (base := base) F_is_integer m_is_integer B
  have g2 := ok_is_numberA F_is_number m_is_number B g1
  have g3 := ok_is_lot_belowA F_is_lot_below m_is_lot_below B g2
  have g4 := ok_wrong_stand F_wrong_stand m_wrong_stand B g3
  have lI := ok_List_init F_List_init B T g2 g4
  have bL := F_List_init.binds (ps := ["self", "places", "stands"]) fun _ _ _ _ _ _ us hl => match us, hl with | [_, _, _], _ => rfl
  have mL : Mkc l.prog w K mg base 5 C_List "List" ["self", "places", "stands"] (sp_List_init C_List) := ⟨f_List_init, _, ⟨mkL, a_List_init, i_List_init, kcL⟩, lI, T.mg_List, bL⟩
  have lE := ok_List_eq (P := l.prog) (w := w) (base := base) F_List_eq B T T2
  have bE := F_List_eq.binds (ps := ["self", "other"]) fun _ _ _ _ _ _ us hl => match us, hl with | [_, _], _ => rfl
  have h1 := ok_bits_of (P := l.prog) (w := w) (base := base) F_bits_of m_bits_of B
  have h2 := ok_is_shown (P := l.prog) (w := w) (base := base) F_is_shown m_is_shown B T
  have h3 := ok_are_held (P := l.prog) (w := w) (base := base) F_are_held m_are_held B
  have h4 := ok_mostly (P := l.prog) (w := w) (base := base) F_mostly m_mostly B
  have h5 := ok_is_never F_is_never m_is_never B T g2 h2
  have h6 := ok_is_three F_is_three m_is_three B T g3 h1 h3 h4
  have h7 := ok_is_lack F_is_lack m_is_lack B h5 h6
  have t1 := ok_law_source (P := l.prog) (w := w) (base := base) F__law_source m__law_source B
  have t2 := ok_law_draw (P := l.prog) (w := w) (base := base) F__law_draw m__law_draw B
  have t3 := ok_law_perm F__law_perm m__law_perm B t2
  have t4 := ok_law_ties F__law_ties m__law_ties B t2 t3
  have t5 := ok_law_near (P := l.prog) (w := w) (base := base) F__law_near m__law_near B
  have t6 := ok_law_lotB (P := l.prog) (w := w) (base := base) F__law_lot m__law_lot B
  have t7 := ok_law_is_restB (P := l.prog) (w := w) (base := base) F__law_is_rest m__law_is_rest B
  have t8 := ok_law_rests F__law_rests m__law_rests B t5 t7 t6
  have e1 := ok_law_is_integerA (P := l.prog) (w := w) (base := base) (K := K) F__law_is_integer m__law_is_integer B
  have e3 := ok_law_deepO (P := l.prog) (w := w) (base := base) (K := K) F__law_deep m__law_deep B
  have e4 := ok_law_seen (P := l.prog) (w := w) (base := base) F__law_seen m__law_seen B Z
  have e5 := ok_law_some_lot F__law_some_lot m__law_some_lot B t2
  have e6 := ok_law_web_list F__law_web_list m__law_web_list B t2 t3 t4 t8 e4
  have e7 := ok_law_stands F__law_stands m__law_stands B Z t2 e5 e6
  have e8 := ok_law_is_hold (P := l.prog) (w := w) (base := base) F__law_is_hold m__law_is_hold B ZA
  have e9 := ok_law_places F__law_places m__law_places B t2
  have e10 := ok_law_both (P := l.prog) (w := w) (base := base) F__law_both m__law_both B Z
  have e11 := ok_law_lack F__law_lack m__law_lack B e8 e10
  have e12 := ok_law_is_lack F__law_is_lack m__law_is_lack B e1 e8 e10
  have e13 := ok_law_bent F__law_bent m__law_bent B t2 e3
  have e14 := ok_law_flag (P := l.prog) (w := w) (base := base) F__law_flag m__law_flag B
  exact ok_law F_law B TW CT ksW T T2 CL ksL N lE bE mW mL t1 t2 t3 e9 e7 e11 e13 e12 h7 e14
theorem walk {l : PySem.W.OpenLaw} {q : Program} {loose : List Str} {XP : (Str → Option Value) → Heap → Prop} {YP : World → Heap → Prop} {d : DefRec} {K : Params → PySem.W.Frag} (hn : l.most = some 63) (hdf : d.params.defaults = [])
    (hY : ∀ (w : World) (h : Heap), YP w h → (K w.params).In h)
    (F : ∀ (w : World) (mg : Str → Option Value) (fa : Addr) (h : Heap), (K w.params).In h → h.Ns mainGlobals mg → mg d.name = some (.ref fa) →
      ∃ fd : FuncData, (∀ (s : Shared) (u : Value), BindsTo s fd ⟨[u], []⟩ [("script", u)]) ∧ ∀ base : Heap, (K w.params).In base → base.Ns mainGlobals mg → FnOk l.prog w (K w.params) mg base CX0 7 fa fd ["script"] (sp_law (K w.params))) :
    PySem.W.WalkO q loose XP YP l.row.toRowW d [] (fun f vs => PySem.call f vs) :=
  L2.walk_of (n := 63) (k := 7) (x := "script") (CX := fun _ => CX0) (sp := fun w => sp_law (K w.params)) hn (by decide) hdf ⟨rfl, by decide, by decide⟩ hY F (fun _ _ a ns hl _ hS => ⟨a, ns, rfl, hS, fun _ => rfl⟩) fun _ _ _ _ _ z => z
end Bs

open PySem PySem.W PyProof.Rows in
set_option maxRecDepth 100000 in
set_option maxHeartbeats 0 in
theorem PySem.Challenge.cw_silencers_k38_lacks_judged_holds : PySem.Challenge.rw_silencers_k38_lacks_judged.Holds := by
  w_on; o_law; k_head; (case hw => w_witness2)
  k_fill
  refine Bs.walk (l := PySem.Challenge.rw_silencers_k38_lacks_judged) rfl rfl (fun w h Y => PySem.W.kIn_of Y) ?F
  case F =>
    intro w mg fa h KX G hmg
    refine' Bs.all_mk KX G hmg ?a_Web ?a_MP ?pg ?hd ?po ?sa ?mk ?kc ?nS ?nT ?xc ?xg ?xt ?xm ?a_List ?a_PL ?a_ST ?pgL ?hdL ?poL ?saL ?mkL ?kcL ?nPL ?nST ?xcL ?xmL ?xnL ?xsL ?win ?wtu ?wst ?lin ?ltu ?lst ?a_is_integer ?l_is_integer ?c_is_integer ?k_is_integer ?a_is_number ?l_is_number ?c_is_number ?k_is_number ?a_is_lot_below ?l_is_lot_below ?c_is_lot_below ?k_is_lot_below ?a_bits_of ?l_bits_of ?c_bits_of ?k_bits_of ?a_is_tie ?l_is_tie ?c_is_tie ?k_is_tie ?a_wrong_tie ?l_wrong_tie ?c_wrong_tie ?k_wrong_tie ?a_wrong_stand ?l_wrong_stand ?c_wrong_stand ?k_wrong_stand ?a_is_shown ?l_is_shown ?c_is_shown ?k_is_shown ?a_are_held ?l_are_held ?c_are_held ?k_are_held ?a_mostly ?l_mostly ?c_mostly ?k_mostly ?a_is_never ?l_is_never ?c_is_never ?k_is_never ?a_is_three ?l_is_three ?c_is_three ?k_is_three ?a_is_lack ?l_is_lack ?c_is_lack ?k_is_lack ?a__law_is_integer ?l__law_is_integer ?c__law_is_integer ?k__law_is_integer ?a__law_source ?l__law_source ?c__law_source ?k__law_source ?a__law_draw ?l__law_draw ?c__law_draw ?k__law_draw ?a__law_perm ?l__law_perm ?c__law_perm ?k__law_perm ?a__law_ties ?l__law_ties ?c__law_ties ?k__law_ties ?a__law_near ?l__law_near ?c__law_near ?k__law_near ?a__law_lot ?l__law_lot ?c__law_lot ?k__law_lot ?a__law_is_rest ?l__law_is_rest ?c__law_is_rest ?k__law_is_rest ?a__law_rests ?l__law_rests ?c__law_rests ?k__law_rests ?a__law_flag ?l__law_flag ?c__law_flag ?k__law_flag ?a__law_deep ?l__law_deep ?c__law_deep ?k__law_deep ?a__law_seen ?l__law_seen ?c__law_seen ?k__law_seen ?a__law_some_lot ?l__law_some_lot ?c__law_some_lot ?k__law_some_lot ?a__law_web_list ?l__law_web_list ?c__law_web_list ?k__law_web_list ?a__law_stands ?l__law_stands ?c__law_stands ?k__law_stands ?a__law_is_hold ?l__law_is_hold ?c__law_is_hold ?k__law_is_hold ?a__law_both ?l__law_both ?c__law_both ?k__law_both ?a__law_lack ?l__law_lack ?c__law_lack ?k__law_lack ?a__law_places ?l__law_places ?c__law_places ?k__law_places ?a__law_is_lack ?l__law_is_lack ?c__law_is_lack ?k__law_is_lack ?a__law_bent ?l__law_bent ?c__law_bent ?k__law_bent ?a_law ?l_law ?c_law ?k_law ?a_Web_init ?i_Web_init ?l_Web_init ?c_Web_init ?k_Web_init ?a_List_init ?i_List_init ?l_List_init ?c_List_init ?k_List_init ?a_List_eq ?i_List_eq ?l_List_eq ?c_List_eq ?k_List_eq ?z_isinstance ?z_len ?z_sorted ?z_min ?z_max ?z_all ?z_zip ?z_range ?z_enumerate ?z_int ?z_bool ?z_str ?z_list ?z_tuple ?z_set ?z_any
    (case a_Web => k_is)
    (case a_MP => k_is)
    (case pg => k_is)
    (case hd => k_is)
    (case po => k_is)
    (case sa => k_is)
    (case mk => k_is)
    (case kc => k_is)
    (case nS => k_is)
    (case nT => k_is)
    (case xc => k_is)
    (case xg => k_is)
    (case xt => k_is)
    (case xm => k_is)
    (case a_List => k_is)
    (case a_PL => k_is)
    (case a_ST => k_is)
    (case pgL => k_is)
    (case hdL => k_is)
    (case poL => k_is)
    (case saL => k_is)
    (case mkL => k_is)
    (case kcL => k_is)
    (case nPL => k_is)
    (case nST => k_is)
    (case xcL => k_is)
    (case xmL => k_is)
    (case xnL => k_is)
    (case xsL => k_is)
    (case win => k_is)
    (case wtu => k_is)
    (case wst => k_is)
    (case lin => k_is)
    (case ltu => k_is)
    (case lst => k_is)
    (case a_is_integer => k_is)
    (case l_is_integer => k_is)
    (case c_is_integer => k_is)
    (case k_is_integer => k_is)
    (case a_is_number => k_is)
    (case l_is_number => k_is)
    (case c_is_number => k_is)
    (case k_is_number => k_is)
    (case a_is_lot_below => k_is)
    (case l_is_lot_below => k_is)
    (case c_is_lot_below => k_is)
    (case k_is_lot_below => k_is)
    (case a_bits_of => k_is)
    (case l_bits_of => k_is)
    (case c_bits_of => k_is)
    (case k_bits_of => k_is)
    (case a_is_tie => k_is)
    (case l_is_tie => k_is)
    (case c_is_tie => k_is)
    (case k_is_tie => k_is)
    (case a_wrong_tie => k_is)
    (case l_wrong_tie => k_is)
    (case c_wrong_tie => k_is)
    (case k_wrong_tie => k_is)
    (case a_wrong_stand => k_is)
    (case l_wrong_stand => k_is)
    (case c_wrong_stand => k_is)
    (case k_wrong_stand => k_is)
    (case a_is_shown => k_is)
    (case l_is_shown => k_is)
    (case c_is_shown => k_is)
    (case k_is_shown => k_is)
    (case a_are_held => k_is)
    (case l_are_held => k_is)
    (case c_are_held => k_is)
    (case k_are_held => k_is)
    (case a_mostly => k_is)
    (case l_mostly => k_is)
    (case c_mostly => k_is)
    (case k_mostly => k_is)
    (case a_is_never => k_is)
    (case l_is_never => k_is)
    (case c_is_never => k_is)
    (case k_is_never => k_is)
    (case a_is_three => k_is)
    (case l_is_three => k_is)
    (case c_is_three => k_is)
    (case k_is_three => k_is)
    (case a_is_lack => k_is)
    (case l_is_lack => k_is)
    (case c_is_lack => k_is)
    (case k_is_lack => k_is)
    (case a__law_is_integer => k_is)
    (case l__law_is_integer => k_is)
    (case c__law_is_integer => k_is)
    (case k__law_is_integer => k_is)
    (case a__law_source => k_is)
    (case l__law_source => k_is)
    (case c__law_source => k_is)
    (case k__law_source => k_is)
    (case a__law_draw => k_is)
    (case l__law_draw => k_is)
    (case c__law_draw => k_is)
    (case k__law_draw => k_is)
    (case a__law_perm => k_is)
    (case l__law_perm => k_is)
    (case c__law_perm => k_is)
    (case k__law_perm => k_is)
    (case a__law_ties => k_is)
    (case l__law_ties => k_is)
    (case c__law_ties => k_is)
    (case k__law_ties => k_is)
    (case a__law_near => k_is)
    (case l__law_near => k_is)
    (case c__law_near => k_is)
    (case k__law_near => k_is)
    (case a__law_lot => k_is)
    (case l__law_lot => k_is)
    (case c__law_lot => k_is)
    (case k__law_lot => k_is)
    (case a__law_is_rest => k_is)
    (case l__law_is_rest => k_is)
    (case c__law_is_rest => k_is)
    (case k__law_is_rest => k_is)
    (case a__law_rests => k_is)
    (case l__law_rests => k_is)
    (case c__law_rests => k_is)
    (case k__law_rests => k_is)
    (case a__law_flag => k_is)
    (case l__law_flag => k_is)
    (case c__law_flag => k_is)
    (case k__law_flag => k_is)
    (case a__law_deep => k_is)
    (case l__law_deep => k_is)
    (case c__law_deep => k_is)
    (case k__law_deep => k_is)
    (case a__law_seen => k_is)
    (case l__law_seen => k_is)
    (case c__law_seen => k_is)
    (case k__law_seen => k_is)
    (case a__law_some_lot => k_is)
    (case l__law_some_lot => k_is)
    (case c__law_some_lot => k_is)
    (case k__law_some_lot => k_is)
    (case a__law_web_list => k_is)
    (case l__law_web_list => k_is)
    (case c__law_web_list => k_is)
    (case k__law_web_list => k_is)
    (case a__law_stands => k_is)
    (case l__law_stands => k_is)
    (case c__law_stands => k_is)
    (case k__law_stands => k_is)
    (case a__law_is_hold => k_is)
    (case l__law_is_hold => k_is)
    (case c__law_is_hold => k_is)
    (case k__law_is_hold => k_is)
    (case a__law_both => k_is)
    (case l__law_both => k_is)
    (case c__law_both => k_is)
    (case k__law_both => k_is)
    (case a__law_lack => k_is)
    (case l__law_lack => k_is)
    (case c__law_lack => k_is)
    (case k__law_lack => k_is)
    (case a__law_places => k_is)
    (case l__law_places => k_is)
    (case c__law_places => k_is)
    (case k__law_places => k_is)
    (case a__law_is_lack => k_is)
    (case l__law_is_lack => k_is)
    (case c__law_is_lack => k_is)
    (case k__law_is_lack => k_is)
    (case a__law_bent => k_is)
    (case l__law_bent => k_is)
    (case c__law_bent => k_is)
    (case k__law_bent => k_is)
    (case a_law => k_is)
    (case l_law => k_is)
    (case c_law => k_is)
    (case k_law => k_is)
    (case a_Web_init => k_is)
    (case i_Web_init => k_is)
    (case l_Web_init => k_is)
    (case c_Web_init => k_is)
    (case k_Web_init => k_is)
    (case a_List_init => k_is)
    (case i_List_init => k_is)
    (case l_List_init => k_is)
    (case c_List_init => k_is)
    (case k_List_init => k_is)
    (case a_List_eq => k_is)
    (case i_List_eq => k_is)
    (case l_List_eq => k_is)
    (case c_List_eq => k_is)
    (case k_List_eq => k_is)
    (case z_isinstance => k_is)
    (case z_len => k_is)
    (case z_sorted => k_is)
    (case z_min => k_is)
    (case z_max => k_is)
    (case z_all => k_is)
    (case z_zip => k_is)
    (case z_range => k_is)
    (case z_enumerate => k_is)
    (case z_int => k_is)
    (case z_bool => k_is)
    (case z_str => k_is)
    (case z_list => k_is)
    (case z_tuple => k_is)
    (case z_set => k_is)
    (case z_any => k_is)

