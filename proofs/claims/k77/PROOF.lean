import PyProof.Rows.All
import Wide.All
import OpenK.AllK
import Wide.FinOn
import PyProof.EnumMake
import PyProof.Draws
import PyProof.InstNe
import HandS.ForMost
import HandS.IsInst
import HandS.Zip0
import HandS.Zip
import HandS.Conv
import HandS.Deep
import HandS.SortRule
import HandS.SortInts
import HandS.TupLe
import HandS.OwnEq
import HandS.Walk
import HandS.Evl
import OpenK.KMake
import HandS.WideBits
import HandS.TupAny
import HandS.Style
import HandS.ForExc
import HandS.ExcInit
import HandS.TryMany
import HandS.ExcIs
import HandS.ExcField
import HandS.Lambda
import HandS.NamedTupSort
import HandS.FStr
import HandS.Text
import KE.KxField
import KE.KDictDisplayH
import HandS.SetFor
import HandS.Strs
import HandS.TupSets
import HandS.Flow
import PySem.Challenge.RW_silencers_k77_nets_judged
set_option Elab.async false
set_option linter.all false
set_option maxRecDepth 100000
set_option maxHeartbeats 4000000
namespace Bs
open PySem PySem.Spec PyProof.Rows L2
/-! ## enumerate over a tuple -/
theorem draws_tup {prog : Program} {w : World} {A : Around} (hh : A.handled = none) (it l : Addr) (hne : l ≠ it) (items : Array Value) :
    Draws prog w A it [it, l] items.size (fun i v => items[i]? = some v) (fun i h => h.IsTupleIter it l i ∧ h.IsTuple l items) where
  live := fun i h st => let ⟨⟨o, e, _⟩, _⟩ := st; ⟨o, e⟩
  frame := fun i h h' st k => ⟨st.1.at fun o e => k it (by simp) o e, st.2.at fun o e => k l (by simp) o e⟩
  item := fun i s Q E hi st hQ => by
    refine RZ.nextOf_tuple_item st.1 st.2 (x := items[i]) (by simp [hi]) fun h' hit' hs' => ?_
    exact hQ _ h' s.toks (by simp [hi]) ⟨hit', st.2.at fun o e => hs'.extBut l o hne e⟩ hs'
  done := fun s Q E st hQ => RZ.nextOf_tuple_end hh st.1 st.2 (by simp) hQ
theorem meets_enumerate_newT (l : Addr) (items : Array Value) (n : Nat) (dct : Option Addr) (sl : Array (Option Value)) :
    Meets (Builtin.«enumerate.__new__» ⟨[.type "enumerate", .ref l], []⟩) (fun _ R s => s.heap.get? l = some { cls := .type "tuple", dict := dct, data := .seq items n, slots := sl } ∧
      R (.ok (.ret (.ref (s.heap.push { cls := .type "tuple_iterator", data := .fields #[.ref l, .int 0 0] }).objs.size)))
        { s with heap := (s.heap.push { cls := .type "tuple_iterator", data := .fields #[.ref l, .int 0 0] }).push { cls := .type "enumerate", data := .fields #[.none, .bool false, .ref s.heap.objs.size, rawInt 0, .none, .none] } }) :=
  .of_wp fun prog w A R s h => by
    obtain ⟨hp, g, d, tk, os⟩ := s; obtain ⟨hl, h⟩ := h
    have hsub := sub_enumerate
    have hL : Heap.IsTuple (Shared.heap ⟨hp, g, d, tk, os⟩) l items := ⟨_, hl, rfl, n, rfl⟩
    wp_walk using AutoSeq1.wpAny_loadPart' hl
    refine wpAny_stack_any fun st => wpAny_pure ?_
    split
    · rename_i c _ _ _ _ _
      cases (c == Value.type "enumerate")
      · wp_walk using AutoSeq1.wpAny_loadPart' hl, wpAny_pyIter_tuple hL
        exact ⟨_, rfl, h⟩
      · wp_walk using AutoSeq1.wpAny_loadPart' hl, wpAny_pyIter_tuple hL
        exact ⟨_, rfl, h⟩
    · wp_walk using AutoSeq1.wpAny_loadPart' hl, wpAny_pyIter_tuple hL
      exact ⟨_, rfl, h⟩
section
variable {prog : Program} {w : World} {A : Around} {E : Value → Shared → Prop} {s : Shared}
theorem call_enumerate_tup {l : Addr} {items : Array Value} {Q : Value → Shared → Prop} (hL : s.heap.IsTuple l items)
    (h : ∀ h', IsEnum h' (s.heap.objs.size + 1) s.heap.objs.size 0 .none → h'.IsTupleIter s.heap.objs.size l 0 → h'.objs.size = s.heap.objs.size + 2 →
      (∀ b o, s.heap.get? b = some o → h'.get? b = some o) → Q (.ref (s.heap.objs.size + 1)) { s with heap := h' }) :
    wpAny (model prog w) A (call (.type "enumerate") [.ref l]) Q E s := by
  obtain ⟨⟨c, dct, dt, sl⟩, hl, hc, n, hd⟩ := hL
  replace hc : c = .type "tuple" := hc
  replace hd : dt = .seq items n := hd
  subst hc hd
  refine callType_new F.called_enumerate (by decide) (F.typeCall_enumerate_1 _) (F.newCall_enumerate_1 _) (fun obj => F.args_object_init_2 obj _) F.entry_enumerate_new
    (meets_enumerate_newT l items n dct sl) ⟨hl, ?_⟩
  have hz : (s.heap.push { cls := .type "tuple_iterator", data := .fields #[.ref l, .int 0 0] }).objs.size = s.heap.objs.size + 1 := Heap.size_push ..
  show _ ∧ _
  rw [hz]
  have he : IsEnum ((s.heap.push { cls := .type "tuple_iterator", data := .fields #[.ref l, .int 0 0] }).push
      { cls := .type "enumerate", data := .fields #[.none, .bool false, .ref s.heap.objs.size, rawInt 0, .none, .none] }) (s.heap.objs.size + 1) s.heap.objs.size 0 .none := by
    have := Heap.get?_push_size (s.heap.push { cls := .type "tuple_iterator", data := .fields #[.ref l, .int 0 0] })
      (o := { cls := .type "enumerate", data := .fields #[.none, .bool false, .ref s.heap.objs.size, rawInt 0, .none, .none] }) rfl
    rw [hz] at this; exact this
  refine ⟨⟨_, he, rfl⟩, h _ he ⟨_, Heap.get?_push_of_some _ (Heap.get?_push_size _ rfl), rfl, rfl⟩ (by rw [Heap.size_push, hz]) fun b o x => Heap.get?_push_of_some _ (Heap.get?_push_of_some _ x)⟩
end
/-- the tuple at a as it stands at each turn, each item in a new pair -/
def IteT (K : PySem.W.Frag) (a : Addr) : It :=
  ⟨fun i H => ∃ (xs : List V) (x : V), SqT K H a xs ∧ xs[i]? = some x, fun i H v H' => ∃ T x, v = .ref T ∧ H T = none ∧ H' = upd H T (.tup [.int (i : Nat), x]) ∧ ∀ xs, SqT K H a xs → xs[i]? = some x, fun i H => ∃ xs : List V, SqT K H a xs ∧ xs.length ≤ i⟩
theorem turn_enumT {P : Program} {w : World} {K : PySem.W.Frag} {elts : List Expr} {kk : Nat} {tpos : Pos} (a e it : Addr) :
    Turn P w K (.Tuple elts kk tpos) (IteT K a) [e, it] e (fun i h => (∃ old, IsEnum h e it ((i : Nat) : Int) old) ∧ h.IsTupleIter it a i ∧ e ≠ it ∧ a ≠ it ∧ a ≠ e) where
  mem := by simp
  obj := fun i h st b hb => by
    obtain ⟨⟨old, he⟩, ⟨o, ho, hc, hd⟩, _⟩ := st
    have e' : b = e ∨ b = it := by simpa using hb
    rcases e' with z | z
    · rw [z]; exact ⟨_, he, fun v q => nomatch q⟩
    · rw [z]; exact ⟨o, ho, fun v q => by rw [hd] at q; cases q⟩
  keep := fun i h h' st k => let ⟨⟨old, he⟩, hi, hne⟩ := st; ⟨⟨old, k e (by simp) _ he⟩, hi.at fun o q => k it (by simp) o q, hne⟩
  item := by
    intro X hP hw hK hc i pins s σ H E I hf st hg
    subst hP hw hK
    obtain ⟨⟨old, he⟩, hit, hne, hne2, hne3⟩ := st
    obtain ⟨xs, x, hq, hx⟩ := hg
    obtain ⟨its, rv, p, hz⟩ := I.tuple hq
    obtain ⟨u, hu, ru⟩ := rv.get hx
    have hel : e < s.heap.objs.size := Heap.lt_size he
    have hil : it < s.heap.objs.size := by obtain ⟨_, q, _⟩ := hit; exact Heap.lt_size q
    have hlt : i < its.toArray.size := by
      have := (List.getElem?_eq_some_iff.mp hu).1
      simpa using this
    refine wpAny_pyNext_enum_itemD (draws_tup (show X.A.in1.handled = none from I.ok.hd hc) it a hne2 its.toArray) he ⟨hit, p⟩ hlt hne (by simp [hne, Ne.symm hne3]) fun y h' tk hy ho hit' hT hsz hk => ?_
    have hyu : y = u := by
      have h2 : its.toArray[i]? = some u := by simpa using hu
      rw [h2] at hy
      exact (Option.some.inj hy).symm
    subst hyu
    refine ⟨_, rfl, wpAny_letOwnedTupleGo_enum (s := { s with heap := h', toks := tk + 1 }) ho fun h'' he' sb => ?_⟩
    have hT2 : h''.get? s.heap.objs.size = some { cls := .type "tuple", data := .seq #[.int i tk, y] } := (sb.2 _ (Nat.ne_of_gt hel)).trans hT
    have new : ObjOk X.prog X.w (upd H s.heap.objs.size (.tup [.int (i : Nat), x])) h'' s.heap.objs.size (.tup [.int (i : Nat), x]) :=
      ⟨by show 2 ≤ sizeLine; decide, [.int i tk, y], .cons ⟨_, rfl⟩ (.cons ru .nil), ⟨_, hT2, rfl, _, rfl⟩⟩
    have I1 : Inv X pins σ (upd H s.heap.objs.size (.tup [.int (i : Nat), x])) { s with heap := h'', toks := tk + 1 } :=
      I.turnedNew (ch := [e, it]) (fun b ob hb q => (sb.2 b (fun z => hb (by simp [z]))).trans (hk b ob (fun z => hb (by simp [z])) (fun z => hb (by simp [z])) q)) hf (Nat.le_refl _) new
    refine ⟨.ref s.heap.objs.size, _, I1, rfl, ⟨_, x, rfl, I.hok.fresh (Nat.le_refl _), rfl, fun ys hy => by rw [I.tuple_inj hy hq]; exact hx⟩, ⟨⟨y, ?_⟩, hit'.1.at fun o q => (sb.2 it (Ne.symm hne)).trans q, hne, hne2, hne3⟩, fun b hb => ?_⟩
    · have e1 : ((i + 1 : Nat) : Int) = (i : Int) + 1 := by omega
      rw [e1]; exact he'
    · have hb' : b < s.heap.objs.size := by
        have e' : b = e ∨ b = it := by simpa using hb
        rcases e' with z | z
        · rw [z]; exact hel
        · rw [z]; exact hil
      rw [upd_ne (Nat.ne_of_lt hb')]
      exact (hf b hb).1
  done := by
    intro X hP hw hK hc i pins s σ H E I hf st hg
    subst hP hw hK
    obtain ⟨⟨old, he⟩, hit, hne, hne2, hne3⟩ := st
    obtain ⟨xs, hq, hx⟩ := hg
    obtain ⟨its, rv, p, hz⟩ := I.tuple hq
    obtain ⟨f0, f1, f2, f3, f4, f5⟩ := hf it (by simp)
    have hl := rv.length
    have hT : s.TypeIs (.ref e) "enumerate" := ⟨_, he, rfl⟩
    unfold pyNext
    refine wpAny_bind (wpAny_attempt (wpAny_callSpecial?_slot (name := Str.ofString "__next__") hT F.slot_enumerate_next
      (wpAny_call_entry F.slot_enumerate_next hT F.entry_enumerate_next ?_ (F.args_enumerate_next_1 _))))
    show wpAny _ _ (field (.ref e) 2 >>= _) _ _ _
    refine wpAny_bind (wpAny_field he rfl (x := .ref it) rfl ?_)
    refine wpAny_bind (RZ.nextOf_tuple_end (show X.A.in1.handled = none from I.ok.hd hc) hit p (by simp; omega) fun h' x he' hx' => ?_)
    obtain ⟨o, ho, hc⟩ := hx'
    refine wpAny_bind (wpAny_isInstance (T := "StopIteration") (b := true) ⟨o, ho, hc⟩ isSubtype_stop ?_)
    exact wpAny_pure ⟨rfl, I.turned (t' := s.toks) (fun b o hb q => he' b o hb q) f0 f1 f3 f4 f5⟩
  self := fun A i s Q E st h => let ⟨⟨_, he⟩, _⟩ := st; wpAny_pyIter_enum he h
def iEnumT (K : PySem.W.Frag) (ta : TA) : TI := fun σ H R => ta σ H fun vs H1 => ∃ a xs, vs = [.ref a] ∧ SqT K H1 a xs ∧ R (IteT K a) H1
theorem pi_enumT {X : Cx} {e : Expr} {ta : TA} {p pos tpos : Pos} {elts : List Expr} {kk : Nat} (hg : Gl X "enumerate") (hm : X.mg "enumerate" = none) (ha : PA X [e] ta) (hs : starEach [e] X.env = [(false, eval e X.env)] := by rfl) :
    PI X (.Tuple elts kk tpos) (.Call (.Name "enumerate" p) [e] [] pos) (iEnumT X.K ta) := by
  refine ⟨fun pins s σ H R I h => ?_⟩
  refine Call_ (ld_blt I hg hm boot_enumerate (PyProof.Rows.callWith_type1 (thn (ha.run pos pins s σ H _ I h) fun us s1 ⟨vs, H1, I1, r1, q1⟩ => ?_) hs rfl))
  obtain ⟨a, xs, ex, hq, q⟩ := q1
  subst ex
  cases r1 with
  | cons r rr =>
    cases rr
    cases r
    obtain ⟨its, rv, p', hz⟩ := I1.tuple hq
    have hal : a < s1.heap.objs.size := by obtain ⟨_, q, _⟩ := p'; exact Heap.lt_size q
    refine call_enumerate_tup p' fun h' he hit hsz hk => wpAny_pyIter_enum he ?_
    have I2 : Inv X pins σ H1 { s1 with heap := h' } := I1.kept (t' := s1.toks) hk
    refine ⟨s1.heap.objs.size + 1, [s1.heap.objs.size + 1, s1.heap.objs.size], _, _, H1, rfl, I2, turn_enumT a (s1.heap.objs.size + 1) s1.heap.objs.size, ⟨⟨.none, he⟩, hit, Nat.succ_ne_self _, Nat.ne_of_lt hal, Nat.ne_of_lt (Nat.lt_succ_of_lt hal)⟩, fun b hb => ?_, q⟩
    have e' : b = s1.heap.objs.size + 1 ∨ b = s1.heap.objs.size := by simpa using hb
    have hle : s1.heap.objs.size ≤ b := by
      rcases e' with z | z
      · rw [z]; exact Nat.le_add_right _ _
      · rw [z]; exact Nat.le_refl _
    exact I1.fpOk hle (I1.hok.fresh hle)
theorem walk_enumT {K : PySem.W.Frag} {a : Addr} {xs : List V} : Walk (IteT K a) xs.length (fun H => SqT K H a xs) (YPair (fun i => some (.int (i : Nat))) (fun i => xs[i]?)) := by
  refine ⟨fun i _ hi q => ⟨xs, xs[i], q, by simp [hi]⟩, fun _ q => ⟨xs, q, Nat.le_refl _⟩, fun i H v H' _ q y => ?_⟩
  obtain ⟨T, x, h1, h2, h3, h4⟩ := y
  exact ⟨T, .int (i : Nat), x, h1, h2, h3, rfl, h4 xs q⟩
theorem walk_zipT {K : PySem.W.Frag} {a b : Addr} {xs ys : List V} {n : Nat} (hn : n = min xs.length ys.length) : Walk (RZ.ItzT K a b) n (fun H => SqT K H a xs ∧ SqT K H b ys) (YPair (fun i => xs[i]?) (fun i => ys[i]?)) := by
  subst hn
  refine ⟨fun i _ hi q => ?_, fun _ q => ⟨xs, ys, q.1, q.2, by omega⟩, fun i H v H' _ q y => ?_⟩
  · have h1 : i < xs.length := by omega
    have h2 : i < ys.length := by omega
    exact ⟨xs, ys, xs[i], ys[i], q.1, q.2, by simp [h1], by simp [h2]⟩
  · obtain ⟨T, x, z, h1, h2, h3, h4, h5⟩ := y
    exact ⟨T, x, z, h1, h2, h3, h4 xs q.1, h5 ys q.2⟩
end Bs

namespace Bs
open PySem PySem.Spec PyProof.Rows L2
/-! ## != of two instances of one own class with its own == and no != of its own -/
section
variable {prog : Program} {w : World} {A : Around} {E : Value → Shared → Prop} {s : Shared} {K : PySem.W.Frag} {x y C : Addr} {ox oy : Obj} {od oe : Option Obj} {f : Addr}
theorem objNe_K (X : K.In s.heap) (I : PySem.W.InstAt s.heap x ox C od) (hs : PySem.W.findIn K (.ref C) "__eq__" = some (some (.ref f))) (hf : PySem.W.isFn K (.ref f) = true) (hu : A.units < cLine) {Q : Fin → Shared → Prop}
    (hcall : wpAny (model prog w) A (call (.ref f) [.ref x, .ref y]) (fun v s' => ∃ b, v = .bool b ∧ Q (.done (.ret (.bool (!b)))) s') E s) :
    wpAny (model prog w) A (Builtin.«object.__ne__» ⟨[.ref x, .ref y], []⟩) Q E s := by
  obtain ⟨hp, g, d, t, os⟩ := s
  unfold Builtin.«object.__ne__»
  repeat (first
    | with_reducible refine wpAny_cRoomFor hu ?_
    | (refine wpAny_bind (m := callSpecialIfBound? (.ref x) (Str.ofString "__eq__") [.ref y])
        (PySem.W.ifBound_K X I hs hf (wpAny_mono hcall (fun v s' hv => by
          obtain ⟨b, rfl, hq⟩ := hv
          repeat (first | exact hq | exact wpAny_pure hq | exact wpAny_truthy_bool hq | (refine wpAny_bind (m := truthy (.bool _)) (wpAny_truthy_bool ?_)) | wp_step)) fun _ _ e => e)))
    | wp_step)
theorem ifBound_ne (X : K.In s.heap) (I : PySem.W.InstAt s.heap x ox C od) (hn : PySem.W.findIn K (.ref C) "__ne__" = some (some (.builtin "object.__ne__"))) {args : List Value} {Q : Option Value → Shared → Prop} {M : Model}
    (h : wpAny M A (call (.builtin "object.__ne__") (.ref x :: args)) (fun v => Q (some v)) E s) : wpAny M A (callSpecialIfBound? (.ref x) "__ne__" args) Q E s := by
  simp only [callSpecialIfBound?, bindSpecialIfBound?]
  refine wpAny_holding (wpAny_bind (wpAny_bind (wpAny_bind (I.type.here ((PySem.W.looks_findIn X hn).here ?_)))))
  refine wpAny_bind (wpAny_askSetting (wpAny_ite ?_))
  have fin : wpAny M A (call (.builtin "object.__ne__") ([.ref x] ++ args) >>= fun v => pure (some v)) Q E s := wpAny_bind (wpAny_mono h (fun v s' h' => wpAny_pure h') fun _ _ h' => h')
  have hb : bindSpecial (.builtin "object.__ne__") (.ref x) = pure (.builtin "object.__ne__", [.ref x]) := (F.slot_object_ne).bind (.ref x)
  split
  · rw [hb]
    exact wpAny_bind (wpAny_pure (wpAny_pure fin))
  · rw [hb]
    exact wpAny_tryCatch (wpAny_bind (wpAny_pure (wpAny_pure fin)))
theorem tryNe_K (X : K.In s.heap) (I : PySem.W.InstAt s.heap x ox C od) (hs : PySem.W.findIn K (.ref C) "__eq__" = some (some (.ref f))) (hf : PySem.W.isFn K (.ref f) = true)
    (hn : PySem.W.findIn K (.ref C) "__ne__" = some (some (.builtin "object.__ne__"))) (hsub : PySem.W.subIn K (.ref C) (.type "object") = some true) (hu : A.units + 1 < cLine) {Q : Option Value → Shared → Prop}
    (hcall : wpAny (model prog w) A.in1 (call (.ref f) [.ref x, .ref y]) (fun v s' => ∃ b, v = .bool b ∧ Q (some (.bool (!b))) s') E s) :
    wpAny (model prog w) A (tryCompare (.ref x) "__ne__" (.ref y)) Q E s := by
  simp only [tryCompare]
  refine wpAny_bind (ifBound_ne X I hn (wpAny_call (codeAny_call_builtin (F.slot_object_ne).plain F.cmpEntry_ne
    (PySem.W.check_slot F.cmpKind_ne F.cmpSplit_ne (I.type.andThen (PySem.W.looks_subIn X hsub)) (F.cmpArgs_ne _ _)
      (objNe_K (A := A.in1) X I hs hf hu (wpAny_mono hcall (fun v s' hv => ?_) fun _ _ e => e))))))
  obtain ⟨b, rfl, hq⟩ := hv
  first | exact ⟨b, rfl, wpAny_pure hq⟩ | exact ⟨b, rfl, wpAny_pure (wpAny_pure hq)⟩ | exact ⟨b, rfl, hq⟩
theorem richNe_K (X : K.In s.heap) (I : PySem.W.InstAt s.heap x ox C od) (J : PySem.W.InstAt s.heap y oy C oe) (hs : PySem.W.findIn K (.ref C) "__eq__" = some (some (.ref f))) (hf : PySem.W.isFn K (.ref f) = true)
    (hn : PySem.W.findIn K (.ref C) "__ne__" = some (some (.builtin "object.__ne__"))) (hsub : PySem.W.subIn K (.ref C) (.type "object") = some true) (hu : A.units + 1 < cLine) {Q : Value → Shared → Prop}
    (hcall : wpAny (model prog w) A.in1 (call (.ref f) [.ref x, .ref y]) (fun v s' => ∃ b, v = .bool b ∧ Q (.bool (!b)) s') E s) :
    wpAny (model prog w) A (richCompare .NotEq (.ref x) (.ref y)) Q E s := by
  have one : wpAny (model prog w) A (tryCompare (.ref x) "__ne__" (.ref y)) (fun r s' => ∃ v, r = some v ∧ Q v s') E s :=
    tryNe_K X I hs hf hn hsub hu (wpAny_mono hcall (fun v s' ⟨b, e, q⟩ => ⟨b, e, _, rfl, q⟩) fun _ _ e => e)
  unfold richCompare
  simp only [oneThing_ref]
  refine wpAny_holding (wpAny_bind (wpAny_cRoomFor (Nat.lt_of_succ_lt hu) ?_))
  rw [cmpInfo_NotEq]
  dsimp only
  refine wpAny_bind (I.type.here (wpAny_bind (J.type.here ?_)))
  rw [show (Value.ref C != Value.ref C) = false from by simp]
  simp only [Bool.false_eq_true, if_false]
  refine wpAny_bind (wpAny_pure ?_)
  simp only [Bool.false_eq_true, if_false]
  refine wpAny_bind (wpAny_mono one (fun r s' z => ?_) fun _ _ e => e)
  obtain ⟨v, rfl, hq⟩ := z
  exact wpAny_pure hq
end
/-- what != asks of two instances of C: the promise of C's own == -/
def rNeOwn (C : Addr) (sp : Sp) : R2 := fun x y H Q => ∃ a b dx dy fs gs, x = .ref a ∧ y = .ref b ∧ H a = some (.ins C dx fs) ∧ H b = some (.ins C dy gs) ∧ sp [.ref a, .ref b] H (fun v H' => ∃ r, v = .bl r ∧ Q (.bl (!r)) H') E0
structure OwnNe (K : PySem.W.Frag) (C f : Addr) : Prop where
  eq : PySem.W.findIn K (.ref C) "__eq__" = some (some (.ref f))
  fn : PySem.W.isFn K (.ref f) = true
  ne : PySem.W.findIn K (.ref C) "__ne__" = some (some (.builtin "object.__ne__"))
  sub : PySem.W.subIn K (.ref C) (.type "object") = some true
theorem op_neOwn {X : Cx} {C f : Addr} {fd : FuncData} {ps : List Str} {sp : Sp} {n : Nat} (N : OwnNe X.K C f) (F : FnOk X.prog X.w X.K X.mg X.base CX0 n f fd ps sp) (hr : Room (n + 1) X.A) (hb : Binds X.K fd ps []) : OpR X (compareOp .NotEq) (rNeOwn C sp) := by
  intro pins s σ H x y v u Q I rx ry h
  obtain ⟨a, b, dx, dy, fs, gs, rfl, rfl, ha, hb', hsp⟩ := h
  cases rx
  cases ry
  obtain ⟨mA, J, _⟩ := ins_get I.hok ha
  obtain ⟨mB, J', _⟩ := ins_get I.hok hb'
  obtain ⟨od, J, _⟩ := J.look
  obtain ⟨od', J', _⟩ := J'.look
  have hu : X.A.units + 1 < cLine := hu_of hr
  have hr1 : Room n X.A.in1 := hr.in1
  have e0 : Env0 X.prog X.w X.K X.mg X.base X.A.in1 X.stack s H := I.env0.in1
  have hl := F.len _ _ _ _ hsp
  have r2 : Vals [V.ref a, V.ref b] [Value.ref a, Value.ref b] := .cons rfl (.cons rfl .nil)
  show wpAny (model X.prog X.w) X.A (richCompare .NotEq (.ref a) (.ref b)) (EP X pins σ Q) X.xe s
  refine richNe_K I.kIn J J' N.eq N.fn N.ne N.sub hu ?_
  refine wpAny_call (codeAny_mono (F.run X.A.in1 X.stack s H ⟨[.ref a, .ref b], []⟩ [.ref a, .ref b] [.ref a, .ref b] _ E0 hr1 e0 (by
    have := hb s [.ref a, .ref b] I.kIn (by simpa using hl)
    simpa using this) r2 hsp) fun r s' hq => ?_)
  cases r with
  | error e => exact hq.elim
  | ok fl =>
    cases fl with
    | ret w =>
      obtain ⟨z, H', I', rz, r, ez, q⟩ := I.after hq
      subst ez
      cases rz
      exact ⟨r, rfl, .bl (!r), H', I', rfl, q⟩
    | next => exact False.elim hq
    | brk => exact False.elim hq
    | cont => exact False.elim hq
/-! ## calls in short -/
structure Cal (P : Program) (w : World) (K : PySem.W.Frag) (mg : Str → Option Value) (base : Heap) (k : Nat) (x : Str) (ps : List Str) (sp : Sp) : Prop where
  ex : ∃ (f : Addr) (fd : FuncData), FnOk P w K mg base CX0 k f fd ps sp ∧ mg x = some (.ref f) ∧ PySem.W.keepIn K (.ref f) = true ∧ Binds K fd ps []
theorem pe_cal {X : Cx} {k : Nat} {x : Str} {ps : List Str} {sp : Sp} {e : Expr} {es : List Expr} {t : TA} {p pos : Pos} (c : Cal X.prog X.w X.K X.mg X.base k x ps sp) (hr : Room k X.A) (ha : PA X (e :: es) t) (hg : Gl X x := by rfl)
    (hdb : (x == ("__debug__" : Str)) = false := by decide) (he : starEach (e :: es) X.env = (false, eval e X.env) :: starEach es X.env := by rfl) (hpl : (backTo pos (starEach es X.env)).any (·.1) = false := by rfl) :
    PE X (.Call (.Name x p) (e :: es) [] pos) (tCall sp [] E0 t) := by
  obtain ⟨f, fd, F, hm, hk, hb⟩ := c.ex
  exact pe_call F hr hg hm hk hb .nil pass0 ha hdb he hpl
theorem pe_cal0 {X : Cx} {k : Nat} {x : Str} {ps : List Str} {sp : Sp} {p pos : Pos} (c : Cal X.prog X.w X.K X.mg X.base k x ps sp) (hr : Room k X.A) (hg : Gl X x := by rfl)
    (hdb : (x == ("__debug__" : Str)) = false := by decide) :
    PE X (.Call (.Name x p) [] [] pos) (tCall sp [] E0 tNil) := by
  obtain ⟨f, fd, F, hm, hk, hb⟩ := c.ex
  exact pe_call0 F hr hg hm hk hb .nil pass0 hdb
/-- C(..) -/
structure Mkc (P : Program) (w : World) (K : PySem.W.Frag) (mg : Str → Option Value) (base : Heap) (k : Nat) (C : Addr) (x : Str) (ps : List Str) (sp : Sp) : Prop where
  ex : ∃ (f : Addr) (fd : FuncData), Mk K C f ∧ FnOk P w K mg base CX0 k f fd ps sp ∧ mg x = some (.ref C) ∧ Binds K fd ps []
theorem pe_mkc {X : Cx} {k : Nat} {C : Addr} {x : Str} {ps : List Str} {sp : Sp} {e : Expr} {es : List Expr} {t : TA} {p pos : Pos} (c : Mkc X.prog X.w X.K X.mg X.base k C x ps sp) (hr : Room (k + 1) X.A) (ha : PA X (e :: es) t) (hg : Gl X x := by rfl)
    (hdb : (x == ("__debug__" : Str)) = false := by decide) (he : starEach (e :: es) X.env = (false, eval e X.env) :: starEach es X.env := by rfl) (hpl : (backTo pos (starEach es X.env)).any (·.1) = false := by rfl) :
    PE X (.Call (.Name x p) (e :: es) [] pos) (tMake C sp [] E0 t) := by
  obtain ⟨f, fd, M, F, hm, hb⟩ := c.ex
  exact pe_make M F hr hg hm hb .nil pass0 ha hdb he hpl
/-- a global that is a class or a def, as a value -/
theorem pe_globR {X : Cx} {x : Str} {C : Addr} {pos : Pos} (hm : X.mg x = some (.ref C)) (hg : Gl X x := by rfl) (hn : (x == ("__debug__" : Str)) = false := by decide) : PE X (.Name x pos) (tC (.ref C)) := by
  exact pe_glob hg hm rfl hn
/-- the built-ins that no name of the program hides -/
structure Bl (mg : Str → Option Value) : Prop where
  isinstance : mg "isinstance" = none
  len : mg "len" = none
  sorted : mg "sorted" = none
  min : mg "min" = none
  max : mg "max" = none
  all : mg "all" = none
  zip : mg "zip" = none
  range : mg "range" = none
  enumerate : mg "enumerate" = none
  int_ : mg "int" = none
  bool_ : mg "bool" = none
  str_ : mg "str" = none
  list_ : mg "list" = none
  tuple_ : mg "tuple" = none
end Bs

namespace Bs
open PySem PySem.Spec PyProof.Rows L2
/-! ## heaps: what never changes, all but one object -/
/-- tuples stay -/
def TK (H H' : Hp) : Prop := ∀ a xs, H a = some (.tup xs) → H' a = some (.tup xs)
theorem TK.rfl' {H : Hp} : TK H H := fun _ _ h => h
theorem TK.trans {H H1 H2 : Hp} (a : TK H H1) (b : TK H1 H2) : TK H H2 := fun x o h => b x o (a x o h)
theorem _root_.L2.Same.tk {H H' : Hp} (e : Same H H') : TK H H' := fun a xs h => e a _ h
theorem _root_.L2.Same.new {H : Hp} {p : Addr} {o : HO} (h : H p = none) : Same H (upd H p o) := fun a u e => by rw [upd_ne (ne_of_none e h)]; exact e
theorem _root_.L2.Same.new' {H H1 : Hp} {p : Addr} {o : HO} (x : Same H H1) (h : H1 p = none) : Same H (upd H1 p o) := x.trans (Same.new h)
/-- an object that H does not know may change -/
theorem _root_.L2.Same.mut {H H' : Hp} {p : Addr} {o : HO} (e : Same H H') (h : H p = none) : Same H (upd H' p o) := fun a u ha => by
  rw [upd_ne (ne_of_none ha h)]
  exact e a u ha
def isTupO : Option HO → Bool
  | some (.tup _) => true
  | _ => false
theorem TK.upd {H : Hp} {p : Addr} {o : HO} (h : isTupO (H p) = false) : TK H (L2.upd H p o) := fun a xs e => by
  have hn : a ≠ p := fun q => by rw [q] at e; rw [e] at h; cases h
  rw [upd_ne hn]; exact e
theorem tk_lst {H : Hp} {p : Addr} {o : HO} {xs : List V} (h : H p = some (.lst xs)) : TK H (L2.upd H p o) := TK.upd (by rw [h]; rfl)
theorem tk_new {H : Hp} {p : Addr} {o : HO} (h : H p = none) : TK H (L2.upd H p o) := TK.upd (by rw [h]; rfl)
/-- all but the object at T stay -/
def ExT (T : Addr) (H H' : Hp) : Prop := ∀ a o, a ≠ T → H a = some o → H' a = some o
theorem ExT.rfl' {T : Addr} {H : Hp} : ExT T H H := fun _ _ _ h => h
theorem ExT.trans {T : Addr} {H H1 H2 : Hp} (a : ExT T H H1) (b : ExT T H1 H2) : ExT T H H2 := fun x o n h => b x o n (a x o n h)
theorem _root_.L2.Same.exT {T : Addr} {H H' : Hp} (e : Same H H') : ExT T H H' := fun a o _ h => e a o h
theorem ExT.tk {T : Addr} {H H' : Hp} {l : List V} (e : ExT T H H') (h : H T = some (.lst l)) : TK H H' := fun a xs q => e a _ (ne_of q h (by intro z; cases z)) q
theorem ExT.upd {T : Addr} {H H1 : Hp} {o : HO} (e : ExT T H H1) : ExT T H (L2.upd H1 T o) := fun a u n h => by rw [upd_ne n]; exact e a u n h
theorem ExT.new {T p : Addr} {H H1 : Hp} {o : HO} (e : ExT T H H1) (h : H1 p = none) : ExT T H (L2.upd H1 p o) := fun a u n q => by
  have q' := e a u n q
  rw [upd_ne (ne_of_none q' h)]; exact q'
/-- one more object, unknown at first, that may change -/
theorem ExT.mut {T p : Addr} {H H1 : Hp} {o : HO} (e : ExT T H H1) (h : H p = none) : ExT T H (L2.upd H1 p o) := fun a u n q => by
  rw [upd_ne (ne_of_none q h)]; exact e a u n q
theorem ExT.free {T : Addr} {H H' : Hp} (e : ExT T H H') {l : Addr} (hl : l ≠ T) (h : H' l = none) : H l = none := by
  cases q : H l with
  | none => rfl
  | some o => rw [e l o hl q] at h; cases h
/-! ## pairs of ints -/
def PairAt (H : Hp) (v : V) (p : Int × Int) : Prop := ∃ a, v = .ref a ∧ H a = some (.tup [.int p.1, .int p.2])
theorem PairAt.tk {H H' : Hp} {v : V} {p : Int × Int} (e : TK H H') (h : PairAt H v p) : PairAt H' v p := let ⟨a, h1, h2⟩ := h; ⟨a, h1, e _ _ h2⟩
theorem PairAt.inj {H : Hp} {v : V} {p q : Int × Int} (h : PairAt H v p) (h' : PairAt H v q) : p = q := by
  obtain ⟨a, rfl, h2⟩ := h
  obtain ⟨b, e, h3⟩ := h'
  cases e
  rw [h2] at h3
  injection h3 with h3
  injection h3 with h3
  injection h3 with h4 h5
  injection h4 with h4
  injection h5 with h5
  injection h5 with h5
  exact Prod.ext h4 h5
abbrev Pairs (H : Hp) (xs : List V) (ps : List (Int × Int)) : Prop := Paired (PairAt H) xs ps
theorem Paired.imp' {α β : Type} {F G : α → β → Prop} : ∀ {l₁ : List α} {l₂ : List β}, Paired F l₁ l₂ → (∀ a b, F a b → G a b) → Paired G l₁ l₂
  | _, _, .nil, _ => .nil
  | _, _, .cons r t, f => .cons (f _ _ r) (Paired.imp' t f)
theorem Pairs.tk {H H' : Hp} {xs : List V} {ps : List (Int × Int)} (e : TK H H') (h : Pairs H xs ps) : Pairs H' xs ps := Paired.imp' h fun _ _ q => q.tk e
theorem Paired.get {α β : Type} {F : α → β → Prop} : ∀ {l₁ : List α} {l₂ : List β} {i : Nat} {a : α}, Paired F l₁ l₂ → l₁[i]? = some a → ∃ b, l₂[i]? = some b ∧ F a b
  | _, _, _, _, .nil, h => by simp at h
  | _, _, 0, _, .cons r _, h => by simp at h; subst h; exact ⟨_, by simp, r⟩
  | _, _, i + 1, a, .cons _ t, h => by
    obtain ⟨b, h1, h2⟩ := Paired.get (i := i) (a := a) t (by simpa using h)
    exact ⟨b, by simpa using h1, h2⟩
theorem Paired.len {α β : Type} {F : α → β → Prop} : ∀ {l₁ : List α} {l₂ : List β}, Paired F l₁ l₂ → l₁.length = l₂.length
  | _, _, .nil => rfl
  | _, _, .cons _ t => by simp [Paired.len t]
theorem Paired.app {α β : Type} {F : α → β → Prop} : ∀ {l₁ m₁ : List α} {l₂ m₂ : List β}, Paired F l₁ l₂ → Paired F m₁ m₂ → Paired F (l₁ ++ m₁) (l₂ ++ m₂)
  | _, _, _, _, .nil, h => h
  | _, _, _, _, .cons r t, h => .cons r (Paired.app t h)
/-- the pair that a value is -/
def pairOf (H : Hp) (v : V) : Int × Int := match v with
  | .ref a => match H a with
    | some (.tup [.int i, .int j]) => (i, j)
    | _ => (0, 0)
  | _ => (0, 0)
theorem pairOf_of {H : Hp} {v : V} {p : Int × Int} (h : PairAt H v p) : pairOf H v = p := by
  obtain ⟨a, rfl, h2⟩ := h
  unfold pairOf
  simp only [h2]
theorem pairs_map {H : Hp} : ∀ {xs : List V} {ps : List (Int × Int)}, Pairs H xs ps → xs.map (pairOf H) = ps
  | _, _, .nil => rfl
  | _, _, .cons r t => by rw [List.map_cons, pairOf_of r, pairs_map t]
theorem pairs_mem {H : Hp} : ∀ {xs : List V} {ps : List (Int × Int)}, Pairs H xs ps → ∀ x ∈ xs, PairAt H x (pairOf H x)
  | _, _, .nil, _, h => by simp at h
  | _, _, .cons r t, x, h => by
    rcases List.mem_cons.mp h with e | h
    · subst e; rw [pairOf_of r]; exact r
    · exact pairs_mem t x h
theorem pairs_self {H : Hp} : ∀ {xs : List V}, (∀ x ∈ xs, PairAt H x (pairOf H x)) → Pairs H xs (xs.map (pairOf H))
  | [], _ => .nil
  | x :: xs, h => .cons (h x (by simp)) (pairs_self fun y hy => h y (by simp [hy]))
/-- before, or the same -/
def le2 (p q : Int × Int) : Prop := p.1 < q.1 ∨ (p.1 = q.1 ∧ p.2 ≤ q.2)
def lt2 (p q : Int × Int) : Prop := p.1 < q.1 ∨ (p.1 = q.1 ∧ p.2 < q.2)
/-- sorted(xs), xs a list of pairs -/
theorem sorted_pairs {K : PySem.W.Frag} {H : Hp} {a : Addr} {xs : List V} {ps : List (Int × Int)} {Q : VK} (hs : SqL K H a xs) (hp : Pairs H xs ps)
    (k : ∀ p ys qs, H p = none → Pairs H ys qs → qs.Perm ps → qs.Pairwise le2 → Q (.ref p) (upd H p (.lst ys))) : rSortedPO K [.ref a] H Q := by
  refine ⟨a, xs, pairOf H, rfl, hs, fun x hx => pairs_mem hp x hx, fun ys p h1 h2 hn => ?_⟩
  have hm : ∀ y ∈ ys, PairAt H y (pairOf H y) := fun y hy => pairs_mem hp y (h2.perm.mem_iff.mp hy)
  refine k p ys (ys.map (pairOf H)) hn (pairs_self hm) ?_ ?_
  · rw [← pairs_map hp]
    exact h2.perm.map _
  · refine List.pairwise_map.mpr (h1.imp fun {x y} h => ?_)
    have h' := SrtO.lexB_no.mp h
    unfold le2
    omega
theorem sorted_post {H : Hp} {xs ys : List V} {ps : List (Int × Int)} (hp : Pairs H xs ps) (h1 : SrtO.Srtd (ltP (pairOf H)) ys) (h2 : SrtO.Stb (ltP (pairOf H)) ys xs) : ∃ qs, Pairs H ys qs ∧ qs.Perm ps ∧ qs.Pairwise le2 := by
  have hm : ∀ y ∈ ys, PairAt H y (pairOf H y) := fun y hy => pairs_mem hp y (h2.perm.mem_iff.mp hy)
  refine ⟨ys.map (pairOf H), pairs_self hm, ?_, ?_⟩
  · rw [← pairs_map hp]
    exact h2.perm.map _
  · refine List.pairwise_map.mpr (h1.imp fun {x y} h => ?_)
    have h' := SrtO.lexB_no.mp h
    unfold le2
    omega
/-! ## comprehensions -/
theorem lc_data {J : It} {n : Nat} {G : Hp → Prop} {Y : Nat → Hp → V → Hp → Prop} (w : Walk J n G Y) {α : Type} (as : List α) (hn : as.length = n) (f : α → Bool) (P : Hp → V → α → Prop) (hP : ∀ H H' v a, TK H H' → P H v a → P H' v a)
    {g : TG} {tt : TT} {te : TE} {vs : List Nat} {σ : L2.St} {H1 : Hp} {D : Addr} {Qd : Hp → Prop} (hD : H1 D = none) (hG : ∀ H', Same H1 H' → G H') (hsz : as.length < sizeLine)
    (hs : ∀ i a x H H' (Ny : V → Hp → Prop) (Nn : Hp → Prop), as[i]? = some a → Same H1 H → Y i H x H' →
      (∀ y H4, f a = true → Same H' H4 → P H4 y a → Ny y H4) → (∀ H3, f a = false → Same H' H3 → Nn H3) →
      g x (wipe σ vs) H' fun σ2 H2 => wipe σ2 vs = wipe σ vs ∧ tt σ2 H2 fun b H3 => if b = true then te σ2 H3 fun y H4 => Ny y H4 else Nn H3)
    (hY : ∀ i H x H', H D = some (.lst []) ∨ True → Y i H x H' → Same H H')
    (hd : ∀ ys H', Same H1 H' → H' D = some (.lst ys) → Paired (P H') ys (as.filter f) → Qd H') :
    ∃ W : Nat → Nat → Hp → Prop, (∃ m, W 0 m (upd H1 D (.lst []))) ∧ ∀ i m H, W i m H →
      (J.stop i H ∧ Qd H) ∨ (J.go i H ∧ ∃ Nx : Hp → Prop, (∀ H', Nx H' → ∃ m', m' < m ∧ W (i + 1) m' H') ∧ ∀ x H', J.yld i H x H' → g x (wipe σ vs) H' fun σ2 H2 => wipe σ2 vs = wipe σ vs ∧ tt σ2 H2 fun b H3 =>
        if b = true then te σ2 H3 fun y H4 => ∃ acc, H4 D = some (.lst acc) ∧ acc.length < sizeLine ∧ Nx (upd H4 D (.lst (acc ++ [y]))) else Nx H3) := by
  refine lc_it w (Pv := fun i H => Same H1 H ∧ ∃ ys, H D = some (.lst ys) ∧ Paired (P H) ys ((as.take i).filter f)) ⟨L2.Same.new hD, [], upd_same, by simp; exact .nil⟩ (fun i H hi p => hG H p.1) ?_ ?_
  · intro i x H H' hi p hy
    obtain ⟨e1, ys, hys, hpr⟩ := p
    have hi' : i < as.length := by omega
    have ha : as[i]? = some as[i] := List.getElem?_eq_getElem hi'
    have eY := hY i H x H' (.inr trivial) hy
    have htk : (as.take (i + 1)).filter f = (as.take i).filter f ++ [as[i]].filter f := by
      rw [List.take_succ, ha, List.filter_append]; rfl
    have hlen : ys.length ≤ i := by
      have := Paired.len hpr
      have h2 := List.length_filter_le f (as.take i)
      have h3 := List.length_take_le i as
      omega
    refine hs i as[i] x H H' _ _ ha e1 hy ?_ ?_
    · intro y H4 hf e4 hPy
      refine ⟨ys, e4 _ _ (eY _ _ hys), by omega, ?_, _, upd_same, ?_⟩
      · exact Same.mut (e1.trans (eY.trans e4)) hD
      · rw [htk, List.filter_cons, if_pos hf]
        refine Paired.app (Paired.imp' hpr fun v a q => hP _ _ _ _ ?_ q) (.cons (hP _ _ _ _ ?_ hPy) .nil)
        · exact (Same.tk (eY.trans e4)).trans (tk_lst (e4 _ _ (eY _ _ hys)))
        · exact tk_lst (e4 _ _ (eY _ _ hys))
    · intro H3 hf e3
      refine ⟨e1.trans (eY.trans e3), ys, e3 _ _ (eY _ _ hys), ?_⟩
      rw [htk, List.filter_cons, if_neg (by simp [hf])]
      simp only [List.filter_nil, List.append_nil]
      exact Paired.imp' hpr fun v a q => hP _ _ _ _ (Same.tk (eY.trans e3)) q
  · intro H p
    obtain ⟨e1, ys, hys, hpr⟩ := p
    rw [← hn, List.take_length] at hpr
    exact hd ys H e1 hys hpr
theorem yes_if {σ : L2.St} {H : Hp} {A B : Hp → Prop} (h : A H) : tYes σ H (fun b H3 => if b = true then A H3 else B H3) := by
  show (if true = true then A H else B H)
  exact iteT h
theorem yat_same {xs : List V} {i : Nat} {H H' : Hp} {x : V} (h : YAt xs i H x H') : Same H H' := by rw [h.1]; exact Same.refl H
theorem ypair_same {xs ys : Nat → Option V} {i : Nat} {H H' : Hp} {x : V} (h : YPair xs ys i H x H') : Same H H' := by
  obtain ⟨T, x, y, _, h2, h3, _⟩ := h
  rw [h3]; exact Same.new h2
/-! ## the tape -/
structure Tape where
  ns : List Int
  i1 : Int
  i2 : Int
  i3 : Int
  i4 : Int
def Tp (H : Hp) (T L : Addr) : Prop := ∃ t : Tape, H T = some (.lst [.ref L, .int t.i1, .int t.i2, .int t.i3, .int t.i4]) ∧ H L = some (.lst (t.ns.map V.int)) ∧ L ≠ T ∧ 0 ≤ t.i1 ∧ 0 ≤ t.i3 ∧ t.i3 < 2147483648
theorem Tp.ext {T L : Addr} {H H' : Hp} (h : Tp H T L) (e : Same H H') : Tp H' T L := by
  obtain ⟨t, h1, h2, h3⟩ := h
  exact ⟨t, e _ _ h1, e _ _ h2, h3⟩
theorem Tp.lst {T L : Addr} {H : Hp} (h : Tp H T L) : ∃ l, H T = some (.lst l) := let ⟨t, h1, _⟩ := h; ⟨_, h1⟩
theorem Tp.lst2 {T L : Addr} {H : Hp} (h : Tp H T L) : ∃ l, H L = some (.lst l) := let ⟨t, _, h1, _⟩ := h; ⟨_, h1⟩
theorem Tp.tk {T L : Addr} {H H' : Hp} (h : Tp H T L) (e : ExT T H H') : TK H H' := let ⟨_, q⟩ := h.lst; e.tk q
/-- another object changes -/
theorem Tp.upd {T L p : Addr} {H : Hp} {o : HO} (h : Tp H T L) (h1 : p ≠ T) (h2 : p ≠ L) : Tp (L2.upd H p o) T L := by
  obtain ⟨t, a1, a2, a3⟩ := h
  exact ⟨t, by rw [upd_ne h1.symm]; exact a1, by rw [upd_ne h2.symm]; exact a2, a3⟩
theorem Tp.neT {T L p : Addr} {H : Hp} (h : Tp H T L) (hp : H p = none) : p ≠ T := fun q => by
  obtain ⟨l, h1⟩ := h.lst
  rw [← q, hp] at h1; cases h1
theorem Tp.neL {T L p : Addr} {H : Hp} (h : Tp H T L) (hp : H p = none) : p ≠ L := fun q => by
  obtain ⟨l, h1⟩ := h.lst2
  rw [← q, hp] at h1; cases h1
/-- what a draw promises -/
def spPick : Sp := fun vs H Q _ => ∃ (T L : Addr) (m : Int), vs = [.ref T, .int m] ∧ 0 < m ∧ m < 1073741824 ∧ Tp H T L ∧ ∀ r H', 0 ≤ r → r < m → ExT T H H' → Tp H' T L → Q (.int r) H'
end Bs

namespace Bs
open PySem PySem.Spec PyProof.Rows L2
/-! ## bits -/
theorem and_pp (x y : Nat) : Builtin.bitAnd (x : Int) (y : Int) = ((x &&& y : Nat) : Int) := by
  unfold Builtin.bitAnd
  rw [decide_eq_true (Int.natCast_nonneg x), decide_eq_true (Int.natCast_nonneg y)]
  simp
theorem or_pp (x y : Nat) : Builtin.bitOr (x : Int) (y : Int) = ((x ||| y : Nat) : Int) := by
  rw [Bits.bitOr_pp (Int.natCast_nonneg x) (Int.natCast_nonneg y)]; simp
theorem xor_pp (x y : Nat) : Builtin.bitXor (x : Int) (y : Int) = ((x ^^^ y : Nat) : Int) := by
  rw [Bits.bitXor_pp (Int.natCast_nonneg x) (Int.natCast_nonneg y)]; simp
/-- one bit less -/
def clr (x k : Nat) : Nat := x - (x &&& 2 ^ k)
theorem and_pow (x k : Nat) : x &&& 2 ^ k = if x.testBit k = true then 2 ^ k else 0 := by
  apply Nat.eq_of_testBit_eq
  intro j
  rw [Nat.testBit_and, Nat.testBit_two_pow]
  by_cases h : k = j
  · subst h
    cases hb : x.testBit k <;> simp
  · cases hb : x.testBit k <;> simp [h, Nat.testBit_two_pow]
theorem clr_bit (x k j : Nat) : (clr x k).testBit j = (x.testBit j && !decide (j = k)) := by
  unfold clr
  rw [and_pow]
  cases hb : x.testBit k with
  | false =>
    simp only [Bool.false_eq_true, if_false, Nat.sub_zero]
    by_cases h : j = k
    · subst h; simp [hb]
    · simp [h]
  | true =>
    rw [if_pos rfl]
    have h1 : x = 2 ^ (k + 1) * (x / 2 ^ (k + 1)) + x % 2 ^ (k + 1) := (Nat.div_add_mod x _).symm
    have hr : x % 2 ^ (k + 1) < 2 ^ (k + 1) := Nat.mod_lt _ (Nat.pow_pos (by decide))
    generalize x / 2 ^ (k + 1) = a at h1
    generalize x % 2 ^ (k + 1) = r at h1 hr
    have hrk : r.testBit k = true := by
      rw [h1, Nat.testBit_two_pow_mul_add _ hr, if_pos (Nat.lt_succ_self k)] at hb
      exact hb
    have hge : 2 ^ k ≤ r := by
      rcases Nat.lt_or_ge r (2 ^ k) with h | h
      · rw [Nat.testBit_lt_two_pow h] at hrk; cases hrk
      · exact h
    have hp : 2 ^ (k + 1) = 2 ^ k + 2 ^ k := by rw [Nat.pow_succ]; omega
    have hb' : r - 2 ^ k < 2 ^ k := by omega
    have hb2 : r - 2 ^ k < 2 ^ (k + 1) := by omega
    have e1 : x - 2 ^ k = 2 ^ (k + 1) * a + (r - 2 ^ k) := by omega
    have e2 : r = 2 ^ k * 1 + (r - 2 ^ k) := by omega
    rw [e1, Nat.testBit_two_pow_mul_add _ hb2]
    conv => rhs; rw [h1]
    rw [Nat.testBit_two_pow_mul_add _ hr]
    by_cases c : j < k + 1
    · rw [if_pos c, if_pos c]
      conv => rhs; rw [e2]
      rw [Nat.testBit_two_pow_mul_add _ hb']
      by_cases d : j < k
      · rw [if_pos d]; simp [show j ≠ k by omega]
      · have : j = k := by omega
        subst this
        rw [if_neg d, Nat.testBit_lt_two_pow hb']
        simp
    · rw [if_neg c, if_neg c]; simp [show j ≠ k by omega]
theorem bitNot_pow (k : Nat) : Builtin.bitNot ((2 : Int) ^ k) = -(2 ^ k) - 1 := rfl
theorem two_pow_pos (k : Nat) : (0 : Int) < 2 ^ k := Int.pow_pos (by decide)
theorem and_not (x k : Nat) : Builtin.bitAnd (x : Int) (Builtin.bitNot ((2 : Int) ^ k)) = ((clr x k : Nat) : Int) := by
  have h2 := two_pow_pos k
  unfold Builtin.bitAnd
  rw [decide_eq_true (Int.natCast_nonneg x), decide_eq_false (show ¬ 0 ≤ Builtin.bitNot ((2 : Int) ^ k) by rw [bitNot_pow]; omega)]
  show (x : Int) - (((x : Int).toNat &&& (Builtin.bitNot (Builtin.bitNot ((2 : Int) ^ k))).toNat : Nat) : Int) = _
  have e : (Builtin.bitNot (Builtin.bitNot ((2 : Int) ^ k))).toNat = 2 ^ k := by
    have : Builtin.bitNot (Builtin.bitNot ((2 : Int) ^ k)) = ((2 ^ k : Nat) : Int) := by
      unfold Builtin.bitNot
      rw [Int.natCast_pow]
      show -(-(2 : Int) ^ k - 1) - 1 = 2 ^ k
      omega
    rw [this]; exact Int.toNat_natCast _
  rw [e]
  unfold clr
  have hle : x &&& 2 ^ k ≤ x := Nat.and_le_left
  have e3 : ((x : Int).toNat &&& 2 ^ k) = x &&& 2 ^ k := by simp
  rw [e3]
  omega
/-- the lowest bit -/
theorem low_ex {n : Nat} (h : n ≠ 0) : ∃ k, n.testBit k = true ∧ ∀ j, j < k → n.testBit j = false := by
  obtain ⟨i, hi⟩ := Nat.exists_testBit_of_ne_zero h
  induction i using Nat.strongRecOn with
  | ind i ih =>
    by_cases c : ∃ j, j < i ∧ n.testBit j = true
    · obtain ⟨j, hj, hb⟩ := c
      exact ih j hj hb
    · refine ⟨i, hi, fun j hj => ?_⟩
      cases hb : n.testBit j with
      | false => rfl
      | true => exact absurd ⟨j, hj, hb⟩ c
theorem low_is {n k : Nat} (h1 : n.testBit k = true) (h2 : ∀ j, j < k → n.testBit j = false) : Builtin.bitAnd (n : Int) (-(n : Int)) = 2 ^ k := by
  have hn : n ≠ 0 := fun e => by rw [e] at h1; simp at h1
  have hm : n % 2 ^ k = 0 := by
    apply Nat.eq_of_testBit_eq
    intro j
    rw [Nat.testBit_mod_two_pow]
    by_cases c : j < k
    · rw [h2 j c]; simp
    · simp [c]
  have e1 : n = 2 ^ k * (n / 2 ^ k) := by
    have := Nat.div_add_mod n (2 ^ k)
    omega
  generalize hc : n / 2 ^ k = c at e1
  have hodd : c.testBit 0 = true := by
    rw [e1, Nat.testBit_two_pow_mul] at h1
    simpa using h1
  have hodd2 : c % 2 = 1 := by simpa using hodd
  obtain ⟨m, hm2⟩ : ∃ m, c = 2 * m + 1 := ⟨c / 2, by omega⟩
  have hp : 0 < 2 ^ k := Nat.pow_pos (by decide)
  have e2 : n - 1 = 2 ^ k * (2 * m) + (2 ^ k - 1) := by
    have : 2 ^ k * c = 2 ^ k * (2 * m) + 2 ^ k := by rw [hm2, Nat.mul_add, Nat.mul_one]
    omega
  have e3 : n &&& (n - 1) = clr n k := by
    apply Nat.eq_of_testBit_eq
    intro j
    rw [Nat.testBit_and, clr_bit]
    conv => lhs; rhs; rw [e2]
    rw [Nat.testBit_two_pow_mul_add _ (show 2 ^ k - 1 < 2 ^ k by omega)]
    by_cases c1 : j < k
    · rw [if_pos c1, h2 j c1]; simp
    · rw [if_neg c1]
      by_cases c2 : j = k
      · subst c2; simp
      · have e4 : n.testBit j = (2 * m + 1).testBit (j - k) := by
          rw [e1, hm2, Nat.testBit_two_pow_mul]
          simp [show k ≤ j by omega]
        rw [e4]
        obtain ⟨i, hi⟩ : ∃ i, j - k = i + 1 := ⟨j - k - 1, by omega⟩
        rw [hi, Nat.testBit_succ, Nat.testBit_succ]
        have a1 : (2 * m + 1) / 2 = m := by omega
        have a2 : 2 * m / 2 = m := by omega
        rw [a1, a2]
        simp [c2]
  unfold Builtin.bitAnd
  rw [decide_eq_true (Int.natCast_nonneg n), decide_eq_false (show ¬ 0 ≤ -(n : Int) by omega)]
  show (n : Int) - (((n : Int).toNat &&& (Builtin.bitNot (-(n : Int))).toNat : Nat) : Int) = _
  have e5 : (Builtin.bitNot (-(n : Int))).toNat = n - 1 := by unfold Builtin.bitNot; omega
  have e6 : ((n : Int).toNat &&& (n - 1)) = clr n k := by rw [Int.toNat_natCast]; exact e3
  rw [e5, e6]
  unfold clr
  rw [and_pow, if_pos h1]
  have hle : 2 ^ k ≤ n := by
    have := Nat.and_le_left (n := n) (m := 2 ^ k)
    rw [and_pow, if_pos h1] at this
    exact this
  have e7 : ((2 : Int) ^ k) = ((2 ^ k : Nat) : Int) := by rw [Int.natCast_pow]; rfl
  rw [e7]
  omega
theorem xor_low {n k : Nat} (h1 : n.testBit k = true) : n ^^^ 2 ^ k = clr n k := by
  apply Nat.eq_of_testBit_eq
  intro j
  rw [Nat.testBit_xor, clr_bit, Nat.testBit_two_pow]
  by_cases c : k = j
  · subst c; simp [h1]
  · simp [c, show j ≠ k from fun e => c e.symm]
theorem clr_lt {n k : Nat} (h1 : n.testBit k = true) : clr n k < n := by
  unfold clr
  rw [and_pow, if_pos h1]
  have hp : 0 < 2 ^ k := Nat.pow_pos (by decide)
  have hle : 2 ^ k ≤ n := by
    have := Nat.and_le_left (n := n) (m := 2 ^ k)
    rw [and_pow, if_pos h1] at this
    exact this
  omega
theorem bits_pow (k : Nat) : Builtin.Int.intBits ((2 : Int) ^ k) = k + 1 := by
  have h1 := natAbs_lt_pow_bits ((2 : Int) ^ k)
  have e : ((2 : Int) ^ k).natAbs = 2 ^ k := by rw [Int.natAbs_pow]; rfl
  rw [e] at h1
  have h2 : Builtin.Int.intBits ((2 : Int) ^ k) ≤ k + 1 := intBits_le (by rw [e, Nat.pow_succ]; have := Nat.pow_pos (n := k) (show 0 < 2 by decide); omega)
  have h3 : k < Builtin.Int.intBits ((2 : Int) ^ k) := (Nat.pow_lt_pow_iff_right (by decide)).mp h1
  omega
/-! ## rules -/
section
variable {X : Cx}
theorem ip_or : PIp X .BitOr (rI0 fun i j => .int (Builtin.bitOr i j)) := fun pins s σ H x y v u Q I rx ry h => iop_or pins s σ H x y v u Q I rx ry h
theorem ip_xor : PIp X .BitXor (rI0 fun i j => .int (Builtin.bitXor i j)) := fun pins s σ H x y v u Q I rx ry h => iop_xor pins s σ H x y v u Q I rx ry h
/-- xs[i] read, ahead of xs[i] op= e -/
def gGetL (K : PySem.W.Frag) : V → V → Hp → VK → Prop := fun o i H Q => ∃ p xs k v, o = .ref p ∧ i = .int k ∧ SqL K H p xs ∧ 0 ≤ k ∧ xs[k.toNat]? = some v ∧ Q v H
theorem get_listP : PGet X (gGetL X.K) := by
  intro pins s σ H o i ov iv Q I ro ri h
  obtain ⟨p, xs, k, v, rfl, rfl, hs, h0, hv, q⟩ := h
  cases ro
  obtain ⟨t, rfl⟩ := ri
  obtain ⟨its, r, pl, hz⟩ := I.list hs
  obtain ⟨u, hu, ru⟩ := r.get hv
  have hl := r.length
  have hk : k.toNat < xs.length := (List.getElem?_eq_some_iff.mp hv).1
  have hn := line63
  exact wpAny_getItem_list pl.isList h0 (by omega) (by simpa using hu) ⟨v, H, I, ru, q⟩
/-- a thing that is in no place of a tuple of data -/
def rNotInT (K : PySem.W.Frag) : R2 := fun x y H Q => ∃ d ds, Dp K H x d ∧ Dp K H y (.tuple ds) ∧ SeqAt.shaped d = true ∧ SeqAt.shaped (.list ds) = true ∧ SeqAt.shaped (.tuple ds) = true ∧ Q (.bl (!ds.any fun z => PyData.eqv z d)) H
def rInT (K : PySem.W.Frag) : R2 := fun x y H Q => ∃ d ds, Dp K H x d ∧ Dp K H y (.tuple ds) ∧ SeqAt.shaped d = true ∧ SeqAt.shaped (.list ds) = true ∧ SeqAt.shaped (.tuple ds) = true ∧ Q (.bl (ds.any fun z => PyData.eqv z d)) H
theorem op_inT (hu : X.A.units + 65 < cLine) : OpR X (compareOp .In) (rInT X.K) := by
  intro pins s σ H x y v u Q I rx ry ⟨d, ds, hd, he, sd, sl, se, q⟩
  obtain ⟨as, r1⟩ := Dp.reads I d x v hd rx
  obtain ⟨bs, r2⟩ := Dp.reads I (.tuple ds) y u he ry
  exact SeqAt.in_tuple_reads r2 r1 (by have := SeqAt.canLay_of_shaped sl; exact this) (SeqAt.canLay_of_shaped sd) (room_in_shaped sd hu) ⟨.bl _, H, I, rfl, q⟩
theorem op_notInT (hu : X.A.units + 65 < cLine) : OpR X (compareOp .NotIn) (rNotInT X.K) := by
  intro pins s σ H x y v u Q I rx ry ⟨d, ds, hd, he, sd, sl, se, q⟩
  obtain ⟨as, r1⟩ := Dp.reads I d x v hd rx
  obtain ⟨bs, r2⟩ := Dp.reads I (.tuple ds) y u he ry
  exact SeqAt.notIn_tuple_reads r2 r1 (by have := SeqAt.canLay_of_shaped sl; exact this) (SeqAt.canLay_of_shaped sd) (room_in_shaped sd hu) ⟨.bl _, H, I, rfl, q⟩
end
end Bs

namespace Bs
open PySem PySem.Spec PyProof.Rows L2 HT
/-! ## t[::-1], t a tuple -/
theorem fm_congr {α β : Type} {f g : α → Option β} : ∀ {l : List α}, (∀ x ∈ l, f x = g x) → l.filterMap f = l.filterMap g
  | [], _ => rfl
  | a :: l, h => by rw [List.filterMap_cons, List.filterMap_cons, h a (by simp), fm_congr fun x hx => h x (by simp [hx])]
theorem rev_all {α : Type} (xs : Array α) : (List.range xs.size).filterMap (fun m : Nat => xs[(((xs.size : Int) - 1) + (m : Int) * -1).toNat]?) = xs.toList.reverse := by
  rw [← PySem.W.krv_all xs, ← List.filterMap_reverse, ← PySem.W.krv_range, List.filterMap_map]
  refine fm_congr fun m hm => ?_
  have := List.mem_range.mp hm
  show _ = xs[xs.size - 1 - m]?
  congr 1
  omega
section
variable {prog : Program} {w : World} {A : Around} {E : Value → Shared → Prop} {s : Shared}
theorem sliceApplied_rev {sl : Addr} {tk : Tok} {n : Nat} {Q : Int × Int × Nat → Shared → Prop} (hs : s.heap.IsSliceOf sl .none .none (.int (-1) tk))
    (h : Q ((n : Int) - 1, -1, n) s) : wpAny (model prog w) A (Builtin.Slice.sliceApplied (.ref sl) (pure (n : Int))) Q E s := by
  obtain ⟨os, hos, hcs, hds⟩ := id hs
  unfold Builtin.Slice.sliceApplied Builtin.Slice.sliceFields
  refine wpAny_bind (wpAny_bind (wpAny_field hos hds (x := .none) rfl (wpAny_bind (wpAny_field hos hds (x := .none) rfl (wpAny_bind (wpAny_field hos hds (x := .int (-1) tk) rfl (wpAny_pure ?_)))))))
  refine wpAny_bind (slicePart_ (.int (-1) tk) ?_)
  show wpAny _ _ (if ((-1 : Int) == 0) = true then _ else _) _ _ s
  rw [if_neg (by decide)]
  refine wpAny_bind (slicePart_none (wpAny_bind (slicePart_none (wpAny_bind (wpAny_pure ?_)))))
  show wpAny _ _ (pure ((n : Int) - 1, (-1 : Int), Builtin.Slice.slicePlaces ((n : Int) - 1) (-1) (-1))) _ _ s
  have e : Builtin.Slice.slicePlaces ((n : Int) - 1) (-1) (-1) = n := by
    show (if (-1 : Int) > 0 then _ else if (n : Int) - 1 > -1 then ((n : Int) - 1 - -1 - 1) / - -1 + 1 else 0).toNat = n
    rw [if_neg (by decide)]
    by_cases h : (n : Int) - 1 > -1
    · rw [if_pos h, show (- -1 : Int) = 1 by decide, Int.ediv_one]; omega
    · rw [if_neg h]; omega
  rw [e]
  exact wpAny_pure h
theorem getItem_tuple_rev {t sl : Addr} {items : Array Value} {tk : Tok} {Q : Value → Shared → Prop} (ht : IsTup s.heap t items) (hs : s.heap.IsSliceOf sl .none .none (.int (-1) tk))
    (h : Q (.ref s.heap.objs.size) { s with heap := s.heap.push { cls := .type "tuple", data := .seq items.toList.reverse.toArray } })
    (hsz : items.size ≤ sizeLine) : wpAny (model prog w) A (getItem (.ref t) (.ref sl)) Q E s := by
  have hok : sizeOk (.seq items.toList.reverse.toArray) := by
    show items.toList.reverse.toArray.size ≤ sizeLine
    rw [List.size_toArray, List.length_reverse, Array.length_toList]
    exact hsz
  obtain ⟨os, hos, hcs, hds⟩ := id hs
  have hTs : s.TypeIs (.ref sl) "slice" := ⟨os, hos, hcs⟩
  unfold getItem
  try with_reducible refine wpAny_holding ?_
  first | refine wpAny_bind (wpAny_pure ?_) | skip
  refine wpAny_bind (wpAny_sequenceKey ht.typeIs (by decide) ?_)
  refine wpAny_bind (wpAny_callSpecial?_slot (name := Str.ofString "__getitem__") ht.typeIs PyProof.Rows.slot_tuple_getitem
    (wpAny_call_entry PyProof.Rows.slot_tuple_getitem ht.typeIs entry_tuple_getitem ?_ (args_tuple_getitem _ _)))
  show wpAny _ _ (Builtin.Tuple.tupleItemsOf (.ref t) >>= _) _ _ s
  refine wpAny_bind (tupleItemsOf_ ht ?_)
  refine wpAny_bind (wpAny_typeOf hTs ?_)
  rw [if_pos (by decide)]
  refine wpAny_bind (sliceApplied_rev hs ?_)
  have hno : ¬ ((((items.size : Int) - 1) == 0 && (-1 : Int) == 1 && items.size == items.size) = true) := by
    intro q
    rw [Bool.and_eq_true, Bool.and_eq_true] at q
    exact absurd q.1.2 (by decide)
  show wpAny _ _ (if (((items.size : Int) - 1) == 0 && (-1 : Int) == 1 && items.size == items.size) = true then _ else _) _ _ s
  rw [if_neg hno, rev_all]
  first
    | exact wpAny_bind (m := Builtin.Tuple.tupleExact _) (wpAny_newObj_type (wpAny_pure ⟨_, rfl, wpAny_pure h⟩) hok)
    | exact wpAny_bind (m := Builtin.Tuple.tupleExact _) (wpAny_newObj_type (wpAny_bind (wpAny_pure (wpAny_pure ⟨_, rfl, wpAny_pure h⟩))) hok)
    | exact wpAny_bind (wpAny_bind (m := Builtin.Tuple.tupleExact _) (wpAny_newObj_type (wpAny_pure (wpAny_pure ⟨_, rfl, wpAny_pure h⟩)) hok))
    | exact wpAny_bind (wpAny_bind (m := Builtin.Tuple.tupleExact _) (wpAny_newObj_type (wpAny_pure ⟨_, rfl, wpAny_pure h⟩) hok))
end
def tRevT (K : PySem.W.Frag) (te : TE) : TE := fun σ H Q => te σ H fun x H1 => ∃ a xs, x = .ref a ∧ SqT K H1 a xs ∧ ∀ p, H1 p = none → Q (.ref p) (upd H1 p (.tup xs.reverse))
theorem pe_revT {X : Cx} {e : Expr} {te : TE} {k : Nat} {p1 p2 p3 pos : Pos} (he : PE X e te) : PE X (.Subscript e (.Slice none none (some (.UnaryOp .USub (.Constant (.int 1) k p1) p2)) p3) pos) (tRevT X.K te) := by
  refine ⟨fun pins s σ H Q I h => ?_⟩
  refine Subscript_ (thn (he.run pins s σ H _ I h) fun v s1 ⟨x, H1, I1, r1, q1⟩ => ?_)
  obtain ⟨a, xs, ex, hx, q⟩ := q1
  subst ex
  cases r1
  have hst : PO X (some (.UnaryOp .USub (.Constant (.int 1) k p1) p2)) (tPart (tUn (rU fun i => .int (-i)) (tC (.int 1)))) := po_some (pe_un un_neg pe_int)
  refine wpAny_Slice (thn (po_none.run pins s1 σ H1 (fun o H2 => o = none ∧ H2 = H1) I1 ⟨rfl, rfl⟩) fun vl s2 ⟨l, H2, I2, pl, el, e2⟩ => ?_)
  subst el e2
  refine thn (po_none.run pins s2 σ H2 (fun o H3 => o = none ∧ H3 = H2) I2 ⟨rfl, rfl⟩) fun vu s3 ⟨u, H3, I3, pu, eu, e3⟩ => ?_
  subst eu e3
  refine thn (hst.run pins s3 σ H3 (fun o H4 => o = some (-1) ∧ H4 = H3) I3 ⟨1, rfl, -1, rfl, rfl, rfl⟩) fun vs s4 ⟨o, H4, I4, ps, eo, e4⟩ => ?_
  subst eo e4
  cases pl
  cases pu
  obtain ⟨tk, ev⟩ : ∃ tk, vs = .int (-1) tk := by
    cases ps with
    | int i t => exact ⟨t, rfl⟩
  subst ev
  have I5 : Inv X pins σ H4 { s4 with heap := s4.heap.push { cls := .type "slice", data := .fields #[.none, .none, .int (-1) tk] } } := I4.kept (t' := s4.toks) fun b ob q => Heap.get?_push_of_some _ q
  obtain ⟨its, r, ht, hz⟩ := I5.tuple hx
  have hlen := r.length
  show wpAny (model X.prog X.w) X.A (subscriptTail e (.Slice none none (some (.UnaryOp .USub (.Constant (.int 1) k p1) p2)) p3) (.ref a) (.ref s4.heap.objs.size)) (EP X pins σ Q) X.xe { s4 with heap := s4.heap.push { cls := .type "slice", data := .fields #[.none, .none, .int (-1) tk] } }
  refine tail_any (ops := [.ref a, .ref s4.heap.objs.size]) ht.typeIs (PyProof.Rows.slot_tuple_getitem.lookup) ?_ (by with_unfolding_all rfl)
  refine getItem_tuple_rev ht (Heap.IsSliceOf.new _ .none .none (.int (-1) tk)) ?_ (by rw [List.size_toArray]; omega)
  refine ⟨.ref _, _, I5.laid (t' := s4.toks) (o := .tup xs.reverse) (fun b ob q => Heap.get?_push_of_some _ q) (Nat.le_refl _) ?_, rfl, q _ (I5.hok.fresh (Nat.le_refl _))⟩
  exact ⟨by rw [List.length_reverse]; exact hz, _, r.reverse, ⟨_, Heap.get?_push_size _ rfl, rfl, _, rfl⟩⟩
/-! ## things of any kind -/
/-- the type of a thing, as far as isinstance asks for it -/
def Typ (K : PySem.W.Frag) (H : Hp) (v : V) (c : String) (b : Bool) : Prop := ∃ t, TyX K H v t ∧ PySem.W.kitOne K t (.type c) = some b
/-- an int, a flag, or neither -/
inductive Item (K : PySem.W.Frag) (H : Hp) : V → Prop where
  | int (i : Int) : Item K H (.int i)
  | bl (b : Bool) : Item K H (.bl b)
  | els {v : V} (h : Typ K H v "int" false) (h1 : ∀ i, v ≠ .int i) : Item K H v
def isI : V → Bool
  | .int _ => true
  | _ => false
def inI (a b : Int) : V → Bool
  | .int i => decide (a ≤ i ∧ i ≤ b)
  | _ => false
theorem TyX.same {K : PySem.W.Frag} {H H' : Hp} {v : V} {t : Value} (hk : ∀ a xs, H a = some (.tup xs) → H' a = some (.tup xs)) (h : TyX K H v t) (hl : ∀ a xs, v = .ref a → H a = some (.lst xs) → ∃ ys, H' a = some (.lst ys)) (ho : ∀ a o, v = .ref a → H a = some o → isTupO (some o) = false → (∀ xs, o ≠ .lst xs) → H' a = some o) : TyX K H' v t := by
  cases h with
  | base b =>
    cases b with
    | non => exact .base .non
    | bl x => exact .base (.bl x)
    | int x => exact .base (.int x)
    | str x => exact .base (.str x)
    | flt x => exact .base (.flt x)
    | @lst a xs e => obtain ⟨ys, h⟩ := hl a xs rfl e; exact .base (.lst h)
    | @frz a o xs e => exact .base (.frz (ho a _ rfl e rfl (fun _ => HO.noConfusion)))
    | @tup a xs e => exact .base (.tup (hk _ _ e))
    | @dK a kvs e => exact .base (.dK (ho a _ rfl e rfl (fun _ => HO.noConfusion)))
    | @dT a kvs e => exact .base (.dT (ho a _ rfl e rfl (fun _ => HO.noConfusion)))
    | @ins a C dx fs e cl ha hn htk hm => exact .base (.ins (ho a _ rfl e rfl (fun _ => HO.noConfusion)) cl ha hn htk hm)
  | byt b => exact .byt b
  | @set a S n e => exact .set (ho a _ rfl e rfl (fun _ => HO.noConfusion))
  | kList e c => exact .kList e c
  | kTuple e c => exact .kTuple e c
  | kDict e c => exact .kDict e c
  | @fTuple a o xs e => exact .fTuple (ho a _ rfl e rfl (fun _ => HO.noConfusion))
  | @fDict a o kvs e => exact .fDict (ho a _ rfl e rfl (fun _ => HO.noConfusion))
theorem TyX.ext {K : PySem.W.Frag} {H H' : Hp} {v : V} {t : Value} (h : TyX K H v t) (e : Same H H') : TyX K H' v t :=
  TyX.same (fun a xs q => e _ _ q) h (fun a xs _ q => ⟨xs, e _ _ q⟩) (fun a o _ q _ _ => e _ _ q)
theorem TyX.exT {K : PySem.W.Frag} {H H' : Hp} {T : Addr} {l l' : List V} {v : V} {t : Value} (h : TyX K H v t) (e : ExT T H H') (hT : H T = some (.lst l)) (hT' : H' T = some (.lst l')) : TyX K H' v t :=
  TyX.same (fun a xs q => e.tk hT _ _ q) h (fun a xs _ q => by
    by_cases c : a = T
    · exact ⟨l', by rw [c]; exact hT'⟩
    · exact ⟨xs, e _ _ c q⟩) (fun a o _ q _ n => e _ _ (fun c => by rw [c, hT] at q; exact n l (Option.some.inj q).symm) q)
theorem Typ.ext {K : PySem.W.Frag} {H H' : Hp} {v : V} {c : String} {b : Bool} (h : Typ K H v c b) (e : Same H H') : Typ K H' v c b := let ⟨t, h1, h2⟩ := h; ⟨t, TyX.ext h1 e, h2⟩
theorem Typ.exT {K : PySem.W.Frag} {H H' : Hp} {T : Addr} {l l' : List V} {v : V} {c : String} {b : Bool} (h : Typ K H v c b) (e : ExT T H H') (hT : H T = some (.lst l)) (hT' : H' T = some (.lst l')) : Typ K H' v c b := let ⟨t, h1, h2⟩ := h; ⟨t, TyX.exT h1 e hT hT', h2⟩
theorem Item.ext {K : PySem.W.Frag} {H H' : Hp} {v : V} (h : Item K H v) (e : Same H H') : Item K H' v := by
  cases h with
  | int i => exact .int i
  | bl b => exact .bl b
  | els h h1 => exact .els (h.ext e) h1
theorem Item.exT {K : PySem.W.Frag} {H H' : Hp} {T : Addr} {l l' : List V} {v : V} (h : Item K H v) (e : ExT T H H') (hT : H T = some (.lst l)) (hT' : H' T = some (.lst l')) : Item K H' v := by
  cases h with
  | int i => exact .int i
  | bl b => exact .bl b
  | els h h1 => exact .els (h.exT e hT hT') h1
/-- a tuple of items, or no tuple -/
inductive Thing (K : PySem.W.Frag) (H : Hp) : V → Prop where
  | tup {a : Addr} {xs : List V} (h : H a = some (.tup xs)) (h1 : ∀ x ∈ xs, Item K H x) (h2 : xs.length ≤ 100000) : Thing K H (.ref a)
  | els {v : V} (h : Typ K H v "tuple" false) (h1 : ∀ a xs, v = .ref a → H a ≠ some (.tup xs)) : Thing K H v
theorem Thing.ext {K : PySem.W.Frag} {H H' : Hp} {v : V} (h : Thing K H v) (e : Same H H') (hv : ∀ a, v = .ref a → H a ≠ none) : Thing K H' v := by
  cases h with
  | tup h h1 h2 => exact .tup (e _ _ h) (fun x hx => (h1 x hx).ext e) h2
  | els h h1 =>
    refine .els (h.ext e) fun a xs ea q => ?_
    cases c : H a with
    | none => exact hv a ea c
    | some o =>
      rw [e _ _ c] at q
      cases q
      exact h1 a xs ea c
theorem Thing.exT {K : PySem.W.Frag} {H H' : Hp} {T : Addr} {l l' : List V} {v : V} (h : Thing K H v) (e : ExT T H H') (hT : H T = some (.lst l)) (hT' : H' T = some (.lst l')) (hv : ∀ a, v = .ref a → H a ≠ none) : Thing K H' v := by
  cases h with
  | tup h h1 h2 => exact .tup (e.tk hT _ _ h) (fun x hx => (h1 x hx).exT e hT hT') h2
  | els h h1 =>
    refine .els (h.exT e hT hT') fun a xs ea q => ?_
    by_cases ca : a = T
    · rw [ca, hT'] at q; cases q
    · cases c : H a with
      | none => exact hv a ea c
      | some o =>
        rw [e _ _ ca c] at q
        cases q
        exact h1 a xs ea c
theorem typ_tup {K : PySem.W.Frag} {H : Hp} {a : Addr} {xs : List V} {c : String} {b : Bool} (h : H a = some (.tup xs)) (hb : kitB "tuple" c = some b) : Typ K H (.ref a) c b := ⟨_, .base (.tup h), kit_ty hb⟩
theorem typ_lst {K : PySem.W.Frag} {H : Hp} {a : Addr} {xs : List V} {c : String} {b : Bool} (h : H a = some (.lst xs)) (hb : kitB "list" c = some b) : Typ K H (.ref a) c b := ⟨_, .base (.lst h), kit_ty hb⟩
theorem typ_dK {K : PySem.W.Frag} {H : Hp} {a : Addr} {xs : List (L2.Key × V)} {c : String} {b : Bool} (h : H a = some (.dK xs)) (hb : kitB "dict" c = some b) : Typ K H (.ref a) c b := ⟨_, .base (.dK h), kit_ty hb⟩
theorem typ_non {K : PySem.W.Frag} {H : Hp} {c : String} {b : Bool} (hb : kitB "NoneType" c = some b) : Typ K H .non c b := ⟨_, .base .non, kit_ty hb⟩
theorem typ_str {K : PySem.W.Frag} {H : Hp} {c : String} {x : Str} {b : Bool} (hb : kitB "str" c = some b) : Typ K H (.str x) c b := ⟨_, .base (.str x), kit_ty hb⟩
theorem typ_int {K : PySem.W.Frag} {H : Hp} {c : String} {x : Int} {b : Bool} (hb : kitB "int" c = some b) : Typ K H (.int x) c b := ⟨_, .base (.int x), kit_ty hb⟩
theorem typ_bl {K : PySem.W.Frag} {H : Hp} {c : String} {x : Bool} {b : Bool} (hb : kitB "bool" c = some b) : Typ K H (.bl x) c b := ⟨_, .base (.bl x), kit_ty hb⟩
theorem Item.non {K : PySem.W.Frag} {H : Hp} : Item K H .non := .els (typ_non (by decide +kernel)) (fun _ => V.noConfusion)
theorem Item.str {K : PySem.W.Frag} {H : Hp} (x : Str) : Item K H (.str x) := .els (typ_str (by decide +kernel)) (fun _ => V.noConfusion)
theorem Item.tup {K : PySem.W.Frag} {H : Hp} {a : Addr} {xs : List V} (h : H a = some (.tup xs)) : Item K H (.ref a) := .els (typ_tup h (by decide +kernel)) (fun _ => V.noConfusion)
theorem Item.lst {K : PySem.W.Frag} {H : Hp} {a : Addr} {xs : List V} (h : H a = some (.lst xs)) : Item K H (.ref a) := .els (typ_lst h (by decide +kernel)) (fun _ => V.noConfusion)
theorem Item.dK {K : PySem.W.Frag} {H : Hp} {a : Addr} {xs : List (L2.Key × V)} (h : H a = some (.dK xs)) : Item K H (.ref a) := .els (typ_dK h (by decide +kernel)) (fun _ => V.noConfusion)
theorem Thing.non {K : PySem.W.Frag} {H : Hp} : Thing K H .non := .els (typ_non (by decide +kernel)) (fun _ _ => V.noConfusion)
theorem Thing.str {K : PySem.W.Frag} {H : Hp} (x : Str) : Thing K H (.str x) := .els (typ_str (by decide +kernel)) (fun _ _ => V.noConfusion)
theorem Thing.int {K : PySem.W.Frag} {H : Hp} (x : Int) : Thing K H (.int x) := .els (typ_int (by decide +kernel)) (fun _ _ => V.noConfusion)
theorem Thing.bl {K : PySem.W.Frag} {H : Hp} (x : Bool) : Thing K H (.bl x) := .els (typ_bl (by decide +kernel)) (fun _ _ => V.noConfusion)
theorem Thing.lst {K : PySem.W.Frag} {H : Hp} {a : Addr} {xs : List V} (h : H a = some (.lst xs)) : Thing K H (.ref a) := .els (typ_lst h (by decide +kernel)) (fun b ys e q => by cases e; rw [h] at q; cases q)
theorem Thing.dK {K : PySem.W.Frag} {H : Hp} {a : Addr} {xs : List (L2.Key × V)} (h : H a = some (.dK xs)) : Thing K H (.ref a) := .els (typ_dK h (by decide +kernel)) (fun b ys e q => by cases e; rw [h] at q; cases q)
/-- what isinstance asks of a class of one's own -/
structure ClsTy (K : PySem.W.Frag) (C : Addr) : Prop where
  int : PySem.W.kitOne K (.ref C) (.type "int") = some false
  tup : PySem.W.kitOne K (.ref C) (.type "tuple") = some false
end Bs

namespace Bs
open PySem PySem.Spec PyProof.Rows L2
/-! ## an own error whose __init__ stores nothing -/
section
variable {X : Cx}
theorem mk_end00 {pins : List (Addr × Obj)} {σ : L2.St} {H1 H2 : Hp} {hp hp2 h2 : Heap} {g1 g2 : Array GenState} {d1 d2 : Drawn} {t1 t2 : Nat} {os1 os2 : OsState} {a C : Addr} (I1 : Inv X pins σ H1 ⟨hp, g1, d1, t1, os1⟩)
    (ha : hp.objs.size ≤ a) (k : ∀ b o, hp.get? b = some o → hp2.get? b = some o) (un : Un (frs X.stack) [] (upd H1 a (exo a C none)) H2 hp2 h2) (hok : HOk X.prog X.w H2 h2) (ho : os2 = os1) (hb : AllBare g2)
    (ea : H2 a = some (exo a C none)) :
    ∃ (t0 : Addr) (G : Heap), Inv X pins σ (del H2 a) ⟨G, g2, d2, t2, os2⟩ ∧ (∀ b o, G.get? b = some o → h2.get? b = some o) ∧ G.get? a = none ∧
      h2.get? a = some ({ cls := .ref C, dict := none, data := .fields #[.ref t0, .none, .none, .none, .bool false, .none] } : Obj) ∧ (del H2 a) a = none := by
  obtain ⟨t0, hoe⟩ := exo_at hok ea
  have hn : H1 a = none := I1.hok.fresh ha
  obtain ⟨G, g1', g2'⟩ := restrict h2 fun b => decide (b ≠ a)
  have gk : ∀ b, b ≠ a → G.get? b = h2.get? b := fun b hb => g1' b (decide_eq_true hb)
  have ge : G.get? a = none := g2' a (by simp)
  have nha : ∀ {b : Addr} {o : Obj}, hp.get? b = some o → b ≠ a := fun {b o} z => Nat.ne_of_lt (Nat.lt_of_lt_of_le (Heap.lt_size z) ha)
  have up : ∀ {b : Addr}, b ≠ a → H1 b = none → upd H1 a (exo a C none) b = none := fun {b} hb n => by rw [upd_ne hb]; exact n
  have U : Un (frs X.stack) [] H1 (del H2 a) hp G := {
    keep := fun b o z n hf hx => by
      rw [gk b (nha z)]
      exact un.keep b o (k b o z) (up (nha z) n) hf hx
    slot := fun b o z n hf hx => by
      rw [gk b (nha z)]
      exact un.slot b o (k b o z) (up (nha z) n) hf hx
    free := fun b o z n hx => by
      rw [del_ne (nha z)]
      exact un.free b o (k b o z) (up (nha z) n) hx
    there := fun b o z hx => by
      rw [gk b (nha z)]
      exact un.there b o (k b o z) hx
    tups := fun b xs z => by
      rw [del_ne (ne_of_none z hn)]
      exact un.tups b xs (by rw [upd_ne (ne_of_none z hn)]; exact z)
    frzs := fun b o v z => by
      rw [del_ne (ne_of_none z hn)]
      exact un.frzs b o v (by rw [upd_ne (ne_of_none z hn)]; exact z)
    tbls := fun b ps z => by
      rw [del_ne (ne_of_none z hn)]
      exact un.tbls b ps (by rw [upd_ne (ne_of_none z hn)]; exact z) }
  have hok3 : HOk X.prog X.w (del H2 a) G := fun b o z => by
    have hba : b ≠ a := fun e => by
      rw [e, del_same] at z
      cases z
    rw [del_ne hba] at z
    have noa : ∀ {c : Addr}, H2 c = some (.own b) → c ≠ a := fun {c} hc => at_ne ea hc exo_own
    exact (hok b o z).stay (fun c v hc y => by
        have hca : c ≠ a := by
          rcases hc with hc | hc
          · rw [hc]
            exact hba
          · exact noa hc
        rw [gk c hca]
        exact y)
      (fun c hc => by rw [del_ne (noa hc)]; exact hc) (fun c xs hc => by rw [del_ne (at_ne ea hc exo_tup)]; exact hc)
  have J : Inv X pins σ (del H2 a) ⟨G, g2, d2, t2, os2⟩ := I1.call' (ch := []) ho U hok3 hb (fun b z => absurd z (by simp))
  refine ⟨t0, G, J, fun b o z => ?_, ge, hoe, del_same⟩
  by_cases hba : b = a
  · rw [hba, ge] at z
    cases z
  · exact (gk b hba).symm.trans z
/-- C(), C's own __init__ keeping sp -/
def tMkO0 (C : Addr) (sp : Sp) : L2.St → Hp → XK → Prop := fun σ H1 Q => ∀ a, H1 a = none → sp [.ref a] (upd H1 a (exo a C none))
  (fun v H2 => v = .non ∧ H2 a = some (exo a C none) ∧ Q (.ref C) none (del H2 a)) (fun _ _ _ => False)
theorem pmk_oex0 {CX : CXT} {x : Str} {C fI : Addr} {k : Nat} {fd : FuncData} {ps : List Str} {sp : Sp} {p pos : Pos} (T : OexC X.K C) (iC : PySem.W.findIn X.K (.ref C) "__init__" = some (some (.ref fI))) (tI : PySem.W.typeIn X.K (.ref fI) = some (.type "function"))
    (F1 : FnOk X.prog X.w X.K X.mg X.base CX k fI fd ps sp) (hr : Room (k + 1) X.A) (hb : Binds X.K fd ps []) (hx : Passes CX X (fun _ _ _ => False)) (hg : Gl X x) (hm : X.mg x = some (.ref C))
    (hdb : (x == ("__debug__" : Str)) = false := by decide) :
    PMk X (.Call (.Name x p) [] [] pos) (tMkO0 C sp) := by
  intro pins s σ H1 Q I1 q1
  obtain ⟨nm, q, N, bs, bm, sn, sub, ab, col, dd, k0, k1, k2, k3, k5, hC, hbm⟩ := T.cls
  refine wpAny_Call_Name_kw (ld_glob I1 hg hm ?_ hdb)
  refine PySem.W.callWith_K0 I1.kIn T.kC ?_
  show wpAny _ _ (call (.ref C) []) _ _ _
  obtain ⟨hp, g, dr, tk, os⟩ := s
  have hsz : hp.objs.size ≤ hp.objs.size + 1 := Nat.le_succ _
  have hn : H1 (hp.objs.size + 1) = none := I1.hok.fresh hsz
  have hq := q1 (hp.objs.size + 1) hn
  have kk : ∀ b o, hp.get? b = some o → ((hp.push (PySem.W.kdv_tup [])).push (PySem.HandSPX.excO C hp.objs.size)).get? b = some o := fun b o e => Heap.get?_push_of_some _ (Heap.get?_push_of_some _ e)
  have hget : ((hp.push (PySem.W.kdv_tup [])).push (PySem.HandSPX.excO C hp.objs.size)).get? (hp.objs.size + 1) = some (PySem.HandSPX.excO C hp.objs.size) := by heap_get
  have I2 : Inv X pins σ (upd H1 (hp.objs.size + 1) (exo (hp.objs.size + 1) C none)) ⟨(hp.push (PySem.W.kdv_tup [])).push (PySem.HandSPX.excO C hp.objs.size), g, dr, tk, os⟩ :=
    I1.laid (t' := tk) (a := hp.objs.size + 1) (o := exo (hp.objs.size + 1) C none) (h' := (hp.push (PySem.W.kdv_tup [])).push (PySem.HandSPX.excO C hp.objs.size)) kk hsz (exo_ok hget)
  have r2 : Vals [V.ref (hp.objs.size + 1)] [Value.ref (hp.objs.size + 1)] := .cons rfl .nil
  have hl : ([Value.ref (hp.objs.size + 1)] ++ ([] : List Value)).length = ps.length := by
    have e := r2.length
    rw [F1.len _ _ _ _ hq] at e
    simpa using e.symm
  have hb2 := hb _ [Value.ref (hp.objs.size + 1)] I2.kIn hl
  rw [List.append_nil] at hb2
  refine wpAny_call (PySem.HandSPX.call_own F.excBase_ValueError (fun Y => PySem.HandSPX.refsVE_contains Y bm hbm) (I1.kIn _ _ hC) (PySem.W.looks_findIn I1.kIn iC) (fun self => PySem.W.bind_fn I1.kIn self tI) (by show 0 ≤ sizeLine; exact Nat.zero_le _)
    (codeAny_mono (F1.run _ X.stack _ _ ⟨[Value.ref (hp.objs.size + 1)], []⟩ [Value.ref (hp.objs.size + 1)] _ _ (fun _ _ _ => False) (hr.make C [] []) (I2.env0.make C [] []) hb2 r2 hq) fun r s' hq' => ?_))
  cases r with
  | error er => exact hx pins σ _ _ er s' I2 hq'
  | ok fl =>
    cases fl with
    | ret u =>
      obtain ⟨v, H2, os2, bare2, un2, hok2, rv, ev, ea, q2⟩ := hq'
      subst ev
      obtain ⟨h2, g2, d2, t2, os'⟩ := s'
      obtain ⟨t0, G, J, kG, ge, hoe, na⟩ := mk_end00 (d2 := d2) (t2 := t2) I1 hsz kk un2 hok2 os2 bare2 ea
      exact ⟨rv, hp.objs.size + 1, _, _, ⟨G, g2, d2, t2, os'⟩, _, .ref C, none, rfl, J, kG, ge, hoe, ⟨rfl, rfl⟩, rfl, rfl, na, rfl, bare2, raises_own T.exC T.tyC, q2⟩
    | next => exact False.elim hq'
    | brk => exact False.elim hq'
    | cont => exact False.elim hq'
end

section
variable {prog : Program} {w : World} {A : Around} {E : Value → Shared → Prop} {s : Shared} {K : PySem.W.Frag} {x D : Addr} {ox : Obj} {od : Option Obj}
theorem findObj_dataD {C : Addr} {name : Str} {a g : Value} (hc : (PySem.W.clsIn K C).isSome = true) (ha : PySem.W.findIn K (.ref C) name = some (some a)) (hg : PySem.W.specialIn K a "__get__" = some (some g)) (ht : PySem.W.takesIn K a = some true) : PySem.W.findObj K C od name = some (.bind g a) := by
  obtain ⟨cd, hc⟩ := Option.isSome_iff_exists.mp hc
  unfold PySem.W.findObj
  rw [hc, Option.bind_some, ha, Option.bind_some]
  simp [hg, ht]
theorem class_of_exc (T : ExcC K D) (X : K.In s.heap) (I : PySem.W.InstAt s.heap x ox D od) {Q : Option Value → Shared → Prop} (h : Q (some (.ref D)) { s with toks := s.toks + 1 }) : wpAny (model prog w) A (getAttr? (.ref x) "__class__") Q E s := by
  have hf : PySem.W.findObj K D od "__class__" = some (.bind (.builtin "getset_descriptor.__get__") (.builtin "object.__class__")) := findObj_dataD (by obtain ⟨cd, hc, _⟩ := PySem.W.any_some T.hd; rw [hc]; rfl) T.ha T.hn T.ht
  obtain ⟨hp, g, d, t, os⟩ := s
  have L0 := I.type (M := model prog w)
  have L1 := PySem.W.looks_findIn (M := model prog w) X T.hg
  have L2' := PySem.W.looks_findIn (M := model prog w) X T.hk
  have L3 := PySem.W.looks_find (M := model prog w) X I hf
  have sub : PySem.W.Looks (model prog w) hp (isInstance (.ref x) (.type "BaseException")) true := L0.andThen (PySem.W.looks_subIn X T.hs)
  have hx0 : (false && onTheHeap (Value.builtin "BaseException.__getattribute__")) = false := rfl
  have hx2 : (Value.builtin "BaseException.__getattribute__" == Value.builtin "object.__getattribute__") = false := by decide +kernel
  have hx1 : (onTheHeap (Value.ref D) && Value.builtin "BaseException.__getattribute__" == Value.builtin "object.__getattribute__") = false := by rw [hx2]; rfl
  unfold getAttr? getAttrBy? getAttrBy
  refine wpAny_bind (wpAny_mkText (wpAny_bind (wpAny_attempt (wpAny_holding (wpAny_bind (L0.at (wpAny_bind (L1.at ?_))))))))
  show wpAny _ _ (if (onTheHeap (Value.ref D) && Value.builtin "BaseException.__getattribute__" == Value.builtin "object.__getattribute__") = true then _ else _) _ _ _
  rw [hx1, if_neg Bool.false_ne_true]
  unfold getAttrByItsOwn hookBefore
  refine wpAny_bind ?_
  rw [if_pos (show onTheHeap (Value.ref D) = true from rfl)]
  refine L2'.at ?_
  refine wpAny_bind (wpAny_attempt (wpAny_holding ?_))
  unfold callGetattribute
  rw [hx0, if_neg Bool.false_ne_true]
  unfold boundAndCalled
  rw [PySem.F.excAttr_ValueError.ga.bind (.ref x)]
  refine wpAny_bind (wpAny_pure ?_)
  show wpAny _ _ (call (.builtin "BaseException.__getattribute__") [.ref x, .str "__class__" t]) _ _ _
  refine wpAny_call (codeAny_call_builtin PySem.F.excAttr_ValueError.ga.plain PySem.F.entry_bexc_ga ?_)
  refine @PySem.W.check_slot (model prog w) _ _ ⟨hp, g, d, t + 1, os⟩ "BaseException.__getattribute__" "BaseException" "__getattribute__" (.ref x) [.str "__class__" t] [] _ (by decide +kernel) (by decide +kernel) sub (PySem.F.args_bexc_ga (.ref x) (.str "__class__" t)) ?_
  unfold Builtin.«object.__getattribute__»
  refine wpAny_bind (wpAny_of_eq (a := ((Value.ref x : Value), [Value.str "__class__" t])) (by first | rfl | (simp only [slotArgs]; rfl)) ?_)
  refine wpAny_bind (wpAny_pure (wpAny_bind (L0.at (wpAny_bind (L3.at ?_)))))
  show wpAny _ _ (holding [Value.builtin "object.__class__"] (call (.builtin "getset_descriptor.__get__") [.builtin "object.__class__", .ref x, .ref D]) >>= ret) _ _ _
  refine wpAny_bind (wpAny_holding (wpAny_call (PySem.W.class_get (s := ⟨hp, g, d, t + 1, os⟩) (ox := ox) (od := od) X I T.hm ?_)))
  refine wpAny_pure ?_
  show wpAny _ _ (handedOut (.ref D)) _ _ _
  rw [PySem.W.handedOut_of (v := .ref D) rfl]
  first
    | exact wpAny_pure (wpAny_pure h)
    | exact wpAny_pure h
    | exact wpAny_pure (wpAny_bind (wpAny_pure (wpAny_pure h)))
theorem kitx_excD (T : ExcC K D) : PySem.W.KitX K (.ref x) (.ref D) (fun h => PySem.W.InstAt h x ox D od) where
  ty := fun _ _ _ I => I.type
  it := fun M h X _ => by
    obtain ⟨cdD, hcD, _⟩ := PySem.W.any_some T.hd
    unfold PySem.W.clsIn at hcD
    split at hcD
    · rename_i c' d' cd' sl' ho
      intro A' Q' E' s' k q
      unfold isType loadHead
      exact wpAny_bind (AutoSeq1.wpAny_loadPart' (k _ _ (X _ _ ho)) (wpAny_pure q))
    · cases hcD
  ne := (PySem.W.handS_kitx_exc (x := x) (ox := ox) T.hg T.hk T.hs T.hd T.ha T.hn T.ht T.hm).ne
  ca := fun X I k => class_of_exc T X I k
end
/-- isinstance(e, c), e the exception that the suite holds, of any own class, with a dict or without -/
def rIsEg (K : PySem.W.Frag) (cls : Value) (d : Option Addr) (a : Addr) : List V → Hp → VK → Prop := fun xs H Q => ∃ (D : Addr) (c : V) (cv : Value) (b : Bool), cls = .ref D ∧ ExcC K D ∧ (d = none ∨ ∃ dd fs, d = some dd ∧ H dd = some (.xd fs)) ∧ xs = [.ref a, c] ∧ (∀ u, RelV c u → u = cv) ∧ PySem.W.kitOne K (.ref D) cv = some b ∧ Q (.bl b) H
theorem call_isEg {X : Cx} {a : Addr} {oe : Obj} {cls : Value} {d : Option Addr} {pn : List (Addr × Obj)} (hz : Zc cls d oe) (hf : ∃ vs, oe.data = .fields vs) : CallR (X.suite a ((a, oe) :: pn)) (.builtin "isinstance") (rIsEg X.K cls d a) := by
  intro pins s σ H xs us Q I r h
  obtain ⟨D, c, cv, b, rfl, T, hd, rfl, hcv, e, q⟩ := h
  cases r with
  | cons rx rr =>
    cases rr with
    | cons rt rr =>
      cases rr
      cases rx
      have ec := hcv _ rt
      subst ec
      obtain ⟨hget, _⟩ := I.pin (a, oe) (List.mem_append.mpr (.inl List.mem_cons_self))
      obtain ⟨vs, hv⟩ := hf
      have J : ∃ od, PySem.W.InstAt s.heap a oe D od := by
        rcases hd with rfl | ⟨dd, fs, rfl, hdd⟩
        · exact ⟨none, hget, hz.1, by unfold PySem.W.notCls; rw [hv] <;> rfl, by rw [hz.2]; trivial⟩
        · obtain ⟨mA, hns, hr⟩ := (show ObjOk X.prog X.w H s.heap dd (.xd fs) from I.hok dd _ hdd)
          obtain ⟨od, ho, hl⟩ := lookIn_ns hns
          exact ⟨some od, hget, hz.1, by unfold PySem.W.notCls; rw [hv] <;> rfl, by rw [hz.2]; exact ho⟩
      obtain ⟨od, J⟩ := J
      exact PySem.W.kia_one (kitx_excD T) I.kIn J e (fun z => nomatch z) fun tk => ⟨.bl b, H, I.kept (t' := tk) fun _ _ z => z, rfl, q⟩
/-! ## making an object whose __init__ may raise -/
def tMakeS (C : Addr) (sp : Sp) (E : L2.St → XK) (t : TA) : TE := fun σ H Q => t σ H fun vs H1 => ∀ x dx, H1 x = none → H1 dx = none → dx ≠ x → sp (.ref x :: vs) (upd (upd H1 dx (.own x)) x (.ins C dx [])) (fun v H2 => v = .non ∧ Q (.ref x) H2) (E σ)
section
variable {X : Cx} {CX : CXT} {k : Nat} {f C : Addr} {fd : FuncData} {ps : List Str} {sp : Sp} {E : L2.St → XK} {x : Str} {p pos : Pos} {e : Expr} {es : List Expr} {t : TA}
theorem run_makeS {pins : List (Addr × Obj)} {σ : L2.St} {H : Hp} {s : Shared} {Q : VK} {us : List Value} {vs : List V} (M : Mk X.K C f) (F : FnOk X.prog X.w X.K X.mg X.base CX k f fd ps sp) (hr : Room (k + 1) X.A) (hb : Binds X.K fd ps [])
    (hx : PassesAt CX X σ (E σ)) (I : Inv X pins σ H s) (r : Vals vs us)
    (h : ∀ x dx, H x = none → H dx = none → dx ≠ x → sp (.ref x :: vs) (upd (upd H dx (.own x)) x (.ins C dx [])) (fun v H2 => v = .non ∧ Q (.ref x) H2) (E σ)) :
    wpAny (model X.prog X.w) X.A (call (.ref C) us) (EP X pins σ Q) X.xe s := by
  have hq := h (s.heap.objs.size + 1) s.heap.objs.size (I.hok.fresh (Nat.le_succ _)) (I.hok.fresh (Nat.le_refl _)) (Nat.ne_of_lt (Nat.lt_succ_self _))
  have I2 := Inv.made (C := C) I
  have r2 : Vals (V.ref (s.heap.objs.size + 1) :: vs) (Value.ref (s.heap.objs.size + 1) :: us) := .cons rfl r
  have hl : ((Value.ref (s.heap.objs.size + 1) :: us) ++ ([] : List Value)).length = ps.length := by
    have e := r2.length
    rw [F.len _ _ _ _ hq] at e
    rw [List.append_nil]
    exact e.symm
  have hb2 := hb _ (Value.ref (s.heap.objs.size + 1) :: us) I2.kIn hl
  rw [List.append_nil] at hb2
  refine wpAny_call (make_map (f := f) I.kIn M.makes M.init (beq_iff_eq.mp M.fn) (codeAny_mono (F.run _ X.stack _ _ ⟨Value.ref (s.heap.objs.size + 1) :: us, []⟩ (Value.ref (s.heap.objs.size + 1) :: us) _ _ (E σ) (hr.make C us [])
    (I2.env0.make C us []) hb2 r2 hq) fun r s' hq' => ?_))
  cases r with
  | error e => exact hx pins _ _ e s' I2 hq'
  | ok fl =>
    cases fl with
    | ret u =>
      obtain ⟨v, H', I3, rv, ev, q3⟩ := I2.after hq'
      subst ev
      exact ⟨rv, ⟨V.ref (s.heap.objs.size + 1), H', I3, rfl, q3⟩⟩
    | next => exact False.elim hq'
    | brk => exact False.elim hq'
    | cont => exact False.elim hq'
theorem pe_makeS (M : Mk X.K C f) (F : FnOk X.prog X.w X.K X.mg X.base CX k f fd ps sp) (hr : Room (k + 1) X.A) (hm : X.mg x = some (.ref C)) (hb : Binds X.K fd ps []) (hx : ∀ σ, PassesAt CX X σ (E σ))
    (ha : PA X (e :: es) t) (hg : Gl X x := by rfl) (hdb : (x == ("__debug__" : Str)) = false := by decide) (he : starEach (e :: es) X.env = (false, eval e X.env) :: starEach es X.env := by rfl) (hpl : (backTo pos (starEach es X.env)).any (·.1) = false := by rfl) :
    PE X (.Call (.Name x p) (e :: es) [] pos) (tMakeS C sp E t) := by
  refine ⟨fun pins s σ H Q I h => ?_⟩
  refine wpAny_Call_Name_kw (ld_glob I hg hm ?_ hdb)
  refine PySem.W.callWith_K (h₀ := X.base) I.ok.mod.kin M.kp (thn (ha.run pos pins s σ H _ I h) fun us s1 ⟨vs, H1, I1, r, q⟩ => ⟨I1.kIn, ?_⟩) he hpl
  exact run_makeS M F hr hb (hx σ) I1 r q
end
end Bs

namespace Bs
open PySem PySem.Spec PyProof.Rows L2 HT
/-! ## sorted(xs), tuples of ints of any length -/
section
variable {prog : Program} {w : World} {A : Around} {E : Value → Shared → Prop} {s : Shared}
def IsIt (h : Heap) (v : Value) (ns : List Int) : Prop := ∃ (a : Addr) (o : Obj) (items : Array Value) (n : Nat), v = .ref a ∧ h.get? a = some o ∧ o.cls = .type "tuple" ∧ o.data = .seq items n ∧ IntsAre items.toList ns
theorem IsIt.keeps {h h' : Heap} {v : Value} {ns : List Int} (x : IsIt h v ns) (k : ∀ b o, v = .ref b → h.get? b = some o → h'.get? b = some o) : IsIt h' v ns := by
  obtain ⟨a, o, items, n, e, g, c, d, i⟩ := x
  exact ⟨a, o, items, n, e, k _ _ e g, c, d, i⟩
theorem lt_it {v u : Value} {ns ms : List Int} {Q : Bool → Shared → Prop} (hu : A.units < cLine) (hv : IsIt s.heap v ns) (hw : IsIt s.heap u ms) (h : Q (HT.lexLt ns ms) s) : wpAny (model prog w) A (keyLt' oneType' v u) Q E s := by
  obtain ⟨a, ⟨c1, dd, d1, sl⟩, items, n, rfl, ga, ca, da, ia⟩ := hv
  obtain ⟨b, ⟨c2, dd2, d2, sl2⟩, items2, n2, rfl, gb, cb, db, ib⟩ := hw
  simp only at ca da cb db
  subst ca da cb db
  rw [keyLt'_oneType, oneLt'_eq]
  simp only [if_true]
  refine wpAny_bind (wpAny_cRoomFor hu ?_)
  refine wpAny_bind (wpAny_callSpecialIfBound?_slot (name := PySem.Str.ofString "__lt__") ⟨_, ga, rfl⟩ PySem.F.slot_tuple_lt ?_)
  refine call_meets PySem.F.slot_tuple_lt ⟨_, ga, rfl⟩ PySem.F.entry_tuple_lt (PySem.F.args_tuple_lt_2 _ _) (tuple_lt_ints a b items items2 n n2 dd dd2 sl sl2 ns ms ia ib) ⟨ga, gb, ?_⟩
  exact wpAny_truthy_bool h
/-- of tuples, one by one -/
theorem lex_it (b : Bool) {Q : Bool → Shared → Prop} : ∀ {xs ys : List Value} {ns ms : List Int} (i : Nat) (d : Bool), IntsAre xs ns → IntsAre ys ms → (ns.length < ms.length ↔ d = true) → Q (HT.lexLt ns ms) s → PySem.W.KatLex prog w A b d Q (xs.zip ys) i s
  | _, _, _, _, i, d, .nil, .nil, e, h => by
    have : d = false := by
      cases d with
      | false => rfl
      | true => exact absurd (e.mpr rfl) (by simp)
    subst this
    exact PySem.W.kat_nil h
  | _, _, _, _, i, d, .nil, .cons m t r, e, h => by
    have : d = true := e.mp (by simp)
    subst this
    exact PySem.W.kat_nil h
  | _, _, _, _, i, d, .cons n t r, .nil, e, h => by
    have : d = false := by
      cases d with
      | false => rfl
      | true => exact absurd (e.mpr rfl) (by simp)
    subst this
    exact PySem.W.kat_nil h
  | _, _, _, _, i, d, .cons (vs := xs) (ns := ns) n t r, .cons (vs := ys) (ns := ms) m u r', e, h => by
    rw [HT.lexLt_cons] at h
    refine PySem.W.kat_cons (SeqAt.EqAt.int_int n t m u prog w _ _ ?_)
    refine PySem.W.kat_go (fun e1 => ?_) (fun e1 => ?_)
    · have ex : n = m := by simpa using e1
      rw [if_pos ex] at h
      exact PySem.W.kat_yes (lex_it b (i + 1) d r r' (by simpa using e) h)
    · have ex : ¬ n = m := by simpa using e1
      rw [if_neg ex] at h
      exact PySem.W.kat_no (TS.oneLt_ints _ h)
theorem kat_it {vs : List Value} (h : Heap) : (∀ v ∈ vs, ∃ ns, IsIt h v ns ∧ ns ≠ []) → ∃ fs, PySem.W.KatTups h vs fs ∧ fs.length = vs.length ∧ ∀ f ∈ fs, ∃ x t, f = Value.int x t := by
  induction vs with
  | nil => intro _; exact ⟨[], .nil, rfl, by simp⟩
  | cons v vs ih =>
    intro hv
    obtain ⟨fs, h1, h2, h3⟩ := ih fun u hu => hv u (List.mem_cons_of_mem _ hu)
    obtain ⟨ns, ⟨a, o, items, n, rfl, g, c, d, i⟩, hne⟩ := hv v List.mem_cons_self
    obtain ⟨its, rfl⟩ : ∃ its, items = List.toArray its := ⟨items.toList, by simp⟩
    cases its with
    | nil => cases i; exact absurd rfl hne
    | cons x its =>
      cases i with
      | cons k t r => exact ⟨.int k t :: fs, .cons g c d (by simp) h1, by simp [h2], fun f hf => (List.mem_cons.mp hf).elim (fun e => ⟨k, t, e⟩) (h3 f)⟩
theorem firsts_it {M : Model} : ∀ (vs : List Value) {Q : List (Option Value) → Shared → Prop}, (∀ v ∈ vs, ∃ ns, IsIt s.heap v ns) → (∀ l, Q l s) → wpAny M A (vs.mapM firstOfTuple') Q E s
  | [], Q, _, h => by rw [List.mapM_nil]; exact wpAny_pure (h _)
  | v :: vs, Q, hv, h => by
    obtain ⟨ns, ⟨a, o, items, n, rfl, g, c, d, i⟩⟩ := hv v List.mem_cons_self
    rw [List.mapM_cons]
    refine wpAny_bind ?_
    rw [PySem.W.kas_first_eq]
    refine wpAny_bind (PySem.W.Looks.here (show PySem.W.Looks M s.heap (typeOf (.ref a)) o.cls from (PySem.W.Looks.ld g).andThen .now) ?_)
    rw [c, if_neg (by first | decide | simp)]
    refine wpAny_bind (listItems_at g d (wpAny_pure ?_))
    exact wpAny_bind (firsts_it vs (fun u hu => hv u (List.mem_cons_of_mem _ hu)) fun l => wpAny_pure (h _))
theorem kind_one {v : Value} {vs : List Value} {Q : SortKind → Shared → Prop} (h0 : IsIt s.heap v []) (hv : ∀ u ∈ vs, ∃ ns, IsIt s.heap u ns) (h : Q oneType' s) {M : Model} : wpAny M A (keyKind' (v :: vs).toArray) Q E s := by
  rw [kat_kind_eq, List.mapM_toArray, map_eq_pure_bind]
  obtain ⟨a, o, items, n, rfl, g, c, d, i⟩ := id h0
  rw [List.mapM_cons]
  refine wpAny_bind (wpAny_bind (wpAny_bind ?_))
  rw [PySem.W.kas_first_eq]
  refine wpAny_bind (PySem.W.Looks.here (show PySem.W.Looks M s.heap (typeOf (.ref a)) o.cls from (PySem.W.Looks.ld g).andThen .now) ?_)
  rw [c, if_neg (by first | decide | simp)]
  refine wpAny_bind (listItems_at g d (wpAny_pure ?_))
  have e0 : items[0]? = none := by
    cases hl : items.toList with
    | nil => simp [Array.toList_eq_nil_iff.mp hl]
    | cons x r => rw [hl] at i; cases i
  rw [e0]
  refine wpAny_bind (firsts_it vs hv fun l => wpAny_pure (wpAny_pure ?_))
  have hall : ((none :: l : List (Option Value)).toArray.all fun x => x.isSome) = false := by simp
  rw [hall, if_neg (by simp)]
  have hb : (((none :: l : List (Option Value)).toArray[0]?.bind id).isSome) = false := by simp
  rw [hb, if_neg (by simp)]
  rw [oneTypeOnly'_eq, List.mapM_toArray, map_eq_pure_bind]
  have ht : ∀ u ∈ Value.ref a :: vs, PySem.W.Looks M s.heap (typeOf u) (.type "tuple") := fun u hu => by
    obtain ⟨ns, ⟨b, o', _, _, rfl, g', c', _, _⟩⟩ : ∃ ns, IsIt s.heap u ns := by
      rcases List.mem_cons.mp hu with rfl | hu
      · exact ⟨_, h0⟩
      · exact hv u hu
    rw [← c']
    exact (PySem.W.Looks.ld g').andThen .now
  refine wpAny_bind (wpAny_bind (wpAny_bind (PySem.W.kas_mapM (r := Value.type "tuple") _ (fun v hv Q' hq => (ht v hv).here hq) (wpAny_pure ?_))))
  have hall2 : ((List.map (fun _ => Value.type "tuple") (Value.ref a :: vs)).toArray.all fun x => x == Value.type "tuple") = true := by
    simp only [List.all_toArray, List.all_map, List.all_eq_true]
    intro _ _
    rfl
  have h00 : (List.map (fun _ => Value.type "tuple") (Value.ref a :: vs)).toArray[0]? = some (Value.type "tuple") := by simp
  rw [h00]
  simp only [hall2, if_true]
  exact wpAny_pure (wpAny_pure h)
theorem it_sortable {a : Addr} {vs : List Value} {k : Value → List Int} (h2 : 2 ≤ vs.length) (hu : A.units < cLine) (hv : ∀ v ∈ vs, IsIt s.heap v (k v)) (ha : ∀ v ∈ vs, v ≠ .ref a) (hk : (∀ v ∈ vs, k v ≠ []) ∨ ∃ v r, vs = v :: r ∧ k v = []) :
    SrtO.SortableO prog w A s a vs fun v u => HT.lexLt (k v) (k u) := by
  intro h' keep
  have hv' : ∀ v ∈ vs, IsIt h' v (k v) := fun v hm => (hv v hm).keeps fun b o e g => keep b o (fun z => ha v hm (by rw [e, z])) g
  rcases hk with hk | ⟨v0, r, rfl, hk⟩
  · obtain ⟨fs, h1, h3, h4⟩ := kat_it h' fun v hm => ⟨k v, hv' v hm, hk v hm⟩
    refine ⟨tuples' true, fun Q E hq => ?_, fun p q hp hq => ?_⟩
    · refine PySem.W.kat_kind (T := .type "int") h1 (by omega) (fun f hm => ?_) (by rfl) ?_
      · obtain ⟨x, t, rfl⟩ := h4 f hm
        exact PySem.W.Looks.now
      · have e : (Value.type "int" != Value.type "tuple") = true := by first | decide +kernel | rfl | decide
        rw [e]
        exact hq
    · obtain ⟨a1, o1, i1, n1, e1, g1, c1, d1, ii1⟩ := hv' _ hp
      obtain ⟨a2, o2, i2, n2, e2, g2, c2, d2, ii2⟩ := hv' _ hq
      show wpAny (model prog w) A (keyLt' (tuples' true) p.1 q.1) (fun r s' => s' = { s with heap := h' } ∧ r = HT.lexLt (k p.1) (k q.1)) (fun _ _ => False) { s with heap := h' }
      generalize k p.1 = ns at ii1 ⊢
      generalize k q.1 = ms at ii2 ⊢
      rw [e1, e2]
      refine PySem.W.kat_lt g1 d1 g2 d2 (lex_it true 0 _ ii1 ii2 ?_ ⟨rfl, rfl⟩)
      rw [← ii1.length, ← ii2.length, decide_eq_true_eq]
      simp
  · refine ⟨oneType', fun Q E hq => ?_, fun p q hp hq => lt_it (Q := fun r s' => s' = { s with heap := h' } ∧ r = HT.lexLt (k p.1) (k q.1)) (E := fun _ _ => False) hu (hv' p.1 hp) (hv' q.1 hq) ⟨rfl, rfl⟩⟩
    have h0 := hv' v0 List.mem_cons_self
    rw [hk] at h0
    exact kind_one (s := { s with heap := h' }) h0 (fun u hm => ⟨_, hv' u (List.mem_cons_of_mem _ hm)⟩) hq
end
/-- sorted(xs), tuples of ints: none empty, or the first one -/
def rSortedIt (K : PySem.W.Frag) : List V → Hp → VK → Prop := fun vs H Q => ∃ (a : Addr) (xs : List V) (k : V → List Int), vs = [V.ref a] ∧ SqL K H a xs ∧ (∀ x ∈ xs, ∃ t, x = V.ref t ∧ H t = some (.tup ((k x).map V.int))) ∧ ((∀ x ∈ xs, k x ≠ []) ∨ ∃ x r, xs = x :: r ∧ k x = []) ∧
  ∀ ys p, ys.Perm xs → ys.Pairwise (fun x y => HT.lexLt (k y) (k x) = false) → H p = none → Q (.ref p) (upd H p (.lst ys))
theorem cr_sortedIt {X : Cx} (hu : X.A.units + 64 < cLine) : CallR X (.builtin "sorted") (rSortedIt X.K) := by
  intro pins s σ H vs us Q I r h
  obtain ⟨a, xs, k, rfl, hs, hx, hk, q⟩ := h
  obtain ⟨its, rv, hl, hz⟩ := I.list hs
  obtain ⟨u, rfl, ru⟩ := vals1 r
  obtain rfl : u = Value.ref a := ru
  obtain ⟨e1, e2⟩ := refs_back rv fun x m => by
    obtain ⟨t, e, _⟩ := hx x m
    exact ⟨t, e⟩
  have hp : ∀ v ∈ its, IsIt s.heap v (k (backV v)) := fun v hv => by
    obtain ⟨t, rfl⟩ := e2 v hv
    have hm : V.ref t ∈ xs := by rw [e1]; exact List.mem_map.mpr ⟨_, hv, rfl⟩
    obtain ⟨t', e, ht⟩ := hx _ hm
    cases e
    obtain ⟨_, its2, r2, o, ho, hc, n, hd⟩ := I.hok _ _ ht
    exact ⟨t, o, its2.toArray, n, rfl, ho, hc, hd, intsAre_of r2⟩
  have hk' : (∀ v ∈ its, k (backV v) ≠ []) ∨ ∃ v r, its = v :: r ∧ k (backV v) = [] := by
    rcases hk with hk | ⟨x, r, ex, hk⟩
    · refine .inl fun v hv => hk _ ?_
      rw [e1]; exact List.mem_map.mpr ⟨_, hv, rfl⟩
    · rw [e1] at ex
      cases its with
      | nil => cases ex
      | cons v r' =>
        rw [List.map_cons] at ex
        injection ex with h1 h2
        exact .inr ⟨v, r', rfl, by rw [h1]; exact hk⟩
  refine SrtO.sorted_ord (NtL.swo_lexL fun u => k (backV u)) hl.isList (by rw [← rv.length]; exact hz) (fun h2 h₁ a' ha' keep => it_sortable (s := { s with heap := h₁ }) h2 (by show X.A.units + 1 + 1 < cLine; omega) (fun v hv => (hp v hv).keeps fun b o _ g => (keep b o g).2) (fun v hv => ?_) hk') fun out h1 h2 => ?_
  · obtain ⟨t, o, _, _, rfl, g, c, _, _⟩ := hp v hv
    exact fun e => (keep t o g).1 (Value.ref.inj e)
  · have h3 : ∀ u ∈ out, ∃ a, u = Value.ref a := fun u hu => e2 u (h2.perm.mem_iff.mp hu)
    obtain ⟨ep, he'⟩ := PyProof.Rows.sortedAll_at s.heap its out.toArray
    have hb : (out.map backV).Perm xs := by rw [e1]; exact h2.perm.map backV
    refine ⟨.ref _, upd H (s.heap.objs.size + 1) (.lst (out.map backV)), I.laid (t' := s.toks) (fun _ _ => PyProof.Rows.sortedAll_old) (Nat.le_succ _) ⟨?_, out, ep, vals_back h3, he'⟩, rfl, q _ _ hb ?_ (I.hok.fresh (Nat.le_succ _))⟩
    · rw [hb.length_eq]
      exact hz
    · exact List.pairwise_map.mpr h1
end Bs

namespace Bs
open PySem PySem.Spec PyProof.Rows L2 HT PySem.W
open Builtin Builtin.Str Builtin.Int Builtin.Float
/-! ## f'{n:b}' -/
def binL (n : Nat) : List Nat := (Nat.toDigits 2 n).map Char.toNat
def binText (n : Nat) : PySem.Str := ⟨(binL n).toArray⟩
theorem field_b (f : FormatSpec) (L : List Nat) (h5 : f.width = none) (h6 : f.grouping = none) (h7 : f.sign = none) (h8 : f.align = 62) (hL : L.isEmpty = false) : intField' f false [] L [] 4 = ⟨L.toArray⟩ := by
  unfold intField'
  simp only [h5, h6, h7, h8, hL, Bool.false_eq_true, if_false, List.length_nil, List.nil_append, List.append_nil, show ((62 : Nat) == 61) = false from rfl, show ((62 : Nat) == 60) = false from rfl, show ((62 : Nat) == 94) = false from rfl, Bool.and_false]
  have h0 : ((-1 : Int) - ((0 + 0 + 0 : Nat) : Int) - ((List.replicate ((0 : Int).toNat - L.length) 48 ++ L).length : Int)).toNat = 0 := by
    simp
  simp
theorem binL_ne (n : Nat) : (binL n).isEmpty = false := by
  unfold binL
  have := tDigits_len_ge 2 n
  cases h : Nat.toDigits 2 n with
  | nil => rw [h] at this; simp at this
  | cons a l => rfl
theorem parse_b : ∃ f : FormatSpec, parseFormatSpec (⟨#[98]⟩ : PySem.Str).cps.toList "int" 62 = .ok f ∧ f.type = some 98 ∧ f.precision = none ∧ f.noNeg0 = false ∧ f.alt = false ∧ f.width = none ∧ f.grouping = none ∧ f.sign = none ∧ f.align = 62 := ⟨_, rfl, rfl, rfl, rfl, rfl, rfl, rfl, rfl, rfl⟩
theorem meets_b (a : Int) (L : List Nat) (T : PySem.Str) (t u : Tok) (h0 : decide (a < 0) = false) (hL : ((Nat.toDigits 2 a.natAbs).map fun c => (if ((98 : Nat) == 88) = true then c.toUpper else c).toNat) = L) (hne : L.isEmpty = false) (hT : (⟨L.toArray⟩ : PySem.Str) = T) (hn : T.length ≤ sizeLine) :
    Meets («int.__format__» ⟨[.int a t, .str (⟨#[98]⟩ : PySem.Str) u], []⟩) (fun _ R s => ∀ t' k, R (.ok (.ret (.str T t'))) { s with toks := k }) := by
  apply KPc.meets_of
  intro prog w A s Q E hR
  unfold Builtin.«int.__format__»
  refine wpAny_bind (wpAny_of_eq (a := (_, _)) rfl ?_)
  refine wpAny_bind (wpAny_of_eq (a := _) rfl ?_)
  refine wpAny_ite (KPc.ite_no (fun h => nomatch h) ?_)
  refine wpAny_bind (wpAny_typeNameOf (T := "str") (typeIs_str _ _ _) (by decide) fun _ => ?_)
  refine wpAny_bind (wpAny_of_eq (a := some _) rfl ?_)
  refine wpAny_ite (KPc.ite_no (by decide +kernel) ?_)
  refine wpAny_ite (KPc.ite_no (by decide +kernel) ?_)
  refine wpAny_bind (wpAny_typeNameOfCut_int ?_)
  obtain ⟨f, hp, h1, h2, h3, h4, h5, h6, h7, h8⟩ := parse_b
  simp only [hp, h1, Option.getD_some]
  rw [if_pos (by decide +kernel)]
  show wpAny _ _ (if _ then _ else _) _ _ _
  rw [if_neg (by simp [h2])]
  show wpAny _ _ (if _ then _ else _) _ _ _
  rw [if_neg (by simp [h3])]
  show wpAny _ _ (if ((98 : Nat) == 99) = true then _ else _) _ _ _
  rw [if_neg (by decide)]
  show wpAny _ _ (if ((2 : Nat) == 10) = true then _ else _) _ _ _
  rw [if_neg (by decide)]
  show wpAny _ _ (if _ then _ else _) _ _ _
  rw [if_neg (by rw [h5]; decide)]
  rw [h4]
  rw [h0, hL, if_neg Bool.false_ne_true, if_neg (by decide)]
  have e : ∀ X : PySem.Str, X = T → wpAny (model prog w) A (retStr X) Q E s := fun X e => KXf.ret_text e (by rw [e]; exact hn) hR
  refine e _ ?_
  conv => lhs; whnf
  rw [← hT]
  simp only [h5, h6, h7, h8, hne, Bool.false_eq_true, if_false, List.length_nil, List.nil_append, List.append_nil, show ((62 : Nat) == 61) = false from rfl, show ((62 : Nat) == 60) = false from rfl, show ((62 : Nat) == 94) = false from rfl, Bool.and_false]
  simp
  generalize instDecidableEqBool (f.align == 60) true = d
  cases d <;> simp
theorem bin_digits (n : Nat) : ((Nat.toDigits 2 (n : Int).natAbs).map fun c => (if ((98 : Nat) == 88) = true then c.toUpper else c).toNat) = binL n := by
  unfold binL
  rw [Int.natAbs_natCast]
  refine List.map_congr_left fun c _ => ?_
  rw [if_neg (by decide)]
def tFmtB (te : TE) : TE := fun σ H Q => te σ H fun x H1 => ∃ n : Nat, x = .int (n : Nat) ∧ (binL n).length ≤ 1000 ∧ Q (.str (binText n)) H1
/-- f'{n:b}' -/
theorem pe_fmtB {X : Cx} {e : Expr} {te : TE} {k : Nat} {p1 p2 pos pos2 : Pos} (he : PE X e te) : PE X (.JoinedStr [.FormattedValue e (-1) (some (.JoinedStr [.Constant (.str (PySem.Str.ofString "b")) k p1] p2)) pos] pos2) (tFmtB te) := by
  refine pe_joined1 ⟨fun pins s σ H Q I h => ?_⟩
  refine wpAny_FormattedValue_spec (thn (he.run pins s σ H _ I h) fun v s1 hv => ?_)
  obtain ⟨x, H1, I1, r1, n, rfl, hl, q⟩ := hv
  obtain ⟨t, rfl⟩ := r1
  refine wpAny_JoinedStr_one (thn ((pe_str (X := X) (x := PySem.Str.ofString "b")).run pins s1 σ H1 (fun y H2 => y = .str (PySem.Str.ofString "b") ∧ H2 = H1) I1 ⟨rfl, rfl⟩) fun w s2 hw => ?_)
  obtain ⟨y, H2, I2, r2, rfl, rfl⟩ := hw
  obtain ⟨t2, rfl⟩ := r2
  refine ⟨_, t2, rfl, ?_⟩
  have hz : (binText n).length ≤ sizeLine := by show (binL n).toArray.size ≤ sizeLine; rw [List.size_toArray]; exact Nat.le_trans hl (by decide)
  exact KXf.field_int (spec' := ⟨#[98]⟩) (y := binText n) rfl (by decide) (by decide) (fun u => meets_b n (binL n) (binText n) t u (decide_eq_false (by omega)) (bin_digits n) (binL_ne n) rfl hz) (fun t' k => ⟨.str (binText n), _, I2.tok _, ⟨_, rfl⟩, q⟩)
end Bs

namespace Bs
open PySem PySem.Spec PyProof.Rows L2 HT
open Builtin Builtin.Str StrLaws
/-! ## text.count(one sign); the ones of f'{n:b}' -/
theorem occ_run (x : PySem.Str) (c limit : Nat) : ∀ (k lo : Nat) (A : Array Nat) (free : Nat), free ≤ lo → A.size + k ≤ limit → lo + k = x.length + 1 →
    (forIn (List.range' lo k) (A, free) (occBody x ⟨#[c]⟩ x.length limit)).run.fst.size = A.size + ((x.cps.toList.drop lo).filter (· == c)).length
  | 0, lo, A, free, _, _, h => by
    have : x.cps.toList.drop lo = [] := List.drop_eq_nil_of_le (by show x.cps.toList.length ≤ lo; simp only [PySem.Str.length] at h; simp; omega)
    rw [this]
    simp
  | k + 1, lo, A, free, hf, hl, h => by
    rw [List.range'_succ, List.forIn_cons]
    have hc := subAt_one x c lo
    have hd : ((x.cps.toList.drop lo).filter (· == c)).length = (if x.cps.toList[lo]? = some c then 1 else 0) + ((x.cps.toList.drop (lo + 1)).filter (· == c)).length := by
      by_cases hlt : lo < x.cps.toList.length
      · rw [List.drop_eq_getElem_cons hlt, List.getElem?_eq_getElem hlt]
        by_cases e : x.cps.toList[lo] = c
        · rw [List.filter_cons_of_pos (by simpa using e), if_pos (by rw [e])]
          simp; omega
        · rw [List.filter_cons_of_neg (by simpa using e), if_neg (by simpa using e)]
          simp
      · rw [List.drop_eq_nil_of_le (by omega), List.drop_eq_nil_of_le (by omega), List.getElem?_eq_none (by omega)]
        simp
    unfold occBody
    by_cases e : x.cps.toList[lo]? = some c
    · obtain ⟨h1, h2⟩ := hc.mpr e
      rw [if_pos ⟨⟨⟨by show A.size < limit; omega, hf⟩, h1⟩, h2⟩]
      have ih := occ_run x c limit k (lo + 1) (A.push lo) (lo + 1) (Nat.le_refl _) (by rw [Array.size_push]; omega) (by omega)
      rw [hd, if_pos e]
      refine Eq.trans ih ?_
      rw [Array.size_push]
      omega
    · rw [if_neg (fun q => e (hc.mp ⟨q.1.2, q.2⟩))]
      have ih := occ_run x c limit k (lo + 1) A free (by omega) (by omega) (by omega)
      rw [hd, if_neg e]
      refine Eq.trans ih ?_
      omega
theorem count_one (x : PySem.Str) (c : Nat) : (occurrences x ⟨#[c]⟩ 0 x.length (x.length + 1)).length = (x.cps.toList.filter (· == c)).length := by
  rw [occ_eq, Array.length_toList]
  have := occ_run x c (x.length + 1) (x.length + 1 - 0) 0 #[] 0 (Nat.le_refl _) (by simp) (by omega)
  rw [this]
  simp
/-- how many of the first m bits are set -/
def popF (m n : Nat) : Nat := ((List.range m).filter fun k => n.testBit k).length
theorem popF_succ (m n : Nat) : popF (m + 1) n = n % 2 + popF m (n / 2) := by
  unfold popF
  rw [List.range_succ_eq_map, List.filter_cons]
  have h : ((List.range m).map Nat.succ).filter (fun k => n.testBit k) = ((List.range m).filter fun k => (n / 2).testBit k).map Nat.succ := by
    rw [List.filter_map]
    congr 1
    refine List.filter_congr fun k _ => ?_
    show n.testBit (k + 1) = _
    rw [Nat.testBit_succ]
  rw [h]
  have h0 : n.testBit 0 = decide (n % 2 = 1) := Nat.testBit_zero n
  rw [h0]
  by_cases e : n % 2 = 1
  · rw [if_pos (decide_eq_true e)]
    simp
    omega
  · rw [if_neg (by simpa using e)]
    simp
    omega
theorem popF_zero (m : Nat) : popF m 0 = 0 := by
  unfold popF
  simp
def ones (l : List Char) : Nat := (l.filter fun c => c.toNat == 49).length
theorem ones_digit (n : Nat) (ds : List Char) : ones (Nat.digitChar (n % 2) :: ds) = n % 2 + ones ds := by
  unfold ones
  rcases Nat.mod_two_eq_zero_or_one n with e | e <;> rw [e] <;> simp [Nat.digitChar, List.filter_cons] <;> first | rfl | omega | skip
theorem core_ones : ∀ (fuel m n : Nat) (ds : List Char), n < 2 ^ m → n < fuel → 1 ≤ m → ones (Nat.toDigitsCore 2 fuel n ds) = ones ds + popF m n ∧ (Nat.toDigitsCore 2 fuel n ds).length ≤ ds.length + m
  | 0, _, _, _, _, h, _ => by omega
  | fuel + 1, m, n, ds, hm, hf, h1 => by
    obtain ⟨m, rfl⟩ : ∃ k, m = k + 1 := ⟨m - 1, by omega⟩
    unfold Nat.toDigitsCore
    by_cases h0 : n / 2 = 0
    · simp only [h0, if_true]
      rw [ones_digit, popF_succ, h0, popF_zero]
      refine ⟨by omega, ?_⟩
      rw [List.length_cons]
      omega
    · simp only [h0, if_false]
      have hm1 : 1 ≤ m := by
        cases m with
        | zero => exfalso; apply h0; have : n < 2 := by simpa using hm
                  omega
        | succ m => omega
      have ih := core_ones fuel m (n / 2) (Nat.digitChar (n % 2) :: ds) (by rw [Nat.pow_succ] at hm; omega) (by omega) hm1
      rw [ones_digit, List.length_cons] at ih
      rw [popF_succ]
      exact ⟨by omega, by omega⟩
theorem bin_ones {m n : Nat} (h : n < 2 ^ m) (h1 : 1 ≤ m) : ((binL n).filter (· == 49)).length = popF m n ∧ (binL n).length ≤ m := by
  obtain ⟨a, b⟩ := core_ones (n + 1) m n [] h (Nat.lt_succ_self _) h1
  refine ⟨?_, ?_⟩
  · unfold binL
    rw [List.filter_map, List.length_map]
    have : ones (Nat.toDigits 2 n) = popF m n := by
      show ones (Nat.toDigitsCore 2 (n + 1) n []) = _
      rw [a]; unfold ones; simp
    rw [← this]
    rfl
  · unfold binL
    rw [List.length_map]
    show (Nat.toDigitsCore 2 (n + 1) n []).length ≤ m
    simpa using b
end Bs

namespace Bs
open PySem PySem.Spec PyProof.Rows L2 HT
/-! ## {t: v}, t a tuple -/
section
variable {prog : Program} {w : World} {A : Around} {E : Value → Shared → Prop} {s : Shared} {κ : Type} [DecidableEq κ] {knd : HeapKind prog w κ}
theorem dict_oneH {env : Env} {keys : List (Option Expr)} {values : List Expr} {pos : Pos} {pairs : List (Sem Value × Sem Value)} {Q : Value → Shared → Prop} (hu : knd.room A)
    (hshape : (evalEachOpt keys env).zip ((evalEach values env).map fun v => do let x ← v; standAt pos; pure x) = pairs.map fun p => (some p.1, p.2)) (h0 : pairs ≠ []) (hlen : pairs.length ≤ 15)
    (h : wpAny (model prog w) A (evalPairs pairs) (fun vs s₁ => ∃ ps, CarriesH knd s₁.heap vs ps ∧ s₁.heap.DictOfH knd s.heap.objs.size [] ∧
      ∀ h' tk, h'.DictOfH knd s.heap.objs.size (storedAllH [] ps) → Heap.SameBut s.heap.objs.size s₁.heap h' → Q (.ref s.heap.objs.size) { s₁ with heap := h', toks := tk }) E
      { s with heap := s.heap.push { cls := .type "dict", data := .dict #[] } }) :
    wpAny (model prog w) A (eval (.Dict keys values pos) env) Q E s := by
  rw [arm_eval_Dict, hshape, dictDisplay_pairs pairs h0 (by omega)]
  exact wpAny_bind (wpAny_standAt (wpAny_bind (wpAny_subDictH (knd := knd) (Q := fun d s' => wpAny (model prog w) A (pure (Value.ref d)) Q E s') hu hlen
    (wpAny_mono h (fun vs s₁ h₁ => by obtain ⟨ps, hc, hm, hq⟩ := h₁; exact ⟨ps, hc, hm, fun h' tk a b => wpAny_pure (hq h' tk a b)⟩) fun _ _ e => e))))
end
/-- {t: v}; the new dict stands empty while t and v are made -/
def tDisp1T (tk tv : TE) : TE := fun σ H Q => ∀ p, H p = none → tk σ (upd H p (.dT [])) fun x H1 => tv σ H1 fun y H2 => ∃ (b : Addr) (k : List L2.Key), x = .ref b ∧ H2 b = some (.tup (k.map kV)) ∧ H2 p = some (.dT []) ∧ Q (.ref p) (upd H2 p (.dT [(k, y)]))
theorem pe_disp1T {X : Cx} {pos : Pos} {k v : Expr} {tk tv : TE} (hu : X.A.units + 1 < cLine) (hk : PE X k tk) (hv : PE X v tv) : PE X (.Dict [some k] [v] pos) (tDisp1T tk tv) := by
  refine ⟨fun pins s σ H Q I q => ?_⟩
  have hn := I.hok.fresh (Nat.le_refl s.heap.objs.size)
  have I1 := I.laid (a := s.heap.objs.size) (o := .dT []) (h' := s.heap.push { cls := .type "dict", data := .dict #[] }) (t' := s.toks) (fun _ _ q => Heap.get?_push_of_some _ q) (Nat.le_refl _) (dt_empty s.heap I.big)
  have hl := pairTrees_length [some k] [v] X.env pos rfl rfl
  refine dict_oneH (knd := tupleKind (mixKind X.prog X.w)) (pairs := pairTrees [some k] [v] X.env pos) (show X.A.units < cLine by omega) (zip_pairTrees _ _ _ _ rfl rfl) (fun e => by rw [e] at hl; cases hl) (by rw [hl]; exact (by decide : 1 ≤ 15)) ?_
  refine pairTrees_cons_walk (thn (hk.run pins _ σ _ _ I1 (q _ hn)) fun u s1 ⟨x, H1, I2, rx, q1⟩ => thn (hv.run pins s1 σ H1 _ I2 q1) fun w2 s2 ⟨y, H2, I3, ry, b, ks, ex, hb, hd, q2⟩ => pairTrees_nil_walk ?_)
  subst ex
  cases rx
  obtain ⟨z, hsys, xs, rel, dd⟩ := dt_of I3.hok hd
  cases rel
  refine ⟨[(ks, b, w2)], ⟨rfl, rfl, key_of I3.hok hb, trivial⟩, dd, fun h' tk' dd' hs => ⟨.ref s.heap.objs.size, _, ?_, rfl, q2⟩⟩
  have es : storedAllH [] [(ks, b, w2)] = [(ks, b, w2)] := rfl
  rw [es] at dd'
  obtain ⟨o, es2, ep, hq, h2, h3, h4, _, h5⟩ := dd'
  refine d_write I3 (by rw [hd]; exact True.intro) hs ⟨o, hq⟩ ⟨by rw [sizeLine_eq]; exact (by decide : 1 ≤ 16777216), hsys, [(ks, b, w2)], .cons ⟨rfl, ?_, ry⟩ .nil, o, es2, ep, hq, h2, h3, h4, h5⟩
  rw [upd_ne (ne_of hb hd (fun z => nomatch z))]
  exact hb
end Bs

/-! sorted(t), t a tuple of ints; x not in xs, xs a list of data; a &= b -/
namespace Bs
open PySem PySem.Spec L2 PyProof PyProof.Rows SrtO
section
variable {prog : Program} {w : World} {A : Around} {E : Value → Shared → Prop} {s : Shared}
/-- the items of a tuple, gathered in a new list -/
theorem gather_tup {p : Addr} {vs : List Value} {Q : List Value → Shared → Prop} {o : Obj} {n : Nat} (g : s.heap.get? p = some o) (hc : o.cls = .type "tuple") (hd : o.data = .seq vs.toArray n) (hz : vs.length ≤ sizeLine)
    (k : Q vs { s with heap := (s.heap.push (seqObj "list" #[] 0)).update s.heap.objs.size (Obj.mapSeq (· ++ vs.toArray)) }) : wpAny (model prog w) A (collect (.ref p)) Q E s := by
  have fresh : (s.heap.push (seqObj "list" #[] 0)).get? s.heap.objs.size = some (seqObj "list" #[] 0) := Heap.get?_push_size _ rfl
  have g2 : (s.heap.push (seqObj "list" #[] 0)).get? p = some o := Heap.get?_push_of_some _ g
  unfold collect
  refine wpAny_bind (wpAny_runValue (codeAny_builtin entry_proto_collect' ?_))
  show wpAny _ _ (do again (.builtin "list.__iadd__" ⟨[← newList [], .ref p], []⟩)) _ _ s
  refine wpAny_bind (wpAny_newList (wpAny_pure ⟨Code.quiet_builtin _ (by decide +kernel), codeAny_builtin entry_list_iadd' ?_⟩))
  show wpAny _ _ (Builtin.List.listExtendWith (.ref s.heap.objs.size) (.ref p) (.ref s.heap.objs.size)) _ _ { s with heap := s.heap.push (seqObj "list" #[] 0) }
  unfold Builtin.List.listExtendWith
  refine wpAny_bind (wpAny_typeOf (T := "tuple") ⟨o, g2, hc⟩ ?_)
  rw [if_pos (show (_ || Value.type "tuple" == Value.type "list" || Value.type "tuple" == Value.type "tuple") = true by
    rw [show (Value.type "tuple" == Value.type "tuple") = true from rfl, Bool.or_true])]
  refine wpAny_bind (listItems_at g2 hd (wpAny_bind (listItems_at (xs := #[]) (n := 0) fresh rfl ?_)))
  rw [if_neg (by simp)]
  refine wpAny_bind (listUpdate_at (xs := #[]) (n := 0) fresh rfl (wpAny_pure ?_) (Nat.zero_le _) (by show (#[] ++ vs.toArray).size ≤ sizeLine + 1; simp only [Array.size_append, List.size_toArray, List.length_nil]; omega))
  refine wpAny_bind (wpAny_load (get?_update_seq fresh _) ?_)
  show wpAny _ _ (pure ((#[] : Array Value) ++ vs.toArray).toList) Q E _
  rw [show ((#[] : Array Value) ++ vs.toArray).toList = vs by simp]
  exact wpAny_pure k
theorem sorted_tup {p : Addr} {vs : List Value} {ns : List Int} {Q : Value → Shared → Prop} {o : Obj} {n : Nat} (g : s.heap.get? p = some o) (hc : o.cls = .type "tuple") (hd : o.data = .seq vs.toArray n) (hz : vs.length ≤ sizeLine) (hi : IntsAre vs ns)
    (k : ∀ out : List Value, Srtd ltIv out → Stb ltIv out vs → Q (.ref (s.heap.objs.size + 1)) { s with heap := sortedAll s.heap vs out.toArray }) : wpAny (model prog w) A (call (.builtin "sorted") [.ref p]) Q E s := by
  refine Calls.call_function_entry kind_sorted plain_sorted entry_sorted (args_sorted1 _) ?_
  unfold Builtin.«sorted»
  refine wpAny_bind (m := checkCount "sorted" 1 1 _) (wpAny_pure (wpAny_bind (gather_tup g hc hd hz (wpAny_bind (wpAny_newList ?_ hz)))))
  generalize hT : (s.heap.push (seqObj "list" #[] 0)).update s.heap.objs.size (Obj.mapSeq (· ++ vs.toArray)) = T
  have sz : T.objs.size = s.heap.objs.size + 1 := by rw [← hT, Heap.size_update, size_push']
  have at1 : (T.push (seqObj "list" vs.toArray 0)).get? (s.heap.objs.size + 1) = some (seqObj "list" vs.toArray 0) := by rw [← sz]; exact Heap.get?_push_size _ rfl
  show wpAny _ _ _ _ _ { s with heap := T.push (seqObj "list" vs.toArray 0) }
  rw [sz]
  refine wpAny_bind (wpAny_holding (wpAny_call_entry slot_list_sort ⟨_, at1, rfl⟩ entry_list_sort (list_sort_ord swo_int at1 hz (fun h2 => ints_sortable hi h2) fun out h1 h2 => ⟨_, rfl, wpAny_pure ⟨_, rfl, ?_⟩⟩) (args_list_sort _)))
  have := k out h1 h2
  unfold sortedAll at this
  rw [hT] at this
  exact this
end
section
variable {X : Cx}
def rSortedIT : List V → Hp → VK → Prop := fun vs H Q => ∃ (a : Addr) (ns : List Int), vs = [V.ref a] ∧ H a = some (.tup (ns.map V.int)) ∧
  ∀ (ns' : List Int) (p : Addr), ns'.Perm ns → ns'.Pairwise (· ≤ ·) → H p = none → Q (.ref p) (upd H p (.lst (ns'.map V.int)))
theorem cr_sortedIT : CallR X (.builtin "sorted") rSortedIT := by
  intro pins s σ H vs us Q I r h
  obtain ⟨a, ns, rfl, ha, q⟩ := h
  obtain ⟨hz, its, rv, o, g, hc, n, hd⟩ := I.hok a _ ha
  rw [Vals.ref1 r]
  have hi := rv.ints
  refine sorted_tup (vs := its) g hc hd (by rw [← rv.length]; exact hz) hi fun out h1 h2 => ?_
  obtain ⟨k1, k2, k3⟩ := ints_out hi h1 h2
  obtain ⟨ep, he'⟩ := sortedAll_at s.heap its out.toArray
  have hlen : ((out.map iv).map V.int).length ≤ sizeLine := by
    rw [List.length_map, k2.length_eq, ← List.length_map (as := ns) (f := V.int)]
    exact hz
  exact ⟨.ref _, upd H (s.heap.objs.size + 1) (.lst ((out.map iv).map V.int)), I.laid (t' := s.toks) (fun _ _ => sortedAll_old) (Nat.le_succ _) ⟨hlen, out, ep, vals_of_ints k1, he'⟩, rfl, q _ _ k2 k3 (I.hok.fresh (Nat.le_succ _))⟩
/-- a thing that is in no place of a list of data -/
def rNotInL (K : PySem.W.Frag) : R2 := fun x y H Q => ∃ d ds, Dp K H x d ∧ Dp K H y (.list ds) ∧ SeqAt.shaped d = true ∧ SeqAt.shaped (.list ds) = true ∧ Q (.bl (!ds.any fun z => PyData.eqv z d)) H
theorem op_notInL (hu : X.A.units + 65 < cLine) : OpR X (compareOp .NotIn) (rNotInL X.K) := by
  intro pins s σ H x y v u Q I rx ry ⟨d, ds, hd, he, sd, sl, q⟩
  obtain ⟨as, r1⟩ := Dp.reads I d x v hd rx
  obtain ⟨bs, r2⟩ := Dp.reads I (.list ds) y u he ry
  exact SeqAt.notIn_list_reads r2 r1 (by have := SeqAt.canLay_of_shaped sl; exact this) (SeqAt.canLay_of_shaped sd) (room_in_shaped sd hu) ⟨.bl _, H, I, rfl, q⟩
theorem ip_and : PIp X .BitAnd (rI0 fun i j => .int (Builtin.bitAnd i j)) := fun pins s σ H x y v u Q I rx ry h => iop_and pins s σ H x y v u Q I rx ry h
end
end Bs

/-! set(t), t a tuple of ints -/
namespace Bs
open PySem PySem.Spec L2 PyProof.Rows
section
variable {X : Cx}
def rSetTI (w : World) : List V → Hp → VK → Prop := fun vs H Q => ∃ (l : Addr) (ns : List Int), vs = [V.ref l] ∧ H l = some (.tup (ns.map V.int)) ∧ ns.length < 60 ∧
  ∀ (a : Addr) (c : Nat), H a = none → c ≤ ns.length → Q (.ref a) (upd H a (SetO w a (fun j => decide (j ∈ ns)) c))
theorem cr_setTI (hc : X.calm = true) : CallR X (.type "set") (rSetTI X.w) := by
  intro pins s σ H xs us Q I r h
  obtain ⟨l, ns, rfl, hl, hf, q⟩ := h
  rw [Vals.ref1 r]
  obtain ⟨hz, its, rv, o, g, hcl, n, hd⟩ := I.hok l _ hl
  have hn : H s.heap.objs.size = none := I.hok.fresh (Nat.le_refl _)
  refine call_set_tupI (P := X.prog) (w := X.w) ns (I.ok.hd hc) ⟨o, g, hcl, n, hd⟩ (by simpa using rv.ints) (Nat.lt_trans (show ns.length + 1 < 62 by omega) (by unfold scanBound; decide)) fun h' tk c R hle k => ?_
  exact ⟨.ref s.heap.objs.size, upd H s.heap.objs.size (SetO X.w s.heap.objs.size (fun j => decide (j ∈ ns)) c), I.laid (t' := tk) k (Nat.le_refl _) (setO_new R), rfl, q _ c hn hle⟩
end
end Bs

/-! set(xs), xs a list of ints -/
namespace Bs
open PySem PySem.Spec PyProof.Rows L2
/-- a set, just made -/
abbrev newS (w : World) : Obj := { cls := .type "set", dict := none, data := .set #[] 0 (.fresh 0 0 (!w.params.followText "set-order")) }
section
variable {P : Program} {w : World} {A : Around} {E : Value → Shared → Prop} {s : Shared}
/-- what the filling of a new set by a list of ints leaves -/
def Filled (w : World) (s : Shared) (ns : List Int) (r : Value) (s2 : Shared) : Prop :=
  r = .none ∧ ∃ h' tk c, s2 = { s with heap := h', toks := tk } ∧ SetR w h' s.heap.objs.size (fun j => decide (j ∈ ns)) c ∧ c ≤ ns.length ∧ ∀ b o, s.heap.get? b = some o → h'.get? b = some o
theorem at_ints {us : Array Value} {ns : List Int} (hi : IntsAre us.toList ns) (i : Nat) (v : Value) (hv : us[i]? = some v) : ∃ k t, ns[i]? = some k ∧ v = .int k t := by
  obtain ⟨hlt, _⟩ := Array.getElem?_eq_some_iff.mp hv
  have hn : us.size = ns.length := by have := IntsAre.length hi; rwa [Array.length_toList] at this
  obtain ⟨t, e⟩ := IntsAre.int_at hi i v (by rw [Array.getElem?_toList]; exact hv)
  have hi2 : i < ns.length := by omega
  exact ⟨ns[i], t, List.getElem?_eq_getElem hi2, by rw [e, List.getD_eq_getElem?_getD, List.getElem?_eq_getElem hi2]; rfl⟩
theorem fill_list {l : Addr} {us : Array Value} (ns : List Int) (hh : A.handled = none) (hl : s.heap.IsList l us) (hi : IntsAre us.toList ns) (hb : ns.length + 1 < scanBound) :
    codeAny (model P w) A (.call (.builtin "set.__init__") ⟨[.ref s.heap.objs.size, .ref l], []⟩) (wants (Filled w s ns) E) { s with heap := s.heap.push (newS w) } := by
  have hn : us.size = ns.length := by have := IntsAre.length hi; rwa [Array.length_toList] at this
  have at0 : (s.heap.push (newS w)).get? s.heap.objs.size = some (newS w) := Heap.get?_push_size _ rfl
  obtain ⟨o, ho, oc, on, od⟩ := id hl
  have lt0 := Heap.lt_size ho
  have l1 : (s.heap.push (newS w)).IsList l us := hl.push _
  have n1 : (s.heap.push (newS w)).objs.size = s.heap.objs.size + 1 := Heap.size_push ..
  refine codeAny_call_builtin F.called_set.init.plain F.entry_set_init (check_set_init_1 (⟨_, at0, rfl⟩ : Shared.TypeIs { s with heap := s.heap.push (newS w) } (.ref s.heap.objs.size) "set") ?_)
  obtain ⟨o1, ho1, oc1, on1, od1⟩ := id l1
  obtain ⟨c1, dd1, dt1, sl1⟩ := o1
  simp only at oc1 od1
  subst oc1 od1
  have f1 := F.sub_list_set
  have f2 := F.sub_list_frozenset
  have f3 : (Value.type "list" == Value.type "dict") = false := by decide
  unfold Builtin.«set.__init__» noKeywords Builtin.Frozenset.updateFrom
  generalize hit : pyIter = iter
  wp_walk
  subst hit
  refine wpAny_pyIter_list l1 (wpAny_bind (wpAny_runValue ?_))
  have ne1 : l ≠ (s.heap.push (newS w)).objs.size := Nat.ne_of_lt (by rw [n1]; exact Nat.lt_succ_of_lt lt0)
  have out : s.heap.objs.size ∉ [(s.heap.push (newS w)).objs.size, l] := by
    rw [n1]
    intro h
    rcases List.mem_cons.mp h with h | h
    · exact Nat.ne_of_lt (Nat.lt_succ_self _) h
    · exact Nat.ne_of_lt lt0 (List.mem_singleton.mp h).symm
  have at2 : ((s.heap.push (newS w)).push ⟨.type "list_iterator", none, .fields #[.ref l, .int 0 0], #[]⟩).get? s.heap.objs.size = some (newS w) := Heap.get?_push_of_some _ at0
  have W := (Walks.list (prog := P) (w := w) (A := A.in1.in1) (by simp [hh]) (s.heap.push (newS w)).objs.size l ne1 us).toS
  refine set_update_ints W s.heap.objs.size out ns hn hb (at_ints hi) (us.size - 0) 0 _ (by omega) (Nat.zero_le _) ?_ ?_ fun s' c hm hc hS => ?_
  · exact ⟨⟨_, Heap.get?_push_size _ rfl, rfl, rfl⟩, l1.push _⟩
  · exact ⟨0, Nat.le_refl 0, setR_new_at at2⟩
  obtain ⟨h2, g2, d2, t2, os2⟩ := s'
  have q1 : g2 = s.gens := hm.gens
  have q2 : d2 = s.drawn := hm.drawn
  have q3 : os2 = s.os := hm.os
  subst q1 q2 q3
  show wpAny _ _ _ _ _ _
  refine wpAny_pure ?_
  show wpAny _ _ (ret Value.none) _ _ _
  refine wpAny_pure ⟨rfl, h2, t2, c, rfl, hS, by omega, fun b ob e => hm.heap b ob ?_ (Heap.get?_push_of_some _ (Heap.get?_push_of_some _ e))⟩
  have lb := Heap.lt_size e
  intro h
  rcases List.mem_cons.mp h with h | h
  · exact Nat.ne_of_lt lb h
  · rw [List.mem_singleton.mp h, n1] at lb
    exact absurd lb (Nat.not_lt.mpr (Nat.le_succ _))
theorem setOfList {l : Addr} {us : Array Value} (ns : List Int) {Q : Value → Shared → Prop} (hh : A.handled = none) (hl : s.heap.IsList l us) (hi : IntsAre us.toList ns) (hb : ns.length + 1 < scanBound)
    (q : ∀ h' tk c, SetR w h' s.heap.objs.size (fun j => decide (j ∈ ns)) c → c ≤ ns.length → (∀ b o, s.heap.get? b = some o → h'.get? b = some o) → Q (.ref s.heap.objs.size) { s with heap := h', toks := tk }) :
    wpAny (model P w) A (call (.type "set") [.ref l]) Q E s := by
  have k := F.called_set
  obtain ⟨mc, mt, hmro⟩ := k.mro
  have k1 := k.made
  have k2 := k.sub
  have k3 := k.notType
  have k4 := k.canCreate
  have k5 := F.typeCall_set_1 (.ref l)
  have k6 := k.init.lookup
  have k7 := k.init.bind (.ref s.heap.objs.size)
  refine wpAny_call (codeAny_of_tree ?_)
  show wpAny _ _ (callAny (.type "set") _) _ _ _
  refine wpAny_pure ⟨Code.quiet_builtin _ (by decide +kernel), codeAny_builtin F.entry_type_call ?_⟩
  rw [Around.under_plain (weight_type_call_type "set" [.ref l] []) rfl]
  repeat (any_goals (first | assumption | wp_step))
  refine codeAny_mono (code_set_led1 (.ref l) (E := E) (Q₁ := fun v s1 => v = .ref s.heap.objs.size ∧ s1 = { s with heap := s.heap.push (newS w) }) ⟨rfl, rfl⟩) fun r s1 hr => ?_
  match r, hr with
  | .error e, hr => exact hr
  | .ok (.ret v), hr =>
    obtain ⟨rfl, rfl⟩ := hr
    have at0 : (s.heap.push (newS w)).get? s.heap.objs.size = some (newS w) := Heap.get?_push_size _ rfl
    have hT : Shared.TypeIs { s with heap := s.heap.push (newS w) } (.ref s.heap.objs.size) "set" := ⟨_, at0, rfl⟩
    repeat (any_goals (first | assumption | wp_step))
    refine codeAny_mono (fill_list (E := E) ns (by simp [hh]) hl hi hb) fun r2 s2 h2 => ?_
    match r2, h2 with
    | .error e, h2 => exact h2
    | .ok (.ret x), h2 =>
      obtain ⟨rfl, h', tk, c, rfl, a1, a2, a3⟩ := h2
      repeat (any_goals (first | assumption | wp_step))
      exact q _ _ _ a1 a2 a3
    | .ok .next, h2 => exact h2.elim
    | .ok .brk, h2 => exact h2.elim
    | .ok .cont, h2 => exact h2.elim
  | .ok .next, hr => exact hr.elim
  | .ok .brk, hr => exact hr.elim
  | .ok .cont, hr => exact hr.elim
end
section
variable {X : Cx}
def rSetL (w : World) : List V → Hp → VK → Prop := fun vs H Q => ∃ (l : Addr) (ns : List Int), vs = [V.ref l] ∧ H l = some (.lst (ns.map V.int)) ∧ ns.length < 60 ∧
  ∀ (a : Addr) (c : Nat), H a = none → c ≤ ns.length → Q (.ref a) (upd H a (SetO w a (fun j => decide (j ∈ ns)) c))
theorem cr_setL (hc : X.calm = true) : CallR X (.type "set") (rSetL X.w) := by
  intro pins s σ H xs us Q I r h
  obtain ⟨l, ns, rfl, hl, hf, q⟩ := h
  rw [Vals.ref1 r]
  have hn : H s.heap.objs.size = none := I.hok.fresh (Nat.le_refl _)
  obtain ⟨its, rv, pl, hz⟩ := I.list (SqL.of hl)
  refine setOfList (P := X.prog) (w := X.w) ns (I.ok.hd hc) pl.isList (by simpa using rv.ints) (Nat.lt_trans (show ns.length + 1 < 62 by omega) (by unfold scanBound; decide)) fun h' tk c R hle k => ?_
  exact ⟨.ref s.heap.objs.size, upd H s.heap.objs.size (SetO X.w s.heap.objs.size (fun j => decide (j ∈ ns)) c), I.laid (t' := tk) k (Nat.le_refl _) (setO_new R), rfl, q _ c hn hle⟩
end
end Bs

namespace Bs
open PySem PySem.Spec PyProof.Rows L2 HT
/-! ## sorted(xs), tuples of ints of any length, the empty one anywhere -/
section
variable {prog : Program} {w : World} {A : Around} {E : Value → Shared → Prop} {s : Shared}
theorem ltg_it {v u : Value} {ns ms : List Int} {Q : Bool → Shared → Prop} (hu : A.units < cLine) (hv : IsIt s.heap v ns) (hw : IsIt s.heap u ms) (h : Q (HT.lexLt ns ms) s) : wpAny (model prog w) A (keyLt' general' v u) Q E s := by
  obtain ⟨a, ⟨c1, dd, d1, sl⟩, items, n, rfl, ga, ca, da, ia⟩ := hv
  obtain ⟨b, ⟨c2, dd2, d2, sl2⟩, items2, n2, rfl, gb, cb, db, ib⟩ := hw
  show wpAny _ _ (oneLt' false (.ref a) (.ref b)) _ _ _
  rw [oneLt'_eq]
  simp only [Bool.false_eq_true, if_false]
  simp only at ca da cb db
  subst ca da cb db
  exact wpAny_bind (show wpAny (model prog w) A (richCompare .Lt (.ref a) (.ref b)) _ E s from HT.lt_tupInts (items := items) (items2 := items2) ⟨_, ga, rfl, n, rfl⟩ ⟨_, gb, rfl, n2, rfl⟩ ia ib hu (wpAny_truthy_bool h))
theorem firsts_gen {M : Model} : ∀ (vs : List Value) {Q : List (Option Value) → Shared → Prop}, (∀ v ∈ vs, ∃ ns, IsIt s.heap v ns) → (∃ v ∈ vs, IsIt s.heap v []) → (∀ l, (l.all fun x => x.isSome) = false → Q l s) → wpAny M A (vs.mapM firstOfTuple') Q E s
  | [], Q, _, h0, h => by obtain ⟨v, hv, _⟩ := h0; cases hv
  | v :: vs, Q, hv, h0, h => by
    obtain ⟨ns, ⟨a, o, items, n, rfl, g, c, d, i⟩⟩ := hv v List.mem_cons_self
    rw [List.mapM_cons]
    refine wpAny_bind ?_
    rw [PySem.W.kas_first_eq]
    refine wpAny_bind (PySem.W.Looks.here (show PySem.W.Looks M s.heap (typeOf (.ref a)) o.cls from (PySem.W.Looks.ld g).andThen .now) ?_)
    rw [c, if_neg (by first | decide | simp)]
    refine wpAny_bind (listItems_at g d (wpAny_pure ?_))
    by_cases he : items[0]? = none
    · rw [he]
      exact wpAny_bind (firsts_it vs (fun u hu => hv u (List.mem_cons_of_mem _ hu)) fun l => wpAny_pure (h _ (by simp)))
    · refine wpAny_bind (firsts_gen vs (fun u hu => hv u (List.mem_cons_of_mem _ hu)) ?_ fun l hl => wpAny_pure (h _ (by rw [List.all_cons, hl, Bool.and_false])))
      obtain ⟨v0, hm, h3⟩ := h0
      rcases List.mem_cons.mp hm with e | hm
      · subst e
        obtain ⟨a', o', items', n', e', g', c', d', i'⟩ := h3
        cases e'
        rw [g] at g'
        cases g'
        rw [d] at d'
        cases d'
        refine absurd ?_ he
        cases hl : items.toList with
        | nil => simp [Array.toList_eq_nil_iff.mp hl]
        | cons x r => rw [hl] at i'; cases i'
      · exact ⟨v0, hm, h3⟩
theorem kind_any {v : Value} {vs : List Value} {Q : SortKind → Shared → Prop} (hv : ∀ u ∈ v :: vs, ∃ ns, IsIt s.heap u ns) (h0 : ∃ u ∈ v :: vs, IsIt s.heap u []) (h : ¬ IsIt s.heap v [] → Q general' s) (h2 : IsIt s.heap v [] → Q oneType' s) {M : Model} : wpAny M A (keyKind' (v :: vs).toArray) Q E s := by
  by_cases hc : IsIt s.heap v []
  · exact kind_one hc (fun u hu => hv u (List.mem_cons_of_mem _ hu)) (h2 hc)
  obtain ⟨ns, hns⟩ := hv v List.mem_cons_self
  obtain ⟨a, o, items, n, rfl, g, c, d, i⟩ := id hns
  rw [kat_kind_eq, List.mapM_toArray, map_eq_pure_bind]
  rw [List.mapM_cons]
  refine wpAny_bind (wpAny_bind (wpAny_bind ?_))
  rw [PySem.W.kas_first_eq]
  refine wpAny_bind (PySem.W.Looks.here (show PySem.W.Looks M s.heap (typeOf (.ref a)) o.cls from (PySem.W.Looks.ld g).andThen .now) ?_)
  rw [c, if_neg (by first | decide | simp)]
  refine wpAny_bind (listItems_at g d (wpAny_pure ?_))
  obtain ⟨x, ex⟩ : ∃ x, items[0]? = some x := by
    cases hl : items.toList with
    | nil =>
      rw [hl] at i
      cases i
      exact absurd ⟨a, o, items, n, rfl, g, c, d, by rw [hl]; exact .nil⟩ hc
    | cons x r =>
      refine ⟨x, ?_⟩
      rw [← Array.getElem?_toList, hl]; rfl
  rw [ex]
  have h0' : ∃ u ∈ vs, IsIt s.heap u [] := by
    obtain ⟨u, hu, h3⟩ := h0
    rcases List.mem_cons.mp hu with e | hu
    · subst e; exact absurd h3 hc
    · exact ⟨u, hu, h3⟩
  refine wpAny_bind (firsts_gen vs (fun u hu => hv u (List.mem_cons_of_mem _ hu)) h0' fun l hl => wpAny_pure (wpAny_pure ?_))
  have hall : ((some x :: l : List (Option Value)).toArray.all fun x => x.isSome) = false := by
    rw [List.all_toArray, List.all_cons, hl, Bool.and_false]
  rw [hall, if_neg (by simp)]
  have hb : (((some x :: l : List (Option Value)).toArray[0]?.bind id).isSome) = true := by simp
  rw [hb, if_pos rfl]
  exact wpAny_pure (h hc)
theorem it_sortable_any {a : Addr} {vs : List Value} {k : Value → List Int} (h2 : 2 ≤ vs.length) (hu : A.units < cLine) (hv : ∀ v ∈ vs, IsIt s.heap v (k v)) (ha : ∀ v ∈ vs, v ≠ .ref a) :
    SrtO.SortableO prog w A s a vs fun v u => HT.lexLt (k v) (k u) := by
  by_cases hk : ∀ v ∈ vs, k v ≠ []
  · exact it_sortable h2 hu hv ha (.inl hk)
  have hk : ∃ v ∈ vs, k v = [] := Classical.byContradiction fun hn => hk fun v hm e => hn ⟨v, hm, e⟩
  intro h' keep
  have hv' : ∀ v ∈ vs, IsIt h' v (k v) := fun v hm => (hv v hm).keeps fun b o e g => keep b o (fun z => ha v hm (by rw [e, z])) g
  cases vs with
  | nil => cases h2
  | cons v0 r =>
  obtain ⟨v1, hm1, e1⟩ := hk
  by_cases hc : IsIt h' v0 []
  · refine ⟨oneType', fun Q E hq => ?_, fun p q hp hq => lt_it (Q := fun r s' => s' = { s with heap := h' } ∧ r = HT.lexLt (k p.1) (k q.1)) (E := fun _ _ => False) hu (hv' p.1 hp) (hv' q.1 hq) ⟨rfl, rfl⟩⟩
    exact kind_one (s := { s with heap := h' }) hc (fun u hm => ⟨_, hv' u (List.mem_cons_of_mem _ hm)⟩) hq
  · refine ⟨general', fun Q E hq => ?_, fun p q hp hq => ltg_it (s := { s with heap := h' }) (Q := fun r s' => s' = { s with heap := h' } ∧ r = HT.lexLt (k p.1) (k q.1)) (E := fun _ _ => False) hu (hv' p.1 hp) (hv' q.1 hq) ⟨rfl, rfl⟩⟩
    refine kind_any (s := { s with heap := h' }) (fun u hm => ⟨_, hv' u hm⟩) ⟨v1, hm1, ?_⟩ (fun _ => hq) fun h => absurd h hc
    have := hv' v1 hm1
    rw [e1] at this
    exact this
end
/-- sorted(xs), tuples of ints: any of them empty -/
def rSortedAny (K : PySem.W.Frag) : List V → Hp → VK → Prop := fun vs H Q => ∃ (a : Addr) (xs : List V) (k : V → List Int), vs = [V.ref a] ∧ SqL K H a xs ∧ (∀ x ∈ xs, ∃ t, x = V.ref t ∧ H t = some (.tup ((k x).map V.int))) ∧
  ∀ ys p, ys.Perm xs → ys.Pairwise (fun x y => HT.lexLt (k y) (k x) = false) → H p = none → Q (.ref p) (upd H p (.lst ys))
theorem cr_sortedAny {X : Cx} (hu : X.A.units + 64 < cLine) : CallR X (.builtin "sorted") (rSortedAny X.K) := by
  intro pins s σ H vs us Q I r h
  obtain ⟨a, xs, k, rfl, hs, hx, q⟩ := h
  obtain ⟨its, rv, hl, hz⟩ := I.list hs
  obtain ⟨u, rfl, ru⟩ := vals1 r
  obtain rfl : u = Value.ref a := ru
  obtain ⟨e1, e2⟩ := refs_back rv fun x m => by
    obtain ⟨t, e, _⟩ := hx x m
    exact ⟨t, e⟩
  have hp : ∀ v ∈ its, IsIt s.heap v (k (backV v)) := fun v hv => by
    obtain ⟨t, rfl⟩ := e2 v hv
    have hm : V.ref t ∈ xs := by rw [e1]; exact List.mem_map.mpr ⟨_, hv, rfl⟩
    obtain ⟨t', e, ht⟩ := hx _ hm
    cases e
    obtain ⟨_, its2, r2, o, ho, hc, n, hd⟩ := I.hok _ _ ht
    exact ⟨t, o, its2.toArray, n, rfl, ho, hc, hd, intsAre_of r2⟩
  refine SrtO.sorted_ord (NtL.swo_lexL fun u => k (backV u)) hl.isList (by rw [← rv.length]; exact hz) (fun h2 h₁ a' ha' keep => it_sortable_any (s := { s with heap := h₁ }) h2 (by show X.A.units + 1 + 1 < cLine; omega) (fun v hv => (hp v hv).keeps fun b o _ g => (keep b o g).2) (fun v hv => ?_)) fun out h1 h2 => ?_
  · obtain ⟨t, o, _, _, rfl, g, c, _, _⟩ := hp v hv
    exact fun e => (keep t o g).1 (Value.ref.inj e)
  · have h3 : ∀ u ∈ out, ∃ a, u = Value.ref a := fun u hu => e2 u (h2.perm.mem_iff.mp hu)
    obtain ⟨ep, he'⟩ := PyProof.Rows.sortedAll_at s.heap its out.toArray
    have hb : (out.map backV).Perm xs := by rw [e1]; exact h2.perm.map backV
    refine ⟨.ref _, upd H (s.heap.objs.size + 1) (.lst (out.map backV)), I.laid (t' := s.toks) (fun _ _ => PyProof.Rows.sortedAll_old) (Nat.le_succ _) ⟨?_, out, ep, vals_back h3, he'⟩, rfl, q _ _ hb ?_ (I.hok.fresh (Nat.le_succ _))⟩
    · rw [hb.length_eq]
      exact hz
    · exact List.pairwise_map.mpr h1
end Bs

namespace Bs
open PySem PySem.Spec PyProof.Rows L2
/-! ## sorted(a set of tuples of ints), the tuples of any length -/
/-- the row of a set's tuple -/
def rowAt (L : List (Addr × List Int)) : Value → Addr × List Int
  | .ref b => (L.find? fun q => q.1 == b).getD (0, [])
  | _ => (0, [])
theorem rowAt_of {L : List (Addr × List Int)} (one : ∀ q ∈ L, ∀ r ∈ L, q.1 = r.1 → q = r) {q : Addr × List Int} (hq : q ∈ L) : rowAt L (.ref q.1) = q := by
  cases c : L.find? fun r => r.1 == q.1 with
  | none => exact absurd (List.find?_eq_none.mp c q hq) (by simp)
  | some r =>
    show (List.find? (fun r => r.1 == q.1) L).getD (0, []) = q
    rw [c]
    exact one r (List.mem_of_find?_eq_some c) q hq (beq_iff_eq.mp (List.find?_some (p := fun r : Addr × List Int => r.1 == q.1) c))
section
variable {P : Program} {w : World} {A : Around} {E : Value → Shared → Prop} {s : Shared}
theorem isIt_of {h : Heap} {k : List Int} {b : Addr} (x : IsT P w h k b) : IsIt h (.ref b) k := by
  obtain ⟨b', items, e, ⟨o, ho, hc, n, hd⟩, hi⟩ := tupInts_of x
  exact ⟨b', o, items, n, e, ho, hc, hd, hi⟩
theorem sorted_setAny {a : Addr} {L : List (Addr × List Int)} {es : Array (Int × Value)} {ep : Nat} {t : SetTable} {Q : Value → Shared → Prop} (R : SetTR P w s.heap a L es ep t) (hh : A.handled = none) (hu : A.units + 2 < cLine)
    (hQ : ∀ s' p (out : Array Value) (c : Nat) (L' : List (Addr × List Int)), (∀ b o, s.heap.get? b = some o → s'.heap.get? b = some o) → s'.gens = s.gens → s'.os = s.os → s.heap.objs.size ≤ p →
      s'.heap.get? p = some (seqObj "list" out c) → out.toList = L'.map (fun q => Value.ref q.1) → L'.Perm L → L'.Pairwise (fun q r => HT.lexLt r.2 q.2 = false) → Q (.ref p) s') :
    wpAny (model P w) A (call (.builtin "sorted") [.ref a]) Q E s := by
  have one : ∀ q ∈ L, ∀ r ∈ L, q.1 = r.1 → q = r := fun q hq r hr e => Prod.ext e ((e ▸ R.tup q hq : IsT P w s.heap q.2 r.1).inj (R.tup r hr))
  have row : ∀ q ∈ L, rowAt L (.ref q.1) = q := fun q hq => rowAt_of one hq
  have hes : es.toList.map (·.2) = L.map fun q => Value.ref q.1 := by rw [R.rows]; simp [rowsOf, Function.comp_def]
  obtain ⟨o, ho, hex, hd⟩ := R.ob
  refine Calls.call_function_entry kind_sorted plain_sorted entry_sorted (args_sorted1 _) ?_
  unfold Builtin.«sorted»
  refine wpAny_bind (m := checkCount "sorted" 1 1 _) (wpAny_pure ?_)
  refine wpAny_bind (collect_set (A := A.in1) hh ⟨o, ho, hex.1, hd⟩ R.fits (by have := R.size; have := R.few; unfold scanBound; omega) R.tab.ris R.led fun s1 vs k1 hz g1 o1 pm => ?_)
  rw [hes] at pm
  have mem : ∀ v ∈ vs, ∃ q ∈ L, Value.ref q.1 = v := fun v hv => List.mem_map.mp (pm.mem_iff.mp hv)
  have few : vs.length ≤ sizeLine := by
    rw [pm.length_eq, List.length_map]
    exact Nat.le_trans (Nat.le_of_lt R.few) (by decide)
  refine wpAny_bind (wpAny_newList ?_ few)
  generalize hp : s1.heap.objs.size = p
  generalize hH : s1.heap.push (seqObj "list" vs.toArray 0) = HP
  have hoL : HP.get? p = some (seqObj "list" vs.toArray 0) := by rw [← hH, ← hp]; exact Heap.get?_push_size _ rfl
  have kP : ∀ b u, s.heap.get? b = some u → HP.get? b = some u := fun b u e => by rw [← hH]; exact Heap.get?_push_of_some _ (k1 b u e)
  have itP : ∀ v ∈ vs, IsIt HP v (rowAt L v).2 := fun v hv => by
    obtain ⟨q, hq, rfl⟩ := mem v hv
    rw [row q hq]
    exact isIt_of (isT_keep (R.tup q hq) kP)
  refine wpAny_bind (wpAny_holding (wpAny_call_entry slot_list_sort ⟨_, hoL, rfl⟩ entry_list_sort (SrtO.list_sort_ord (s := { s1 with heap := HP }) (NtL.swo_lexL fun u => (rowAt L u).2) hoL few (fun h2 => it_sortable_any (s := { s1 with heap := HP }) h2 ?_ itP fun v hv => ?_) fun out h1 h2 => ⟨_, rfl, ?_⟩) (args_list_sort _)))
  · show A.units + 1 + 1 < cLine
    omega
  · obtain ⟨q, hq, rfl⟩ := mem v hv
    obtain ⟨o', _, _, ho', _⟩ := R.tup q hq
    intro e
    injection e with e
    have hl : q.1 < p := by rw [← hp]; exact Heap.lt_size (k1 _ _ ho')
    exact absurd e (Nat.ne_of_lt hl)
  · have sub : ∀ v ∈ out, ∃ q ∈ L, Value.ref q.1 = v := fun v hv => mem v (h2.perm.mem_iff.mp hv)
    have e' : out = (out.map (rowAt L)).map fun q => Value.ref q.1 := by
      rw [List.map_map]
      refine (List.map_id out).symm.trans (List.map_congr_left fun v hv => ?_)
      obtain ⟨q, hq, rfl⟩ := sub v hv
      show Value.ref q.1 = Value.ref (rowAt L (.ref q.1)).1
      rw [row q hq]
    have pL : (out.map (rowAt L)).Perm L := by
      refine ((h2.perm.trans pm).map (rowAt L)).trans ?_
      rw [List.map_map]
      have : L.map ((rowAt L) ∘ fun q => Value.ref q.1) = L := (List.map_congr_left fun q hq => row q hq).trans (List.map_id L)
      rw [this]
    obtain ⟨c, hc⟩ := sortedHeap_at (vs := vs) (out := out.toArray) hoL
    refine wpAny_pure ⟨_, rfl, hQ _ p out.toArray c (out.map (rowAt L)) (fun b u e => ?_) g1 o1 (by omega) hc (by simpa using e') pL (List.pairwise_map.mpr h1)⟩
    have hlt : b < p := by rw [← hp]; exact Heap.lt_size (k1 b u e)
    show (sortedHeap HP p vs out.toArray).get? b = some u
    rw [sortedHeap_old (Nat.ne_of_lt hlt) (by rw [← hH, size_push', hp]; exact Nat.lt_succ_of_lt hlt)]
    exact kP b u e
end
/-- sorted(set): the tuples of ints of any length -/
def rSortedSetAny (K : PySem.W.Frag) (P : Program) (w : World) : List V → Hp → VK → Prop := fun vs H Q => ∃ (a : Addr) (L : List (Addr × List Int)), vs = [V.ref a] ∧ H a = some (SetTO P w a L) ∧ (∀ p ∈ L, SqT K H p.1 (p.2.map V.int)) ∧
  ∀ (L' : List (Addr × List Int)) (p : Addr), L'.Perm L → (L'.map (·.2)).Nodup → L'.length < 64 → L'.Pairwise (fun q r => HT.lexLt r.2 q.2 = false) → H p = none → Q (.ref p) (upd H p (.lst (L'.map fun q => V.ref q.1)))
theorem cr_sortedSetAny {X : Cx} (hc : X.calm = true) (hu : X.A.units + 64 < cLine) : CallR X (.builtin "sorted") (rSortedSetAny X.K X.prog X.w) := by
  intro pins s σ H vs us Q I r h
  obtain ⟨a, L, rfl, ha, hk, q⟩ := h
  obtain ⟨es, ep, t, R⟩ := (show SetT0 X.prog X.w s.heap a L from (I.hok a _ ha).1).full fun p hp => I.isT (hk p hp)
  rw [Vals.ref1 r]
  refine sorted_setAny R (I.ok.hd hc) (by omega) fun s' p out c L' k g o hp hg hout pm pw => ?_
  have few : L'.length < 64 := by rw [pm.length_eq]; exact R.few
  have hn : H p = none := I.hok.fresh hp
  obtain ⟨hp', gs, dr, tk, os⟩ := s'
  obtain rfl : gs = s.gens := g
  obtain rfl : os = s.os := o
  refine ⟨.ref p, upd H p (.lst (L'.map fun q => V.ref q.1)), I.call (ch := []) (Un.laid k hp hn) (I.hok.laid k hp ⟨Nat.le_trans (Nat.le_of_lt (by rw [List.length_map]; exact few)) (by decide), out.toList, c, by rw [hout]; exact vals_of_refs L', hg⟩) I.bare (fun _ z => nomatch z), rfl, q L' p pm ((pm.map (·.2)).nodup_iff.mpr R.nd) few pw hn⟩
end Bs

namespace Bs
open PySem PySem.Spec PyProof.Rows L2
/-! ## set(t), t a tuple of tuples of ints -/
theorem noneIn {h : Heap} {b : Addr} (hb : h.objs.size ≤ b) : h.get? b = none := Option.eq_none_iff_forall_ne_some.mpr fun o q => Nat.lt_irrefl _ (Nat.lt_of_lt_of_le (Heap.lt_size q) hb)
/-- a set as it is made -/
abbrev nuSet (w : World) : Obj := { cls := .type "set", dict := none, data := .set #[] 0 (.fresh 0 0 (!w.params.followText "set-order")) }
section
variable {P : Program} {w : World} {A : Around} {E : Value → Shared → Prop} {s : Shared}
set_option maxRecDepth 100000 in
set_option maxHeartbeats 3200000 in
theorem set_tupTups {l : Addr} {its : Array Value} (ks : List (Addr × List Int)) {Q : Value → Shared → Prop} (hh : A.handled = none) (hl : s.heap.IsTuple l its) (hit : its.toList = ks.map fun p => Value.ref p.1)
    (hk : ∀ p ∈ ks, IsT P w s.heap p.2 p.1) (few : ks.length < 64) (hu : A.units + 3 < cLine)
    (hQ : ∀ (h' : Heap) (tk : Nat) L es ep t, SetTR P w h' s.heap.objs.size L es ep t → Got ks ks.length L → (∀ b o, s.heap.get? b = some o → h'.get? b = some o) → Q (.ref s.heap.objs.size) { s with heap := h', toks := tk }) :
    wpAny (model P w) A (call (.type "set") [.ref l]) Q E s := by
  have sz : its.size = ks.length := by have q := congrArg List.length hit; rw [Array.length_toList, List.length_map] at q; exact q
  obtain ⟨c0, c1, mr⟩ := F.called_set.mro
  have a1 := F.called_set.made; have a2 := F.called_set.sub
  refine wpAny_call (codeAny_of_tree ?_)
  show wpAny (model P w) _ (callAny (.type "set") _) _ _ s
  refine wpAny_pure ⟨Code.quiet_builtin _ (by decide +kernel), codeAny_builtin F.entry_type_call ?_⟩
  rw [Around.under_plain (weight_type_call_type "set" [.ref l] []) rfl]
  have a3 := F.called_set.notType; have a4 := F.called_set.canCreate; have a5 := F.typeCall_set_1 (.ref l)
  repeat any_goals first | assumption | wp_step
  refine codeAny_mono (code_set_led1 (.ref l) (E := E) (Q₁ := fun x s₁ => x = .ref s.heap.objs.size ∧ s₁ = { s with heap := s.heap.push (nuSet w) }) ⟨rfl, rfl⟩) fun r s₁ hr => ?_
  cases r with
  | error e => exact hr
  | ok fl =>
    cases fl with
    | ret obj =>
      obtain ⟨rfl, rfl⟩ := hr
      have hS : (s.heap.push (nuSet w)).get? s.heap.objs.size = some (nuSet w) := Heap.get?_push_size _ rfl
      have hT : Shared.TypeIs { s with heap := s.heap.push (nuSet w) } (.ref s.heap.objs.size) "set" := ⟨_, hS, rfl⟩
      have a6 := F.called_set.init.lookup; have a7 := F.called_set.init.bind (.ref s.heap.objs.size)
      repeat any_goals first | assumption | wp_step
      refine codeAny_mono (codeAny_call_builtin (R := wants (fun r s₂ => r = .none ∧ ∃ h' tk L es ep t, s₂ = { s with heap := h', toks := tk } ∧ SetTR P w h' s.heap.objs.size L es ep t ∧ Got ks ks.length L ∧ (∀ b o, s.heap.get? b = some o → h'.get? b = some o)) E) F.called_set.init.plain F.entry_set_init (check_set_init_1 hT ?_)) fun r₂ s₂ hr₂ => ?_
      · obtain ⟨ol, hol, hcl, nl, hdl⟩ := hl
        obtain ⟨oc, od, odt, osl⟩ := ol
        simp only at hcl hdl
        subst hcl hdl
        have hol' : (s.heap.push (nuSet w)).get? l = some { cls := .type "tuple", dict := od, data := .seq its nl, slots := osl } := Heap.get?_push_of_some _ hol
        have b1 := F.sub_tuple_set; have b2 := F.sub_tuple_frozenset
        have b3 : (Value.type "tuple" == Value.type "dict") = false := by decide
        have hl1 : (s.heap.push (nuSet w)).IsTuple l its := ⟨_, hol', rfl, nl, rfl⟩
        unfold Builtin.«set.__init__» noKeywords Builtin.Frozenset.updateFrom
        generalize hPI : pyIter = PI
        wp_walk
        subst hPI
        refine wpAny_pyIter_tuple hl1 (wpAny_bind (wpAny_runValue ?_))
        have lS : l < s.heap.objs.size := Heap.lt_size hol
        have h3 : A.in1.in1.in1.handled = none := by simp [hh]
        have ne : l ≠ (s.heap.push (nuSet w)).objs.size := by rw [Heap.size_push]; exact Nat.ne_of_lt (Nat.lt_succ_of_lt lS)
        have nf : s.heap.objs.size ∉ [(s.heap.push (nuSet w)).objs.size, l] := by
          rw [Heap.size_push]; simp only [List.mem_cons, List.not_mem_nil, or_false, not_or]; exact ⟨Nat.ne_of_lt (Nat.lt_succ_self _), Nat.ne_of_gt lS⟩
        have hv : ∀ (i : Nat) (v : Value), its[i]? = some v → ∃ p, ks[i]? = some p ∧ v = .ref p.1 := fun i v hi => by
          have q : its.toList[i]? = some v := by rw [Array.getElem?_toList]; exact hi
          rw [hit, List.getElem?_map] at q
          obtain ⟨p, e1, e2⟩ := Option.map_eq_some_iff.mp q
          exact ⟨p, e1, e2.symm⟩
        refine set_update_tups ((Walks.tuple h3 _ l ne its).toS) s.heap.objs.size nf ks sz few hv s.heap hk (noneIn (Nat.le_refl _)) (fun b hb => noneIn (by rw [List.mem_singleton.mp hb, Heap.size_push]; exact Nat.le_succ _)) hu (its.size - 0) 0 _ (by omega) (Nat.zero_le _)
          ⟨⟨_, Heap.get?_push_size _ rfl, rfl, rfl⟩, (hl1.push _)⟩ (fun b o e => Heap.get?_push_of_some _ (Heap.get?_push_of_some _ e)) ⟨[], #[], 0, _, setTR_fresh (Heap.get?_push_of_some _ hS), Got.zero ks⟩ ?_
        intro s' L es ep t hm S' g' kp
        obtain ⟨h', g2, d', tk', os'⟩ := s'
        obtain rfl : g2 = s.gens := hm.gens
        obtain rfl : d' = s.drawn := hm.drawn
        obtain rfl : os' = s.os := hm.os
        show wpAny (model P w) _ _ _ _ _
        refine wpAny_pure ?_
        show wpAny (model P w) _ (ret Value.none) _ _ _
        rw [sz] at g'
        exact wpAny_pure ⟨rfl, h', tk', L, es, ep, t, rfl, S', g', kp⟩
      · cases r₂ with
        | error e => exact hr₂
        | ok f2 =>
          cases f2 with
          | ret r =>
            obtain ⟨rfl, h', tk, L, es, ep, t, rfl, S', g', k'⟩ := hr₂
            repeat any_goals first | assumption | wp_step
            exact hQ _ _ _ _ _ _ S' g' k'
          | _ => exact hr₂.elim
    | _ => exact hr.elim
end
/-- set(t), the tuple's things tuples of ints -/
def rSetOfTT (K : PySem.W.Frag) (P : Program) (w : World) : List V → Hp → VK → Prop := fun xs H Q => ∃ (l : Addr) (ks : List (Addr × List Int)), xs = [V.ref l] ∧ SqT K H l (ks.map fun p => V.ref p.1) ∧ (∀ p ∈ ks, SqT K H p.1 (p.2.map V.int)) ∧ ks.length < 64 ∧
  ∀ a L, H a = none → (∀ p ∈ L, p ∈ ks) → (∀ p ∈ ks, p.2 ∈ L.map (·.2)) → Q (.ref a) (upd H a (SetTO P w a L))
theorem cr_setOfTT {X : Cx} (hc : X.calm = true) (hu : X.A.units + 64 < cLine) : CallR X (.type "set") (rSetOfTT X.K X.prog X.w) := by
  intro pins s σ H xs us Q I r h
  obtain ⟨l, ks, rfl, hl, hk, few, q⟩ := h
  rw [Vals.ref1 r]
  obtain ⟨its, rv, pl, hz⟩ := I.tuple hl
  refine set_tupTups (P := X.prog) (w := X.w) ks (I.ok.hd hc) (show s.heap.IsTuple l its.toArray from pl) (by simpa using refs_of_vals rv) (fun p hp => I.isT (hk p hp)) few (by omega) fun h' tk L es ep t R g k => ?_
  refine ⟨.ref s.heap.objs.size, upd H s.heap.objs.size (SetTO X.prog X.w s.heap.objs.size L), I.laid (t' := tk) k (Nat.le_refl _) (setTO_new R.t0), rfl, q _ L (I.hok.fresh (Nat.le_refl _)) (fun p hp => List.mem_of_mem_take (g.sub p hp)) fun p hp => g.all p (by rw [List.take_length]; exact hp)⟩
end Bs

namespace Bs
open PySem PySem.Spec PyProof.Rows L2
/-! ## == and != of an instance with its own == and whatever stands on the right -/
section
variable {prog : Program} {w : World} {A : Around} {E : Value → Shared → Prop} {s : Shared} {K : PySem.W.Frag} {x C : Addr} {ox : Obj} {od : Option Obj} {f : Addr} {y tb : Value}
theorem objNe_any (X : K.In s.heap) (I : PySem.W.InstAt s.heap x ox C od) (hs : PySem.W.findIn K (.ref C) "__eq__" = some (some (.ref f))) (hf : PySem.W.isFn K (.ref f) = true) (hu : A.units < cLine) {Q : Fin → Shared → Prop}
    (hcall : wpAny (model prog w) A (call (.ref f) [.ref x, y]) (fun v s' => ∃ b, v = .bool b ∧ Q (.done (.ret (.bool (!b)))) s') E s) :
    wpAny (model prog w) A (Builtin.«object.__ne__» ⟨[.ref x, y], []⟩) Q E s := by
  obtain ⟨hp, g, d, t, os⟩ := s
  unfold Builtin.«object.__ne__»
  repeat (first
    | with_reducible refine wpAny_cRoomFor hu ?_
    | (refine wpAny_bind (m := callSpecialIfBound? (.ref x) (Str.ofString "__eq__") [y])
        (PySem.W.ifBound_K X I hs hf (wpAny_mono hcall (fun v s' hv => by
          obtain ⟨b, rfl, hq⟩ := hv
          repeat (first | exact hq | exact wpAny_pure hq | exact wpAny_truthy_bool hq | (refine wpAny_bind (m := truthy (.bool _)) (wpAny_truthy_bool ?_)) | wp_step)) fun _ _ e => e)))
    | wp_step)
theorem tryNe_any (X : K.In s.heap) (I : PySem.W.InstAt s.heap x ox C od) (hs : PySem.W.findIn K (.ref C) "__eq__" = some (some (.ref f))) (hf : PySem.W.isFn K (.ref f) = true)
    (hn : PySem.W.findIn K (.ref C) "__ne__" = some (some (.builtin "object.__ne__"))) (hsub : PySem.W.subIn K (.ref C) (.type "object") = some true) (hu : A.units + 1 < cLine) {Q : Option Value → Shared → Prop}
    (hcall : wpAny (model prog w) A.in1 (call (.ref f) [.ref x, y]) (fun v s' => ∃ b, v = .bool b ∧ Q (some (.bool (!b))) s') E s) :
    wpAny (model prog w) A (tryCompare (.ref x) "__ne__" y) Q E s := by
  simp only [tryCompare]
  refine wpAny_bind (ifBound_ne X I hn (wpAny_call (codeAny_call_builtin (F.slot_object_ne).plain F.cmpEntry_ne
    (PySem.W.check_slot F.cmpKind_ne F.cmpSplit_ne (I.type.andThen (PySem.W.looks_subIn X hsub)) (F.cmpArgs_ne _ _)
      (objNe_any (A := A.in1) X I hs hf hu (wpAny_mono hcall (fun v s' hv => ?_) fun _ _ e => e))))))
  obtain ⟨b, rfl, hq⟩ := hv
  first | exact ⟨b, rfl, wpAny_pure hq⟩ | exact ⟨b, rfl, wpAny_pure (wpAny_pure hq)⟩ | exact ⟨b, rfl, hq⟩
theorem tryEq_any (X : K.In s.heap) (I : PySem.W.InstAt s.heap x ox C od) (hs : PySem.W.findIn K (.ref C) "__eq__" = some (some (.ref f))) (hf : PySem.W.isFn K (.ref f) = true) {Q : Option Value → Shared → Prop}
    (hcall : wpAny (model prog w) A (call (.ref f) [.ref x, y]) (fun v s' => ∃ b, v = .bool b ∧ Q (some (.bool b)) s') E s) :
    wpAny (model prog w) A (tryCompare (.ref x) "__eq__" y) Q E s := by
  simp only [tryCompare]
  refine wpAny_bind (PySem.W.ifBound_K X I hs hf (wpAny_mono hcall (fun v s' hv => ?_) fun _ _ e => e))
  obtain ⟨b, rfl, hq⟩ := hv
  exact wpAny_pure hq
theorem rich_any {op : CmpOp} (I : PySem.W.InstAt s.heap x ox C od) (X : K.In s.heap) (J : PySem.W.Looks (model prog w) s.heap (typeOf y) tb) (one : oneThing? op (.ref x) y = none) (hop : op = .Eq ∨ op = .NotEq)
    (hsub : tb = .ref C ∨ PySem.W.subIn K tb (.ref C) = some false) (hu : A.units < cLine) {Q : Value → Shared → Prop}
    (h : wpAny (model prog w) A (tryCompare (.ref x) (cmpInfo op).2.1 y) (fun r s' => ∃ v, r = some v ∧ Q v s') E s) :
    wpAny (model prog w) A (richCompare op (.ref x) y) Q E s := by
  unfold richCompare
  simp only [one]
  refine wpAny_holding (wpAny_bind (wpAny_cRoomFor hu ?_))
  rcases hop with rfl | rfl
  · rw [cmpInfo_Eq] at h ⊢
    dsimp only at h ⊢
    refine wpAny_bind (I.type.here (wpAny_bind (J.here ?_)))
    rcases hsub with rfl | hsub
    · rw [show (Value.ref C != Value.ref C) = false from by simp]
      simp only [Bool.false_eq_true, if_false]
      refine wpAny_bind (wpAny_pure ?_)
      simp only [Bool.false_eq_true, if_false]
      refine wpAny_bind (wpAny_mono h (fun r s' z => ?_) fun _ _ e => e)
      obtain ⟨v, rfl, hq⟩ := z
      exact wpAny_pure hq
    · by_cases c : (Value.ref C != tb) = true
      · rw [if_pos c]
        refine wpAny_bind ((PySem.W.looks_subIn X hsub).here ?_)
        simp only [Bool.false_eq_true, if_false]
        refine wpAny_bind (wpAny_mono h (fun r s' z => ?_) fun _ _ e => e)
        obtain ⟨v, rfl, hq⟩ := z
        exact wpAny_pure hq
      · rw [if_neg c]
        refine wpAny_bind (wpAny_pure ?_)
        simp only [Bool.false_eq_true, if_false]
        refine wpAny_bind (wpAny_mono h (fun r s' z => ?_) fun _ _ e => e)
        obtain ⟨v, rfl, hq⟩ := z
        exact wpAny_pure hq
  · rw [cmpInfo_NotEq] at h ⊢
    dsimp only at h ⊢
    refine wpAny_bind (I.type.here (wpAny_bind (J.here ?_)))
    rcases hsub with rfl | hsub
    · rw [show (Value.ref C != Value.ref C) = false from by simp]
      simp only [Bool.false_eq_true, if_false]
      refine wpAny_bind (wpAny_pure ?_)
      simp only [Bool.false_eq_true, if_false]
      refine wpAny_bind (wpAny_mono h (fun r s' z => ?_) fun _ _ e => e)
      obtain ⟨v, rfl, hq⟩ := z
      exact wpAny_pure hq
    · by_cases c : (Value.ref C != tb) = true
      · rw [if_pos c]
        refine wpAny_bind ((PySem.W.looks_subIn X hsub).here ?_)
        simp only [Bool.false_eq_true, if_false]
        refine wpAny_bind (wpAny_mono h (fun r s' z => ?_) fun _ _ e => e)
        obtain ⟨v, rfl, hq⟩ := z
        exact wpAny_pure hq
      · rw [if_neg c]
        refine wpAny_bind (wpAny_pure ?_)
        simp only [Bool.false_eq_true, if_false]
        refine wpAny_bind (wpAny_mono h (fun r s' z => ?_) fun _ _ e => e)
        obtain ⟨v, rfl, hq⟩ := z
        exact wpAny_pure hq
end
/-- what may stand on the right -/
inductive OthV (K : PySem.W.Frag) (C : Addr) (H : Hp) : V → Prop where
  | same {b dy : Addr} {gs : List (Str × V)} (h : H b = some (.ins C dy gs)) : OthV K C H (.ref b)
  | ins {b D dy : Addr} {gs : List (Str × V)} (h : H b = some (.ins D dy gs)) (hs : PySem.W.subIn K (.ref D) (.ref C) = some false) : OthV K C H (.ref b)
  | tup {b : Addr} {xs : List V} (h : H b = some (.tup xs)) : OthV K C H (.ref b)
  | int (i : Int) : OthV K C H (.int i)
  | non : OthV K C H .non
theorem OthV.look {X : Cx} {C : Addr} {pins : List (Addr × Obj)} {σ : L2.St} {H : Hp} {s : Shared} {y : V} {u : Value} (I : Inv X pins σ H s) (h : OthV X.K C H y) (ry : RelV y u) :
    ∃ tb, PySem.W.Looks (model X.prog X.w) s.heap (typeOf u) tb ∧ (tb = .ref C ∨ PySem.W.subIn X.K tb (.ref C) = some false) ∧ ∀ op a, oneThing? op (.ref a) u = none := by
  cases h with
  | same h =>
    cases ry
    obtain ⟨m, J, _⟩ := ins_get I.hok h
    obtain ⟨od, J, _⟩ := J.look
    exact ⟨_, J.type, .inl rfl, fun _ _ => rfl⟩
  | ins h hs =>
    cases ry
    obtain ⟨m, J, _⟩ := ins_get I.hok h
    obtain ⟨od, J, _⟩ := J.look
    exact ⟨_, J.type, .inr hs, fun _ _ => rfl⟩
  | @tup b xs h =>
    cases ry
    obtain ⟨hz, its, rv, o, g, hcl, n, hd⟩ := I.hok b _ h
    refine ⟨.type "tuple", ?_, .inr rfl, fun _ _ => rfl⟩
    have : PySem.W.Looks (model X.prog X.w) s.heap (typeOf (.ref b)) o.cls := (PySem.W.Looks.ld g).andThen .now
    rw [hcl] at this
    exact this
  | int i =>
    obtain ⟨t, rfl⟩ := ry
    exact ⟨.type "int", PySem.W.Looks.of_pure rfl, .inr rfl, fun _ _ => rfl⟩
  | non =>
    obtain rfl : u = .none := ry
    exact ⟨.type "NoneType", PySem.W.Looks.of_pure rfl, .inr rfl, fun _ _ => rfl⟩
def rEqAny (K : PySem.W.Frag) (C : Addr) (sp : Sp) : R2 := fun x y H Q => ∃ a dx fs, x = .ref a ∧ H a = some (.ins C dx fs) ∧ OthV K C H y ∧ sp [.ref a, y] H (fun v H' => ∃ r, v = .bl r ∧ Q (.bl r) H') E0
def rNeAny (K : PySem.W.Frag) (C : Addr) (sp : Sp) : R2 := fun x y H Q => ∃ a dx fs, x = .ref a ∧ H a = some (.ins C dx fs) ∧ OthV K C H y ∧ sp [.ref a, y] H (fun v H' => ∃ r, v = .bl r ∧ Q (.bl (!r)) H') E0
theorem op_neAny {X : Cx} {C f : Addr} {fd : FuncData} {ps : List Str} {sp : Sp} {n : Nat} (N : OwnNe X.K C f) (F : FnOk X.prog X.w X.K X.mg X.base CX0 n f fd ps sp) (hr : Room (n + 1) X.A) (hb : Binds X.K fd ps []) : OpR X (compareOp .NotEq) (rNeAny X.K C sp) := by
  intro pins s σ H x y v u Q I rx ry h
  obtain ⟨a, dx, fs, rfl, ha, hy, hsp⟩ := h
  cases rx
  obtain ⟨mA, J, _⟩ := ins_get I.hok ha
  obtain ⟨od, J, _⟩ := J.look
  obtain ⟨tb, L, hsub, one⟩ := hy.look I ry
  have hu : X.A.units + 1 < cLine := hu_of hr
  have hr1 : Room n X.A.in1 := hr.in1
  have e0 : Env0 X.prog X.w X.K X.mg X.base X.A.in1 X.stack s H := I.env0.in1
  have hl := F.len _ _ _ _ hsp
  have r2 : Vals [V.ref a, y] [Value.ref a, u] := .cons rfl (.cons ry .nil)
  show wpAny (model X.prog X.w) X.A (richCompare .NotEq (.ref a) u) (EP X pins σ Q) X.xe s
  refine rich_any J I.kIn L (one _ _) (.inr rfl) hsub (Nat.lt_of_succ_lt hu) ?_
  refine tryNe_any I.kIn J N.eq N.fn N.ne N.sub hu ?_
  refine wpAny_call (codeAny_mono (F.run X.A.in1 X.stack s H ⟨[.ref a, u], []⟩ [.ref a, u] [.ref a, y] _ E0 hr1 e0 (by
    have := hb s [.ref a, u] I.kIn (by simpa using hl)
    simpa using this) r2 hsp) fun r s' hq => ?_)
  cases r with
  | error e => exact hq.elim
  | ok fl =>
    cases fl with
    | ret w =>
      obtain ⟨z, H', I', rz, r, ez, q⟩ := I.after hq
      subst ez
      cases rz
      exact ⟨r, rfl, _, rfl, .bl (!r), H', I', rfl, q⟩
    | next => exact False.elim hq
    | brk => exact False.elim hq
    | cont => exact False.elim hq
theorem op_eqAny {X : Cx} {C f : Addr} {fd : FuncData} {ps : List Str} {sp : Sp} {n : Nat} (N : OwnNe X.K C f) (F : FnOk X.prog X.w X.K X.mg X.base CX0 n f fd ps sp) (hr : Room (n + 1) X.A) (hb : Binds X.K fd ps []) : OpR X (compareOp .Eq) (rEqAny X.K C sp) := by
  intro pins s σ H x y v u Q I rx ry h
  obtain ⟨a, dx, fs, rfl, ha, hy, hsp⟩ := h
  cases rx
  obtain ⟨mA, J, _⟩ := ins_get I.hok ha
  obtain ⟨od, J, _⟩ := J.look
  obtain ⟨tb, L, hsub, one⟩ := hy.look I ry
  have hu : X.A.units + 1 < cLine := hu_of hr
  have hr1 : Room n X.A := hr.mono (Nat.le_succ _)
  have e0 : Env0 X.prog X.w X.K X.mg X.base X.A X.stack s H := I.env0
  have hl := F.len _ _ _ _ hsp
  have r2 : Vals [V.ref a, y] [Value.ref a, u] := .cons rfl (.cons ry .nil)
  show wpAny (model X.prog X.w) X.A (richCompare .Eq (.ref a) u) (EP X pins σ Q) X.xe s
  refine rich_any J I.kIn L (one _ _) (.inl rfl) hsub (Nat.lt_of_succ_lt hu) ?_
  refine tryEq_any I.kIn J N.eq N.fn ?_
  refine wpAny_call (codeAny_mono (F.run X.A X.stack s H ⟨[.ref a, u], []⟩ [.ref a, u] [.ref a, y] _ E0 hr1 e0 (by
    have := hb s [.ref a, u] I.kIn (by simpa using hl)
    simpa using this) r2 hsp) fun r s' hq => ?_)
  cases r with
  | error e => exact hq.elim
  | ok fl =>
    cases fl with
    | ret w =>
      obtain ⟨z, H', I', rz, r, ez, q⟩ := I.after hq
      subst ez
      cases rz
      exact ⟨r, rfl, _, rfl, .bl r, H', I', rfl, q⟩
    | next => exact False.elim hq
    | brk => exact False.elim hq
    | cont => exact False.elim hq
end Bs

namespace Bs
open PySem PySem.Spec PyProof.Rows L2
/-! ## a chain of four comparisons, as a test -/
def tCh4 (r1 r2 r3 r4 : R2) (ta tb tc td te : TE) : TT := fun σ H Q => ta σ H fun x H1 => tb σ H1 fun y H2 => r1 x y H2 fun z H3 => ∃ k, z = .bl k ∧ (if k = true then tc σ H3 fun y2 H4 => r2 y y2 H4 fun z H5 => ∃ k, z = .bl k ∧
  (if k = true then td σ H5 fun y3 H6 => r3 y2 y3 H6 fun z H7 => ∃ k, z = .bl k ∧ (if k = true then te σ H7 fun y4 H8 => r4 y3 y4 H8 fun z H9 => ∃ k, z = .bl k ∧ Q k H9 else Q false H7) else Q false H5) else Q false H3)
section
variable {X : Cx} {a b c d e : Expr} {pos : Pos} {ta tb tc td te : TE}
theorem pt_chain4 {o1 o2 o3 o4 : CmpOp} {r1 r2 r3 r4 : R2} (h1 : OpR X (compareOp o1) r1) (h2 : OpR X (compareOp o2) r2) (h3 : OpR X (compareOp o3) r3) (h4 : OpR X (compareOp o4) r4) (ha : PE X a ta) (hb : PE X b tb) (hc : PE X c tc) (hd : PE X d td) (he : PE X e te)
    (hm : lastMarks [o1, o2, o3, o4] [b, c, d, e] = false := by with_unfolding_all rfl) : PT X (.Compare a [o1, o2, o3, o4] [b, c, d, e] pos) (tCh4 r1 r2 r3 r4 ta tb tc td te) := by
  refine ⟨fun pins s σ H Q I h => ?_⟩
  refine isTrue_chain (thn (ha.run pins s σ H _ I h) fun v s1 ⟨x, H1, I1, v1, q1⟩ => test_link (thn (hb.run pins s1 σ H1 _ I1 q1) fun u s2 ⟨y, H2, I2, v2, q2⟩ =>
    thn (h1 pins s2 σ H2 x y v u _ I2 v1 v2 q2) fun z1 s3 ⟨z, H3, I3, v3, k, e1, q3⟩ => ?_)) hm
  subst e1
  cases v3
  refine wpAny_truthy_bool ?_
  cases k with
  | false => exact ite_ff ⟨H3, I3, q3⟩
  | true =>
    refine ite_tt (test_link (thn (hc.run pins s3 σ H3 _ I3 q3) fun u2 s4 ⟨y2, H4, I4, v4, q4⟩ => thn (h2 pins s4 σ H4 y y2 u u2 _ I4 v2 v4 q4) fun z2 s5 ⟨z, H5, I5, v5, k, e2, q5⟩ => ?_))
    subst e2
    cases v5
    refine wpAny_truthy_bool ?_
    cases k with
    | false => exact ite_ff ⟨H5, I5, q5⟩
    | true =>
      refine ite_tt (test_link (thn (hd.run pins s5 σ H5 _ I5 q5) fun u3 s6 ⟨y3, H6, I6, v6, q6⟩ => thn (h3 pins s6 σ H6 y2 y3 u2 u3 _ I6 v4 v6 q6) fun z3 s7 ⟨z, H7, I7, v7, k, e3, q7⟩ => ?_))
      subst e3
      cases v7
      refine wpAny_truthy_bool ?_
      cases k with
      | false => exact ite_ff ⟨H7, I7, q7⟩
      | true =>
        refine ite_tt (test_last (thn (he.run pins s7 σ H7 _ I7 q7) fun u4 s8 ⟨y4, H8, I8, v8, q8⟩ => thn (h4 pins s8 σ H8 y3 y4 u3 u4 _ I8 v6 v8 q8) fun z4 s9 ⟨z, H9, I9, v9, k, e4, q9⟩ => ?_))
        subst e4
        cases v9
        exact wpAny_truthy_bool ⟨H9, I9, q9⟩
end
end Bs

namespace Bs
open PySem PySem.Spec PyProof.Rows L2 HT
/-! ## t[:0:-1], t a tuple that is not empty -/
theorem rev_tail {xs : Array Value} {x : Value} {r : List Value} (h : xs.toList = x :: r) : (List.range (xs.size - 1)).filterMap (fun m : Nat => xs[(((xs.size : Int) - 1) + (m : Int) * -1).toNat]?) = r.reverse := by
  have sz : xs.size = r.length + 1 := by rw [← Array.length_toList, h]; rfl
  have h1 := rev_all xs
  rw [h, List.reverse_cons] at h1
  rw [show List.range xs.size = List.range (xs.size - 1) ++ [xs.size - 1] from by rw [sz, List.range_succ]; rfl, List.filterMap_append] at h1
  have h2 : List.filterMap (fun m : Nat => xs[(((xs.size : Int) - 1) + (m : Int) * -1).toNat]?) [xs.size - 1] = [x] := by
    have e0 : (((xs.size : Int) - 1) + ((xs.size - 1 : Nat) : Int) * -1).toNat = 0 := by omega
    have e1 : xs[0]? = some x := by rw [← Array.getElem?_toList, h]; rfl
    rw [List.filterMap_cons, e0, e1]
    rfl
  rw [h2] at h1
  exact List.append_cancel_right h1
section
variable {prog : Program} {w : World} {A : Around} {E : Value → Shared → Prop} {s : Shared}
theorem sliceApplied_rev0 {sl : Addr} {tk tk0 : Tok} {n : Nat} {Q : Int × Int × Nat → Shared → Prop} (n1 : 1 ≤ n) (hs : s.heap.IsSliceOf sl .none (.int 0 tk0) (.int (-1) tk))
    (h : Q ((n : Int) - 1, -1, n - 1) s) : wpAny (model prog w) A (Builtin.Slice.sliceApplied (.ref sl) (pure (n : Int))) Q E s := by
  obtain ⟨os, hos, hcs, hds⟩ := id hs
  unfold Builtin.Slice.sliceApplied Builtin.Slice.sliceFields
  refine wpAny_bind (wpAny_bind (wpAny_field hos hds (x := .none) rfl (wpAny_bind (wpAny_field hos hds (x := .int 0 tk0) rfl (wpAny_bind (wpAny_field hos hds (x := .int (-1) tk) rfl (wpAny_pure ?_)))))))
  refine wpAny_bind (slicePart_ (.int (-1) tk) ?_)
  show wpAny _ _ (if ((-1 : Int) == 0) = true then _ else _) _ _ s
  rw [if_neg (by decide)]
  refine wpAny_bind (slicePart_none (wpAny_bind (slicePart_ (.int 0 tk0) (wpAny_bind (wpAny_pure ?_)))))
  have ea : Builtin.Slice.sliceAdjust none (some 0) ((some (-1 : Int)).getD 1) (n : Int) = ((n : Int) - 1, 0) := by
    show ((n : Int) - 1, (if (0 : Int) < 0 then max (0 + (n : Int)) (-1) else min 0 ((n : Int) - 1))) = ((n : Int) - 1, 0)
    rw [if_neg (by decide)]
    congr 1
    omega
  rw [ea]
  show wpAny _ _ (pure ((n : Int) - 1, (-1 : Int), Builtin.Slice.slicePlaces ((n : Int) - 1) 0 (-1))) _ _ s
  have e : Builtin.Slice.slicePlaces ((n : Int) - 1) 0 (-1) = n - 1 := by
    show (if (-1 : Int) > 0 then _ else if (n : Int) - 1 > 0 then ((n : Int) - 1 - 0 - 1) / - -1 + 1 else 0).toNat = n - 1
    rw [if_neg (by decide)]
    by_cases h : (n : Int) - 1 > 0
    · rw [if_pos h, show (- -1 : Int) = 1 by decide, Int.ediv_one]; omega
    · rw [if_neg h]; omega
  rw [e]
  exact wpAny_pure h
theorem getItem_rev0 {t sl : Addr} {items : Array Value} {x : Value} {r : List Value} {tk tk0 : Tok} {Q : Value → Shared → Prop} (hx : items.toList = x :: r) (ht : IsTup s.heap t items) (hs : s.heap.IsSliceOf sl .none (.int 0 tk0) (.int (-1) tk))
    (h : Q (.ref s.heap.objs.size) { s with heap := s.heap.push { cls := .type "tuple", data := .seq r.reverse.toArray } })
    (hsz : items.size ≤ sizeLine) : wpAny (model prog w) A (getItem (.ref t) (.ref sl)) Q E s := by
  have sz : items.size = r.length + 1 := by rw [← Array.length_toList, hx]; rfl
  have hok : sizeOk (.seq r.reverse.toArray) := by
    show r.reverse.toArray.size ≤ sizeLine
    rw [List.size_toArray, List.length_reverse]
    omega
  obtain ⟨os, hos, hcs, hds⟩ := id hs
  have hTs : s.TypeIs (.ref sl) "slice" := ⟨os, hos, hcs⟩
  unfold getItem
  try with_reducible refine wpAny_holding ?_
  first | refine wpAny_bind (wpAny_pure ?_) | skip
  refine wpAny_bind (wpAny_sequenceKey ht.typeIs (by decide) ?_)
  refine wpAny_bind (wpAny_callSpecial?_slot (name := Str.ofString "__getitem__") ht.typeIs PyProof.Rows.slot_tuple_getitem
    (wpAny_call_entry PyProof.Rows.slot_tuple_getitem ht.typeIs entry_tuple_getitem ?_ (args_tuple_getitem _ _)))
  show wpAny _ _ (Builtin.Tuple.tupleItemsOf (.ref t) >>= _) _ _ s
  refine wpAny_bind (tupleItemsOf_ ht ?_)
  refine wpAny_bind (wpAny_typeOf hTs ?_)
  rw [if_pos (by decide)]
  refine wpAny_bind (sliceApplied_rev0 (by omega) hs ?_)
  have hno : ¬ ((((items.size : Int) - 1) == 0 && (-1 : Int) == 1 && items.size - 1 == items.size) = true) := by
    intro q
    rw [Bool.and_eq_true, Bool.and_eq_true] at q
    exact absurd q.1.2 (by decide)
  show wpAny _ _ (if (((items.size : Int) - 1) == 0 && (-1 : Int) == 1 && items.size - 1 == items.size) = true then _ else _) _ _ s
  rw [if_neg hno, rev_tail hx]
  first
    | exact wpAny_bind (m := Builtin.Tuple.tupleExact _) (wpAny_newObj_type (wpAny_pure ⟨_, rfl, wpAny_pure h⟩) hok)
    | exact wpAny_bind (m := Builtin.Tuple.tupleExact _) (wpAny_newObj_type (wpAny_bind (wpAny_pure (wpAny_pure ⟨_, rfl, wpAny_pure h⟩))) hok)
    | exact wpAny_bind (wpAny_bind (m := Builtin.Tuple.tupleExact _) (wpAny_newObj_type (wpAny_pure (wpAny_pure ⟨_, rfl, wpAny_pure h⟩)) hok))
    | exact wpAny_bind (wpAny_bind (m := Builtin.Tuple.tupleExact _) (wpAny_newObj_type (wpAny_pure ⟨_, rfl, wpAny_pure h⟩) hok))
end
def tRev0 (K : PySem.W.Frag) (te : TE) : TE := fun σ H Q => te σ H fun x H1 => ∃ (a : Addr) (u : V) (us : List V), x = .ref a ∧ SqT K H1 a (u :: us) ∧ ∀ p, H1 p = none → Q (.ref p) (upd H1 p (.tup us.reverse))
theorem pe_rev0 {X : Cx} {e : Expr} {te : TE} {k k0 : Nat} {p0 p1 p2 p3 pos : Pos} (he : PE X e te) : PE X (.Subscript e (.Slice none (some (.Constant (.int 0) k0 p0)) (some (.UnaryOp .USub (.Constant (.int 1) k p1) p2)) p3) pos) (tRev0 X.K te) := by
  refine ⟨fun pins s σ H Q I h => ?_⟩
  refine Subscript_ (thn (he.run pins s σ H _ I h) fun v s1 ⟨x, H1, I1, r1, q1⟩ => ?_)
  obtain ⟨a, u0, us, ex, hx, q⟩ := q1
  subst ex
  cases r1
  have hs0 : PO X (some (.Constant (.int 0) k0 p0)) (tPart (tC (.int 0))) := po_some pe_int
  have hst : PO X (some (.UnaryOp .USub (.Constant (.int 1) k p1) p2)) (tPart (tUn (rU fun i => .int (-i)) (tC (.int 1)))) := po_some (pe_un un_neg pe_int)
  refine wpAny_Slice (thn (po_none.run pins s1 σ H1 (fun o H2 => o = none ∧ H2 = H1) I1 ⟨rfl, rfl⟩) fun vl s2 ⟨l, H2, I2, pl, el, e2⟩ => ?_)
  subst el e2
  refine thn (hs0.run pins s2 σ H2 (fun o H3 => o = some 0 ∧ H3 = H2) I2 ⟨0, rfl, rfl, rfl⟩) fun vu s3 ⟨u, H3, I3, pu, eu, e3⟩ => ?_
  subst eu e3
  refine thn (hst.run pins s3 σ H3 (fun o H4 => o = some (-1) ∧ H4 = H3) I3 ⟨1, rfl, -1, rfl, rfl, rfl⟩) fun vs s4 ⟨o, H4, I4, ps, eo, e4⟩ => ?_
  subst eo e4
  cases pl
  obtain ⟨tk0, ev0⟩ : ∃ tk, vu = .int 0 tk := by
    cases pu with
    | int i t => exact ⟨t, rfl⟩
  subst ev0
  obtain ⟨tk, ev⟩ : ∃ tk, vs = .int (-1) tk := by
    cases ps with
    | int i t => exact ⟨t, rfl⟩
  subst ev
  have I5 : Inv X pins σ H4 { s4 with heap := s4.heap.push { cls := .type "slice", data := .fields #[.none, .int 0 tk0, .int (-1) tk] } } := I4.kept (t' := s4.toks) fun b ob q => Heap.get?_push_of_some _ q
  obtain ⟨its, r, ht, hz⟩ := I5.tuple hx
  have hlen := r.length
  obtain ⟨y, ys, rfl, ru⟩ : ∃ y ys, its = y :: ys ∧ Vals us ys := by
    cases r with
    | cons r1 r2 => exact ⟨_, _, rfl, r2⟩
  show wpAny (model X.prog X.w) X.A (subscriptTail e (.Slice none (some (.Constant (.int 0) k0 p0)) (some (.UnaryOp .USub (.Constant (.int 1) k p1) p2)) p3) (.ref a) (.ref s4.heap.objs.size)) (EP X pins σ Q) X.xe { s4 with heap := s4.heap.push { cls := .type "slice", data := .fields #[.none, .int 0 tk0, .int (-1) tk] } }
  refine tail_any (ops := [.ref a, .ref s4.heap.objs.size]) ht.typeIs (PyProof.Rows.slot_tuple_getitem.lookup) ?_ (by with_unfolding_all rfl)
  refine getItem_rev0 (x := y) (r := ys) rfl ht (Heap.IsSliceOf.new _ .none (.int 0 tk0) (.int (-1) tk)) ?_ (by rw [List.size_toArray]; omega)
  refine ⟨.ref _, _, I5.laid (t' := s4.toks) (o := .tup us.reverse) (fun b ob q => Heap.get?_push_of_some _ q) (Nat.le_refl _) ?_, rfl, q _ (I5.hok.fresh (Nat.le_refl _))⟩
  exact ⟨by rw [List.length_reverse]; simp at hz; omega, _, ru.reverse, ⟨_, Heap.get?_push_size _ rfl, rfl, _, rfl⟩⟩
end Bs

namespace Bs
open PySem PySem.Spec L2
def top (i : Nat) : Stmt := PySem.Challenge.pw_silencers_k77_nets_judged.main.body.getD i (.Pass ⟨0, 0, 0, 0⟩)
structure Txt (K : PySem.W.Frag) (mg : Str → Option Value) (C : Addr) : Prop where
  cl : Cls K C
  nSize : NoAttr K C "size"
  nTies : NoAttr K C "ties"
  mg_Web : mg "Web" = some (.ref C)
  mg_MOST_PARTS : ∃ t, mg "MOST_PARTS" = some (.int 24 t)
  xc : PySem.W.findIn K (.ref C) "__class__" = some (some (.builtin "object.__class__"))
  xg : PySem.W.specialIn K (.builtin "object.__class__") "__get__" = some (some (.builtin "getset_descriptor.__get__"))
  xt : PySem.W.takesIn K (.builtin "object.__class__") = some true
  xm : PySem.W.mroIn K C (.type "object") = some true
section
variable {P : Program} {w : World} {K : PySem.W.Frag} {mg : Str → Option Value} {base : Heap} {C : Addr}
def sp_is_integer : Sp := fun vs H Q _ => ∃ i, vs = [.int i] ∧ Q (.bl true) H
abbrev s_is_integer : Stmt := (top 5)
theorem sc_is_integer : FnScope ["thing"] ["thing"] (defScope s_is_integer) := ⟨rfl, rfl, rfl, by decide +kernel, rfl, by decide +kernel, by decide +kernel⟩

theorem ok_is_integer {f : Addr} {fd : FuncData} (F : Fun K "is_integer" "is_integer" s_is_integer f fd) (hm : mg "is_integer" = some (.ref f)) (B : Bl mg) : Cal P w K mg base 1 "is_integer" ["thing"] sp_is_integer := by
  refine ⟨f, fd, F.ok sc_is_integer (fun vs H Q E h => ?_) (fun cdv A outer s H vs Q E hr h => ?_), hm, F.kp, F.binds (ps := ["thing"]) fun _ _ _ _ _ _ us hl => match us, hl with | [_], _ => rfl⟩
  · obtain ⟨i, rfl, _⟩ := h; rfl
  · obtain ⟨i, rfl, k⟩ := h
    refine ⟨_, (pss_one (ps_ret (pe_and (pe_callB call_isi (by rfl) B.isinstance (by decide +kernel) (pa_cons (pv 0) (pa_cons (pe_bltn (v := .ty "int") (by rfl) B.int_ (by decide +kernel) rfl) pa_nil))) (pe_one (pe_not (pe_callB call_isi (by rfl) B.isinstance (by decide +kernel) (pa_cons (pv 0) (pa_cons (pe_bltn (v := .ty "bool") (by rfl) B.bool_ (by decide +kernel) rfl) pa_nil)))))))), ?_⟩
    refine ⟨_, rfl, _, _, _, _, true, rfl, .ty "int", .base (.int i), kit_ty (by decide +kernel), true, rfl, iteT ?_⟩
    refine ⟨_, rfl, _, _, _, _, false, rfl, .ty "bool", .base (.int i), kit_ty (by decide +kernel), false, rfl, ?_⟩
    exact k
def sp_is_number : Sp := fun vs H Q _ => ∃ i a b, vs = [.int i, .int a, .int b] ∧ Q (.bl (decide (a ≤ i ∧ i ≤ b))) H
abbrev s_is_number : Stmt := (top 6)
theorem sc_is_number : FnScope ["thing", "least", "most"] ["thing", "least", "most"] (defScope s_is_number) := ⟨rfl, rfl, rfl, by decide +kernel, rfl, by decide +kernel, by decide +kernel⟩

theorem ok_is_number {f : Addr} {fd : FuncData} (F : Fun K "is_number" "is_number" s_is_number f fd) (hm : mg "is_number" = some (.ref f)) (B : Bl mg) (c_is_integer : Cal P w K mg base 1 "is_integer" ["thing"] sp_is_integer) : Cal P w K mg base 2 "is_number" ["thing", "least", "most"] sp_is_number := by
  refine ⟨f, fd, F.ok sc_is_number (fun vs H Q E h => ?_) (fun cdv A outer s H vs Q E hr h => ?_), hm, F.kp, F.binds (ps := ["thing", "least", "most"]) fun _ _ _ _ _ _ us hl => match us, hl with | [_, _, _], _ => rfl⟩
  · obtain ⟨i, a, b, rfl, _⟩ := h; rfl
  · obtain ⟨i, a, b, rfl, k⟩ := h
    refine ⟨_, (pss_one (ps_ret (pe_and (pe_cal c_is_integer (hr.mono (by first | decide | omega)) (pa_cons (pv 0) pa_nil)) (pe_one (pe_chain op_le op_le (pv 1) (pv 0) (pv 2)))))), ?_⟩
    refine ⟨_, rfl, i, rfl, true, rfl, iteT ?_⟩
    refine ⟨_, rfl, _, rfl, _, _, rfl, rfl, _, rfl, ?_⟩
    by_cases h1 : a ≤ i
    · rw [if_pos (decide_eq_true h1)]
      refine ⟨_, rfl, _, _, rfl, rfl, ?_⟩
      have e : decide (a ≤ i ∧ i ≤ b) = decide (i ≤ b) := by simp [h1]
      rw [e] at k
      exact k
    · rw [if_neg (by simpa using h1)]
      have e : decide (a ≤ i ∧ i ≤ b) = false := by simp [h1]
      rw [e] at k
      exact k
/-- a web at a: its size and its ties -/
structure WebAt (C : Addr) (H : Hp) (a : Addr) (n : Int) (t : Addr) (ps : List (Int × Int)) : Prop where
  ins : ∃ dx fs, H a = some (.ins C dx fs) ∧ fs.lookup ("size" : Str) = some (.int n) ∧ fs.lookup ("ties" : Str) = some (.ref t)
  ties : ∃ xs, H t = some (.tup xs) ∧ Pairs H xs ps
theorem WebAt.same {C : Addr} {H H' : Hp} {a t : Addr} {n : Int} {ps : List (Int × Int)} (h : WebAt C H a n t ps) (e : Same H H') : WebAt C H' a n t ps := by
  obtain ⟨⟨dx, fs, h1, h2⟩, xs, h3, h4⟩ := h
  exact ⟨⟨dx, fs, e _ _ h1, h2⟩, xs, e _ _ h3, h4.tk e.tk⟩
theorem WebAt.exT {C T : Addr} {H H' : Hp} {a t : Addr} {n : Int} {ps : List (Int × Int)} {l : List V} (h : WebAt C H a n t ps) (e : ExT T H H') (hT : H T = some (.lst l)) : WebAt C H' a n t ps := by
  obtain ⟨⟨dx, fs, h1, h2⟩, xs, h3, h4⟩ := h
  exact ⟨⟨dx, fs, e _ _ (ne_of h1 hT (by intro z; cases z)) h1, h2⟩, xs, e.tk hT _ _ h3, h4.tk (e.tk hT)⟩
def sp_is_tie : Sp := fun vs H Q _ => ∃ (n : Int) (a : Addr) (p : Int × Int), vs = [.int n, .ref a] ∧ H a = some (.tup [.int p.1, .int p.2]) ∧ Q (.bl (decide (0 ≤ p.1 ∧ p.1 < p.2 ∧ p.2 < n))) H
abbrev s_is_tie : Stmt := (top 11)
theorem sc_is_tie : FnScope ["size", "thing", "a", "b"] ["size", "thing"] (defScope s_is_tie) := ⟨rfl, rfl, rfl, by decide +kernel, rfl, by decide +kernel, by decide +kernel⟩

theorem ok_is_tie {f : Addr} {fd : FuncData} (F : Fun K "is_tie" "is_tie" s_is_tie f fd) (hm : mg "is_tie" = some (.ref f)) (B : Bl mg) (c_is_number : Cal P w K mg base 2 "is_number" ["thing", "least", "most"] sp_is_number) : Cal P w K mg base 3 "is_tie" ["size", "thing"] sp_is_tie := by
  refine ⟨f, fd, F.ok sc_is_tie (fun vs H Q E h => ?_) (fun cdv A outer s H vs Q E hr h => ?_), hm, F.kp, F.binds (ps := ["size", "thing"]) fun _ _ _ _ _ _ us hl => match us, hl with | [_, _], _ => rfl⟩
  · obtain ⟨n, a, p, rfl, _⟩ := h; rfl
  · obtain ⟨n, a, p, rfl, ha, k⟩ := h
    refine ⟨_, (pss_cons (ps_if (PW.pt (pw_or (pt_not (pt_val (pe_callB call_isi (by rfl) B.isinstance (by decide +kernel) (pa_cons (pv 1) (pa_cons (pe_bltn (v := .ty "tuple") (by rfl) B.tuple_ (by decide +kernel) rfl) pa_nil))))) (pw_or1 (pt_cmpR op_ne (pe_callB call_len_seq (by rfl) B.len (by decide +kernel) (pa_cons (pv 1) pa_nil)) pe_int (nomark _))))) (pss_one (ps_ret pe_bl)) pss_nil)
 (pss_cons (ps_asg (pv 1) (pg_tup (by rfl) (pgs_cons (pg_name (i := 2) sc_is_tie.nd rfl (by first | exact Or.inl rfl | exact Or.inr rfl)) (pgs_cons (pg_name (i := 3) sc_is_tie.nd rfl (by first | exact Or.inl rfl | exact Or.inr rfl)) pgs_nil))))
 (pss_one (ps_ret (pe_and (pe_cal c_is_number (hr.mono (by first | decide | omega)) (pa_cons (pv 2) (pa_cons pe_int (pa_cons (pe_op op_sub (pv 0) pe_int) pa_nil)))) (pe_one (pe_cal c_is_number (hr.mono (by first | decide | omega)) (pa_cons (pv 3) (pa_cons (pe_op op_add (pv 2) pe_int) (pa_cons (pe_op op_sub (pv 0) pe_int) pa_nil)))))))))), ?_⟩
    refine ⟨_, rfl, _, _, _, _, true, rfl, .ty "tuple", .base (.tup ha), kit_ty (by decide +kernel), true, rfl, iteF ?_⟩
    refine ⟨_, rfl, a, _, rfl, .inr (SqT.of ha), rfl, _, rfl, iteNS rfl ?_⟩
    refine ⟨_, rfl, _, _, rfl, SqT.of ha, rfl, _, _, rfl, _, _, rfl, rfl, ?_⟩
    refine ⟨_, rfl, _, rfl, _, _, rfl, rfl, p.1, 0, n - 1, rfl, _, rfl, ?_⟩
    by_cases h1 : 0 ≤ p.1 ∧ p.1 ≤ n - 1
    · rw [if_pos (decide_eq_true h1)]
      refine ⟨_, rfl, _, rfl, _, _, rfl, rfl, _, rfl, _, _, rfl, rfl, p.2, p.1 + 1, n - 1, rfl, ?_⟩
      have e : decide (0 ≤ p.1 ∧ p.1 < p.2 ∧ p.2 < n) = decide (p.1 + 1 ≤ p.2 ∧ p.2 ≤ n - 1) := by
        by_cases h2 : p.1 + 1 ≤ p.2 ∧ p.2 ≤ n - 1
        · rw [decide_eq_true h2]; exact decide_eq_true (by omega)
        · rw [decide_eq_false h2]; exact decide_eq_false (by omega)
      rw [e] at k
      exact k
    · rw [if_neg (by simpa using h1)]
      have e : decide (0 ≤ p.1 ∧ p.1 < p.2 ∧ p.2 < n) = false := decide_eq_false (by omega)
      rw [e] at k
      exact k
/-- ties as they should be -/
structure Good (n : Int) (ps : List (Int × Int)) : Prop where
  ok : ∀ p ∈ ps, 0 ≤ p.1 ∧ p.1 < p.2 ∧ p.2 < n
  up : ps.Pairwise lt2
theorem Good.le {n : Int} {ps : List (Int × Int)} (g : Good n ps) {i : Nat} {p q : Int × Int} (h1 : ps[i]? = some p) (h2 : ps[i + 1]? = some q) : lt2 p q := by
  obtain ⟨a1, e1⟩ := List.getElem?_eq_some_iff.mp h1
  obtain ⟨a2, e2⟩ := List.getElem?_eq_some_iff.mp h2
  rw [← e1, ← e2]
  exact List.pairwise_iff_getElem.mp g.up i (i + 1) a1 a2 (Nat.lt_succ_self i)
def sp_wrong_tie : Sp := fun vs H Q _ => ∃ n t xs ps, vs = [.int n, .ref t] ∧ H t = some (.tup xs) ∧ Pairs H xs ps ∧ Good n ps ∧ ∀ H', Same H H' → Q .non H'
abbrev s_wrong_tie : Stmt := (top 12)
theorem sc_wrong_tie : FnScope ["size", "ties", "last", "at", "pair"] ["size", "ties"] (defScope s_wrong_tie) := ⟨rfl, rfl, rfl, by decide +kernel, rfl, by decide +kernel, by decide +kernel⟩

theorem lexLe_no {p q : Int × Int} (h : lt2 p q) : Ob.lexAt (fun j => decide ([q.1, q.2].getD j 0 = [p.1, p.2].getD j 0)) (fun j => decide ([q.1, q.2].getD j 0 ≤ [p.1, p.2].getD j 0)) (decide ([q.1, q.2].length ≤ [p.1, p.2].length)) 0 (min [q.1, q.2].length [p.1, p.2].length) = false := by
  show (if decide (q.1 = p.1) = true then (if decide (q.2 = p.2) = true then true else decide (q.2 ≤ p.2)) else decide (q.1 ≤ p.1)) = false
  unfold lt2 at h
  rcases h with h | ⟨h1, h2⟩
  · rw [if_neg (by simp; omega)]
    exact decide_eq_false (by omega)
  · rw [if_pos (by simp; omega), if_neg (by simp; omega)]
    exact decide_eq_false (by omega)
theorem ok_wrong_tie {f : Addr} {fd : FuncData} (F : Fun K "wrong_tie" "wrong_tie" s_wrong_tie f fd) (hm : mg "wrong_tie" = some (.ref f)) (B : Bl mg) (c_is_tie : Cal P w K mg base 3 "is_tie" ["size", "thing"] sp_is_tie) : Cal P w K mg base 4 "wrong_tie" ["size", "ties"] sp_wrong_tie := by
  refine ⟨f, fd, F.ok sc_wrong_tie (fun vs H Q E h => ?_) (fun cdv A outer s H vs Q E hr h => ?_), hm, F.kp, F.binds (ps := ["size", "ties"]) fun _ _ _ _ _ _ us hl => match us, hl with | [_, _], _ => rfl⟩
  · obtain ⟨n, t, xs, ps, rfl, _⟩ := h; rfl
  · obtain ⟨n, t, xs, ps, rfl, ht, hp, G, k⟩ := h
    refine ⟨_, (pss_cons (ps_set (i := 2) sc_wrong_tie.nd rfl (by first | exact Or.inl rfl | exact Or.inr rfl) (pe_tup pa_nil))
 (pss_cons (ps_for PassesOwn.never rfl (pi_enumT (by rfl) B.enumerate (pa_cons (pv 1) pa_nil)) (pg_tup (by rfl) (pgs_cons (pg_name (i := 3) sc_wrong_tie.nd rfl (by first | exact Or.inl rfl | exact Or.inr rfl)) (pgs_cons (pg_name (i := 4) sc_wrong_tie.nd rfl (by first | exact Or.inl rfl | exact Or.inr rfl)) pgs_nil)))
  (pss_cons (ps_if (PW.pt (pw_or (pt_not (pt_val (pe_cal c_is_tie (hr.mono (by first | decide | omega)) (pa_cons (pv 0) (pa_cons (pv 4) pa_nil))))) (pw_or1 (pt_cmpR (op_leT hr.units0) (pv 4) (pv 2) (nomark _))))) (pss_one (ps_ret (pv 3))) pss_nil)
 (pss_one (ps_set (i := 2) sc_wrong_tie.nd rfl (by first | exact Or.inl rfl | exact Or.inr rfl) (pv 4)))))
 (pss_one (ps_ret pe_non)))), ?_⟩
    refine ⟨Nat.zero_le _, fun z hz => ?_⟩
    refine ⟨_, rfl, t, xs, rfl, SqT.of ((Same.new hz) _ _ ht), for_it (walk_enumT (K := K) (a := t) (xs := xs)) (fun i σ H' => Same H H' ∧ ∃ (u v : Option V) (l : Addr) (ms : List Int), σ = [some (.int n), some (.ref t), some (.ref l), u, v] ∧ H' l = some (.tup (ms.map V.int)) ∧ (i = 0 → ms = []) ∧ ∀ j q, i = j + 1 → ps[j]? = some q → ms = [q.1, q.2])
      ⟨Same.new hz, none, none, z, [], rfl, upd_same, fun _ => rfl, fun j q e _ => by omega⟩ (fun i σ H' _ p => SqT.of (p.1 _ _ ht)) ?_ ?_⟩
    · rintro i y σ H1 H2 hi ⟨e1, u, v, l, ms, rfl, hl, m0, m1⟩ ⟨A1, y1, y2, rfl, hA, rfl, hy1, hy2⟩
      cases hy1
      obtain ⟨q, hq, a, rfl, hqa⟩ := Paired.get hp hy2
      have e2 : Same H1 (upd H1 A1 (.tup [.int (i : Nat), .ref a])) := Same.new hA
      have hqa2 := e2 _ _ (e1 _ _ hqa)
      refine ⟨A1, _, rfl, SqT.of upd_same, rfl, _, _, rfl, _, _, rfl, rfl, ?_⟩
      refine ⟨_, rfl, _, rfl, n, a, q, rfl, hqa2, _, rfl, ?_⟩
      rw [decide_eq_true (G.ok q (List.mem_of_getElem? hq))]
      refine iteF ?_
      refine ⟨_, rfl, _, rfl, a, l, [q.1, q.2], ms, rfl, rfl, SqT.of hqa2, SqT.of (e2 _ _ hl), ?_⟩
      have no : Ob.lexAt (fun j => decide ([q.1, q.2].getD j 0 = ms.getD j 0)) (fun j => decide ([q.1, q.2].getD j 0 ≤ ms.getD j 0)) (decide ([q.1, q.2].length ≤ ms.length)) 0 (min [q.1, q.2].length ms.length) = false := by
        cases i with
        | zero => rw [m0 rfl]; rfl
        | succ j =>
          have hj : j < ps.length := by
            have := (List.getElem?_eq_some_iff.mp hq).1
            omega
          rw [m1 j ps[j] rfl (List.getElem?_eq_getElem hj)]
          exact lexLe_no (G.le (List.getElem?_eq_getElem hj) hq)
      rw [no]
      refine ⟨_, rfl, iteF ?_⟩
      refine ⟨_, rfl, e1.trans e2, _, _, a, [q.1, q.2], rfl, hqa2, fun e => by omega, fun j q' e h' => ?_⟩
      have : j = i := by omega
      subst this
      rw [hq] at h'
      cases h'
      rfl
    · rintro σ H' ⟨e1, _⟩
      exact k _ e1
end
open PySem PySem.Spec L2
/-! ## ties as data -/
def pD (p : Int × Int) : PyData := .tuple [.int p.1, .int p.2]
theorem pD_lay (z : Int × Int) : (pD z).canLay0 = true := by simp [pD, PyData.canLay0, PyData.canLayAll0]
theorem pD_depth (z : Int × Int) : (pD z).depth = 1 := by simp [pD, PyData.depth, PyData.depthAll]
theorem pDs_lay : ∀ zs : List (Int × Int), PyData.canLayAll0 (zs.map pD) = true
  | [] => by simp [PyData.canLayAll0]
  | z :: zs => by simp [PyData.canLayAll0, pD_lay z, pDs_lay zs]
theorem pDs_depth : ∀ zs : List (Int × Int), PyData.depthAll (zs.map pD) ≤ 1
  | [] => by simp [PyData.depthAll]
  | z :: zs => by
    have h1 := pDs_depth zs
    have h2 := pD_depth z
    simp only [List.map_cons, PyData.depthAll]
    omega
theorem pD_shaped (z : Int × Int) : SeqAt.shaped (pD z) = true := by
  have h := pD_depth z
  show ((pD z).canLay0 && decide ((pD z).depth ≤ 64)) = true
  rw [Bool.and_eq_true]
  exact ⟨pD_lay z, decide_eq_true (by omega)⟩
theorem pDs_shaped (zs : List (Int × Int)) : SeqAt.shaped (.tuple (zs.map pD)) = true := by
  have h1 := pDs_depth zs
  have h2 : PyData.depth (.tuple (zs.map pD)) ≤ 64 := by
    simp only [PyData.depth]
    omega
  show (PyData.canLay0 (.tuple (zs.map pD)) && decide (PyData.depth (.tuple (zs.map pD)) ≤ 64)) = true
  rw [Bool.and_eq_true]
  exact ⟨by simp only [PyData.canLay0]; exact pDs_lay zs, decide_eq_true h2⟩
theorem pDs_shapedL (zs : List (Int × Int)) : SeqAt.shaped (.list (zs.map pD)) = true := by
  have h1 := pDs_depth zs
  have h2 : PyData.depth (.list (zs.map pD)) ≤ 64 := by
    simp only [PyData.depth]
    omega
  show (PyData.canLay0 (.list (zs.map pD)) && decide (PyData.depth (.list (zs.map pD)) ≤ 64)) = true
  rw [Bool.and_eq_true]
  exact ⟨by simp only [PyData.canLay0]; exact pDs_lay zs, decide_eq_true h2⟩
theorem pD_eqv (z w : Int × Int) : PyData.eqv (pD z) (pD w) = decide (z = w) := by
  obtain ⟨a, b⟩ := z
  obtain ⟨a', b'⟩ := w
  have e : PyData.eqv (pD (a, b)) (pD (a', b')) = ((a == a') && ((b == b') && true)) := by simp only [pD, PyData.eqv, PyData.eqvAll]
  rw [e]
  by_cases h : ((a, b) : Int × Int) = (a', b')
  · cases h; simp
  · rw [decide_eq_false h]
    by_cases h1 : a = a'
    · have q : (b == b') = false := beq_eq_false_iff_ne.mpr (fun h2 => h (by rw [h1, h2]))
      rw [q]; simp
    · have q : (a == a') = false := beq_eq_false_iff_ne.mpr h1
      rw [q]; simp
theorem pDs_eqv : ∀ ps qs : List (Int × Int), PyData.eqvAll (ps.map pD) (qs.map pD) = decide (ps = qs)
  | [], [] => by simp [PyData.eqvAll]
  | [], q :: qs => by simp [PyData.eqvAll]
  | p :: ps, [] => by simp [PyData.eqvAll]
  | p :: ps, q :: qs => by
    rw [List.map_cons, List.map_cons]
    simp only [PyData.eqvAll]
    rw [pD_eqv, pDs_eqv ps qs]
    by_cases h1 : p = q
    · by_cases h2 : ps = qs <;> simp [h1, h2]
    · simp [h1]
theorem pDt_eqv (ps qs : List (Int × Int)) : PyData.eqv (.tuple (ps.map pD)) (.tuple (qs.map pD)) = decide (ps = qs) := by
  simp only [PyData.eqv]
  exact pDs_eqv ps qs
section
variable {K : PySem.W.Frag} {H : Hp}
theorem dp_pair {v : V} {p : Int × Int} (h : PairAt H v p) : Dp K H v (pD p) := by
  obtain ⟨a, rfl, h2⟩ := h
  exact .tup (SqT.of h2) (.cons (.int _) (.cons (.int _) .nil))
theorem dp_pairs : ∀ {xs : List V} {ps : List (Int × Int)}, Pairs H xs ps → DpAll K H xs (ps.map pD)
  | _, _, .nil => .nil
  | _, _, .cons r t => .cons (dp_pair r) (dp_pairs t)
theorem dp_ties {t : Addr} {xs : List V} {ps : List (Int × Int)} (h : H t = some (.tup xs)) (hp : Pairs H xs ps) : Dp K H (.ref t) (.tuple (ps.map pD)) := .tup (SqT.of h) (dp_pairs hp)
theorem dp_list {t : Addr} {xs : List V} {ps : List (Int × Int)} (h : H t = some (.lst xs)) (hp : Pairs H xs ps) : Dp K H (.ref t) (.list (ps.map pD)) := .lst (SqL.of h) (dp_pairs hp)
end
/-! ## lists in order -/
theorem lt2_irr {p : Int × Int} : ¬ lt2 p p := by unfold lt2; omega
theorem lt2_trans {p q r : Int × Int} (h1 : lt2 p q) (h2 : lt2 q r) : lt2 p r := by unfold lt2 at *; omega
theorem lt2_of {p q : Int × Int} (h : le2 p q) (n : p ≠ q) : lt2 p q := by
  unfold le2 at h; unfold lt2
  rcases h with h | ⟨h1, h2⟩
  · exact .inl h
  · refine .inr ⟨h1, ?_⟩
    have : p.2 ≠ q.2 := fun e => n (Prod.ext h1 e)
    omega
theorem up_of {ps : List (Int × Int)} (h : ps.Pairwise le2) (n : ps.Nodup) : ps.Pairwise lt2 := by
  induction ps with
  | nil => exact .nil
  | cons p ps ih =>
    obtain ⟨h1, h2⟩ := List.pairwise_cons.mp h
    obtain ⟨n1, n2⟩ := List.nodup_cons.mp n
    refine List.pairwise_cons.mpr ⟨fun q hq => lt2_of (h1 q hq) (fun e => n1 (e ▸ hq)), ih h2 n2⟩
theorem up_ext : ∀ {ps qs : List (Int × Int)}, ps.Pairwise lt2 → qs.Pairwise lt2 → (∀ p, p ∈ ps ↔ p ∈ qs) → ps = qs
  | [], [], _, _, _ => rfl
  | [], q :: qs, _, _, h => by have := (h q).mpr (by simp); simp at this
  | p :: ps, [], _, _, h => by have := (h p).mp (by simp); simp at this
  | p :: ps, q :: qs, hp, hq, h => by
    obtain ⟨p1, p2⟩ := List.pairwise_cons.mp hp
    obtain ⟨q1, q2⟩ := List.pairwise_cons.mp hq
    have e : p = q := by
      rcases List.mem_cons.mp ((h p).mp (by simp)) with e | e
      · exact e
      · rcases List.mem_cons.mp ((h q).mpr (by simp)) with e' | e'
        · exact e'.symm
        · exact absurd (lt2_trans (q1 p e) (p1 q e')) lt2_irr
    subst e
    have : ps = qs := up_ext p2 q2 fun r => by
      constructor
      · intro hr
        rcases List.mem_cons.mp ((h r).mp (by simp [hr])) with e | e
        · subst e; exact absurd (p1 r hr) lt2_irr
        · exact e
      · intro hr
        rcases List.mem_cons.mp ((h r).mpr (by simp [hr])) with e | e
        · subst e; exact absurd (q1 r hr) lt2_irr
        · exact e
    rw [this]
theorem up_nodup {ps : List (Int × Int)} (h : ps.Pairwise lt2) : ps.Nodup := List.Pairwise.imp (fun {a b} (q : lt2 a b) => show a ≠ b from fun e => by subst e; exact lt2_irr q) h
def norm (a b : Int) : Int × Int := (if b < a then b else a, if b > a then b else a)
theorem norm_id {p : Int × Int} (h : p.1 < p.2) : norm p.1 p.2 = p := by
  unfold norm
  rw [if_neg (by omega), if_pos h]
section
variable {P : Program} {w : World} {K : PySem.W.Frag} {mg : Str → Option Value} {base : Heap} {C : Addr}
/-! ## Web -/
def wf (n : Int) (t : Addr) : List (Str × V) := putF "ties" (.ref t) (putF "size" (.int n) [])
theorem ts_ : ¬ (("ties" : Str) = "size") := by decide +kernel
theorem st_ : ¬ (("size" : Str) = "ties") := by decide +kernel
theorem wf_size (n : Int) (t : Addr) : (wf n t).lookup ("size" : Str) = some (.int n) := by
  unfold wf
  rw [lookup_putF, if_neg st_, lookup_putF, if_pos rfl]
theorem wf_ties (n : Int) (t : Addr) : (wf n t).lookup ("ties" : Str) = some (.ref t) := by
  unfold wf
  rw [lookup_putF, if_pos rfl]
theorem wf_len (n : Int) (t : Addr) : (wf n t).length = 2 := by
  show (if ("size" : Str) = "ties" then [(("size" : Str), V.ref t)] else (("size" : Str), V.int n) :: putF "ties" (V.ref t) []).length = 2
  rw [if_neg st_]
  rfl
def sp_Web_init (C : Addr) : Sp := fun vs H Q _ => ∃ x dx n t xs ps, vs = [.ref x, .int n, .ref t] ∧ H x = some (.ins C dx []) ∧ 1 ≤ n ∧ n ≤ 24 ∧ H t = some (.tup xs) ∧ Pairs H xs ps ∧ Good n ps ∧ ∀ H', ExT x H H' → H' x = some (.ins C dx (wf n t)) → Q .non H'
abbrev s_Web_init : Stmt := (inClass (top 10) 0)
theorem sc_Web_init : FnScope ["self", "size", "ties", "wrong"] ["self", "size", "ties"] (defScope s_Web_init) := ⟨rfl, rfl, rfl, by decide +kernel, rfl, by decide +kernel, by decide +kernel⟩

theorem ok_Web_init {f : Addr} {fd : FuncData} (F : Fun K "__init__" "Web.__init__" s_Web_init f fd) (B : Bl mg) (T : Txt K mg C) (c_is_number : Cal P w K mg base 2 "is_number" ["thing", "least", "most"] sp_is_number) (c_wrong_tie : Cal P w K mg base 4 "wrong_tie" ["size", "ties"] sp_wrong_tie) : FnOk P w K mg base CX0 5 f fd ["self", "size", "ties"] (sp_Web_init C) := by
  refine F.ok sc_Web_init (fun vs H Q E h => ?_) (fun cdv A outer s H vs Q E hr h => ?_)
  · obtain ⟨x, dx, n, t, xs, ps, rfl, _⟩ := h; rfl
  · obtain ⟨x, dx, n, t, xs, ps, rfl, hx, n1, n2, ht, hp, G, k⟩ := h
    obtain ⟨t24, h24⟩ := T.mg_MOST_PARTS
    refine ⟨_, (pss_cons (ps_if (pt_not (pt_val (pe_cal c_is_number (hr.mono (by first | decide | omega)) (pa_cons (pv 1) (pa_cons pe_int (pa_cons (pe_glob (v := .int 24) (by rfl) h24 ⟨_, rfl⟩) pa_nil)))))) (pss_one ps_never) pss_nil)
 (pss_cons (ps_if (pt_not (pt_val (pe_callB call_isi (by rfl) B.isinstance (by decide +kernel) (pa_cons (pv 2) (pa_cons (pe_bltn (v := .ty "tuple") (by rfl) B.tuple_ (by decide +kernel) rfl) pa_nil))))) (pss_one ps_never) pss_nil)
 (pss_cons (ps_set (i := 3) sc_Web_init.nd rfl (by first | exact Or.inl rfl | exact Or.inr rfl) (pe_cal c_wrong_tie (hr.mono (by first | decide | omega)) (pa_cons (pv 1) (pa_cons (pv 2) pa_nil))))
 (pss_cons (ps_if (pt_cmpR op_notN (pv 3) pe_non (nomark _)) (pss_one ps_never) pss_nil)
 (pss_cons (ps_fld (pv 0) (pv 1) rfl)
 (pss_one (ps_fld (pv 0) (pv 2) rfl))))))), ?_⟩
    refine ⟨_, rfl, n, 1, 24, rfl, _, rfl, ?_⟩
    rw [decide_eq_true (⟨n1, n2⟩ : 1 ≤ n ∧ n ≤ 24)]
    refine iteF ?_
    refine ⟨_, rfl, _, _, _, _, true, rfl, .ty "tuple", .base (.tup ht), kit_ty (by decide +kernel), true, rfl, iteF ?_⟩
    refine ⟨_, rfl, _, rfl, n, t, xs, ps, rfl, ht, hp, G, fun H1 e1 => ?_⟩
    refine ⟨_, rfl, rfl, _, rfl, iteF ?_⟩
    refine ⟨_, rfl, _, rfl, x, C, dx, [], rfl, e1 _ _ hx, T.cl, T.nSize, (by decide), ?_⟩
    refine ⟨_, rfl, _, rfl, x, C, dx, _, rfl, upd_same, T.cl, T.nTies, (by show 1 < 1000; decide), ?_⟩
    exact k _ (e1.exT.upd.upd) upd_same
/-- Web(size, ties) -/
theorem make_web {H : Hp} {n : Int} {t : Addr} {xs : List V} {ps : List (Int × Int)} {Q : Addr → Hp → Prop} (n1 : 1 ≤ n) (n2 : n ≤ 24) (ht : H t = some (.tup xs)) (hp : Pairs H xs ps) (G : Good n ps)
    (k : ∀ x H', Same H H' → H x = none → WebAt C H' x n t ps → (∃ dx, H' x = some (.ins C dx (wf n t))) → Q x H') :
    ∀ x dx, H x = none → H dx = none → dx ≠ x → sp_Web_init C (.ref x :: ([.int n, .ref t] ++ [])) (upd (upd H dx (.own x)) x (.ins C dx [])) (fun v H2 => v = .non ∧ Q x H2) E0 := by
  intro x dx nx nd ne
  have s0 : Same H (upd (upd H dx (.own x)) x (.ins C dx [])) := fun b o e => by
    rw [upd_ne (ne_of_none e nx), upd_ne (ne_of_none e nd)]
    exact e
  refine ⟨x, dx, n, t, xs, ps, rfl, upd_same, n1, n2, s0 _ _ ht, hp.tk s0.tk, G, fun H' e' h' => ⟨rfl, ?_⟩⟩
  have s1 : Same H H' := fun b o e => e' _ _ (ne_of_none e nx) (s0 _ _ e)
  exact k x H' s1 nx ⟨⟨dx, _, h', wf_size n t, wf_ties n t⟩, xs, s1 _ _ ht, hp.tk s1.tk⟩ ⟨dx, h'⟩
def sp_Web_eq (C : Addr) : Sp := fun vs H Q _ => ∃ a b n m t u ps qs, vs = [.ref a, .ref b] ∧ WebAt C H a n t ps ∧ WebAt C H b m u qs ∧ Q (.bl (decide (n = m ∧ ps = qs))) H
theorem kit_own {C : Addr} : PySem.W.kitOne K (.ref C) (.ref C) = some true := by
  unfold PySem.W.kitOne
  simp
abbrev s_Web_eq : Stmt := (inClass (top 10) 1)
theorem sc_Web_eq : FnScope ["self", "other"] ["self", "other"] (defScope s_Web_eq) := ⟨rfl, rfl, rfl, by decide +kernel, rfl, by decide +kernel, by decide +kernel⟩

theorem ok_Web_eq {f : Addr} {fd : FuncData} (F : Fun K "__eq__" "Web.__eq__" s_Web_eq f fd) (B : Bl mg) (T : Txt K mg C) : FnOk P w K mg base CX0 1 f fd ["self", "other"] (sp_Web_eq C) := by
  refine F.ok sc_Web_eq (fun vs H Q E h => ?_) (fun cdv A outer s H vs Q E hr h => ?_)
  · obtain ⟨a, b, n, m, t, u, ps, qs, rfl, _⟩ := h; rfl
  · obtain ⟨a, b, n, m, t, u, ps, qs, rfl, ⟨⟨dx, fs, h1, h2, h3⟩, xs, h4, h5⟩, ⟨⟨dy, gs, g1, g2, g3⟩, ys, g4, g5⟩, k⟩ := h
    refine ⟨_, (pss_one (ps_ret (pe_and (pe_callB call_isi (by rfl) B.isinstance (by decide +kernel) (pa_cons (pv 1) (pa_cons (pe_globR T.mg_Web) pa_nil))) (pe_and (pe_cmpR op_eq (pe_fld (pv 0) rfl) (pe_fld (pv 1) rfl) (nomark _)) (pe_one (pe_cmpR (op_eqD hr.units) (pe_fld (pv 0) rfl) (pe_fld (pv 1) rfl) (nomark _))))))), ?_⟩
    refine ⟨_, rfl, _, _, _, _, true, rfl, .own C, .base (.ins g1 T.cl T.xc T.xg T.xt T.xm), kit_own, true, rfl, iteT ?_⟩
    refine ⟨_, rfl, a, C, dx, fs, _, rfl, h1, T.cl, T.nSize, h2, _, rfl, b, C, dy, gs, _, rfl, g1, T.cl, T.nSize, g2, rfl, _, rfl, ?_⟩
    by_cases e : n = m
    · rw [if_pos (decide_eq_true (by rw [e]))]
      refine ⟨_, rfl, a, C, dx, fs, _, rfl, h1, T.cl, T.nTies, h3, _, rfl, b, C, dy, gs, _, rfl, g1, T.cl, T.nTies, g3, _, _, dp_ties h4 h5, dp_ties g4 g5, pDs_shaped ps, pDs_shaped qs, ?_⟩
      rw [pDt_eqv]
      have e2 : decide (n = m ∧ ps = qs) = decide (ps = qs) := by simp [e]
      rw [e2] at k
      exact k
    · rw [if_neg (by simpa using e)]
      have e2 : decide (n = m ∧ ps = qs) = false := decide_eq_false fun q => e q.1
      rw [e2] at k
      exact k
end
open PySem PySem.Spec L2
theorem paired_map {α β γ : Type} {F : α → γ → Prop} {g : β → γ} : ∀ {l : List α} {m : List β}, Paired (fun v a => F v (g a)) l m → Paired F l (m.map g)
  | _, _, .nil => .nil
  | _, _, .cons r t => .cons r (paired_map t)
theorem paired_eq {α : Type} {g : α → V} : ∀ {l : List V} {m : List α}, Paired (fun v a => v = g a) l m → l = m.map g
  | _, _, .nil => rfl
  | _, _, .cons r t => by rw [r, paired_eq t]; rfl
theorem filter_yes {α : Type} (l : List α) : l.filter (fun _ => true) = l := List.filter_eq_self.mpr fun _ _ => rfl
theorem paired_at {α : Type} {F : V → α → Prop} {xs : List V} {as : List α} {i : Nat} {x : V} {a : α} (h : Paired F xs as) (hx : xs[i]? = some x) (ha : as[i]? = some a) : F x a := by
  obtain ⟨b, hb, q⟩ := Paired.get h hx
  rw [ha] at hb
  cases hb
  exact q
section
variable {P : Program} {w : World} {K : PySem.W.Frag} {mg : Str → Option Value} {base : Heap} {C : Addr}
theorem inV_pair (k a b : Int) : inV (.int k) [.int a, .int b] = (a == k || b == k) := by
  simp [inV, eqV]
theorem norm_lt {a b : Int} (h : a ≠ b) : (norm a b).1 < (norm a b).2 := by
  unfold norm
  by_cases h1 : b < a
  · rw [if_pos h1, if_neg (by omega)]; exact h1
  · rw [if_neg h1, if_pos (by omega)]; show a < b; omega
theorem norm_in {a b n : Int} (h : a ≠ b) (a1 : 0 ≤ a) (a2 : a < n) (b1 : 0 ≤ b) (b2 : b < n) : 0 ≤ (norm a b).1 ∧ (norm a b).1 < (norm a b).2 ∧ (norm a b).2 < n := by
  unfold norm
  by_cases h1 : b < a
  · rw [if_pos h1, if_neg (by omega)]; exact ⟨b1, h1, a2⟩
  · rw [if_neg h1, if_pos (by omega)]; exact ⟨a1, by show a < b; omega, b2⟩
theorem map_norm {n : Int} {ps : List (Int × Int)} (h : ∀ p ∈ ps, p.1 < p.2) : (ps.map fun p => norm p.1 p.2) = ps := by
  induction ps with
  | nil => rfl
  | cons p ps ih => rw [List.map_cons, norm_id (h p (by simp)), ih fun q hq => h q (by simp [hq])]
theorem good_of {n : Int} {qs rs : List (Int × Int)} (hp : qs.Perm rs) (hl : qs.Pairwise le2) (hn : rs.Nodup) (ok : ∀ p ∈ rs, 0 ≤ p.1 ∧ p.1 < p.2 ∧ p.2 < n) : Good n qs :=
  ⟨fun p h => ok p (hp.mem_iff.mp h), up_of hl (hp.nodup_iff.mpr hn)⟩
end
open PySem PySem.Spec L2
theorem fm0 {a m : Int} (h : 0 < m) : 0 ≤ a.fmod m ∧ a.fmod m < m := by
  rw [Int.fmod_eq_emod_of_nonneg _ (Int.le_of_lt h)]
  exact ⟨Int.emod_nonneg _ (by omega), Int.emod_lt_of_pos _ h⟩
theorem on_if {c : Prop} [Decidable c] {A B : Hp → Prop} {H : Hp} (h1 : c → A H) (h2 : ¬ c → B H) : (fun (b : Bool) (H1 : Hp) => if b = true then A H1 else B H1) (decide c) H := by
  by_cases h : c
  · show (if decide c = true then A H else B H)
    rw [if_pos (decide_eq_true h)]; exact h1 h
  · show (if decide c = true then A H else B H)
    rw [if_neg (by simpa using h)]; exact h2 h
theorem on_ifN {c : Prop} [Decidable c] {A B : Hp → Prop} {H : Hp} (h1 : ¬ c → A H) (h2 : c → B H) : (fun (b : Bool) (H1 : Hp) => if b = true then A H1 else B H1) (!decide c) H := by
  by_cases h : c
  · show (if (!decide c) = true then A H else B H)
    rw [if_neg (by simpa using h)]; exact h2 h
  · show (if (!decide c) = true then A H else B H)
    rw [if_pos (by simpa using h)]; exact h1 h
section
variable {P : Program} {w : World} {K : PySem.W.Frag} {mg : Str → Option Value} {base : Heap} {C : Addr}
end
open PySem PySem.Spec L2
theorem seq_ix {r : Int} {n : Nat} (h0 : 0 ≤ r) (h1 : r < n) : seqIndex? r n = some r.toNat := by
  unfold seqIndex?
  simp [show ¬ r < 0 by omega, h0, h1]
theorem cons_erase {α : Type} : ∀ {l : List α} {i : Nat} (h : i < l.length), (l[i] :: l.eraseIdx i).Perm l
  | [], _, h => by simp at h
  | a :: l, 0, _ => .refl _
  | a :: l, i + 1, h => by
    have h' : i < l.length := by simpa using h
    exact (List.Perm.swap a l[i] _).trans ((cons_erase h').cons a)
theorem perm_sorted : ∀ {l m : List Int}, l.Perm m → l.Pairwise (· ≤ ·) → m.Pairwise (· < ·) → l = m := by
  intro l m hp hl hm
  have hm' : m.Pairwise (· ≤ ·) := hm.imp fun {a b} h => Int.le_of_lt h
  have key : ∀ {l m : List Int}, l.Perm m → l.Pairwise (· ≤ ·) → m.Pairwise (· ≤ ·) → l = m := by
    intro l
    induction l with
    | nil => intro m hp _ _; exact (List.nil_perm.mp hp).symm
    | cons a l ih =>
      intro m hp hl hm
      cases m with
      | nil => exact absurd hp.length_eq (by simp)
      | cons b m =>
        obtain ⟨l1, l2⟩ := List.pairwise_cons.mp hl
        obtain ⟨m1, m2⟩ := List.pairwise_cons.mp hm
        have e : a = b := by
          have h1 : a ∈ b :: m := hp.mem_iff.mp (by simp)
          have h2 : b ∈ a :: l := hp.mem_iff.mpr (by simp)
          rcases List.mem_cons.mp h1 with h1 | h1
          · exact h1
          · rcases List.mem_cons.mp h2 with h2 | h2
            · exact h2.symm
            · have := l1 b h2; have := m1 a h1; omega
        subst e
        rw [ih (List.Perm.cons_inv hp) l2 m2]
  exact key hp hl hm'
section
variable {P : Program} {w : World} {K : PySem.W.Frag} {mg : Str → Option Value} {base : Heap} {C : Addr}
end
open PySem PySem.Spec L2
theorem onb {c : Prop} [Decidable c] {A B : Prop} (h1 : c → A) (h2 : ¬ c → B) : if decide c = true then A else B := on_if (A := fun _ => A) (B := fun _ => B) (H := fun _ => none) h1 h2
theorem onbN {c : Prop} [Decidable c] {A B : Prop} (h1 : ¬ c → A) (h2 : c → B) : if (!decide c) = true then A else B := on_ifN (A := fun _ => A) (B := fun _ => B) (H := fun _ => none) h1 h2
def unI : V → Int
  | .int i => i
  | _ => 0
theorem ints_of : ∀ {ys : List V} {ns : List Int}, ys.Perm (ns.map V.int) → ys = (ys.map unI).map V.int ∧ (ys.map unI).Perm ns := by
  intro ys ns hp
  have h1 : ∀ y ∈ ys, V.int (unI y) = y := fun y hy => by
    obtain ⟨i, _, rfl⟩ := List.mem_map.mp (hp.mem_iff.mp hy)
    rfl
  refine ⟨?_, ?_⟩
  · rw [List.map_map]
    have : ys.map (V.int ∘ unI) = ys.map id := List.map_congr_left fun y hy => h1 y hy
    rw [this, List.map_id]
  · have h2 := hp.map unI
    rw [List.map_map] at h2
    have : ns.map (unI ∘ V.int) = ns.map id := List.map_congr_left fun y hy => rfl
    rw [this, List.map_id] at h2
    exact h2
/-- names: the numbers below n in some order -/
structure Names (n : Int) (ns : List Int) : Prop where
  len : (ns.length : Int) = n
  nd : ns.Nodup
  ok : ∀ x ∈ ns, 0 ≤ x ∧ x < n
theorem names_of {n : Int} {ns : List Int} (h0 : 0 ≤ n) (h : ns.Perm ((List.range (n - 0).toNat).map fun i => (0 : Int) + (i : Nat))) : Names n ns := by
  refine ⟨?_, ?_, fun x hx => ?_⟩
  · have := h.length_eq
    rw [List.length_map, List.length_range] at this
    omega
  · refine h.nodup_iff.mpr ?_
    refine List.pairwise_map.mpr (List.nodup_range.imp fun {a b} h e => h (by omega))
  · obtain ⟨i, hi, rfl⟩ := List.mem_map.mp (h.mem_iff.mp hx)
    have := List.mem_range.mp hi
    omega
theorem Names.at_ {n : Int} {ns : List Int} (N : Names n ns) {i : Nat} (h : (i : Int) < n) : ns[i]? = some (ns.getD i 0) ∧ 0 ≤ ns.getD i 0 ∧ ns.getD i 0 < n := by
  have hi : i < ns.length := by have := N.len; omega
  have e : ns[i]? = some ns[i] := List.getElem?_eq_getElem hi
  have e2 : ns.getD i 0 = ns[i] := by rw [List.getD_eq_getElem?_getD, e]; rfl
  rw [e2]
  exact ⟨e, N.ok _ (List.getElem_mem hi)⟩
theorem Names.inj {n : Int} {ns : List Int} (N : Names n ns) {i j : Nat} (hi : (i : Int) < n) (hj : (j : Int) < n) (e : ns.getD i 0 = ns.getD j 0) : i = j := by
  have h1 := (N.at_ hi).1
  have h2 := (N.at_ hj).1
  rw [e] at h1
  obtain ⟨a1, b1⟩ := List.getElem?_eq_some_iff.mp h1
  obtain ⟨a2, b2⟩ := List.getElem?_eq_some_iff.mp h2
  exact (List.getElem_inj N.nd).mp (b1.trans b2.symm)
theorem norm_eq {a b c d : Int} (hab : a ≠ b) (hcd : c ≠ d) (h : norm a b = norm c d) : (a = c ∧ b = d) ∨ (a = d ∧ b = c) := by
  unfold norm at h
  have h1 := congrArg Prod.fst h
  have h2 := congrArg Prod.snd h
  dsimp only at h1 h2
  by_cases x : b < a
  · rw [if_pos x, if_neg (show ¬ b > a by omega)] at *
    by_cases y : d < c
    · rw [if_pos y, if_neg (show ¬ d > c by omega)] at *; omega
    · rw [if_neg y, if_pos (show d > c by omega)] at *; omega
  · rw [if_neg x, if_pos (show b > a by omega)] at *
    by_cases y : d < c
    · rw [if_pos y, if_neg (show ¬ d > c by omega)] at *; omega
    · rw [if_neg y, if_pos (show d > c by omega)] at *; omega
/-- the ties so far: of the pairs of numbers ahead of (i, j) -/
structure Ps (ns : List Int) (i j : Nat) (ps : List (Int × Int)) : Prop where
  nd : ps.Nodup
  of : ∀ p ∈ ps, ∃ a b : Nat, b < a ∧ (a < i ∨ (a = i ∧ b < j)) ∧ p = norm (ns.getD a 0) (ns.getD b 0)
theorem Ps.zero {ns : List Int} : Ps ns 0 0 [] := ⟨.nil, fun p h => by simp at h⟩
theorem Ps.next {ns : List Int} {i : Nat} {ps : List (Int × Int)} (h : Ps ns i i ps) : Ps ns (i + 1) 0 ps :=
  ⟨h.nd, fun p hp => let ⟨a, b, h1, h2, h3⟩ := h.of p hp; ⟨a, b, h1, by omega, h3⟩⟩
theorem Ps.skip {ns : List Int} {i j : Nat} {ps : List (Int × Int)} (h : Ps ns i j ps) : Ps ns i (j + 1) ps :=
  ⟨h.nd, fun p hp => let ⟨a, b, h1, h2, h3⟩ := h.of p hp; ⟨a, b, h1, by omega, h3⟩⟩
theorem Ps.put {n : Int} {ns : List Int} (N : Names n ns) {i j : Nat} {ps : List (Int × Int)} (hi : (i : Int) < n) (hj : j < i) (h : Ps ns i j ps) : Ps ns i (j + 1) (ps ++ [norm (ns.getD i 0) (ns.getD j 0)]) := by
  refine ⟨List.nodup_append.mpr ⟨h.nd, by simp, fun q hq r hr e => ?_⟩, fun p hp => ?_⟩
  · simp at hr
    subst hr; subst e
    obtain ⟨a, b, h1, h2, h3⟩ := h.of _ hq
    have ne1 : ns.getD i 0 ≠ ns.getD j 0 := fun e => by have := N.inj hi (by omega) e; omega
    have ne2 : ns.getD a 0 ≠ ns.getD b 0 := fun e => by have := N.inj (i := a) (j := b) (by omega) (by omega) e; omega
    rcases norm_eq ne1 ne2 h3 with ⟨e1, e2⟩ | ⟨e1, e2⟩
    · have := N.inj hi (by omega) e1
      have := N.inj (i := j) (j := b) (by omega) (by omega) e2
      omega
    · have := N.inj hi (by omega) e1
      have := N.inj (i := j) (j := a) (by omega) (by omega) e2
      omega
  · rcases List.mem_append.mp hp with hp | hp
    · obtain ⟨a, b, h1, h2, h3⟩ := h.of p hp
      exact ⟨a, b, h1, by omega, h3⟩
    · simp at hp
      exact ⟨i, j, hj, by omega, hp⟩
theorem Ps.good {n : Int} {ns : List Int} (N : Names n ns) {ps qs : List (Int × Int)} {k : Nat} (hk : (k : Int) = n) (h : Ps ns k 0 ps) (hp : qs.Perm ps) (hl : qs.Pairwise le2) : Good n qs := by
  refine good_of hp hl h.nd fun p hp' => ?_
  obtain ⟨a, b, h1, h2, rfl⟩ := h.of p hp'
  have ha := N.at_ (i := a) (by omega)
  have hb := N.at_ (i := b) (by omega)
  exact norm_in (fun e => by have := N.inj (i := a) (j := b) (by omega) (by omega) e; omega) ha.2.1 ha.2.2 hb.2.1 hb.2.2
section
variable {P : Program} {w : World} {K : PySem.W.Frag} {mg : Str → Option Value} {base : Heap} {C : Addr}
end
open PySem PySem.Spec L2
theorem units65 {k : Nat} {A : Around} (r : Room k A) : A.units + 65 < cLine := by have := r.un; omega
def tIfC (t : TT) (x y : V) : TE := fun σ H Q => t σ H fun c H1 => Q (if c = true then x else y) H1
theorem pe_ifC {X : Cx} {c a b : Expr} {pos : Pos} {t : TT} {x y : V} (hc : PT X c t) (ha : PE X a (tC x)) (hb : PE X b (tC y)) : PE X (.IfExp c a b pos) (tIfC t x y) := by
  have h := pe_ifExp (pos := pos) hc ha hb
  have e : tIf t (tC x) (tC y) = tIfC t x y := by
    funext σ H Q
    show t σ H (fun c H1 => if c = true then Q x H1 else Q y H1) = t σ H (fun c H1 => Q (if c = true then x else y) H1)
    have : (fun (c : Bool) (H1 : Hp) => if c = true then Q x H1 else Q y H1) = (fun c H1 => Q (if c = true then x else y) H1) := by
      funext c H1
      cases c <;> simp
    rw [this]
  rw [← e]
  exact h
/-- how many ties there can be -/
theorem up_len : ∀ {l : List Int} {lo hi : Int}, l.Pairwise (· < ·) → (∀ x ∈ l, lo ≤ x ∧ x < hi) → (l.length : Int) ≤ hi - lo ∨ l = []
  | [], _, _, _, _ => .inr rfl
  | x :: l, lo, hi, h, hb => by
    obtain ⟨h1, h2⟩ := List.pairwise_cons.mp h
    have hx := hb x (by simp)
    rcases up_len (lo := x + 1) (hi := hi) h2 (fun y hy => ⟨by have := h1 y hy; omega, (hb y (by simp [hy])).2⟩) with ih | ih
    · left; rw [List.length_cons]; omega
    · subst ih; left; simp; omega
theorem Good.len {n : Int} {ps : List (Int × Int)} (G : Good n ps) (hn : n ≤ 24) : ps.length ≤ 1000 := by
  have h1 : (ps.map fun p => 24 * p.1 + p.2).Pairwise (· < ·) := by
    refine List.pairwise_map.mpr ?_
    have : ps.Pairwise fun p q => lt2 p q ∧ (p ∈ ps ∧ q ∈ ps) := List.Pairwise.imp_of_mem (fun {p q} hp hq h => ⟨h, hp, hq⟩) G.up
    refine this.imp fun {p q} ⟨h, hp, hq⟩ => ?_
    have a := G.ok p hp
    have b := G.ok q hq
    unfold lt2 at h
    omega
  rcases up_len (lo := 0) (hi := 1000) h1 (fun x hx => by
    obtain ⟨p, hp, rfl⟩ := List.mem_map.mp hx
    have a := G.ok p hp
    omega) with h | h
  · rw [List.length_map] at h; omega
  · have := congrArg List.length h
    rw [List.length_map] at this
    simp at this
    simp [this]
theorem norm_comm {a b : Int} (h : a ≠ b) : norm a b = norm b a := by
  unfold norm
  by_cases h1 : b < a
  · rw [if_pos h1, if_neg (by omega), if_neg (by omega), if_pos (by omega)]
  · rw [if_neg h1, if_pos (by omega), if_pos (by omega), if_neg (by omega)]
theorem inV_ints (k : Int) : ∀ l : List Int, inV (.int k) (l.map V.int) = decide (k ∈ l)
  | [] => by simp [inV]
  | a :: l => by
    have ih := inV_ints k l
    unfold inV at ih ⊢
    rw [List.map_cons, List.any_cons, ih]
    by_cases h1 : a = k
    · subst h1; simp [eqV]
    · have : ¬ k = a := fun e => h1 e.symm
      by_cases h2 : k ∈ l <;> simp [eqV, h1, this, h2]
theorem any_pairs (p : Int × Int) : ∀ l : List (Int × Int), ((l.map pD).any fun z => PyData.eqv z (pD p)) = decide (p ∈ l)
  | [] => by simp
  | a :: l => by
    rw [List.map_cons, List.any_cons, any_pairs p l, pD_eqv]
    by_cases h1 : a = p
    · subst h1; simp
    · have : ¬ p = a := fun e => h1 e.symm
      by_cases h2 : p ∈ l <;> simp [h1, this, h2]
theorem flat_ints : ∀ l : List Int, (l.map V.int).all flatV = true
  | [] => rfl
  | a :: l => by rw [List.map_cons, List.all_cons, flat_ints l]; rfl
/-- another part, some parts on -/
theorem other_ne {o r n : Int} (h1 : 0 ≤ o) (h2 : o < n) (h3 : 0 ≤ r) (h4 : r < n - 1) : 0 ≤ (o + 1 + r).fmod n ∧ (o + 1 + r).fmod n < n ∧ o ≠ (o + 1 + r).fmod n := by
  rw [Int.fmod_eq_emod_of_nonneg _ (by omega)]
  by_cases h : o + 1 + r < n
  · rw [Int.emod_eq_of_lt (by omega) h]; omega
  · have e : (o + 1 + r) % n = (o + 1 + r - n) % n := by
      have := Int.sub_emod_right (o + 1 + r) n
      exact this.symm
    rw [e, Int.emod_eq_of_lt (by omega) (by omega)]; omega
section
variable {P : Program} {w : World} {K : PySem.W.Frag} {mg : Str → Option Value} {base : Heap} {C : Addr}
end
open PySem PySem.Spec L2
/-! ## lots -/
structure Lot (n : Int) (l : List Int) : Prop where
  up : l.Pairwise (· < ·)
  ok : ∀ x ∈ l, 0 ≤ x ∧ x < n
theorem lot_len {n : Int} {l : List Int} (h : Lot n l) (h0 : 0 ≤ n) : (l.length : Int) ≤ n := by
  have key : ∀ {l : List Int} {lo hi : Int}, l.Pairwise (· < ·) → (∀ x ∈ l, lo ≤ x ∧ x < hi) → lo ≤ hi → (l.length : Int) ≤ hi - lo := by
    intro l
    induction l with
    | nil => intro lo hi _ _ h; simp; omega
    | cons x l ih =>
      intro lo hi h hb hle
      obtain ⟨h1, h2⟩ := List.pairwise_cons.mp h
      have hx := hb x (by simp)
      have := ih (lo := x + 1) (hi := hi) h2 (fun y hy => ⟨by have := h1 y hy; omega, (hb y (by simp [hy])).2⟩) (by omega)
      rw [List.length_cons]; omega
  have := key h.up h.ok h0
  omega
theorem ups_ext : ∀ {ps qs : List Int}, ps.Pairwise (· < ·) → qs.Pairwise (· < ·) → (∀ p, p ∈ ps ↔ p ∈ qs) → ps = qs
  | [], [], _, _, _ => rfl
  | [], q :: qs, _, _, h => by have := (h q).mpr (by simp); simp at this
  | p :: ps, [], _, _, h => by have := (h p).mp (by simp); simp at this
  | p :: ps, q :: qs, hp, hq, h => by
    obtain ⟨p1, p2⟩ := List.pairwise_cons.mp hp
    obtain ⟨q1, q2⟩ := List.pairwise_cons.mp hq
    have e : p = q := by
      rcases List.mem_cons.mp ((h p).mp (by simp)) with e | e
      · exact e
      · rcases List.mem_cons.mp ((h q).mpr (by simp)) with e' | e'
        · exact e'.symm
        · have := q1 p e; have := p1 q e'; omega
    subst e
    have : ps = qs := ups_ext p2 q2 fun r => by
      constructor
      · intro hr
        rcases List.mem_cons.mp ((h r).mp (by simp [hr])) with e | e
        · subst e; have := p1 r hr; omega
        · exact e
      · intro hr
        rcases List.mem_cons.mp ((h r).mpr (by simp [hr])) with e | e
        · subst e; have := q1 r hr; omega
        · exact e
    rw [this]
/-- a lot's bits -/
def IsLot (l : List Int) (b : Nat) : Prop := (∀ x ∈ l, 0 ≤ x) ∧ l.Pairwise (· < ·) ∧ ∀ k : Nat, (k : Int) ∈ l ↔ b.testBit k = true
def bitsN (l : List Int) : Nat := l.foldl (fun b p => b ||| 2 ^ p.toNat) 0
theorem bitsN_snoc (l : List Int) (p : Int) : bitsN (l ++ [p]) = bitsN l ||| 2 ^ p.toNat := by
  unfold bitsN
  rw [List.foldl_append]
  rfl
theorem bits_fold : ∀ (l : List Int) (b : Nat) (k : Nat), (∀ x ∈ l, 0 ≤ x) → (l.foldl (fun b p => b ||| 2 ^ p.toNat) b).testBit k = (b.testBit k || decide ((k : Int) ∈ l))
  | [], b, k, _ => by simp
  | p :: l, b, k, h => by
    rw [List.foldl_cons, bits_fold l _ k (fun x hx => h x (by simp [hx])), Nat.testBit_or, Nat.testBit_two_pow]
    have h0 := h p (by simp)
    by_cases c : p.toNat = k
    · have : (k : Int) = p := by omega
      simp [c, this]
    · have : ¬ (k : Int) = p := by omega
      simp [c, this]
theorem bitsN_bit {l : List Int} (h : ∀ x ∈ l, 0 ≤ x) (k : Nat) : (bitsN l).testBit k = decide ((k : Int) ∈ l) := by
  unfold bitsN
  rw [bits_fold l 0 k h]
  simp
theorem isLot_bits {n : Int} {l : List Int} (h : Lot n l) : IsLot l (bitsN l) :=
  ⟨fun x hx => (h.ok x hx).1, h.up, fun k => by rw [bitsN_bit fun x hx => (h.ok x hx).1]; simp⟩
theorem take_snoc {α : Type} {l : List α} {i : Nat} {x : α} (h : l[i]? = some x) : l.take (i + 1) = l.take i ++ [x] := by
  rw [List.take_succ, h]; rfl
theorem map_get {l : List Int} {i : Nat} {v : V} (h : (l.map V.int)[i]? = some v) : ∃ x, l[i]? = some x ∧ v = .int x := by
  rw [List.getElem?_map] at h
  cases e : l[i]? with
  | none => rw [e] at h; cases h
  | some x => rw [e] at h; exact ⟨x, rfl, (Option.some.inj h).symm⟩
theorem p2 (k : Nat) : (1 : Int) * 2 ^ ((k : Int)).toNat = ((2 ^ k : Nat) : Int) := by
  rw [Int.toNat_natCast, Int.one_mul, Int.natCast_pow]; rfl
theorem p2i {p : Int} (h : 0 ≤ p) : (1 : Int) * 2 ^ p.toNat = ((2 ^ p.toNat : Nat) : Int) := by
  rw [Int.one_mul, Int.natCast_pow]; rfl
section
variable {P : Program} {w : World} {K : PySem.W.Frag} {mg : Str → Option Value} {base : Heap} {C : Addr}
def sp_is_lot (C : Addr) : Sp := fun vs H Q _ => ∃ x n u ps t l, vs = [.ref x, .ref t] ∧ WebAt C H x n u ps ∧ H t = some (.tup (l.map V.int)) ∧ Lot n l ∧ Q (.bl true) H
def sp_is_lot_below : Sp := fun vs H Q _ => ∃ n t l, vs = [.int n, .ref t] ∧ H t = some (.tup (l.map V.int)) ∧ Lot n l ∧ Q (.bl true) H
def sp_check_stand (C : Addr) : Sp := fun vs H Q _ => ∃ x n u ps t l, vs = [.ref x, .ref t] ∧ WebAt C H x n u ps ∧ H t = some (.tup (l.map V.int)) ∧ Lot n l ∧ Q .non H
def sp_bits_of : Sp := fun vs H Q _ => ∃ t l, vs = [.ref t] ∧ H t = some (.tup (l.map V.int)) ∧ (∀ x ∈ l, 0 ≤ x ∧ x ≤ 1000) ∧ Q (.int (bitsN l : Nat)) H
def sp_lot_of : Sp := fun vs H Q _ => ∃ b : Nat, vs = [.int (b : Int)] ∧ b < 2 ^ 200 ∧ ∀ p l H', Same H H' → H p = none → H' p = some (.tup (l.map V.int)) → IsLot l b → Q (.ref p) H'
end
open PySem PySem.Spec L2
theorem dec_or {p a b : Prop} [Decidable p] [Decidable a] [Decidable b] (h : p ↔ a ∨ b) : decide p = (decide a || decide b) := by
  by_cases ha : a <;> by_cases hb : b <;> simp [h, ha, hb]
theorem dec_iff {p a : Prop} [Decidable p] [Decidable a] (h : p ↔ a) : decide p = decide a := by
  by_cases ha : a <;> simp [h, ha]
def nints (ts : List Nat) : List V := ts.map fun b : Nat => V.int (b : Int)
/-- the bits of what each part is tied to -/
structure Tied (n : Int) (ps : List (Int × Int)) (ts : List Nat) : Prop where
  len : (ts.length : Int) = n
  bit : ∀ i k : Nat, i < ts.length → (ts.getD i 0).testBit k = decide (norm (i : Int) (k : Int) ∈ ps)
theorem nints_get {ts : List Nat} {i : Nat} (h : i < ts.length) : (nints ts)[i]? = some (.int (ts.getD i 0 : Nat)) := by
  unfold nints
  rw [List.getElem?_map, List.getElem?_eq_getElem h, List.getD_eq_getElem?_getD, List.getElem?_eq_getElem h]
  rfl
theorem nints_len (ts : List Nat) : (nints ts).length = ts.length := List.length_map ..
theorem nints_set (ts : List Nat) (i b : Nat) : (nints ts).set i (.int (b : Int)) = nints (ts.set i b) := by
  unfold nints
  rw [List.map_set]
theorem getD_set (ts : List Nat) (i j b : Nat) (h : i < ts.length) : (ts.set i b).getD j 0 = if i = j then b else ts.getD j 0 := by
  rw [List.getD_eq_getElem?_getD, List.getD_eq_getElem?_getD, List.getElem?_set]
  by_cases c : i = j
  · subst c; simp [h]
  · simp [c]
theorem flat_rep (v : V) : ∀ n : Nat, (List.replicate n [v]).flatten = List.replicate n v
  | 0 => rfl
  | n + 1 => by rw [List.replicate_succ, List.flatten_cons, flat_rep v n]; rfl
theorem norm_pair {a b c d : Int} (hab : a < b) : norm c d = (a, b) ↔ (c = a ∧ d = b) ∨ (c = b ∧ d = a) := by
  unfold norm
  constructor
  · intro h
    have h1 := congrArg Prod.fst h
    have h2 := congrArg Prod.snd h
    dsimp only at h1 h2
    by_cases x : d < c
    · rw [if_pos x] at h1; rw [if_neg (show ¬ d > c by omega)] at h2; omega
    · rw [if_neg x] at h1
      by_cases y : d > c
      · rw [if_pos y] at h2; omega
      · rw [if_neg y] at h2; omega
  · rintro (⟨rfl, rfl⟩ | ⟨rfl, rfl⟩)
    · rw [if_neg (by omega), if_pos (by omega)]
    · rw [if_pos (by omega), if_neg (by omega)]
/-- what a part tells -/
def says (ps : List (Int × Int)) (l : List Int) (p : Int) : Bool := l.all fun q => !decide (norm p q ∈ ps)
theorem says_iff {ps : List (Int × Int)} {l : List Int} {p : Int} : says ps l p = true ↔ ∀ q ∈ l, norm p q ∉ ps := by
  unfold says
  rw [List.all_eq_true]
  constructor
  · intro h q hq; simpa using h q hq
  · intro h q hq; simpa using h q hq
/-- tied to none of the stand, by bits -/
theorem says_bits {n : Int} {ps : List (Int × Int)} {ts : List Nat} {l : List Int} {b : Nat} (T : Tied n ps ts) (hb : IsLot l b) {p : Int} (h0 : 0 ≤ p) (h1 : p < n) : decide ((ts.getD p.toNat 0 &&& b) = 0) = says ps l p := by
  have hlt : p.toNat < ts.length := by have := T.len; omega
  have hp : ((p.toNat : Nat) : Int) = p := Int.toNat_of_nonneg h0
  have bit : ∀ k : Nat, (ts.getD p.toNat 0 &&& b).testBit k = (decide (norm p (k : Int) ∈ ps) && decide ((k : Int) ∈ l)) := fun k => by
    rw [Nat.testBit_and, T.bit _ _ hlt, hp]
    have := hb.2.2 k
    cases hc : b.testBit k with
    | true => simp [this.mpr hc]
    | false =>
      have : ¬ (k : Int) ∈ l := fun h => by rw [this.mp h] at hc; cases hc
      simp [this]
  by_cases c : says ps l p = true
  · rw [c]
    refine decide_eq_true (Nat.eq_of_testBit_eq fun k => ?_)
    rw [bit]
    by_cases d : (k : Int) ∈ l
    · have := says_iff.mp c _ d; simp [this]
    · simp [d]
  · rw [eq_false_of_ne_true c]
    refine decide_eq_false fun e => c (says_iff.mpr fun q hq hm => ?_)
    have hq0 := hb.1 q hq
    have := bit q.toNat
    rw [e, Int.toNat_of_nonneg hq0] at this
    simp [hm, hq] at this
/-- the stand behind a call -/
def Behind (n : Int) (ps : List (Int × Int)) (l : List Int) (p : Int) (l' : List Int) : Prop :=
  Lot n l' ∧ ∀ x, x ∈ l' ↔ (if says ps l p = true then x ∈ l ∨ x = p else x ∈ l ∧ x ≠ p)
theorem Behind.uniq {n : Int} {ps : List (Int × Int)} {l l1 l2 : List Int} {p : Int} (h1 : Behind n ps l p l1) (h2 : Behind n ps l p l2) : l1 = l2 :=
  ups_ext h1.1.up h2.1.up fun x => by rw [h1.2, h2.2]
def behB (ps : List (Int × Int)) (l : List Int) (b : Nat) (p : Int) : Nat := if says ps l p = true then b ||| 2 ^ p.toNat else clr b p.toNat
theorem behind_bits {n : Int} {ps : List (Int × Int)} {l l' : List Int} {b : Nat} {p : Int} (hl : Lot n l) (hb : IsLot l b) (h0 : 0 ≤ p) (h1 : p < n) (h' : IsLot l' (behB ps l b p)) : Behind n ps l p l' := by
  have key : ∀ x, x ∈ l' ↔ (if says ps l p = true then x ∈ l ∨ x = p else x ∈ l ∧ x ≠ p) := fun x => by
    by_cases x0 : 0 ≤ x
    · have e : ((x.toNat : Nat) : Int) = x := Int.toNat_of_nonneg x0
      have h2 := h'.2.2 x.toNat
      have h3 := hb.2.2 x.toNat
      rw [e] at h2 h3
      rw [h2]
      unfold behB
      by_cases c : says ps l p = true
      · rw [if_pos c, if_pos c, Nat.testBit_or, Nat.testBit_two_pow, h3]
        have : p.toNat = x.toNat ↔ x = p := by omega
        simp [this]
      · rw [if_neg c, if_neg c, clr_bit, h3]
        have : x.toNat = p.toNat ↔ x = p := by omega
        simp [this]
    · have a1 : ¬ x ∈ l' := fun h => x0 (h'.1 x h)
      have a2 : ¬ x ∈ l := fun h => x0 (hb.1 x h)
      have a3 : ¬ x = p := fun h => x0 (h ▸ h0)
      by_cases c : says ps l p = true <;> simp [c, a1, a2, a3]
  refine ⟨⟨h'.2.1, fun x hx => ?_⟩, key⟩
  have h2 := (key x).mp hx
  by_cases c : says ps l p = true
  · rw [if_pos c] at h2
    rcases h2 with h2 | rfl
    · exact hl.ok x h2
    · exact ⟨h0, h1⟩
  · rw [if_neg c] at h2
    exact hl.ok x h2.1
theorem bits_small {n : Int} {l : List Int} (hl : Lot n l) (hn : n ≤ 200) : bitsN l < 2 ^ 200 := by
  apply Nat.lt_pow_two_of_testBit
  intro k hk
  rw [bitsN_bit fun x hx => (hl.ok x hx).1]
  refine decide_eq_false fun h => ?_
  have := hl.ok _ h
  omega
theorem behB_small {ps : List (Int × Int)} {l : List Int} {b : Nat} {p : Int} (hb : b < 2 ^ 200) (h0 : 0 ≤ p) (h1 : p < 200) : behB ps l b p < 2 ^ 200 := by
  unfold behB
  by_cases c : says ps l p = true
  · rw [if_pos c]
    exact Nat.or_lt_two_pow hb (Nat.pow_lt_pow_right (by decide) (by omega))
  · rw [if_neg c]
    unfold clr
    omega
section
variable {P : Program} {w : World} {K : PySem.W.Frag} {mg : Str → Option Value} {base : Heap} {C : Addr}
def sp_tied_bits (C : Addr) : Sp := fun vs H Q _ => ∃ x n u ps, vs = [.ref x] ∧ WebAt C H x n u ps ∧ Good n ps ∧ 1 ≤ n ∧ n ≤ 200 ∧ ∀ p ts H', Same H H' → H p = none → H' p = some (.lst (nints ts)) → Tied n ps ts → Q (.ref p) H'
def sp_told_by : Sp := fun vs H Q _ => ∃ t ts b p, vs = [.ref t, .int (b : Nat), .int p] ∧ H t = some (.lst (nints ts)) ∧ 0 ≤ p ∧ p < ts.length ∧ Q (.bl (decide ((ts.getD p.toNat 0 &&& b) = 0))) H
def sp_behind_call : Sp := fun vs H Q _ => ∃ t ts b p, vs = [.ref t, .int (b : Nat), .int p] ∧ H t = some (.lst (nints ts)) ∧ 0 ≤ p ∧ p < ts.length ∧ p ≤ 200 ∧ Q (.int ((if decide ((ts.getD p.toNat 0 &&& b) = 0) = true then b ||| 2 ^ p.toNat else clr b p.toNat : Nat) : Int)) H
end
section
variable {P : Program} {w : World} {K : PySem.W.Frag} {mg : Str → Option Value} {base : Heap} {C : Addr}
theorem iD_lay : ∀ zs : List Int, PyData.canLayAll0 (zs.map PyData.int) = true
  | [] => by simp [PyData.canLayAll0]
  | z :: zs => by simp [PyData.canLayAll0, PyData.canLay0, iD_lay zs]
theorem iD_depth : ∀ zs : List Int, PyData.depthAll (zs.map PyData.int) = 0
  | [] => by simp [PyData.depthAll]
  | z :: zs => by simp [PyData.depthAll, PyData.depth, iD_depth zs]
theorem iD_shaped (zs : List Int) : SeqAt.shaped (.tuple (zs.map PyData.int)) = true := by
  have h1 := iD_depth zs
  have h2 : PyData.depth (.tuple (zs.map PyData.int)) ≤ 64 := by
    simp only [PyData.depth]
    omega
  show (PyData.canLay0 (.tuple (zs.map PyData.int)) && decide (PyData.depth (.tuple (zs.map PyData.int)) ≤ 64)) = true
  rw [Bool.and_eq_true]
  exact ⟨by simp only [PyData.canLay0]; exact iD_lay zs, decide_eq_true h2⟩
theorem iDs_eqv : ∀ ps qs : List Int, PyData.eqvAll (ps.map PyData.int) (qs.map PyData.int) = decide (ps = qs)
  | [], [] => by simp [PyData.eqvAll]
  | [], q :: qs => by simp [PyData.eqvAll]
  | p :: ps, [] => by simp [PyData.eqvAll]
  | p :: ps, q :: qs => by
    rw [List.map_cons, List.map_cons]
    simp only [PyData.eqvAll, PyData.eqv]
    rw [iDs_eqv ps qs]
    by_cases h1 : p = q
    · by_cases h2 : ps = qs <;> simp [h1, h2]
    · simp [h1]
theorem iD_eqv (ps qs : List Int) : PyData.eqv (.tuple (ps.map PyData.int)) (.tuple (qs.map PyData.int)) = decide (ps = qs) := by
  simp only [PyData.eqv]
  exact iDs_eqv ps qs
theorem dp_ints {K : PySem.W.Frag} {H : Hp} : ∀ l : List Int, DpAll K H (l.map V.int) (l.map PyData.int)
  | [] => .nil
  | a :: l => .cons (.int a) (dp_ints l)
theorem dp_lot {K : PySem.W.Frag} {H : Hp} {t : Addr} {l : List Int} (h : H t = some (.tup (l.map V.int))) : Dp K H (.ref t) (.tuple (l.map PyData.int)) := .tup (SqT.of h) (dp_ints l)
theorem says_off {n : Int} {ps : List (Int × Int)} (G : Good n ps) {l l' : List Int} {p q : Int} (hpq : norm p q ∉ ps) (h : ∀ x, x ≠ q → (x ∈ l ↔ x ∈ l')) : says ps l p = says ps l' p := by
  rw [Bool.eq_iff_iff, says_iff, says_iff]
  constructor
  · intro a x hx
    by_cases c : x = q
    · subst c; exact hpq
    · exact a x ((h x c).mpr hx)
  · intro a x hx
    by_cases c : x = q
    · subst c; exact hpq
    · exact a x ((h x c).mp hx)
theorem norm_self {n : Int} {ps : List (Int × Int)} (G : Good n ps) (p : Int) : norm p p ∉ ps := fun h => by
  have := (G.ok _ h).2.1
  unfold norm at this
  simp at this
theorem Behind.off {n : Int} {ps : List (Int × Int)} {l l' : List Int} {p : Int} (h : Behind n ps l p l') : ∀ x, x ≠ p → (x ∈ l ↔ x ∈ l') := fun x hx => by
  rw [h.2]
  by_cases c : says ps l p = true <;> simp [c, hx]
/-- twice is once -/
theorem Behind.twice {n : Int} {ps : List (Int × Int)} (G : Good n ps) {l l1 l2 : List Int} {p : Int} (h1 : Behind n ps l p l1) (h2 : Behind n ps l1 p l2) : l2 = l1 := by
  have e : says ps l1 p = says ps l p := (says_off G (norm_self G p) h1.off).symm
  refine ups_ext h2.1.up h1.1.up fun x => ?_
  rw [h2.2, h1.2, e]
  by_cases c : says ps l p = true
  · simp only [c, if_pos]
    by_cases d : x = p <;> simp [d]
  · simp only [c, if_neg]
    by_cases d : x = p <;> simp [d]
/-- parts that are not tied can be called in either order -/
theorem Behind.swap {n : Int} {ps : List (Int × Int)} (G : Good n ps) {l la lb lab lba : List Int} {a b : Int} (hn : norm a b ∉ ps) (ha : Behind n ps l a la) (hab : Behind n ps la b lab) (hb : Behind n ps l b lb) (hba : Behind n ps lb a lba) : lab = lba := by
  have hn' : norm b a ∉ ps := by
    by_cases c : a = b
    · subst c; exact hn
    · rw [← norm_comm c]; exact hn
  have e1 : says ps la b = says ps l b := (says_off G hn' ha.off).symm
  have e2 : says ps lb a = says ps l a := (says_off G hn hb.off).symm
  refine ups_ext hab.1.up hba.1.up fun x => ?_
  rw [hab.2, hba.2, e1, e2, ha.2, hb.2]
  by_cases c1 : says ps l a = true <;> by_cases c2 : says ps l b = true <;> simp only [c1, c2, if_true, if_false, Bool.false_eq_true, if_pos, if_neg]
  · constructor
    · rintro ((h | h) | h)
      · exact .inl (.inl h)
      · exact .inr h
      · exact .inl (.inr h)
    · rintro ((h | h) | h)
      · exact .inl (.inl h)
      · exact .inr h
      · exact .inl (.inr h)
  · by_cases ab : a = b
    · subst ab; exact absurd c1 c2
    · constructor
      · rintro ⟨h | h, h'⟩
        · exact .inl ⟨h, h'⟩
        · exact .inr h
      · rintro (⟨h, h'⟩ | h)
        · exact ⟨.inl h, h'⟩
        · exact ⟨.inr h, by rw [h]; exact ab⟩
  · by_cases ab : a = b
    · subst ab; exact absurd c2 c1
    · constructor
      · rintro (⟨h, h'⟩ | h)
        · exact ⟨.inl h, h'⟩
        · exact ⟨.inr h, by rw [h]; exact fun e => ab e.symm⟩
      · rintro ⟨h | h, h'⟩
        · exact .inl ⟨h, h'⟩
        · exact .inr h
  · constructor
    · rintro ⟨⟨h, h1⟩, h2⟩; exact ⟨⟨h, h2⟩, h1⟩
    · rintro ⟨⟨h, h1⟩, h2⟩; exact ⟨⟨h, h2⟩, h1⟩
theorem Behind.same_iff {n : Int} {ps : List (Int × Int)} {l l' : List Int} {p : Int} (hl : Lot n l) (h : Behind n ps l p l') : l' = l ↔ says ps l p = decide (p ∈ l) := by
  constructor
  · intro e
    have := h.2 p
    rw [e] at this
    by_cases c : says ps l p = true
    · rw [c]; rw [c] at this; simp at this; simp [this]
    · rw [eq_false_of_ne_true c]; rw [eq_false_of_ne_true c] at this; simp at this; simp [this]
  · intro e
    refine ups_ext h.1.up hl.up fun x => ?_
    rw [h.2, e]
    by_cases c : p ∈ l
    · simp only [c, decide_true, if_true]
      constructor
      · rintro (h | rfl)
        · exact h
        · exact c
      · exact .inl
    · simp only [c, decide_false, Bool.false_eq_true, if_false]
      constructor
      · exact fun h => h.1
      · exact fun h => ⟨h, fun e => c (e ▸ h)⟩
def bc (ts : List Nat) (b i : Nat) : Nat := if decide ((ts.getD i 0 &&& b) = 0) = true then b ||| 2 ^ i else clr b i
def chgB (ts : List Nat) (b : Nat) : List Int := ((List.range ts.length).filter fun i => !decide (bc ts b i = b)).map fun i : Nat => (i : Int)
/-- the parts whose call changes the stand -/
def chg (n : Int) (ps : List (Int × Int)) (l : List Int) : List Int := ((List.range n.toNat).filter fun i : Nat => says ps l (i : Int) != decide ((i : Int) ∈ l)).map fun i : Nat => (i : Int)
theorem or_same (b i : Nat) : b ||| 2 ^ i = b ↔ b.testBit i = true := by
  constructor
  · intro h
    have := congrArg (fun x => Nat.testBit x i) h
    simp only [Nat.testBit_or, Nat.testBit_two_pow] at this
    simpa using this.symm
  · intro h
    apply Nat.eq_of_testBit_eq
    intro j
    rw [Nat.testBit_or, Nat.testBit_two_pow]
    by_cases c : i = j
    · subst c; simp [h]
    · simp [c]
theorem clr_same (b i : Nat) : clr b i = b ↔ b.testBit i = false := by
  constructor
  · intro h
    have := congrArg (fun x => Nat.testBit x i) h
    simp only [clr_bit] at this
    simpa using this.symm
  · intro h
    apply Nat.eq_of_testBit_eq
    intro j
    rw [clr_bit]
    by_cases c : j = i
    · subst c; simp [h]
    · simp [c]
theorem chg_eq {n : Int} {ps : List (Int × Int)} {ts : List Nat} {l : List Int} {b : Nat} (T : Tied n ps ts) (hb : IsLot l b) : chgB ts b = chg n ps l := by
  unfold chgB chg
  have e : ts.length = n.toNat := by have := T.len; omega
  rw [e]
  congr 1
  refine List.filter_congr fun i hi => ?_
  have hi' := List.mem_range.mp hi
  have hs := says_bits T hb (p := (i : Int)) (by omega) (by omega)
  rw [Int.toNat_natCast] at hs
  unfold bc
  rw [hs]
  have h3 := hb.2.2 i
  cases c : says ps l (i : Int) with
  | true =>
    rw [if_pos rfl]
    have := or_same b i
    rw [← h3] at this
    rw [dec_iff this]
    by_cases d : (i : Int) ∈ l <;> simp [d]
  | false =>
    rw [if_neg Bool.false_ne_true]
    have := clr_same b i
    have h4 : (b.testBit i = false) ↔ ¬ (i : Int) ∈ l := by rw [h3]; simp
    rw [h4] at this
    rw [dec_iff this]
    by_cases d : (i : Int) ∈ l <;> simp [d]
def sp_changed_by : Sp := fun vs H Q _ => ∃ t ts b, vs = [.ref t, .int (b : Nat)] ∧ H t = some (.lst (nints ts)) ∧ ts.length ≤ 200 ∧ ∀ p H', Same H H' → H p = none → H' p = some (.lst ((chgB ts b).map V.int)) → Q (.ref p) H'
def hit (l : List Int) (p : Int) (q : Int × Int) : Prop := (q.1 = p ∧ q.2 ∈ l) ∨ (q.2 = p ∧ q.1 ∈ l)
theorem says_hit {n : Int} {ps : List (Int × Int)} (G : Good n ps) (l : List Int) (p : Int) : says ps l p = true ↔ ∀ q ∈ ps, ¬ hit l p q := by
  rw [says_iff]
  constructor
  · rintro h q hq (⟨h1, h2⟩ | ⟨h1, h2⟩)
    · have := (G.ok q hq).2.1
      refine h q.2 h2 ?_
      rw [(norm_pair (a := q.1) (b := q.2) this).mpr (.inl ⟨h1.symm, rfl⟩)]
      exact hq
    · have := (G.ok q hq).2.1
      refine h q.1 h2 ?_
      rw [(norm_pair (a := q.1) (b := q.2) this).mpr (.inr ⟨h1.symm, rfl⟩)]
      exact hq
  · intro h x hx hm
    have h1 := (G.ok _ hm).2.1
    have h2 := (norm_pair (a := (norm p x).1) (b := (norm p x).2) h1).mp rfl
    rcases h2 with ⟨e1, e2⟩ | ⟨e1, e2⟩
    · exact h _ hm (.inl ⟨e1.symm, by rw [← e2]; exact hx⟩)
    · exact h _ hm (.inr ⟨e1.symm, by rw [← e2]; exact hx⟩)
end
section
variable {P : Program} {w : World} {K : PySem.W.Frag} {mg : Str → Option Value} {base : Heap} {C : Addr}
def sp_flag : Sp := fun vs H Q _ => ∃ b, vs = [.bl b, .bl b] ∧ Q (.bl true) H
end
section
variable {P : Program} {w : World} {K : PySem.W.Frag} {mg : Str → Option Value} {base : Heap} {C : Addr}
theorem PI.or {X : Cx} {tg l : Expr} {i1 i2 : TI} (a : PI X tg l i1) (b : PI X tg l i2) : PI X tg l (fun σ H R => i1 σ H R ∨ i2 σ H R) :=
  ⟨fun pins s σ H R I h => h.elim (a.run pins s σ H R I) (b.run pins s σ H R I)⟩
theorem isI_els {v : V} (h : ∀ i, v ≠ .int i) : isI v = false := by
  cases v with
  | int i => exact absurd rfl (h i)
  | _ => rfl
theorem inI_els {v : V} {a b : Int} (h : isI v = false) : inI a b v = false := by
  cases v with
  | int i => cases h
  | _ => rfl
theorem inI_ex {v : V} {a b : Int} (h : inI a b v = true) : ∃ i, v = .int i ∧ a ≤ i ∧ i ≤ b := by
  cases v with
  | int i => exact ⟨i, rfl, by simpa [inI] using h⟩
  | _ => cases h
/-- a lot of n parts -/
def LotV (H : Hp) (n : Int) (v : V) : Prop := ∃ t l, v = .ref t ∧ H t = some (.tup (l.map V.int)) ∧ Lot n l
def sp_isI (K : PySem.W.Frag) : Sp := fun vs H Q _ => ∃ v, vs = [v] ∧ Item K H v ∧ Q (.bl (isI v)) H
theorem ok_is_integerA {f : Addr} {fd : FuncData} (F : Fun K "is_integer" "is_integer" s_is_integer f fd) (hm : mg "is_integer" = some (.ref f)) (B : Bl mg) : Cal P w K mg base 1 "is_integer" ["thing"] (sp_isI K) := by
  refine ⟨f, fd, F.ok sc_is_integer (fun vs H Q E h => ?_) (fun cdv A outer s H vs Q E hr h => ?_), hm, F.kp, F.binds (ps := ["thing"]) fun _ _ _ _ _ _ us hl => match us, hl with | [_], _ => rfl⟩
  · obtain ⟨v, rfl, _⟩ := h; rfl
  · obtain ⟨v, rfl, iv, k⟩ := h
    refine ⟨_, (pss_one (ps_ret (pe_and (pe_callB call_isi (by rfl) B.isinstance (by decide +kernel) (pa_cons (pv 0) (pa_cons (pe_bltn (v := .ty "int") (by rfl) B.int_ (by decide +kernel) rfl) pa_nil))) (pe_one (pe_not (pe_callB call_isi (by rfl) B.isinstance (by decide +kernel) (pa_cons (pv 0) (pa_cons (pe_bltn (v := .ty "bool") (by rfl) B.bool_ (by decide +kernel) rfl) pa_nil)))))))), ?_⟩
    cases iv with
    | int i =>
      refine ⟨_, rfl, _, _, _, _, true, rfl, .ty "int", .base (.int i), kit_ty (by decide +kernel), true, rfl, iteT ?_⟩
      refine ⟨_, rfl, _, _, _, _, false, rfl, .ty "bool", .base (.int i), kit_ty (by decide +kernel), false, rfl, ?_⟩
      exact k
    | bl b =>
      refine ⟨_, rfl, _, _, _, _, true, rfl, .ty "int", .base (.bl b), kit_ty (by decide +kernel), true, rfl, iteT ?_⟩
      refine ⟨_, rfl, _, _, _, _, true, rfl, .ty "bool", .base (.bl b), kit_ty (by decide +kernel), true, rfl, ?_⟩
      exact k
    | els h h1 =>
      obtain ⟨t, ty, hk⟩ := h
      rw [isI_els h1] at k
      exact ⟨_, rfl, _, _, _, _, false, rfl, .ty "int", ty, hk, false, rfl, iteF k⟩
def sp_inI (K : PySem.W.Frag) : Sp := fun vs H Q _ => ∃ v a b, vs = [v, .int a, .int b] ∧ Item K H v ∧ Q (.bl (inI a b v)) H
theorem ok_is_numberA {f : Addr} {fd : FuncData} (F : Fun K "is_number" "is_number" s_is_number f fd) (hm : mg "is_number" = some (.ref f)) (B : Bl mg) (c_is_integer : Cal P w K mg base 1 "is_integer" ["thing"] (sp_isI K)) : Cal P w K mg base 2 "is_number" ["thing", "least", "most"] (sp_inI K) := by
  refine ⟨f, fd, F.ok sc_is_number (fun vs H Q E h => ?_) (fun cdv A outer s H vs Q E hr h => ?_), hm, F.kp, F.binds (ps := ["thing", "least", "most"]) fun _ _ _ _ _ _ us hl => match us, hl with | [_, _, _], _ => rfl⟩
  · obtain ⟨v, a, b, rfl, _⟩ := h; rfl
  · obtain ⟨v, a, b, rfl, iv, k⟩ := h
    refine ⟨_, (pss_one (ps_ret (pe_and (pe_cal c_is_integer (hr.mono (by first | decide | omega)) (pa_cons (pv 0) pa_nil)) (pe_one (pe_chain op_le op_le (pv 1) (pv 0) (pv 2)))))), ?_⟩
    refine ⟨_, rfl, v, rfl, iv, isI v, rfl, ?_⟩
    cases c : isI v with
    | false =>
      rw [inI_els c] at k
      exact iteF k
    | true =>
      obtain ⟨i, rfl⟩ : ∃ i, v = .int i := by cases v <;> first | exact ⟨_, rfl⟩ | cases c
      refine iteT ?_
      refine ⟨_, rfl, _, rfl, _, _, rfl, rfl, _, rfl, ?_⟩
      by_cases h1 : a ≤ i
      · rw [if_pos (decide_eq_true h1)]
        refine ⟨_, rfl, _, _, rfl, rfl, ?_⟩
        have e : inI a b (.int i) = decide (i ≤ b) := by simp [inI, h1]
        rw [e] at k
        exact k
      · rw [if_neg (by simpa using h1)]
        have e : inI a b (.int i) = false := by simp [inI, h1]
        rw [e] at k
        exact k
theorem lot_snoc {n : Int} {l : List Int} {y : Int} (h : Lot n l) (h0 : 0 ≤ y) (h1 : y < n) (h2 : ∀ x ∈ l, x < y) : Lot n (l ++ [y]) := by
  refine ⟨List.pairwise_append.mpr ⟨h.up, by simp, fun x hx z hz => ?_⟩, fun x hx => ?_⟩
  · simp at hz; subst hz; exact h2 x hx
  · rcases List.mem_append.mp hx with hx | hx
    · exact h.ok x hx
    · simp at hx; subst hx; exact ⟨h0, h1⟩
def sp_is_lot_belowA (K : PySem.W.Frag) : Sp := fun vs H Q _ => ∃ n v, vs = [.int n, v] ∧ Thing K H v ∧ ∀ b, (b = true ↔ LotV H n v) → Q (.bl b) H
def sp_is_lotA (K : PySem.W.Frag) (C : Addr) : Sp := fun vs H Q _ => ∃ x n u ps v, vs = [.ref x, v] ∧ WebAt C H x n u ps ∧ Thing K H v ∧ ∀ b, (b = true ↔ LotV H n v) → Q (.bl b) H
end
section
variable {P : Program} {w : World} {K : PySem.W.Frag} {mg : Str → Option Value} {base : Heap} {C : Addr}
def Row (n : Int) (ps : List (Int × Int)) : List Int → List Int → List Int → Prop
  | [], l, l' => l' = l
  | p :: cs, l, l' => ∃ m, Behind n ps l p m ∧ Row n ps cs m l'
theorem Row.uniq {n : Int} {ps : List (Int × Int)} : ∀ {cs l l1 l2 : List Int}, Row n ps cs l l1 → Row n ps cs l l2 → l1 = l2
  | [], _, _, _, h1, h2 => by rw [show _ = _ from h1, show _ = _ from h2]
  | p :: cs, l, l1, l2, ⟨m, b, r⟩, ⟨m', b', r'⟩ => by
    have := b.uniq b'
    subst this
    exact Row.uniq r r'
theorem Row.lot {n : Int} {ps : List (Int × Int)} : ∀ {cs l l' : List Int}, Lot n l → Row n ps cs l l' → Lot n l'
  | [], _, _, hl, h => by rw [show _ = _ from h]; exact hl
  | p :: cs, _, _, hl, ⟨m, b, r⟩ => Row.lot b.1 r
theorem Row.app {n : Int} {ps : List (Int × Int)} : ∀ {cs ds l l1 l2 : List Int}, Row n ps cs l l1 → Row n ps ds l1 l2 → Row n ps (cs ++ ds) l l2
  | [], _, _, _, _, h, h2 => by rw [show _ = _ from h] at h2; exact h2
  | p :: cs, _, _, _, _, ⟨m, b, r⟩, h2 => ⟨m, b, Row.app r h2⟩
theorem Row.snoc {n : Int} {ps : List (Int × Int)} {cs l l1 l2 : List Int} {p : Int} (h : Row n ps cs l l1) (b : Behind n ps l1 p l2) : Row n ps (cs ++ [p]) l l2 := h.app ⟨l2, b, rfl⟩
theorem Row.split {n : Int} {ps : List (Int × Int)} : ∀ {cs ds l l2 : List Int}, Row n ps (cs ++ ds) l l2 → ∃ l1, Row n ps cs l l1 ∧ Row n ps ds l1 l2
  | [], _, l, _, h => ⟨l, rfl, h⟩
  | p :: cs, ds, _, _, ⟨m, b, r⟩ => by
    obtain ⟨l1, h1, h2⟩ := Row.split (cs := cs) r
    exact ⟨l1, ⟨m, b, h1⟩, h2⟩
/-- the lot that bits are -/
def lotL (b : Nat) : List Int := ((List.range (b + 1)).filter fun k => b.testBit k).map fun k : Nat => (k : Int)
theorem isLot_L (b : Nat) : IsLot (lotL b) b := by
  refine ⟨fun x hx => ?_, ?_, fun k => ?_⟩
  · obtain ⟨k, _, rfl⟩ := List.mem_map.mp hx
    omega
  · refine List.pairwise_map.mpr (((List.pairwise_lt_range).sublist List.filter_sublist).imp fun {a b} h => by omega)
  · constructor
    · intro h
      obtain ⟨j, hj, e⟩ := List.mem_map.mp h
      have : j = k := by omega
      subst this
      exact (List.mem_filter.mp hj).2
    · intro h
      refine List.mem_map.mpr ⟨k, List.mem_filter.mpr ⟨List.mem_range.mpr ?_, h⟩, rfl⟩
      rcases Nat.lt_or_ge k (b + 1) with c | c
      · exact c
      · have h2 : b < 2 ^ k := Nat.lt_of_lt_of_le (show b < k by omega) (Nat.le_of_lt Nat.lt_two_pow_self)
        rw [Nat.testBit_lt_two_pow h2] at h
        cases h
def Ints (H : Hp) (t : Addr) (cs : List Int) : Prop := H t = some (.tup (cs.map V.int)) ∨ H t = some (.lst (cs.map V.int))
theorem Ints.same {H H' : Hp} {t : Addr} {cs : List Int} (h : Ints H t cs) (e : Same H H') : Ints H' t cs := h.elim (fun h => .inl (e _ _ h)) (fun h => .inr (e _ _ h))
theorem lot_one {l m : List Int} {b : Nat} (h : IsLot l b) (h' : IsLot m b) : l = m := ups_ext h.2.1 h'.2.1 fun z => by
  by_cases z0 : 0 ≤ z
  · have ez : ((z.toNat : Nat) : Int) = z := Int.toNat_of_nonneg z0
    have h1 := h.2.2 z.toNat
    have h2 := h'.2.2 z.toNat
    rw [ez] at h1 h2
    rw [h1, h2]
  · exact ⟨fun q => absurd (h.1 z q) z0, fun q => absurd (h'.1 z q) z0⟩
def sp_is_rest (K : PySem.W.Frag) (C : Addr) : Sp := fun vs H Q _ => ∃ x n u ps v, vs = [.ref x, v] ∧ WebAt C H x n u ps ∧ Good n ps ∧ 1 ≤ n ∧ n ≤ 200 ∧ Thing K H v ∧ ∀ b H', Same H H' → (b = true ↔ ∃ t l, v = .ref t ∧ H t = some (.tup (l.map V.int)) ∧ Lot n l ∧ chg n ps l = []) → Q (.bl b) H'
end
section
variable {P : Program} {w : World} {K : PySem.W.Frag} {mg : Str → Option Value} {base : Heap} {C : Addr}
theorem cat_any {K : PySem.W.Frag} {H : Hp} {a b : Addr} {xs ys : List V} {Q : VK} (ha : H a = some (.tup xs)) (hb : H b = some (.tup ys)) (hl : xs.length + ys.length ≤ sizeLine) (k : ∀ c H', Same H H' → H' c = some (.tup (xs ++ ys)) → Q (.ref c) H') : rCatA K (.ref a) (.ref b) H Q :=
  ⟨a, b, xs, ys, rfl, rfl, SqT.of ha, SqT.of hb, hl, fun h => k b H (L2.Same.refl H) (by rw [h]; exact hb), fun _ h => k a H (L2.Same.refl H) (by rw [h, List.append_nil]; exact ha), fun _ _ p hp => k p _ (L2.Same.new hp) upd_same⟩
end
section
variable {P : Program} {w : World} {K : PySem.W.Frag} {mg : Str → Option Value} {base : Heap} {C : Addr}
theorem chg_nil {n : Int} {ps : List (Int × Int)} {l : List Int} : chg n ps l = [] ↔ ∀ p : Int, 0 ≤ p → p < n → says ps l p = decide (p ∈ l) := by
  unfold chg
  rw [List.map_eq_nil_iff, List.filter_eq_nil_iff]
  constructor
  · intro h p p0 p1
    have := h p.toNat (List.mem_range.mpr (by omega))
    rw [Int.toNat_of_nonneg p0] at this
    simpa using this
  · intro h i hi
    have := h (i : Int) (by omega) (by have := List.mem_range.mp hi; omega)
    simp [this]
/-- what rows of calls lead to -/
inductive Reach (n : Int) (ps : List (Int × Int)) (l : List Int) : List Int → Prop where
  | refl : Reach n ps l l
  | step {m m' : List Int} {p : Int} (h : Reach n ps l m) (h0 : 0 ≤ p) (h1 : p < n) (b : Behind n ps m p m') : Reach n ps l m'
theorem Reach.trans {n : Int} {ps : List (Int × Int)} {l m k : List Int} (h : Reach n ps l m) (h' : Reach n ps m k) : Reach n ps l k := by
  induction h' with
  | refl => exact h
  | step _ h0 h1 b ih => exact ih.step h0 h1 b
theorem Reach.lot {n : Int} {ps : List (Int × Int)} {l m : List Int} (hl : Lot n l) (h : Reach n ps l m) : Lot n m := by
  induction h with
  | refl => exact hl
  | step _ _ _ b _ => exact b.1
theorem behind_ex {n : Int} {ps : List (Int × Int)} {l : List Int} {p : Int} (hl : Lot n l) (h0 : 0 ≤ p) (h1 : p < n) : ∃ l', Behind n ps l p l' :=
  ⟨_, behind_bits hl (isLot_bits hl) h0 h1 (isLot_L _)⟩
/-- the parts of l tied to p -/
def nearL (ps : List (Int × Int)) (l : List Int) (p : Int) : List Int := l.filter fun q => decide (norm p q ∈ ps)
/-- l without the parts of f -/
def offL (l f : List Int) : List Int := l.filter fun q => !decide (q ∈ f)
theorem norm_sym (a b : Int) : norm a b = norm b a := by
  by_cases h : a = b
  · rw [h]
  · exact norm_comm h
theorem mem_near {ps : List (Int × Int)} {l : List Int} {p q : Int} : q ∈ nearL ps l p ↔ q ∈ l ∧ norm p q ∈ ps := by
  unfold nearL; rw [List.mem_filter]; simp
theorem mem_off {l f : List Int} {q : Int} : q ∈ offL l f ↔ q ∈ l ∧ q ∉ f := by
  unfold offL; rw [List.mem_filter]; simp
theorem Lot.filt {n : Int} {l : List Int} (h : Lot n l) (f : Int → Bool) : Lot n (l.filter f) := ⟨h.up.filter f, fun x hx => h.ok x (List.mem_filter.mp hx).1⟩
theorem sub_len : ∀ {A B : List Int}, A.Nodup → (∀ x ∈ A, x ∈ B) → A.length ≤ B.length
  | [], B, _, _ => Nat.zero_le _
  | a :: A, B, hn, hs => by
    have ha := hs a List.mem_cons_self
    have h2 := sub_len (A := A) (B := B.erase a) (List.nodup_cons.mp hn).2 fun x hx => by
      refine (List.mem_erase_of_ne (fun e => ?_)).mpr (hs x (List.mem_cons_of_mem _ hx))
      subst e
      exact (List.nodup_cons.mp hn).1 hx
    rw [List.length_erase_of_mem ha] at h2
    have := List.length_pos_of_mem ha
    rw [List.length_cons]
    omega
theorem upi_nodup {l : List Int} (h : l.Pairwise (· < ·)) : l.Nodup := h.imp fun h => by omega
theorem more_in {A F : List Int} (hA : A.Nodup) (h : F.length < A.length) : ∃ x ∈ A, x ∉ F := by
  apply Classical.byContradiction
  intro hno
  have := sub_len hA (B := F) fun x hx => Classical.byContradiction fun hf => hno ⟨x, hx, hf⟩
  omega
/-- a rest -/
structure RestL (n : Int) (ps : List (Int × Int)) (R : List Int) : Prop where
  lot : Lot n R
  no : chg n ps R = []
theorem RestL.free (h : RestL n ps R) {p q : Int} (hp : p ∈ R) (hq : q ∈ R) : norm p q ∉ ps := by
  have h2 := chg_nil.mp h.no p (h.lot.ok p hp).1 (h.lot.ok p hp).2
  rw [decide_eq_true hp] at h2
  exact says_iff.mp h2 q hq
theorem RestL.ext {S : List Int} (h : RestL n ps R) (hs : Lot n S) (h1 : ∀ x ∈ S, x ∈ R) (h2 : ∀ x ∈ R, x ∈ S) : S = R := ups_ext hs.up h.lot.up fun x => ⟨h1 x, h2 x⟩
structure Stay (n : Int) (R F S : List Int) : Prop where
  lot : Lot n S
  sub : ∀ x ∈ S, x ∈ R
  sup : ∀ x ∈ R, x ∉ F → x ∈ S
theorem stay_in {F S S' : List Int} {p : Int} (h : RestL n ps R) (st : Stay n R F S) (hp : p ∈ R) (b : Behind n ps S p S') : Stay n R F S' ∧ ∀ x, x ∈ S' ↔ x ∈ S ∨ x = p := by
  have hs : says ps S p = true := says_iff.mpr fun q hq => h.free hp (st.sub q hq)
  have hm : ∀ x, x ∈ S' ↔ x ∈ S ∨ x = p := fun x => by rw [b.2, if_pos hs]
  exact ⟨⟨b.1, fun x hx => ((hm x).mp hx).elim (st.sub x) (fun e => e ▸ hp), fun x hx hf => (hm x).mpr (.inl (st.sup x hx hf))⟩, hm⟩
theorem stay_out {F S S' : List Int} {p : Int} (h : RestL n ps R) (st : Stay n R F S) (hp : p ∉ R) (hF : F.length < (nearL ps R p).length) (b : Behind n ps S p S') : Stay n R F S' := by
  obtain ⟨q, hq, hqF⟩ := more_in (upi_nodup (h.lot.filt _).up) hF
  obtain ⟨hqR, hqn⟩ := mem_near.mp hq
  have hs : ¬ says ps S p = true := fun e => says_iff.mp e q (st.sup q hqR hqF) hqn
  have hm : ∀ x, x ∈ S' ↔ x ∈ S ∧ x ≠ p := fun x => by rw [b.2, if_neg hs]
  exact ⟨b.1, fun x hx => st.sub x ((hm x).mp hx).1, fun x hx hf => (hm x).mpr ⟨st.sup x hx hf, fun e => hp (e ▸ hx)⟩⟩
theorem stay_off {F : List Int} (h : RestL n ps R) : Stay n R F (offL R F) := ⟨h.lot.filt _, fun x hx => (mem_off.mp hx).1, fun x hx hf => mem_off.mpr ⟨hx, hf⟩⟩
theorem stay_reach {F S : List Int} (h : RestL n ps R) (hF : ∀ p, 0 ≤ p → p < n → p ∉ R → F.length < (nearL ps R p).length) {T : List Int} (hT : Stay n R F T) (r : Reach n ps T S) : Stay n R F S := by
  induction r with
  | refl => exact hT
  | @step m m' p r h0 h1 b ih =>
    by_cases hp : p ∈ R
    · exact (stay_in h ih hp b).1
    · exact stay_out h ih hp (hF p h0 h1 hp) b
theorem stay_rest {F S : List Int} (h : RestL n ps R) (st : Stay n R F S) (hS : chg n ps S = []) : S = R := by
  refine h.ext st.lot st.sub fun x hx => ?_
  have ok := h.lot.ok x hx
  have h1 := chg_nil.mp hS x ok.1 ok.2
  have hs : says ps S x = true := says_iff.mpr fun q hq => h.free hx (st.sub q hq)
  rw [hs] at h1
  exact of_decide_eq_true h1.symm
theorem stay_back {F : List Int} (h : RestL n ps R) : ∀ (k : Nat) {S : List Int}, Stay n R F S → (R.filter fun x => !decide (x ∈ S)).length ≤ k → Reach n ps S R
  | k, S, st, hk => by
    by_cases hall : ∀ x ∈ R, x ∈ S
    · rw [h.ext st.lot st.sub hall]
      exact .refl
    · obtain ⟨x, hx, hxS⟩ : ∃ x ∈ R, x ∉ S := Classical.byContradiction fun hno => hall fun x hx => Classical.byContradiction fun hf => hno ⟨x, hx, hf⟩
      have ok := h.lot.ok x hx
      obtain ⟨S', b⟩ := behind_ex (ps := ps) st.lot ok.1 ok.2
      obtain ⟨st', hm⟩ := stay_in h st hx b
      have e : (R.filter fun y => !decide (y ∈ S')) = (R.filter fun y => !decide (y ∈ S)).filter fun y => !decide (y = x) := by
        rw [List.filter_filter]
        refine List.filter_congr fun y _ => ?_
        have hy := hm y
        by_cases c1 : y = x
        · have : y ∈ S' := hy.mpr (.inr c1)
          rw [decide_eq_true this, decide_eq_true c1]; rfl
        · by_cases c2 : y ∈ S
          · have : y ∈ S' := hy.mpr (.inl c2)
            simp [this, c2]
          · have : y ∉ S' := fun e => (hy.mp e).elim c2 c1
            simp [this, c2, c1]
      have hmem : x ∈ R.filter fun y => !decide (y ∈ S) := List.mem_filter.mpr ⟨hx, by simpa using hxS⟩
      have hlt : (R.filter fun y => !decide (y ∈ S')).length < (R.filter fun y => !decide (y ∈ S)).length := by
        rw [e]
        exact List.length_filter_lt_length_iff_exists.mpr ⟨x, hmem, by simp⟩
      match k with
      | 0 => omega
      | k + 1 => exact (Reach.refl.step ok.1 ok.2 b).trans (stay_back h k st' (by omega))
/-- no harm by few -/
theorem heal_few {F : List Int} (h : RestL n ps R) (hF : ∀ p, 0 ≤ p → p < n → p ∉ R → F.length < (nearL ps R p).length) : Reach n ps (offL R F) R ∧ ∀ S, Reach n ps (offL R F) S → chg n ps S = [] → S = R :=
  ⟨stay_back h _ (stay_off h) (Nat.le_refl _), fun S r hS => stay_rest h (stay_reach h hF (stay_off h) r) hS⟩
/-- free parts grow to a rest -/
theorem grow_rest (G : Good n ps) (n0 : 0 ≤ n) : ∀ (k : Nat) {T : List Int}, Lot n T → (∀ x ∈ T, ∀ y ∈ T, norm x y ∉ ps) → (n - T.length).toNat ≤ k → ∃ S, Reach n ps T S ∧ RestL n ps S ∧ ∀ x ∈ T, x ∈ S
  | k, T, hT, hfree, hk => by
    by_cases hc : chg n ps T = []
    · exact ⟨T, .refl, ⟨hT, hc⟩, fun _ h => h⟩
    · obtain ⟨q, q0, q1, hq⟩ : ∃ q, 0 ≤ q ∧ q < n ∧ says ps T q ≠ decide (q ∈ T) := Classical.byContradiction fun hno => hc (chg_nil.mpr fun p p0 p1 => Classical.byContradiction fun hf => hno ⟨p, p0, p1, hf⟩)
      have hqT : q ∉ T := fun hm => hq (by rw [decide_eq_true hm]; exact says_iff.mpr fun x hx => hfree q hm x hx)
      have hs : says ps T q = true := by
        rw [decide_eq_false hqT] at hq
        cases c : says ps T q with
        | true => rfl
        | false => exact absurd c hq
      obtain ⟨T', b⟩ := behind_ex (ps := ps) hT q0 q1
      have hm : ∀ x, x ∈ T' ↔ x ∈ T ∨ x = q := fun x => by rw [b.2, if_pos hs]
      have hnq := says_iff.mp hs
      have free' : ∀ x ∈ T', ∀ y ∈ T', norm x y ∉ ps := fun x hx y hy => by
        rcases (hm x).mp hx with hx | rfl
        · rcases (hm y).mp hy with hy | rfl
          · exact hfree x hx y hy
          · rw [norm_sym]; exact hnq x hx
        · rcases (hm y).mp hy with hy | rfl
          · exact hnq y hy
          · exact norm_self G _
      have hlen : T.length < T'.length := by
        have e : T = T'.filter fun y => !decide (y = q) := ups_ext hT.up (b.1.filt _).up fun x => by
          rw [List.mem_filter, hm]
          by_cases c : x = q
          · simp [c, hqT]
          · simp [c]
        have := List.length_filter_lt_length_iff_exists (p := fun y => !decide (y = q)) (l := T') |>.mpr ⟨q, (hm q).mpr (.inr rfl), by simp⟩
        rw [← e] at this
        exact this
      have hle := lot_len b.1 n0
      match k with
      | 0 => omega
      | k + 1 =>
        obtain ⟨S, r, hS, hsub⟩ := grow_rest G n0 k b.1 free' (by omega)
        exact ⟨S, (Reach.refl.step q0 q1 b).trans r, hS, fun x hx => hsub x ((hm x).mpr (.inl hx))⟩
/-- harm by all that a part is tied to -/
theorem harm_near (G : Good n ps) (n0 : 0 ≤ n) (h : RestL n ps R) {p : Int} (p0 : 0 ≤ p) (p1 : p < n) (hp : p ∉ R) : ∃ S, Reach n ps (offL R (nearL ps R p)) S ∧ chg n ps S = [] ∧ S ≠ R := by
  have hl : Lot n (offL R (nearL ps R p)) := h.lot.filt _
  have hno : ∀ q ∈ offL R (nearL ps R p), norm p q ∉ ps := fun q hq e => (mem_off.mp hq).2 (mem_near.mpr ⟨(mem_off.mp hq).1, e⟩)
  have hs : says ps (offL R (nearL ps R p)) p = true := says_iff.mpr hno
  obtain ⟨T, b⟩ := behind_ex (ps := ps) hl p0 p1
  have hm : ∀ x, x ∈ T ↔ x ∈ offL R (nearL ps R p) ∨ x = p := fun x => by rw [b.2, if_pos hs]
  have free' : ∀ x ∈ T, ∀ y ∈ T, norm x y ∉ ps := fun x hx y hy => by
    rcases (hm x).mp hx with hx | rfl
    · rcases (hm y).mp hy with hy | rfl
      · exact h.free (mem_off.mp hx).1 (mem_off.mp hy).1
      · rw [norm_sym]; exact hno x hx
    · rcases (hm y).mp hy with hy | rfl
      · exact hno y hy
      · exact norm_self G _
  obtain ⟨S, r, hS, hsub⟩ := grow_rest G n0 _ b.1 free' (Nat.le_refl _)
  exact ⟨S, (Reach.refl.step p0 p1 b).trans r, hS.no, fun e => hp (e ▸ hsub p ((hm p).mpr (.inr rfl)))⟩
end
section
variable {P : Program} {w : World} {K : PySem.W.Frag} {mg : Str → Option Value} {base : Heap} {C : Addr}
def sp_check_rest (C : Addr) : Sp := fun vs H Q _ => ∃ x n u ps t l, vs = [.ref x, .ref t] ∧ WebAt C H x n u ps ∧ Good n ps ∧ 1 ≤ n ∧ n ≤ 200 ∧ H t = some (.tup (l.map V.int)) ∧ RestL n ps l ∧ ∀ H', Same H H' → Q .non H'
theorem thing_ints {K : PySem.W.Frag} {H : Hp} {t : Addr} {l : List Int} (h : H t = some (.tup (l.map V.int))) (hl : l.length ≤ 100000) : Thing K H (.ref t) := .tup h (fun x hx => by obtain ⟨j, _, rfl⟩ := List.mem_map.mp hx; exact .int j) (by rw [List.length_map]; exact hl)
end
section
variable {P : Program} {w : World} {K : PySem.W.Frag} {mg : Str → Option Value} {base : Heap} {C : Addr}
theorem upi_of {l' m : List Int} (h : l'.Perm m) (h1 : l'.Pairwise (· ≤ ·)) (h2 : m.Nodup) : l'.Pairwise (· < ·) :=
  (h1.and (h.nodup_iff.mpr h2)).imp fun {a b} h => by have h3 : a ≠ b := h.2; have := h.1; omega
end
section
variable {P : Program} {w : World} {K : PySem.W.Frag} {mg : Str → Option Value} {base : Heap} {C : Addr}
/-- all lots of the parts below i -/
def subs : Nat → List (List Int)
  | 0 => [[]]
  | i + 1 => subs i ++ (subs i).map fun l => l ++ [(i : Int)]
theorem subs_len : ∀ i, (subs i).length = 2 ^ i
  | 0 => rfl
  | i + 1 => by rw [subs, List.length_append, List.length_map, subs_len i, Nat.pow_succ]; omega
def LotAt (H : Hp) (v : V) (l : List Int) : Prop := ∃ a, v = .ref a ∧ H a = some (.tup (l.map V.int))
theorem LotAt.tk {H H' : Hp} {v : V} {l : List Int} (h : LotAt H v l) (e : TK H H') : LotAt H' v l := let ⟨a, h1, h2⟩ := h; ⟨a, h1, e _ _ h2⟩
theorem LotAt.ne {H : Hp} {v : V} {l : List Int} (h : LotAt H v l) : ∃ a, v = .ref a ∧ H a = some (.tup (l.map V.int)) := h
def lotOf (H : Hp) : V → List Int
  | .ref a => match H a with
    | some (.tup ys) => ys.map unI
    | _ => []
  | _ => []
theorem lotOf_at {H : Hp} {v : V} {l : List Int} (h : LotAt H v l) : lotOf H v = l := by
  obtain ⟨a, rfl, h⟩ := h
  unfold lotOf
  simp only [h]
  show (l.map V.int).map unI = l
  rw [List.map_map]
  exact (List.map_congr_left fun x _ => rfl).trans (List.map_id l)
theorem lots_of {H : Hp} : ∀ {xs : List V} {Ls : List (List Int)}, Paired (LotAt H) xs Ls → xs.map (lotOf H) = Ls
  | _, _, .nil => rfl
  | _, _, .cons r t => by rw [List.map_cons, lotOf_at r, lots_of t]
theorem paired_lots {H : Hp} : ∀ {xs : List V}, (∀ x ∈ xs, ∃ l, LotAt H x l) → Paired (LotAt H) xs (xs.map (lotOf H))
  | [], _ => .nil
  | x :: xs, h => by
    obtain ⟨l, hl⟩ := h x List.mem_cons_self
    exact .cons (by rw [lotOf_at hl]; exact hl) (paired_lots fun y hy => h y (List.mem_cons_of_mem _ hy))
theorem paired_all {α β : Type} {F : α → β → Prop} : ∀ {xs : List α} {ys : List β}, Paired F xs ys → ∀ x ∈ xs, ∃ y, F x y
  | _, _, .nil, x, h => by simp at h
  | _, _, .cons r t, x, h => (List.mem_cons.mp h).elim (fun e => ⟨_, e ▸ r⟩) (paired_all t x)
theorem paired_imp {α β : Type} {F G : α → β → Prop} (h : ∀ a b, F a b → G a b) : ∀ {xs : List α} {ys : List β}, Paired F xs ys → Paired G xs ys
  | _, _, .nil => .nil
  | _, _, .cons r t => .cons (h _ _ r) (paired_imp h t)
theorem paired_mapR {α β γ : Type} {F : α → γ → Prop} {g : β → γ} : ∀ {xs : List α} {ys : List β}, Paired (fun a b => F a (g b)) xs ys → Paired F xs (ys.map g)
  | _, _, .nil => .nil
  | _, _, .cons r t => .cons r (paired_mapR t)
end




end Bs

namespace Bs
open PySem PySem.Spec L2
/-! ## a pool of draws -/
def Sr (H : Hp) (S : Addr) : Prop := ∃ (g s : Addr) (gs ss : List Int) (c d : Int), H S = some (.lst [.ref g, .ref s, .int c, .int d]) ∧ H g = some (.lst (gs.map V.int)) ∧ H s = some (.lst (ss.map V.int)) ∧ g ≠ S ∧ s ≠ S ∧ gs.length ≤ 1000 ∧ ss.length ≤ 1000
/-- p is no list of the pool's -/
def Off (H : Hp) (S p : Addr) : Prop := ∀ (g s : Addr) (c d : V), H S = some (.lst [.ref g, .ref s, c, d]) → p ≠ g ∧ p ≠ s
theorem Sr.ext {H H' : Hp} {S : Addr} (h : Sr H S) (e : Same H H') : Sr H' S := let ⟨g, s, gs, ss, c, d, q, h1, h2, h3⟩ := h; ⟨g, s, gs, ss, c, d, e _ _ q, e _ _ h1, e _ _ h2, h3⟩
theorem Sr.lst {H : Hp} {S : Addr} (h : Sr H S) : ∃ l, H S = some (.lst l) := let ⟨_, _, _, _, _, _, q, _⟩ := h; ⟨_, q⟩
theorem Sr.tk {H H' : Hp} {S : Addr} (h : Sr H S) (e : ExT S H H') : TK H H' := let ⟨_, q⟩ := h.lst; e.tk q
theorem Sr.upd {H : Hp} {S p : Addr} {o : HO} (h : Sr H S) (hp : p ≠ S) (ho : Off H S p) : Sr (L2.upd H p o) S := by
  obtain ⟨g, s, gs, ss, c, d, q, h1, h2, h3⟩ := h
  obtain ⟨n1, n2⟩ := ho g s _ _ q
  exact ⟨g, s, gs, ss, c, d, by rw [upd_ne hp.symm]; exact q, by rw [upd_ne n1.symm]; exact h1, by rw [upd_ne n2.symm]; exact h2, h3⟩
theorem Sr.neT {H : Hp} {S p : Addr} (h : Sr H S) (hp : H p = none) : p ≠ S := fun q => by
  obtain ⟨l, h1⟩ := h.lst
  rw [← q, hp] at h1; cases h1
theorem Sr.off {H : Hp} {S p : Addr} (h : Sr H S) (hp : H p = none) : Off H S p := fun g s c d q => by
  obtain ⟨g', s', gs, ss, c', d', q', h1, h2, _⟩ := h
  rw [q] at q'
  injection q' with q'
  injection q' with q'
  simp at q'
  obtain ⟨rfl, rfl, _⟩ := q'
  exact ⟨fun e => (by rw [e, h1] at hp; cases hp), fun e => (by rw [e, h2] at hp; cases hp)⟩
theorem Off.same {H H' : Hp} {S p : Addr} (h : Off H S p) (hS : Sr H S) (e : Same H H') : Off H' S p := fun g s c d q => by
  obtain ⟨g', s', gs, ss, c', d', q', _⟩ := hS
  rw [e _ _ q'] at q
  injection q with q
  injection q with q
  simp at q
  obtain ⟨rfl, rfl, _⟩ := q
  exact h _ _ _ _ q'
theorem Off.upd {H : Hp} {S p x : Addr} {o : HO} (h : Off H S p) (hx : x ≠ S) : Off (L2.upd H x o) S p := fun g s c d q => by
  rw [upd_ne hx.symm] at q
  exact h g s c d q
theorem same_ext {H0 H1 H' : Hp} {S : Addr} (e : Same H0 H1) (h : H0 S = none) (x : ExT S H1 H') : Same H0 H' := fun b o q => x _ _ (fun z => by rw [z, h] at q; cases q) (e _ _ q)
/-- what was there and no list of the pool's stays so -/
def OffK (S : Addr) (H H' : Hp) : Prop := ∀ p, H p ≠ none → Off H S p → Off H' S p
theorem OffK.trans {S : Addr} {H H1 H2 : Hp} (a : OffK S H H1) (e : ExT S H H1) (hS : Sr H1 S) (b : OffK S H1 H2) : OffK S H H2 := fun p h1 h2 => b p (fun h => by
  by_cases c : p = S
  · obtain ⟨l, q⟩ := hS.lst
    rw [c, q] at h; cases h
  · cases d : H p with
    | none => exact h1 d
    | some o => rw [e _ _ c d] at h; cases h) (a p h1 h2)
theorem OffK.same {S : Addr} {H H' : Hp} (hS : Sr H S) (e : Same H H') : OffK S H H' := fun p _ h2 => h2.same hS e
def spDraw : Sp := fun vs H Q _ => ∃ (S : Addr) (m : Int), vs = [.ref S, .int m] ∧ 0 < m ∧ m < 1073741824 ∧ Sr H S ∧ ∀ r H', 0 ≤ r → r < m → ExT S H H' → Sr H' S → OffK S H H' → Q (.int r) H'
theorem cut_drop1 (x : Int) (xs : List Int) : cutV ((x :: xs).map V.int) (some 1) none = xs.map V.int := by
  have e : HT.sIx ((x :: xs).map V.int).length 0 (some 1) = 1 := by
    have := HT.sIx_nat ((x :: xs).map V.int).length 0 1
    rw [show ((1 : Nat) : Int) = 1 from rfl] at this
    rw [this, List.length_map, List.length_cons]
    omega
  unfold cutV
  rw [e, HT.sIx_none, List.map_cons, List.drop_one, List.tail_cons, List.take_of_length_le (by rw [List.length_cons]; omega)]
section
variable {P : Program} {w : World} {K : PySem.W.Frag} {mg : Str → Option Value} {base : Heap} {C : Addr}
abbrev s__law_draw : Stmt := (top 21)
theorem sc__law_draw : FnScope ["pool", "many", "digit", "cell", "number"] ["pool", "many"] (defScope s__law_draw) := ⟨rfl, rfl, rfl, by decide +kernel, rfl, by decide +kernel, by decide +kernel⟩

theorem ok_law_draw {f : Addr} {fd : FuncData} (F : Fun K "_law_draw" "_law_draw" s__law_draw f fd) (hm : mg "_law_draw" = some (.ref f)) (B : Bl mg) : Cal P w K mg base 1 "_law_draw" ["pool", "many"] spDraw := by
  refine ⟨f, fd, F.ok sc__law_draw (fun vs H Q E h => ?_) (fun cdv A outer s H vs Q E hr h => ?_), hm, F.kp, F.binds (ps := ["pool", "many"]) fun _ _ _ _ _ _ us hl => match us, hl with | [_, _], _ => rfl⟩
  · obtain ⟨T, m, rfl, _⟩ := h; rfl
  · obtain ⟨T, m, rfl, m1, m2, hT0, k⟩ := h
    have m0 : m ≠ 0 := by omega
    have mN : m.natAbs < 1073741824 := by omega
    refine ⟨_, (Evl.pss_cut (ps_if (PW.pt (pw_and (pt_cmpR op_le (pe_ix ix_list (pv 0) pe_int (fun _ _ => rfl)) pe_int (nomark _)) (pw_and1 (pt_cmpR op_gt (pe_callB call_len_seq (by rfl) B.len (by decide +kernel) (pa_cons (pe_ix ix_list (pv 0) pe_int (fun _ _ => rfl)) pa_nil)) pe_int (nomark _))))) (pss_cons (ps_asg (pe_ix ix_list (pe_ix ix_list (pv 0) pe_int (fun _ _ => rfl)) pe_int (fun _ _ => rfl)) (pg_sub (pv 0) pe_int set_list))
 (pss_one (ps_asg (pe_slice sl_list (pe_ix ix_list (pv 0) pe_int (fun _ _ => rfl)) (po_some pe_int) po_none) (pg_sub (pv 0) pe_int set_list)))) pss_nil)
 (pss_cons (ps_if (pt_cmpR op_gt (pe_ix ix_list (pv 0) pe_int (fun _ _ => rfl)) pe_int (nomark _)) (pss_cons (ps_set (i := 2) sc__law_draw.nd rfl (by first | exact Or.inl rfl | exact Or.inr rfl) (pe_op op_modN (pe_callTy call_int1 (by rfl) B.int_ (by decide +kernel) (pa_cons (pe_ix ix_list (pv 0) pe_int (fun _ _ => rfl)) pa_nil)) (pv 1)))
 (pss_cons (ps_asg (pe_op op_fdivN (pe_ix ix_list (pv 0) pe_int (fun _ _ => rfl)) (pv 1)) (pg_sub (pv 0) pe_int set_list))
 (pss_one (ps_ret (pv 2))))) pss_nil)
 (pss_cons (ps_asg (pe_op op_add (pe_ix ix_list (pv 0) pe_int (fun _ _ => rfl)) pe_int) (pg_sub (pv 0) pe_int set_list))
 (pss_cons (ps_set (i := 3) sc__law_draw.nd rfl (by first | exact Or.inl rfl | exact Or.inr rfl) pe_int)
 (Evl.pss_cut (ps_if (pt_cmpR op_gt (pe_callB call_len_seq (by rfl) B.len (by decide +kernel) (pa_cons (pe_ix ix_list (pv 0) pe_int (fun _ _ => rfl)) pa_nil)) pe_int (nomark _)) (pss_one (ps_set (i := 3) sc__law_draw.nd rfl (by first | exact Or.inl rfl | exact Or.inr rfl) (pe_ix ix_list (pe_ix ix_list (pv 0) pe_int (fun _ _ => rfl)) (pe_op op_modN (pe_callTy call_int1 (by rfl) B.int_ (by decide +kernel) (pa_cons (pe_ix ix_list (pv 0) pe_int (fun _ _ => rfl)) pa_nil)) (pe_callB call_len_seq (by rfl) B.len (by decide +kernel) (pa_cons (pe_ix ix_list (pv 0) pe_int (fun _ _ => rfl)) pa_nil))) (fun _ _ => rfl)))) pss_nil)
 (pss_cons (ps_set (i := 4) sc__law_draw.nd rfl (by first | exact Or.inl rfl | exact Or.inr rfl) (pe_op op_modN (pe_callTy call_int1 (by rfl) B.int_ (by decide +kernel) (pa_cons (pe_op op_mul (pe_op op_add (pe_op op_add (pv 3) (pe_op op_mul pe_int (pe_ix ix_list (pv 0) pe_int (fun _ _ => rfl)))) pe_int) pe_int) pa_nil)) pe_int))
 (pss_cons (ps_set (i := 4) sc__law_draw.nd rfl (by first | exact Or.inl rfl | exact Or.inr rfl) (pe_op op_modN (pe_callTy call_int1 (by rfl) B.int_ (by decide +kernel) (pa_cons (pe_op op_mul (pv 4) (pe_op op_add (pe_op op_fdivN (pv 4) pe_int) pe_int)) pa_nil)) pe_int))
 (pss_cons (ps_set (i := 4) sc__law_draw.nd rfl (by first | exact Or.inl rfl | exact Or.inr rfl) (pe_op op_modN (pe_callTy call_int1 (by rfl) B.int_ (by decide +kernel) (pa_cons (pe_op op_mul (pv 4) (pe_op op_add (pe_op op_fdivN (pv 4) pe_int) pe_int)) pa_nil)) pe_int))
 (pss_one (ps_ret (pe_op op_modN (pe_callTy call_int1 (by rfl) B.int_ (by decide +kernel) (pa_cons (pe_op op_fdivN (pv 4) pe_int) pa_nil)) (pv 1)))))))))))), ?_⟩
    refine ⟨fun σ H' => σ = [some (.ref T), some (.int m), none, none, none] ∧ ExT T H H' ∧ Sr H' T ∧ OffK T H H', ?_, ?_⟩
    · obtain ⟨g, s', gs, ss, c, d, hT, hg, hs, n1, n2, l1, l2⟩ := id hT0
      refine ⟨_, rfl, T, _, 2, _, rfl, rfl, SqL.of hT, rfl, _, _, rfl, rfl, _, rfl, ?_⟩
      show (if decide (c ≤ 1) = true then _ else _)
      refine onb (fun c1 => ?_) (fun c1 => iteF ⟨rfl, ExT.rfl', hT0, fun _ _ h => h⟩)
      refine ⟨_, rfl, T, _, 0, _, rfl, rfl, SqL.of hT, rfl, g, _, rfl, .inl (SqL.of hg), _, _, rfl, rfl, _, rfl, ?_⟩
      show (if decide (((gs.map V.int).length : Int) > 0) = true then _ else _)
      refine onb (fun c2 => ?_) (fun c2 => ⟨rfl, ExT.rfl', hT0, fun _ _ h => h⟩)
      cases gs with
      | nil => exact absurd c2 (by simp)
      | cons g0 gr =>
      refine ⟨_, rfl, T, _, 0, _, rfl, rfl, SqL.of hT, rfl, g, _, 0, _, rfl, rfl, SqL.of hg, at_of (j := 0) (by omega) rfl, ?_⟩
      refine ⟨_, rfl, T, _, 2, 2, rfl, rfl, hT, rfl, ?_⟩
      have e1 : ExT T H (upd H T (.lst ([.ref g, .ref s', .int c, .int d].set 2 (.int g0)))) := ExT.rfl'.upd
      have hT1 : (upd H T (.lst ([.ref g, .ref s', .int c, .int d].set 2 (.int g0)))) T = some (.lst [.ref g, .ref s', .int g0, .int d]) := upd_same
      have hg1 := e1 _ _ n1 hg
      have hs1 := e1 _ _ n2 hs
      generalize upd H T (.lst ([.ref g, .ref s', .int c, .int d].set 2 (.int g0))) = H1 at e1 hT1 hg1 hs1 ⊢
      refine ⟨_, rfl, T, _, 0, _, rfl, rfl, SqL.of hT1, rfl, _, rfl, g, _, rfl, SqL.of hg1, fun g2 hg2 => ?_⟩
      have s2 := L2.Same.new (o := .lst (cutV ((g0 :: gr).map V.int) (some 1) none)) hg2
      have ecut : cutV ((g0 :: gr).map V.int) (some 1) none = gr.map V.int := cut_drop1 _ _
      rw [ecut] at s2 ⊢
      have n3 : g2 ≠ T := fun z => by rw [z, hT1] at hg2; cases hg2
      have n4 : g2 ≠ g := fun z => by rw [z, hg1] at hg2; cases hg2
      refine ⟨_, rfl, T, _, 0, 0, rfl, rfl, s2 _ _ hT1, rfl, ?_⟩
      have hT3 : (upd (upd H1 g2 (.lst (gr.map V.int))) T (.lst ([.ref g, .ref s', .int g0, .int d].set 0 (.ref g2)))) T = some (.lst [.ref g2, .ref s', .int g0, .int d]) := upd_same
      refine ⟨rfl, (e1.trans s2.exT).upd, ⟨g2, s', gr, ss, g0, d, hT3, by rw [upd_ne n3]; exact upd_same, by rw [upd_ne n2]; exact s2 _ _ hs1, n3, n2, by simp at l1; omega, l2⟩, fun p hp ho => ?_⟩
      intro x y cc dd q
      rw [hT3] at q
      injection q with q
      injection q with q
      simp at q
      obtain ⟨rfl, rfl, _⟩ := q
      refine ⟨fun z => ?_, (ho _ _ _ _ hT).2⟩
      subst z
      cases w : H p with
      | none => exact hp w
      | some o => rw [e1 _ _ n3 w] at hg2; cases hg2
    · rintro σ H1 ⟨rfl, e1, hT1, o1⟩
      obtain ⟨g, s', gs, ss, c, d, hT, hg, hs, n1, n2, l1, l2⟩ := id hT1
      have offS : ∀ {c' d' : V}, OffK T H (upd H1 T (.lst [.ref g, .ref s', c', d'])) := fun p hp ho x y cc dd q => by
        rw [upd_same] at q
        injection q with q
        injection q with q
        simp at q
        obtain ⟨rfl, rfl, _⟩ := q
        exact o1 p hp ho _ _ _ _ hT
      have srS : ∀ {c' d' : Int}, Sr (upd H1 T (.lst [.ref g, .ref s', .int c', .int d'])) T := fun {c' d'} => ⟨g, s', gs, ss, c', d', upd_same, by rw [upd_ne n1]; exact hg, by rw [upd_ne n2]; exact hs, n1, n2, l1, l2⟩
      refine ⟨_, rfl, T, _, 2, _, rfl, rfl, SqL.of hT, rfl, _, _, rfl, rfl, _, rfl, ?_⟩
      show (if decide (c > 1) = true then _ else _)
      refine onb (fun c1 => ?_) (fun c1 => ?_)
      · refine ⟨_, rfl, T, _, 2, _, rfl, rfl, SqL.of hT, rfl, .inl ⟨_, rfl, ?_⟩⟩
        refine ⟨_, rfl, _, _, rfl, rfl, m0, ?_⟩
        refine ⟨_, rfl, T, _, 2, _, rfl, rfl, SqL.of hT, rfl, _, rfl, _, _, rfl, rfl, ⟨m0, mN⟩, ?_⟩
        refine ⟨_, rfl, T, _, 2, 2, rfl, rfl, hT, rfl, ?_⟩
        exact ⟨_, rfl, k _ _ (fm0 m1).1 (fm0 m1).2 e1.upd srS offS⟩
      · refine ⟨_, rfl, T, _, 3, _, rfl, rfl, SqL.of hT, rfl, _, _, rfl, rfl, ?_⟩
        refine ⟨_, rfl, T, _, 3, 3, rfl, rfl, hT, rfl, ?_⟩
        have e2 : ExT T H (upd H1 T (.lst ([.ref g, .ref s', .int c, .int d].set 3 (.int (d + 1))))) := e1.upd
        have hT2 : (upd H1 T (.lst ([.ref g, .ref s', .int c, .int d].set 3 (.int (d + 1))))) T = some (.lst [.ref g, .ref s', .int c, .int (d + 1)]) := upd_same
        have hs2 : (upd H1 T (.lst ([.ref g, .ref s', .int c, .int d].set 3 (.int (d + 1))))) s' = some (.lst (ss.map V.int)) := by rw [upd_ne n2]; exact hs
        have sr2 : Sr (upd H1 T (.lst ([.ref g, .ref s', .int c, .int d].set 3 (.int (d + 1))))) T := srS
        have of2 : OffK T H (upd H1 T (.lst ([.ref g, .ref s', .int c, .int d].set 3 (.int (d + 1))))) := offS
        generalize upd H1 T (.lst ([.ref g, .ref s', .int c, .int d].set 3 (.int (d + 1)))) = H2 at e2 hT2 hs2 sr2 of2 ⊢
        refine ⟨fun σ H' => (∃ cl : Int, σ = [some (.ref T), some (.int m), none, some (.int cl), none]) ∧ H' = H2, ?_, ?_⟩
        · refine ⟨_, rfl, T, _, 1, _, rfl, rfl, SqL.of hT2, rfl, s', _, rfl, .inl (SqL.of hs2), _, _, rfl, rfl, _, rfl, ?_⟩
          show (if decide (((ss.map V.int).length : Int) > 0) = true then _ else _)
          refine onb (fun c2 => ?_) (fun c2 => ⟨⟨0, rfl⟩, rfl⟩)
          have sl : ((ss.map V.int).length : Int) = ss.length := by rw [List.length_map]
          rw [sl] at c2
          refine ⟨_, rfl, T, _, 1, _, rfl, rfl, SqL.of hT2, rfl, _, rfl, T, _, 3, _, rfl, rfl, SqL.of hT2, rfl, .inl ⟨_, rfl, ?_⟩⟩
          refine ⟨_, rfl, T, _, 1, _, rfl, rfl, SqL.of hT2, rfl, s', _, rfl, .inl (SqL.of hs2), _, _, rfl, rfl, by rw [sl]; omega, ?_⟩
          have hb := fm0 (a := d + 1) (show 0 < ((ss.map V.int).length : Int) by rw [sl]; omega)
          rw [sl] at hb
          have hj : ((d + 1).fmod ((ss.map V.int).length : Int)).toNat < ss.length := by rw [sl]; omega
          have hx : (ss.map V.int)[((d + 1).fmod ((ss.map V.int).length : Int)).toNat]? = some (.int ss[((d + 1).fmod ((ss.map V.int).length : Int)).toNat]) := by rw [List.getElem?_map, List.getElem?_eq_getElem hj]; rfl
          refine ⟨s', _, _, _, rfl, rfl, SqL.of hs2, at_of (j := ((d + 1).fmod ((ss.map V.int).length : Int)).toNat) (by rw [sl]; omega) hx, ⟨_, rfl⟩, rfl⟩
        rintro σ H3 ⟨⟨cl, rfl⟩, rfl⟩
        refine ⟨_, rfl, _, rfl, T, _, 3, _, rfl, rfl, SqL.of hT2, rfl, _, _, rfl, rfl, .inl ⟨by decide, by decide⟩, _, _, rfl, rfl, ?_⟩
        refine ⟨_, _, rfl, rfl, _, _, rfl, rfl, .inr ⟨by decide, by decide⟩, .inl ⟨_, rfl, _, _, rfl, rfl, (by show (2147483647 : Int) ≠ 0; decide), ?_⟩⟩
        dsimp only
        generalize hm1 : Int.fmod _ 2147483647 = mx
        have b1 : 0 ≤ mx ∧ mx < 2147483647 := by rw [← hm1]; exact fm0 (by decide)
        clear hm1
        refine ⟨_, rfl, _, rfl, _, _, rfl, rfl, ⟨by decide, by decide⟩, _, _, rfl, rfl, _, _, rfl, rfl, .inl ⟨by omega, by omega⟩, .inl ⟨_, rfl, _, _, rfl, rfl, (by show (2147483647 : Int) ≠ 0; decide), ?_⟩⟩
        dsimp only
        generalize hm2 : (mx * (mx.fdiv 1009 + 69621)).fmod 2147483647 = my
        have b2 : 0 ≤ my ∧ my < 2147483647 := by rw [← hm2]; exact fm0 (by decide)
        clear hm2
        refine ⟨_, rfl, _, rfl, _, _, rfl, rfl, ⟨by decide, by decide⟩, _, _, rfl, rfl, _, _, rfl, rfl, .inl ⟨by omega, by omega⟩, .inl ⟨_, rfl, _, _, rfl, rfl, (by show (2147483399 : Int) ≠ 0; decide), ?_⟩⟩
        dsimp only
        refine ⟨_, rfl, _, _, rfl, rfl, ⟨by decide, by decide⟩, .inl ⟨_, rfl, _, rfl, _, _, rfl, rfl, m0, ?_⟩⟩
        exact k _ _ (fm0 m1).1 (fm0 m1).2 e2 sr2 of2
def sp_pool (K : PySem.W.Frag) : Sp := fun vs H Q _ => ∃ (a : Addr) (ns : List Int), vs = [.ref a] ∧ SqL K H a (ns.map V.int) ∧ ∀ S H', Same H H' → H S = none → Sr H' S → Q (.ref S) H'
abbrev s__law_pool : Stmt := (top 20)
theorem sc__law_pool : FnScope ["script", "cell", "great", "small"] ["script"] (defScope s__law_pool) := ⟨rfl, rfl, rfl, by decide +kernel, rfl, by decide +kernel, by decide +kernel⟩

theorem ok_law_pool {f : Addr} {fd : FuncData} (F : Fun K "_law_pool" "_law_pool" s__law_pool f fd) (hm : mg "_law_pool" = some (.ref f)) (B : Bl mg) (ZA : mg "abs" = none ∧ True) : Cal P w K mg base 1 "_law_pool" ["script"] (sp_pool K) := by
  refine ⟨f, fd, F.ok sc__law_pool (fun vs H Q E h => ?_) (fun cdv A outer s H vs Q E hr h => ?_), hm, F.kp, F.binds (ps := ["script"]) fun _ _ _ _ _ _ us hl => match us, hl with | [_], _ => rfl⟩
  · obtain ⟨a, ns, rfl, _⟩ := h; rfl
  · obtain ⟨a, ns, rfl, hS, k⟩ := h
    refine ⟨_, (pss_cons (ps_setLc (i := 2) (own := [("cell", 1)]) (by rfl) sc__law_pool.nd rfl rfl (sw_true rfl rfl rfl (by decide +kernel)) (pi_list (pe_slice sl_list (pv 0) po_none (po_some pe_int))) (blkOk_by (own := [("cell", 1)]) (N := ["script", "cell", "great", "small"]) (sc := defScope s__law_pool) (by decide +kernel)) (fun _ _ _ _ _ => (pg_name (i := 1) sc__law_pool.nd rfl (by first | exact Or.inl rfl | exact Or.inr rfl))) (fun _ _ _ _ _ => (pts_one (pt_cmpR op_ge (pe_callB call_abs (by rfl) ZA.1 (by decide +kernel) (pa_cons (pv 1) pa_nil)) (pe_op op_pow pe_int pe_int) (nomark _)))) (fun _ _ _ _ _ => (pe_callB call_abs (by rfl) ZA.1 (by decide +kernel) (pa_cons (pv 1) pa_nil))))
 (pss_cons (ps_setLc (i := 3) (own := [("cell", 1)]) (by rfl) sc__law_pool.nd rfl rfl (sw_true rfl rfl rfl (by decide +kernel)) (pi_list (pe_slice sl_list (pv 0) po_none (po_some pe_int))) (blkOk_by (own := [("cell", 1)]) (N := ["script", "cell", "great", "small"]) (sc := defScope s__law_pool) (by decide +kernel)) (fun _ _ _ _ _ => (pg_name (i := 1) sc__law_pool.nd rfl (by first | exact Or.inl rfl | exact Or.inr rfl))) (fun _ _ _ _ _ => (pts_one (pt_cmpR op_lt (pe_callB call_abs (by rfl) ZA.1 (by decide +kernel) (pa_cons (pv 1) pa_nil)) (pe_op op_pow pe_int pe_int) (nomark _)))) (fun _ _ _ _ _ => (pe_op op_modN (pe_callTy call_int1 (by rfl) B.int_ (by decide +kernel) (pa_cons (pv 1) pa_nil)) pe_int)))
 (pss_one (ps_ret (pe_lst (pa_cons (pv 2) (pa_cons (pv 3) (pa_cons pe_int (pa_cons pe_int pa_nil))))))))), ?_⟩
    have ecut : cutV (ns.map V.int) none (some 63) = (ns.take 63).map V.int := by
      have e : HT.sIx (ns.map V.int).length (ns.map V.int).length (some 63) = min 63 (ns.map V.int).length := HT.sIx_nat _ _ 63
      unfold cutV
      rw [e, HT.sIx_none, List.drop_zero, Nat.sub_zero, List.map_take]
      by_cases h : 63 ≤ (ns.map V.int).length
      · rw [Nat.min_eq_left h]
      · rw [Nat.min_eq_right (by omega), List.take_length, List.take_of_length_le (by omega)]
    have l63 : (ns.take 63).length ≤ 63 := by rw [List.length_take]; omega
    refine ⟨_, rfl, _, rfl, a, _, rfl, hS, fun p hp => ?_⟩
    rw [ecut]
    have s1 := L2.Same.new (o := .lst ((ns.take 63).map V.int)) hp
    have hp1 : (upd H p (.lst ((ns.take 63).map V.int))) p = some (.lst ((ns.take 63).map V.int)) := upd_same
    refine ⟨p, rfl, ⟨_, SqL.of hp1⟩, fun D hD => lc_data (walk_list (K := K) (a := p) (xs := (ns.take 63).map V.int)) (ns.take 63) (List.length_map ..).symm (fun x => decide ((10 : Int) ^ 18 ≤ (if x < 0 then -x else x))) (fun _ v x => v = .int (if x < 0 then -x else x)) (fun _ _ _ _ _ q => q) hD (fun H' e => SqL.of (e _ _ hp1)) (Nat.lt_of_le_of_lt l63 (by decide)) ?_ (fun _ _ _ _ _ y => yat_same y) ?_⟩
    · rintro j x v H3 H4 Ny Nn hxi e3 ⟨rfl, hv⟩ kE kN
      rw [List.getElem?_map, hxi] at hv
      cases hv
      refine ⟨rfl, _, rfl, _, rfl, ?_⟩
      refine ⟨_, _, rfl, rfl, ⟨by decide, by decide, by decide⟩, _, _, rfl, rfl, _, rfl, ?_⟩
      show (if decide ((10 : Int) ^ 18 ≤ (if x < 0 then -x else x)) = true then _ else _)
      cases c : decide ((10 : Int) ^ 18 ≤ (if x < 0 then -x else x)) with
      | true => exact iteT ⟨_, rfl, _, rfl, kE _ _ c (L2.Same.refl _) rfl⟩
      | false => exact iteF (kN _ c (L2.Same.refl _))
    · intro ys H5 e5 hys hpr
      have ey := paired_eq (g := fun x : Int => V.int (if x < 0 then -x else x)) hpr
      obtain ⟨gs, eg, gl⟩ : ∃ gs : List Int, ys = gs.map V.int ∧ gs.length ≤ 63 := ⟨((ns.take 63).filter fun x => decide ((10 : Int) ^ 18 ≤ (if x < 0 then -x else x))).map fun x => (if x < 0 then -x else x), by rw [ey, List.map_map]; rfl, by rw [List.length_map]; exact Nat.le_trans (List.length_filter_le _ _) l63⟩
      subst eg
      clear ey hpr
      have s5 := s1.trans e5
      refine ⟨_, rfl, _, rfl, a, _, rfl, s5.seq hS, fun p2 hp2 => ?_⟩
      rw [ecut]
      have s6 := L2.Same.new (o := .lst ((ns.take 63).map V.int)) hp2
      have hp6 : (upd H5 p2 (.lst ((ns.take 63).map V.int))) p2 = some (.lst ((ns.take 63).map V.int)) := upd_same
      refine ⟨p2, rfl, ⟨_, SqL.of hp6⟩, fun D2 hD2 => lc_data (walk_list (K := K) (a := p2) (xs := (ns.take 63).map V.int)) (ns.take 63) (List.length_map ..).symm (fun x => decide ((if x < 0 then -x else x) < (10 : Int) ^ 18)) (fun _ v x => v = .int (x.fmod 1000003)) (fun _ _ _ _ _ q => q) hD2 (fun H' e => SqL.of (e _ _ hp6)) (Nat.lt_of_le_of_lt l63 (by decide)) ?_ (fun _ _ _ _ _ y => yat_same y) ?_⟩
      · rintro j x v H7 H8 Ny Nn hxi e7 ⟨rfl, hv⟩ kE kN
        rw [List.getElem?_map, hxi] at hv
        cases hv
        refine ⟨rfl, _, rfl, _, rfl, ?_⟩
        refine ⟨_, _, rfl, rfl, ⟨by decide, by decide, by decide⟩, _, _, rfl, rfl, _, rfl, ?_⟩
        show (if decide ((if x < 0 then -x else x) < (10 : Int) ^ 18) = true then _ else _)
        cases c : decide ((if x < 0 then -x else x) < (10 : Int) ^ 18) with
        | true => exact iteT ⟨_, rfl, .inl ⟨_, rfl, _, _, rfl, rfl, (by show (1000003 : Int) ≠ 0; decide), kE _ _ c (L2.Same.refl _) rfl⟩⟩
        | false => exact iteF (kN _ c (L2.Same.refl _))
      · intro zs H9 e9 hzs hpr
        have ey := paired_eq (g := fun x : Int => V.int (x.fmod 1000003)) hpr
        obtain ⟨ss, es, sl⟩ : ∃ ss : List Int, zs = ss.map V.int ∧ ss.length ≤ 63 := ⟨((ns.take 63).filter fun x => decide ((if x < 0 then -x else x) < (10 : Int) ^ 18)).map fun x => x.fmod 1000003, by rw [ey, List.map_map]; rfl, by rw [List.length_map]; exact Nat.le_trans (List.length_filter_le _ _) l63⟩
        subst es
        have s9 := s5.trans (s6.trans e9)
        have hg9 := (s6.trans e9) _ _ hys
        refine ⟨_, rfl, _, rfl, (by show 4 ≤ sizeLine; decide), fun S hSn => ?_⟩
        have n1 : D ≠ S := fun z => by rw [← z, hg9] at hSn; cases hSn
        have n2 : D2 ≠ S := fun z => by rw [← z, hzs] at hSn; cases hSn
        have s10 := L2.Same.new (o := .lst [V.ref D, .ref D2, .int 0, .int 0]) hSn
        exact k S _ (s9.trans s10) (L2.Same.free s9 hSn) ⟨D, D2, gs, ss, 0, 0, upd_same, s10 _ _ hg9, s10 _ _ hzs, n1, n2, by omega, by omega⟩
end
end Bs

namespace Bs
open PySem PySem.Spec PyProof.Rows L2
section
variable {P : Program} {w : World} {K : PySem.W.Frag} {mg : Str → Option Value} {base : Heap} {C CB CW : Addr}
/-- a thing that is there -/
def ThE (K : PySem.W.Frag) (H : Hp) (v : V) : Prop := Thing K H v ∧ ∀ a, v = .ref a → H a ≠ none
theorem ThE.tup {K : PySem.W.Frag} {H : Hp} {a : Addr} {xs : List V} (h : H a = some (.tup xs)) (h1 : ∀ x ∈ xs, Item K H x) (h2 : xs.length ≤ 100000) : ThE K H (.ref a) := ⟨.tup h h1 h2, fun b e => by cases e; rw [h]; exact Option.some_ne_none _⟩
theorem ThE.lst {K : PySem.W.Frag} {H : Hp} {a : Addr} {xs : List V} (h : H a = some (.lst xs)) : ThE K H (.ref a) := ⟨.lst h, fun b e => by cases e; rw [h]; exact Option.some_ne_none _⟩
theorem ThE.dK {K : PySem.W.Frag} {H : Hp} {a : Addr} {xs : List (L2.Key × V)} (h : H a = some (.dK xs)) : ThE K H (.ref a) := ⟨.dK h, fun b e => by cases e; rw [h]; exact Option.some_ne_none _⟩
theorem ThE.non {K : PySem.W.Frag} {H : Hp} : ThE K H .non := ⟨.non, fun _ => V.noConfusion⟩
theorem ThE.str {K : PySem.W.Frag} {H : Hp} (x : Str) : ThE K H (.str x) := ⟨.str x, fun _ => V.noConfusion⟩
theorem ThE.int {K : PySem.W.Frag} {H : Hp} (x : Int) : ThE K H (.int x) := ⟨.int x, fun _ => V.noConfusion⟩
theorem ThE.ext {K : PySem.W.Frag} {H H' : Hp} {v : V} (h : ThE K H v) (e : Same H H') : ThE K H' v := ⟨h.1.ext e h.2, fun a ea q => by
  cases c : H a with
  | none => exact h.2 a ea c
  | some o => rw [e _ _ c] at q; cases q⟩
theorem cut_mem {xs : List V} {lo hi : Option Int} {x : V} (h : x ∈ cutV xs lo hi) : x ∈ xs := List.mem_of_mem_drop (List.mem_of_mem_take h)
theorem cut_whole {xs : List V} {lo hi : Option Int} (h : HT.sIx xs.length 0 lo = 0 ∧ HT.sIx xs.length xs.length hi = xs.length) : cutV xs lo hi = xs := by
  unfold cutV
  rw [h.1, h.2, List.drop_zero, Nat.sub_zero, List.take_length]
theorem sl_any {K : PySem.W.Frag} {H : Hp} {a : Addr} {xs : List V} {lo hi : Option Int} {Q : VK} (ha : H a = some (.tup xs)) (k : ∀ b H', Same H H' → H' b = some (.tup (cutV xs lo hi)) → Q (.ref b) H') : rSlA K (.ref a) lo hi H Q :=
  ⟨a, xs, rfl, SqT.of ha, fun h => k a H (L2.Same.refl H) (by rw [cut_whole h]; exact ha), fun _ p hp => k p _ (L2.Same.new hp) upd_same⟩
theorem sl_from {K : PySem.W.Frag} {σ : L2.St} {H : Hp} {a : Addr} {xs : List V} {lo : Option Int} {Q : VK} (ha : H a = some (.tup xs)) (k : ∀ b H', Same H H' → H' b = some (.tup (cutV xs lo none)) → Q (.ref b) H') : tNoPart σ H (fun u H3 => rSlA K (.ref a) lo u H3 Q) := sl_any ha k
/-- a tuple of things, or no tuple -/
inductive ThT (K : PySem.W.Frag) (H : Hp) : V → Prop where
  | tup {a : Addr} {xs : List V} (h : H a = some (.tup xs)) (h1 : ∀ x ∈ xs, ThE K H x) (h2 : xs.length ≤ 100000) : ThT K H (.ref a)
  | els {v : V} (h : Typ K H v "tuple" false) (h1 : ∀ a xs, v = .ref a → H a ≠ some (.tup xs)) : ThT K H v
def sp_bad_init (K : PySem.W.Frag) : Sp := fun vs H Q _ => ∃ (a CB : Addr) (y : V), vs = [.ref a, y] ∧ OexC K CB ∧ PySem.W.findIn K (.ref CB) "part" = some none ∧ H a = some (exo a CB none) ∧ ∀ dx, H dx = none → dx ≠ a → Q .non (upd (upd H dx (exd dx [(("part" : Str), y)])) a (exo a CB (some dx)))
abbrev s_BadNet_init : Stmt := (inClass (top 3) 0)
theorem sc_BadNet_init : FnScope ["self", "part"] ["self", "part"] (defScope s_BadNet_init) := ⟨rfl, rfl, rfl, by decide +kernel, rfl, by decide +kernel, by decide +kernel⟩

theorem ok_BadNet_init {f : Addr} {fd : FuncData} (F : Fun K "__init__" "BadNet.__init__" s_BadNet_init f fd) (B : Bl mg) : FnOk P w K mg base CX0 1 f fd ["self", "part"] (sp_bad_init K) := by
  refine F.ok sc_BadNet_init (fun vs H Q E h => ?_) (fun cdv A outer s H vs Q E hr h => ?_)
  · obtain ⟨a, CB, y, rfl, _⟩ := h; rfl
  · obtain ⟨a, CB, y, rfl, T, hno, ha, k⟩ := h
    refine ⟨_, (pss_one (ps_ost (pv 0) (pv 1))), ?_⟩
    exact ⟨_, rfl, _, rfl, a, CB, rfl, T, hno, .inl ⟨ha, fun dx h1 h2 => k dx h1 h2⟩⟩
/-- BadNet(y): what is raised -/
theorem bad_read {H : Hp} {y : V} {Q : XK} (T : OexC K CB) (hno : PySem.W.findIn K (.ref CB) "part" = some none) (h : ∀ d H', Same H H' → H d = none → H' d = some (.xd [(("part" : Str), y)]) → Q (.ref CB) (some d) H') :
    ∀ a, H a = none → sp_bad_init K [.ref a, y] (upd H a (exo a CB none)) (fun v H2 => v = .non ∧ ∃ (d : Addr) (fs : List (Str × V)), H2 a = some (exo a CB (some d)) ∧ H2 d = some (exd d fs) ∧ H d = none ∧ Q (.ref CB) (some d) (upd (del H2 a) d (.xd fs))) (fun _ _ _ => False) := by
  intro a ha
  refine ⟨a, CB, y, rfl, T, hno, upd_same, fun dx hdx hne => ⟨rfl, dx, _, upd_same, by rw [upd_ne hne]; exact upd_same, ?_, ?_⟩⟩
  · rw [upd_ne hne] at hdx; exact hdx
  · rw [upd_ne hne] at hdx
    refine h dx _ (fun b o hb => ?_) hdx upd_same
    have hba : b ≠ a := ne_of_none hb ha
    have hbd : b ≠ dx := ne_of_none hb hdx
    rw [upd_ne hbd, del_ne hba, upd_ne hba, upd_ne hbd, upd_ne hba]
    exact hb
/-- what is known of BadNet -/
structure BadT (P : Program) (w : World) (K : PySem.W.Frag) (mg : Str → Option Value) (base : Heap) (CB fI : Addr) (fd : FuncData) : Prop where
  T : OexC K CB
  no : PySem.W.findIn K (.ref CB) "part" = some none
  g : mg "BadNet" = some (.ref CB)
  iC : PySem.W.findIn K (.ref CB) "__init__" = some (some (.ref fI))
  tI : PySem.W.typeIn K (.ref fI) = some (.type "function")
  F1 : FnOk P w K mg base CX0 1 fI fd ["self", "part"] (sp_bad_init K)
  hb : Binds K fd ["self", "part"] []
theorem ThT.ext {H H' : Hp} {v : V} (h : ThT K H v) (e : Same H H') (hv : ∀ a, v = .ref a → H a ≠ none) : ThT K H' v := by
  cases h with
  | tup h h1 h2 => exact .tup (e _ _ h) (fun x hx => (h1 x hx).ext e) h2
  | els h h1 =>
    refine .els (h.ext e) fun a xs ea q => ?_
    cases c : H a with
    | none => exact hv a ea c
    | some o => rw [e _ _ c] at q; cases q; exact h1 a xs ea c
theorem tup_inj {H : Hp} {t : Addr} {xs ys : List V} (h : H t = some (.tup xs)) (h' : H t = some (.tup ys)) : xs = ys := by
  rw [h] at h'
  injection h' with h'
  injection h' with h'
theorem tup_back {H H' : Hp} {t : Addr} {xs : List V} (e : Same H H') (hv : H t ≠ none) (h : H' t = some (.tup xs)) : H t = some (.tup xs) := by
  cases c : H t with
  | none => exact absurd c hv
  | some o => rw [e _ _ c] at h; exact h
theorem elems {H : Hp} {t : Addr} {xs : List V} (tT : ThT K H (.ref t)) (h : H t = some (.tup xs)) : ∀ x ∈ xs, ThE K H x := by
  cases tT with
  | tup h' h1 _ => rw [h] at h'; cases h'; exact h1
  | els _ h1 => exact absurd h (h1 _ _ rfl)
/-- things that are there, all of them -/
def TsE (K : PySem.W.Frag) (H : Hp) (xs : List V) : Prop := ∀ x ∈ xs, ThE K H x
theorem TsE.ext {H H' : Hp} {xs : List V} (h : TsE K H xs) (e : Same H H') : TsE K H' xs := fun x hx => (h x hx).ext e
theorem TsE.cut {H : Hp} {xs : List V} (h : TsE K H xs) (lo hi : Option Int) : TsE K H (cutV xs lo hi) := fun x hx => h x (cut_mem hx)
theorem TsE.app {H : Hp} {xs ys : List V} (h : TsE K H xs) (h' : TsE K H ys) : TsE K H (xs ++ ys) := fun x hx => (List.mem_append.mp hx).elim (h x) (h' x)
theorem TsE.one {H : Hp} {x : V} (h : ThE K H x) : TsE K H [x] := fun y hy => by simp at hy; subst hy; exact h
theorem ThT.there {H : Hp} {a : Addr} {xs : List V} (h : H a = some (.tup xs)) (h1 : TsE K H xs) (h2 : xs.length ≤ 100000) : ThT K H (.ref a) ∧ ∀ b, V.ref a = .ref b → H b ≠ none := ⟨.tup h h1 h2, fun b e => by cases e; rw [h]; exact Option.some_ne_none _⟩
theorem there_same {H H' : Hp} {v : V} (e : Same H H') (hv : ∀ a, v = .ref a → H a ≠ none) : ∀ a, v = .ref a → H' a ≠ none := fun a ea q => by
  cases c : H a with
  | none => exact hv a ea c
  | some o => rw [e _ _ c] at q; cases q
theorem Item.src {K : PySem.W.Frag} {H H' : Hp} {T : Addr} {v : V} (h : Item K H v) (hT : Sr H T) (hT' : Sr H' T) (e : ExT T H H') : Item K H' v := by
  obtain ⟨l, h1⟩ := hT.lst
  obtain ⟨l', h2⟩ := hT'.lst
  exact h.exT e h1 h2
theorem ThE.src {K : PySem.W.Frag} {H H' : Hp} {T : Addr} {v : V} (h : ThE K H v) (hT : Sr H T) (hT' : Sr H' T) (e : ExT T H H') : ThE K H' v := by
  obtain ⟨l, h1⟩ := hT.lst
  obtain ⟨l', h2⟩ := hT'.lst
  refine ⟨h.1.exT e h1 h2 h.2, fun a ea q => ?_⟩
  by_cases ca : a = T
  · rw [ca, h2] at q; cases q
  · cases c : H a with
    | none => exact h.2 a ea c
    | some o => rw [e _ _ ca c] at q; cases q
theorem TsE.src {K : PySem.W.Frag} {H H' : Hp} {T : Addr} {xs : List V} (h : TsE K H xs) (hT : Sr H T) (hT' : Sr H' T) (e : ExT T H H') : TsE K H' xs := fun x hx => (h x hx).src hT hT' e
theorem Typ.src {K : PySem.W.Frag} {H H' : Hp} {T : Addr} {v : V} {n : String} {b : Bool} (h : Typ K H v n b) (hT : Sr H T) (hT' : Sr H' T) (e : ExT T H H') : Typ K H' v n b := by
  obtain ⟨l, h1⟩ := hT.lst
  obtain ⟨l', h2⟩ := hT'.lst
  exact h.exT e h1 h2
theorem there_src {H H' : Hp} {T : Addr} {v : V} (hT' : Sr H' T) (e : ExT T H H') (hv : ∀ a, v = .ref a → H a ≠ none) : ∀ a, v = .ref a → H' a ≠ none := fun a ea q => by
  obtain ⟨l', h2⟩ := hT'.lst
  by_cases ca : a = T
  · rw [ca, h2] at q; cases q
  · cases c : H a with
    | none => exact hv a ea c
    | some o => rw [e _ _ ca c] at q; cases q
theorem ThT.src {K : PySem.W.Frag} {H H' : Hp} {T : Addr} {v : V} (h : ThT K H v) (hT : Sr H T) (hT' : Sr H' T) (e : ExT T H H') (hv : ∀ a, v = .ref a → H a ≠ none) : ThT K H' v := by
  cases h with
  | tup h h1 h2 => exact .tup (hT.tk e _ _ h) (fun x hx => (h1 x hx).src hT hT' e) h2
  | els h h1 =>
    obtain ⟨l', hl'⟩ := hT'.lst
    refine .els (h.src hT hT' e) fun a xs ea q => ?_
    by_cases ca : a = T
    · rw [ca, hl'] at q; cases q
    · cases c : H a with
      | none => exact hv a ea c
      | some o => rw [e _ _ ca c] at q; cases q; exact h1 a xs ea c
theorem ThE.bl {K : PySem.W.Frag} {H : Hp} (x : Bool) : ThE K H (.bl x) := ⟨.bl x, fun _ => V.noConfusion⟩
/-- no tuple, and there -/
structure NoT (K : PySem.W.Frag) (H : Hp) (v : V) : Prop where
  it : Item K H v
  th : ThE K H v
  ty : Typ K H v "tuple" false
  no : ∀ a xs, v = .ref a → H a ≠ some (.tup xs)
theorem NoT.same {H H' : Hp} {v : V} (h : NoT K H v) (e : Same H H') : NoT K H' v := ⟨h.it.ext e, h.th.ext e, h.ty.ext e, fun a xs ea q => by
  cases c : H a with
  | none => exact h.th.2 a ea c
  | some o => rw [e _ _ c] at q; cases q; exact h.no a xs ea c⟩
theorem NoT.src {H H' : Hp} {T : Addr} {v : V} (h : NoT K H v) (hT : Sr H T) (hT' : Sr H' T) (e : ExT T H H') : NoT K H' v := ⟨h.it.src hT hT' e, h.th.src hT hT' e, h.ty.src hT hT' e, fun a xs ea q => by
  obtain ⟨l', hl'⟩ := hT'.lst
  by_cases ca : a = T
  · rw [ca, hl'] at q; cases q
  · cases c : H a with
    | none => exact h.th.2 a ea c
    | some o => rw [e _ _ ca c] at q; cases q; exact h.no a xs ea c⟩
theorem NoT.non {K : PySem.W.Frag} {H : Hp} : NoT K H .non := ⟨.non, .non, typ_non (by decide +kernel), fun _ _ => V.noConfusion⟩
theorem NoT.str {K : PySem.W.Frag} {H : Hp} (s : Str) : NoT K H (.str s) := ⟨.str s, .str s, typ_str (by decide +kernel), fun _ _ => V.noConfusion⟩
theorem NoT.int {K : PySem.W.Frag} {H : Hp} (i : Int) : NoT K H (.int i) := ⟨.int i, .int i, typ_int (by decide +kernel), fun _ _ => V.noConfusion⟩
theorem NoT.lst {K : PySem.W.Frag} {H : Hp} {a : Addr} {xs : List V} (h : H a = some (.lst xs)) : NoT K H (.ref a) := ⟨.lst h, .lst h, typ_lst h (by decide +kernel), fun b ys e q => by cases e; rw [h] at q; cases q⟩
theorem NoT.dK {K : PySem.W.Frag} {H : Hp} {a : Addr} {xs : List (L2.Key × V)} (h : H a = some (.dK xs)) : NoT K H (.ref a) := ⟨.dK h, .dK h, typ_dK h (by decide +kernel), fun b ys e q => by cases e; rw [h] at q; cases q⟩
theorem lexLe_yes {p q : Int × Int} (h : ¬ lt2 p q) : Ob.lexAt (fun j => decide ([q.1, q.2].getD j 0 = [p.1, p.2].getD j 0)) (fun j => decide ([q.1, q.2].getD j 0 ≤ [p.1, p.2].getD j 0)) (decide ([q.1, q.2].length ≤ [p.1, p.2].length)) 0 (min [q.1, q.2].length [p.1, p.2].length) = true := by
  show (if decide (q.1 = p.1) = true then (if decide (q.2 = p.2) = true then true else decide (q.2 ≤ p.2)) else decide (q.1 ≤ p.1)) = true
  unfold lt2 at h
  by_cases c : q.1 = p.1
  · rw [if_pos (decide_eq_true c)]
    by_cases d : q.2 = p.2
    · rw [if_pos (decide_eq_true d)]
    · rw [if_neg (by simpa using d)]
      exact decide_eq_true (by omega)
  · rw [if_neg (by simpa using c)]
    exact decide_eq_true (by omega)
theorem pairs_snoc {H : Hp} {xs : List V} {ps : List (Int × Int)} {i : Nat} {x : V} {p : Int × Int} (h : Pairs H (xs.take i) ps) (hx : xs[i]? = some x) (hp : PairAt H x p) : Pairs H (xs.take (i + 1)) (ps ++ [p]) := by
  rw [take_snoc hx]
  exact Paired.app h (.cons hp .nil)
theorem pairs_uniq {H : Hp} : ∀ {xs : List V} {ps qs : List (Int × Int)}, Pairs H xs ps → Pairs H xs qs → ps = qs
  | _, _, _, .nil, .nil => rfl
  | _, _, _, .cons r t, .cons r' t' => by rw [r.inj r', pairs_uniq t t']
theorem pairs_last {H : Hp} {xs : List V} {ps qs : List (Int × Int)} {i : Nat} {x : V} (h : Pairs H (xs.take i) ps) (hx : xs[i]? = some x) (hq : Pairs H (xs.take (i + 1)) qs) : ∃ p, PairAt H x p ∧ qs = ps ++ [p] := by
  have hi : i < xs.length := (List.getElem?_eq_some_iff.mp hx).1
  have hx2 : (xs.take (i + 1))[i]? = some x := by rw [List.getElem?_take, if_pos (Nat.lt_succ_self i)]; exact hx
  obtain ⟨p, h1, h2⟩ := Paired.get hq hx2
  exact ⟨p, h2, pairs_uniq hq (pairs_snoc h hx h2)⟩
abbrev s__law_is_int : Stmt := (top 23)
theorem sc__law_is_int : FnScope ["thing"] ["thing"] (defScope s__law_is_int) := ⟨rfl, rfl, rfl, by decide +kernel, rfl, by decide +kernel, by decide +kernel⟩

theorem ok_law_is_intA {f : Addr} {fd : FuncData} (F : Fun K "_law_is_int" "_law_is_int" s__law_is_int f fd) (hm : mg "_law_is_int" = some (.ref f)) (B : Bl mg) : Cal P w K mg base 1 "_law_is_int" ["thing"] (sp_isI K) := by
  refine ⟨f, fd, F.ok sc__law_is_int (fun vs H Q E h => ?_) (fun cdv A outer s H vs Q E hr h => ?_), hm, F.kp, F.binds (ps := ["thing"]) fun _ _ _ _ _ _ us hl => match us, hl with | [_], _ => rfl⟩
  · obtain ⟨v, rfl, _⟩ := h; rfl
  · obtain ⟨v, rfl, iv, k⟩ := h
    refine ⟨_, (pss_one (ps_ret (pe_and (pe_callB call_isi (by rfl) B.isinstance (by decide +kernel) (pa_cons (pv 0) (pa_cons (pe_bltn (v := .ty "int") (by rfl) B.int_ (by decide +kernel) rfl) pa_nil))) (pe_one (pe_not (pe_callB call_isi (by rfl) B.isinstance (by decide +kernel) (pa_cons (pv 0) (pa_cons (pe_bltn (v := .ty "bool") (by rfl) B.bool_ (by decide +kernel) rfl) pa_nil)))))))), ?_⟩
    cases iv with
    | int i =>
      refine ⟨_, rfl, _, _, _, _, true, rfl, .ty "int", .base (.int i), kit_ty (by decide +kernel), true, rfl, iteT ?_⟩
      refine ⟨_, rfl, _, _, _, _, false, rfl, .ty "bool", .base (.int i), kit_ty (by decide +kernel), false, rfl, ?_⟩
      exact k
    | bl b =>
      refine ⟨_, rfl, _, _, _, _, true, rfl, .ty "int", .base (.bl b), kit_ty (by decide +kernel), true, rfl, iteT ?_⟩
      refine ⟨_, rfl, _, _, _, _, true, rfl, .ty "bool", .base (.bl b), kit_ty (by decide +kernel), true, rfl, ?_⟩
      exact k
    | els h h1 =>
      obtain ⟨t, ty, hk⟩ := h
      rw [isI_els h1] at k
      exact ⟨_, rfl, _, _, _, _, false, rfl, .ty "int", ty, hk, false, rfl, iteF k⟩
end
section
variable {P : Program} {w : World} {K : PySem.W.Frag} {mg : Str → Option Value} {base : Heap} {C CB CW : Addr}
def sp_pick : Sp := fun vs H Q _ => ∃ (S L : Addr) (xs : List V), vs = [.ref S, .ref L] ∧ Sr H S ∧ H L = some (.lst xs) ∧ L ≠ S ∧ 1 ≤ xs.length ∧ xs.length ≤ 1000 ∧ ∀ (i : Nat) v H', xs[i]? = some v → ExT S H H' → Sr H' S → OffK S H H' → Q v H'
abbrev s__law_pick : Stmt := (top 22)
theorem sc__law_pick : FnScope ["pool", "things"] ["pool", "things"] (defScope s__law_pick) := ⟨rfl, rfl, rfl, by decide +kernel, rfl, by decide +kernel, by decide +kernel⟩

theorem ok_law_pick {f : Addr} {fd : FuncData} (F : Fun K "_law_pick" "_law_pick" s__law_pick f fd) (hm : mg "_law_pick" = some (.ref f)) (B : Bl mg) (c__law_draw : Cal P w K mg base 1 "_law_draw" ["pool", "many"] spDraw) : Cal P w K mg base 2 "_law_pick" ["pool", "things"] sp_pick := by
  refine ⟨f, fd, F.ok sc__law_pick (fun vs H Q E h => ?_) (fun cdv A outer s H vs Q E hr h => ?_), hm, F.kp, F.binds (ps := ["pool", "things"]) fun _ _ _ _ _ _ us hl => match us, hl with | [_, _], _ => rfl⟩
  · obtain ⟨S, L, xs, rfl, _⟩ := h; rfl
  · obtain ⟨S, L, xs, rfl, hT, hL, ne, l1, l2, k⟩ := h
    refine ⟨_, (pss_one (ps_ret (pe_ix ix_list (pv 1) (pe_cal c__law_draw (hr.mono (by first | decide | omega)) (pa_cons (pv 0) (pa_cons (pe_callB call_len_seq (by rfl) B.len (by decide +kernel) (pa_cons (pv 1) pa_nil)) pa_nil))) (fun _ _ => rfl)))), ?_⟩
    refine ⟨_, rfl, _, rfl, _, rfl, L, _, rfl, .inl (SqL.of hL), S, _, rfl, by omega, by omega, hT, fun r H1 r0 r1 e1 hT1 o1 => ?_⟩
    have hr : r.toNat < xs.length := by omega
    have hx : xs[r.toNat]? = some xs[r.toNat] := List.getElem?_eq_getElem hr
    exact ⟨L, xs, _, _, rfl, rfl, SqL.of (e1 _ _ ne hL), at_of (j := r.toNat) (by omega) hx, k _ _ _ hx e1 hT1 o1⟩
def sp_is_pair (K : PySem.W.Frag) : Sp := fun vs H Q _ => ∃ v, vs = [v] ∧ Thing K H v ∧ ∀ b, (b = true ↔ ∃ a x y, v = .ref a ∧ H a = some (.tup [x, y])) → Q (.bl b) H
abbrev s_is_pair : Stmt := (top 7)
theorem sc_is_pair : FnScope ["thing"] ["thing"] (defScope s_is_pair) := ⟨rfl, rfl, rfl, by decide +kernel, rfl, by decide +kernel, by decide +kernel⟩

theorem ok_is_pair {f : Addr} {fd : FuncData} (F : Fun K "is_pair" "is_pair" s_is_pair f fd) (hm : mg "is_pair" = some (.ref f)) (B : Bl mg) : Cal P w K mg base 1 "is_pair" ["thing"] (sp_is_pair K) := by
  refine ⟨f, fd, F.ok sc_is_pair (fun vs H Q E h => ?_) (fun cdv A outer s H vs Q E hr h => ?_), hm, F.kp, F.binds (ps := ["thing"]) fun _ _ _ _ _ _ us hl => match us, hl with | [_], _ => rfl⟩
  · obtain ⟨v, rfl, _⟩ := h; rfl
  · obtain ⟨v, rfl, tv, k⟩ := h
    refine ⟨_, (pss_one (ps_ret (pe_and (pe_callB call_isi (by rfl) B.isinstance (by decide +kernel) (pa_cons (pv 0) (pa_cons (pe_bltn (v := .ty "tuple") (by rfl) B.tuple_ (by decide +kernel) rfl) pa_nil))) (pe_one (pe_cmpR op_eq (pe_callB call_len_seq (by rfl) B.len (by decide +kernel) (pa_cons (pv 0) pa_nil)) pe_int (nomark _)))))), ?_⟩
    cases tv with
    | els h h1 =>
      obtain ⟨t, ty, hk⟩ := h
      exact ⟨_, rfl, _, _, _, _, false, rfl, .ty "tuple", ty, hk, false, rfl, iteF (k false ⟨fun e => (by cases e), fun ⟨a, x, y, e, q⟩ => absurd q (h1 _ _ e)⟩)⟩
    | @tup t xs ht hi hz =>
      refine ⟨_, rfl, _, _, _, _, true, rfl, .ty "tuple", .base (.tup ht), kit_ty (by decide +kernel), true, rfl, iteT ?_⟩
      refine ⟨_, rfl, t, _, rfl, .inr (SqT.of ht), rfl, k _ ?_⟩
      rw [decide_eq_true_eq]
      constructor
      · intro e
        injection e with e
        match xs, e, ht with
        | [x, y], _, ht => exact ⟨t, x, y, rfl, ht⟩
        | [], e, _ => simp at e
        | [_], e, _ => simp at e
        | _ :: _ :: _ :: _, e, _ => simp at e; omega
      · rintro ⟨a, x, y, e, q⟩
        cases e
        have := tup_inj ht q
        subst this
        rfl
/-- an arrow among n parts -/
def ArrV (H : Hp) (n : Int) (v : V) (p : Int × Int) : Prop := PairAt H v p ∧ 0 ≤ p.1 ∧ p.1 < n ∧ 0 ≤ p.2 ∧ p.2 < n ∧ p.1 ≠ p.2
def sp_is_arrow (K : PySem.W.Frag) : Sp := fun vs H Q _ => ∃ (n : Int) (v : V), vs = [.int n, v] ∧ Thing K H v ∧ ∀ b, (b = true ↔ ∃ p, ArrV H n v p) → Q (.bl b) H
abbrev s_is_arrow : Stmt := (top 16)
theorem sc_is_arrow : FnScope ["size", "thing", "a", "b"] ["size", "thing"] (defScope s_is_arrow) := ⟨rfl, rfl, rfl, by decide +kernel, rfl, by decide +kernel, by decide +kernel⟩

theorem ok_is_arrow {f : Addr} {fd : FuncData} (F : Fun K "is_arrow" "is_arrow" s_is_arrow f fd) (hm : mg "is_arrow" = some (.ref f)) (B : Bl mg) (c_is_pair : Cal P w K mg base 1 "is_pair" ["thing"] (sp_is_pair K)) (c_is_number : Cal P w K mg base 2 "is_number" ["thing", "least", "most"] (sp_inI K)) : Cal P w K mg base 3 "is_arrow" ["size", "thing"] (sp_is_arrow K) := by
  refine ⟨f, fd, F.ok sc_is_arrow (fun vs H Q E h => ?_) (fun cdv A outer s H vs Q E hr h => ?_), hm, F.kp, F.binds (ps := ["size", "thing"]) fun _ _ _ _ _ _ us hl => match us, hl with | [_, _], _ => rfl⟩
  · obtain ⟨n, v, rfl, _⟩ := h; rfl
  · obtain ⟨n, v, rfl, tv, k⟩ := h
    refine ⟨_, (pss_cons (ps_if (pt_not (pt_val (pe_cal c_is_pair (hr.mono (by first | decide | omega)) (pa_cons (pv 1) pa_nil)))) (pss_one (ps_ret pe_bl)) pss_nil)
 (pss_cons (ps_asg (pv 1) (pg_tup (by rfl) (pgs_cons (pg_name (i := 2) sc_is_arrow.nd rfl (by first | exact Or.inl rfl | exact Or.inr rfl)) (pgs_cons (pg_name (i := 3) sc_is_arrow.nd rfl (by first | exact Or.inl rfl | exact Or.inr rfl)) pgs_nil))))
 (pss_one (ps_ret (pe_and (pe_cal c_is_number (hr.mono (by first | decide | omega)) (pa_cons (pv 2) (pa_cons pe_int (pa_cons (pe_op op_sub (pv 0) pe_int) pa_nil)))) (pe_and (pe_cal c_is_number (hr.mono (by first | decide | omega)) (pa_cons (pv 3) (pa_cons pe_int (pa_cons (pe_op op_sub (pv 0) pe_int) pa_nil)))) (pe_one (pe_cmpR op_ne (pv 2) (pv 3) (nomark _))))))))), ?_⟩
    refine ⟨_, rfl, v, rfl, tv, fun b hb => ⟨b, rfl, ?_⟩⟩
    cases b with
    | false =>
      refine iteT (k false ⟨fun e => (by cases e), fun ⟨p, ⟨a, e, q⟩, _⟩ => ?_⟩)
      have := hb.mpr ⟨a, _, _, e, q⟩
      cases this
    | true =>
      obtain ⟨t, x, y, rfl, ht⟩ := hb.mp rfl
      refine iteF ?_
      have hi : ∀ z ∈ [x, y], Item K H z := by
        cases tv with
        | tup h h1 _ => rw [ht] at h; cases h; exact h1
        | els _ h1 => exact absurd ht (h1 _ _ rfl)
      have ix := hi x (by simp)
      have iy := hi y (by simp)
      have back : ∀ p, ArrV H n (.ref t) p → x = .int p.1 ∧ y = .int p.2 := fun p ⟨⟨a, e, q⟩, _⟩ => by
        cases e
        rw [ht] at q
        cases q
        exact ⟨rfl, rfl⟩
      refine ⟨_, rfl, _, _, rfl, SqT.of ht, rfl, _, _, rfl, _, _, rfl, rfl, ?_⟩
      refine ⟨_, rfl, _, rfl, _, _, rfl, rfl, x, 0, n - 1, rfl, ix, _, rfl, ?_⟩
      cases c1 : inI 0 (n - 1) x with
      | false =>
        refine iteF (k false ⟨fun e => (by cases e), fun ⟨p, h⟩ => ?_⟩)
        obtain ⟨e1, e2⟩ := back p h
        rw [e1] at c1
        exact absurd ⟨h.2.1, by have := h.2.2.1; omega⟩ (of_decide_eq_false c1)
      | true =>
        obtain ⟨i, rfl, i0, i1⟩ := inI_ex c1
        refine iteT ?_
        refine ⟨_, rfl, _, rfl, _, _, rfl, rfl, y, 0, n - 1, rfl, iy, _, rfl, ?_⟩
        cases c2 : inI 0 (n - 1) y with
        | false =>
          refine iteF (k false ⟨fun e => (by cases e), fun ⟨p, h⟩ => ?_⟩)
          obtain ⟨e1, e2⟩ := back p h
          rw [e2] at c2
          exact absurd ⟨h.2.2.2.1, by have := h.2.2.2.2.1; omega⟩ (of_decide_eq_false c2)
        | true =>
          obtain ⟨j, rfl, j0, j1⟩ := inI_ex c2
          refine iteT ?_
          refine ⟨_, rfl, _, rfl, rfl, k _ ?_⟩
          rw [Bool.not_eq_true', decide_eq_false_iff_not]
          constructor
          · intro h
            exact ⟨(i, j), ⟨t, rfl, ht⟩, i0, by show i < n; omega, j0, by show j < n; omega, fun e => h (by rw [show i = j from e])⟩
          · rintro ⟨p, h⟩ e
            obtain ⟨e1, e2⟩ := back p h
            cases e1
            cases e2
            injection e with e
            exact h.2.2.2.2.2 e
end
end Bs

namespace Bs
open PySem PySem.Spec PyProof.Rows L2
structure GoodA (n : Int) (ps : List (Int × Int)) : Prop where
  ok : ∀ p ∈ ps, 0 ≤ p.1 ∧ p.1 < n ∧ 0 ≤ p.2 ∧ p.2 < n ∧ p.1 ≠ p.2
  up : ps.Pairwise lt2
theorem goodA_snoc {n : Int} {ps : List (Int × Int)} {p : Int × Int} (G : GoodA n ps) (h : 0 ≤ p.1 ∧ p.1 < n ∧ 0 ≤ p.2 ∧ p.2 < n ∧ p.1 ≠ p.2) (hl : ∀ q ∈ ps, lt2 q p) : GoodA n (ps ++ [p]) :=
  ⟨fun q hq => by
    rcases List.mem_append.mp hq with hq | hq
    · exact G.ok q hq
    · simp at hq; subst hq; exact h, List.pairwise_append.mpr ⟨G.up, by simp, fun a ha b hb => by simp at hb; subst hb; exact hl a ha⟩⟩
theorem goodA_init {n : Int} {ps : List (Int × Int)} {p : Int × Int} (G : GoodA n (ps ++ [p])) : (0 ≤ p.1 ∧ p.1 < n ∧ 0 ≤ p.2 ∧ p.2 < n ∧ p.1 ≠ p.2) ∧ ∀ q ∈ ps, lt2 q p :=
  ⟨G.ok p (by simp), fun q hq => (List.pairwise_append.mp G.up).2.2 q hq p (by simp)⟩
/-- the first so many are ties in order -/
def OkA (H : Hp) (n : Int) (xs : List V) (i : Nat) : Prop := ∃ ps, Pairs H (xs.take i) ps ∧ GoodA n ps
/-- what is known of Net -/
structure TxtN (K : PySem.W.Frag) (mg : Str → Option Value) (C : Addr) : Prop where
  cl : Cls K C
  nSize : NoAttr K C "size"
  nArrows : NoAttr K C "arrows"
  mg_Net : mg "Net" = some (.ref C)
  mg_MOST_NET_PARTS : ∃ t, mg "MOST_NET_PARTS" = some (.int 12 t)
  xc : PySem.W.findIn K (.ref C) "__class__" = some (some (.builtin "object.__class__"))
  xg : PySem.W.specialIn K (.builtin "object.__class__") "__get__" = some (some (.builtin "getset_descriptor.__get__"))
  xt : PySem.W.takesIn K (.builtin "object.__class__") = some true
  xm : PySem.W.mroIn K C (.type "object") = some true
section
variable {P : Program} {w : World} {K : PySem.W.Frag} {mg : Str → Option Value} {base : Heap} {C CB CW : Addr}
abbrev s_wrong_arrow : Stmt := (top 17)
theorem sc_wrong_arrow : FnScope ["size", "arrows", "last", "at", "pair"] ["size", "arrows"] (defScope s_wrong_arrow) := ⟨rfl, rfl, rfl, by decide +kernel, rfl, by decide +kernel, by decide +kernel⟩

def sp_wrong_arrow (K : PySem.W.Frag) : Sp := fun vs H Q _ => ∃ (n : Int) (t : Addr) (xs : List V), vs = [.int n, .ref t] ∧ H t = some (.tup xs) ∧ (∀ x ∈ xs, ThE K H x) ∧
  (∀ (i : Nat) H', Same H H' → i < xs.length → OkA H n xs i → ¬ OkA H n xs (i + 1) → Q (.int i) H') ∧ (∀ H', Same H H' → OkA H n xs xs.length → Q .non H')
theorem ok_wrong_arrow {f : Addr} {fd : FuncData} (F : Fun K "wrong_arrow" "wrong_arrow" s_wrong_arrow f fd) (hm : mg "wrong_arrow" = some (.ref f)) (B : Bl mg) (c_is_arrow : Cal P w K mg base 3 "is_arrow" ["size", "thing"] (sp_is_arrow K)) : Cal P w K mg base 4 "wrong_arrow" ["size", "arrows"] (sp_wrong_arrow K) := by
  refine ⟨f, fd, F.ok sc_wrong_arrow (fun vs H Q E h => ?_) (fun cdv A outer s H vs Q E hr h => ?_), hm, F.kp, F.binds (ps := ["size", "arrows"]) fun _ _ _ _ _ _ us hl => match us, hl with | [_, _], _ => rfl⟩
  · obtain ⟨n, t, xs, rfl, _⟩ := h; rfl
  · obtain ⟨n, t, xs, rfl, ht, hth, kI, kN⟩ := h
    refine ⟨_, (pss_cons (ps_set (i := 2) sc_wrong_arrow.nd rfl (by first | exact Or.inl rfl | exact Or.inr rfl) (pe_tup pa_nil))
 (pss_cons (ps_for PassesOwn.never rfl (pi_enumT (by rfl) B.enumerate (pa_cons (pv 1) pa_nil)) (pg_tup (by rfl) (pgs_cons (pg_name (i := 3) sc_wrong_arrow.nd rfl (by first | exact Or.inl rfl | exact Or.inr rfl)) (pgs_cons (pg_name (i := 4) sc_wrong_arrow.nd rfl (by first | exact Or.inl rfl | exact Or.inr rfl)) pgs_nil)))
  (pss_cons (ps_if (PW.pt (pw_or (pt_not (pt_val (pe_cal c_is_arrow (hr.mono (by first | decide | omega)) (pa_cons (pv 0) (pa_cons (pv 4) pa_nil))))) (pw_or1 (pt_cmpR (op_leT hr.units0) (pv 4) (pv 2) (nomark _))))) (pss_one (ps_ret (pv 3))) pss_nil)
 (pss_one (ps_set (i := 2) sc_wrong_arrow.nd rfl (by first | exact Or.inl rfl | exact Or.inr rfl) (pv 4)))))
 (pss_one (ps_ret pe_non)))), ?_⟩
    refine ⟨Nat.zero_le _, fun z hz => ?_⟩
    refine ⟨_, rfl, t, xs, rfl, SqT.of ((L2.Same.new hz) _ _ ht), for_it (walk_enumT (K := K) (a := t) (xs := xs)) (fun i σ H' => Same H H' ∧ ∃ (u v : Option V) (l : Addr) (ms : List Int) (ps : List (Int × Int)), σ = [some (.int n), some (.ref t), some (.ref l), u, v] ∧ H' l = some (.tup (ms.map V.int)) ∧ Pairs H (xs.take i) ps ∧ GoodA n ps ∧ ((ps = [] ∧ ms = []) ∨ ∃ qs q, ps = qs ++ [q] ∧ ms = [q.1, q.2]))
      ⟨L2.Same.new hz, none, none, z, [], [], rfl, upd_same, .nil, ⟨fun p h => by simp at h, .nil⟩, .inl ⟨rfl, rfl⟩⟩ (fun i σ H' _ p => SqT.of (p.1 _ _ ht)) ?_ ?_⟩
    · rintro i y σ H1 H2 hi ⟨e1, u, v, l, ms, ps, rfl, hl, hps, G, hlast⟩ ⟨A1, y1, y2, rfl, hA, rfl, hy1, hy2⟩
      cases hy1
      have e2 : Same H1 (upd H1 A1 (.tup [.int (i : Nat), y2])) := L2.Same.new hA
      have e12 := e1.trans e2
      have hlt : i < xs.length := (List.getElem?_eq_some_iff.mp hy2).1
      have th2 := (hth y2 (List.mem_of_getElem? hy2)).ext e12
      have okI : OkA H n xs i := ⟨ps, hps, G⟩
      refine ⟨A1, _, rfl, SqT.of upd_same, rfl, _, _, rfl, _, _, rfl, rfl, ?_⟩
      refine ⟨_, rfl, _, rfl, n, y2, rfl, th2.1, fun b hb => ⟨b, rfl, ?_⟩⟩
      have back : ∀ p, PairAt H y2 p → PairAt (upd H1 A1 (.tup [.int (i : Nat), y2])) y2 p := fun p h => h.tk e12.tk
      have forth : ∀ p, PairAt (upd H1 A1 (.tup [.int (i : Nat), y2])) y2 p → PairAt H y2 p := fun p h => by
        obtain ⟨a, rfl, h2⟩ := h
        cases c : H a with
        | none => exact absurd c ((hth _ (List.mem_of_getElem? hy2)).2 a rfl)
        | some o => rw [e12 _ _ c] at h2; cases h2; exact ⟨a, rfl, c⟩
      cases b with
      | false =>
        refine iteT (iteT ?_)
        refine ⟨_, rfl, kI i _ e12 hlt okI ?_⟩
        rintro ⟨qs, hqs, Gq⟩
        obtain ⟨p, hp, rfl⟩ := pairs_last hps hy2 hqs
        have := hb.mpr ⟨p, back p hp, (goodA_init Gq).1⟩
        cases this
      | true =>
        obtain ⟨p, hp2, hp0⟩ := hb.mp rfl
        have hp := forth p hp2
        obtain ⟨a, rfl, ha⟩ := hp
        refine iteF ?_
        refine ⟨_, rfl, _, rfl, a, l, [p.1, p.2], ms, rfl, rfl, SqT.of (e12 _ _ ha), SqT.of (e2 _ _ hl), ?_⟩
        have go : (∀ q ∈ ps, lt2 q p) → (Same H (upd H1 A1 (.tup [.int (i : Nat), .ref a])) ∧ ∃ (u v : Option V) (l : Addr) (ms : List Int) (ps : List (Int × Int)), [some (.int n), some (.ref t), some (.ref a), some (.int (i : Nat)), some (.ref a)] = [some (.int n), some (.ref t), some (.ref l), u, v] ∧ (upd H1 A1 (.tup [.int (i : Nat), .ref a])) l = some (.tup (ms.map V.int)) ∧ Pairs H (xs.take (i + 1)) ps ∧ GoodA n ps ∧ ((ps = [] ∧ ms = []) ∨ ∃ qs q, ps = qs ++ [q] ∧ ms = [q.1, q.2])) := fun hl =>
          ⟨e12, _, _, a, [p.1, p.2], ps ++ [p], rfl, e12 _ _ ha, pairs_snoc hps hy2 ⟨a, rfl, ha⟩, goodA_snoc G hp0 hl, .inr ⟨ps, p, rfl, rfl⟩⟩
        rcases hlast with ⟨rfl, rfl⟩ | ⟨qs, q, rfl, rfl⟩
        · refine ⟨_, rfl, iteF ⟨_, rfl, go (by simp)⟩⟩
        · by_cases c : lt2 q p
          · rw [lexLe_no c]
            refine ⟨_, rfl, iteF ⟨_, rfl, go fun r hr => ?_⟩⟩
            rcases List.mem_append.mp hr with hr | hr
            · exact lt2_trans ((List.pairwise_append.mp G.up).2.2 r hr q (by simp)) c
            · simp at hr; subst hr; exact c
          · rw [lexLe_yes c]
            refine ⟨_, rfl, iteT ⟨_, rfl, kI i _ e12 hlt okI ?_⟩⟩
            rintro ⟨rs, hrs, Gr⟩
            obtain ⟨p', hp', rfl⟩ := pairs_last hps hy2 hrs
            have : p' = p := hp'.inj ⟨a, rfl, ha⟩
            subst this
            exact c ((goodA_init Gr).2 q (by simp))
    · rintro σ H' ⟨e1, u, v, l, ms, ps, rfl, _, hps, G, _⟩
      exact kN _ e1 ⟨ps, hps, G⟩
/-- what is wrong of a size and ties -/
def NBad (H : Hp) (sv tv y : V) : Prop :=
  (inI 1 12 sv = false ∧ y = .str "size") ∨ (inI 1 12 sv = true ∧ (∀ a xs, tv = .ref a → H a ≠ some (.tup xs)) ∧ y = .str "arrows") ∨
  ∃ (n : Int) (t : Addr) (xs : List V) (i : Nat), sv = .int n ∧ 1 ≤ n ∧ n ≤ 12 ∧ tv = .ref t ∧ H t = some (.tup xs) ∧ i < xs.length ∧ OkA H n xs i ∧ ¬ OkA H n xs (i + 1) ∧ y = .int i
def NetIs (H : Hp) (sv tv : V) : Prop := ∃ (n : Int) (t : Addr) (xs : List V), sv = .int n ∧ 1 ≤ n ∧ n ≤ 12 ∧ tv = .ref t ∧ H t = some (.tup xs) ∧ OkA H n xs xs.length
def nfV (s t : V) : List (Str × V) := putF "arrows" t (putF "size" s [])
def sp_Net_initX (K : PySem.W.Frag) (C CB : Addr) : Sp := fun vs H Q E => ∃ (x dx : Addr) (sv tv : V), vs = [.ref x, sv, tv] ∧ H x = some (.ins C dx []) ∧ Item K H sv ∧ ThT K H tv ∧
  (∀ y d H', NBad H sv tv y → Same H H' → H d = none → H' d = some (.xd [(("part" : Str), y)]) → E (.ref CB) (some d) H') ∧
  (NetIs H sv tv → ∀ H', ExT x H H' → H' x = some (.ins C dx (nfV sv tv)) → Q .non H')
theorem okA_same {K : PySem.W.Frag} {H H' : Hp} {n : Int} {xs : List V} {i : Nat} (e : Same H H') (h : OkA H n xs i) : OkA H' n xs i := let ⟨ps, h1, h2⟩ := h; ⟨ps, h1.tk e.tk, h2⟩
abbrev s_Net_init : Stmt := (inClass (top 15) 0)
theorem sc_Net_init : FnScope ["self", "size", "arrows", "wrong"] ["self", "size", "arrows"] (defScope s_Net_init) := ⟨rfl, rfl, rfl, by decide +kernel, rfl, by decide +kernel, by decide +kernel⟩

theorem ok_Net_initX {f fI : Addr} {fd fdI : FuncData} (F : Fun K "__init__" "Net.__init__" s_Net_init f fd) (B : Bl mg) (T : TxtN K mg C) (BT : BadT P w K mg base CB fI fdI) (c_is_number : Cal P w K mg base 2 "is_number" ["thing", "least", "most"] (sp_inI K)) (c_wrong_arrow : Cal P w K mg base 4 "wrong_arrow" ["size", "arrows"] (sp_wrong_arrow K)) : FnOk P w K mg base (L2.CX P w) 5 f fd ["self", "size", "arrows"] (sp_Net_initX K C CB) := by
  refine F.okX sc_Net_init (fun vs H Q E h => ?_) (fun cdv A outer s H vs Q E hr h => ?_)
  · obtain ⟨x, dx, sv, tv, rfl, _⟩ := h; rfl
  · obtain ⟨x, dx, sv, tv, rfl, hx, iS, tT, kE, kQ⟩ := h
    obtain ⟨t12, h12⟩ := T.mg_MOST_NET_PARTS
    refine ⟨_, (pss_cons (ps_if (pt_not (pt_val (pe_cal c_is_number (hr.mono (by first | decide | omega)) (pa_cons (pv 1) (pa_cons pe_int (pa_cons (pe_glob (v := .int 12) (by rfl) h12 ⟨_, rfl⟩) pa_nil)))))) (pss_one (ps_raise rfl (takes_of rfl rfl rfl rfl) (pmk_oex (dvs := []) BT.T BT.iC BT.tI BT.F1 (hr.mono (by decide)) BT.hb .nil pass0 (by rfl) BT.g (pa_cons pe_str pa_nil)))) pss_nil)
 (pss_cons (ps_if (pt_not (pt_val (pe_callB call_isi (by rfl) B.isinstance (by decide +kernel) (pa_cons (pv 2) (pa_cons (pe_bltn (v := .ty "tuple") (by rfl) B.tuple_ (by decide +kernel) rfl) pa_nil))))) (pss_one (ps_raise rfl (takes_of rfl rfl rfl rfl) (pmk_oex (dvs := []) BT.T BT.iC BT.tI BT.F1 (hr.mono (by decide)) BT.hb .nil pass0 (by rfl) BT.g (pa_cons pe_str pa_nil)))) pss_nil)
 (pss_cons (ps_set (i := 3) sc_Net_init.nd rfl (by first | exact Or.inl rfl | exact Or.inr rfl) (pe_cal c_wrong_arrow (hr.mono (by first | decide | omega)) (pa_cons (pv 1) (pa_cons (pv 2) pa_nil))))
 (pss_cons (ps_if (pt_cmpR op_notN (pv 3) pe_non (nomark _)) (pss_one (ps_raise rfl (takes_of rfl rfl rfl rfl) (pmk_oex (dvs := []) BT.T BT.iC BT.tI BT.F1 (hr.mono (by decide)) BT.hb .nil pass0 (by rfl) BT.g (pa_cons (pv 3) pa_nil)))) pss_nil)
 (pss_cons (ps_fld (pv 0) (pv 1) rfl)
 (pss_one (ps_fld (pv 0) (pv 2) rfl))))))), ?_⟩
    refine ⟨_, rfl, sv, 1, 12, rfl, iS, _, rfl, ?_⟩
    cases c : inI 1 12 sv with
    | false =>
      refine iteT ?_
      exact ⟨by decide, bad_read BT.T BT.no fun d H' e h0 h1 => kE _ d H' (.inl ⟨c, rfl⟩) e h0 h1⟩
    | true =>
      obtain ⟨n, rfl, n1, n2⟩ := inI_ex c
      refine iteF ?_
      cases tT with
      | els h h1 =>
        obtain ⟨t, ty, hk⟩ := h
        refine ⟨_, rfl, _, _, _, _, false, rfl, .ty "tuple", ty, hk, false, rfl, iteT ?_⟩
        exact ⟨by decide, bad_read BT.T BT.no fun d H' e h0 h2 => kE _ d H' (.inr (.inl ⟨c, h1, rfl⟩)) e h0 h2⟩
      | @tup t xs ht hth hlen =>
        refine ⟨_, rfl, _, _, _, _, true, rfl, .ty "tuple", .base (.tup ht), kit_ty (by decide +kernel), true, rfl, iteF ?_⟩
        refine ⟨_, rfl, _, rfl, n, t, xs, rfl, ht, hth, fun i H1 e1 hi ok nok => ?_, fun H1 e1 ok => ?_⟩
        · refine ⟨_, rfl, rfl, _, rfl, iteT ?_⟩
          refine ⟨_, rfl, (by show 1 ≤ 1000; decide), bad_read BT.T BT.no fun d H' e h0 h1 => kE _ d H' (.inr (.inr ⟨n, t, xs, i, rfl, n1, n2, rfl, ht, hi, ok, nok, rfl⟩)) (e1.trans e) (L2.Same.free e1 h0) h1⟩
        · refine ⟨_, rfl, rfl, _, rfl, iteF ?_⟩
          refine ⟨_, rfl, _, rfl, x, C, dx, [], rfl, e1 _ _ hx, T.cl, T.nSize, (by decide), ?_⟩
          refine ⟨_, rfl, _, rfl, x, C, dx, _, rfl, upd_same, T.cl, T.nArrows, (by show 1 < 1000; decide), ?_⟩
          exact kQ ⟨n, t, xs, rfl, n1, n2, rfl, ht, ok⟩ _ (e1.exT.upd.upd) upd_same
theorem sa_ : ¬ (("size" : Str) = "arrows") := by decide +kernel
theorem pair_back {H H' : Hp} {v : V} {p : Int × Int} (t : ThE K H v) (e : Same H H') (h : PairAt H' v p) : PairAt H v p := by
  obtain ⟨a, rfl, h2⟩ := h
  cases c : H a with
  | none => exact absurd c (t.2 a rfl)
  | some o => rw [e _ _ c] at h2; cases h2; exact ⟨a, rfl, c⟩
theorem pairs_back {H H' : Hp} (e : Same H H') : ∀ {xs : List V} {ps : List (Int × Int)}, (∀ x ∈ xs, ThE K H x) → Pairs H' xs ps → Pairs H xs ps
  | _, _, _, .nil => .nil
  | _, _, t, .cons r q => .cons (pair_back (t _ (by simp)) e r) (pairs_back e (fun x hx => t x (by simp [hx])) q)
theorem okA_back {H H' : Hp} {n : Int} {xs : List V} {i : Nat} (e : Same H H') (t : ∀ x ∈ xs, ThE K H x) (h : OkA H' n xs i) : OkA H n xs i := by
  obtain ⟨ps, h1, h2⟩ := h
  exact ⟨ps, pairs_back (K := K) e (fun x hx => t x (List.mem_of_mem_take hx)) h1, h2⟩
theorem nbad_back {H H' : Hp} {sv tv y : V} (tT : ThT K H tv) (hv : ∀ a, tv = .ref a → H a ≠ none) (e : Same H H') (h : NBad H' sv tv y) : NBad H sv tv y := by
  rcases h with ⟨h1, h2⟩ | ⟨h1, h2, h3⟩ | ⟨n, t, xs, i, rfl, n1, n2, rfl, ht, hi, ok, nok, rfl⟩
  · exact .inl ⟨h1, h2⟩
  · exact .inr (.inl ⟨h1, fun a xs ea q => h2 a xs ea (e _ _ q), h3⟩)
  · have ht0 := tup_back e (hv t rfl) ht
    exact .inr (.inr ⟨n, t, xs, i, rfl, n1, n2, rfl, ht0, hi, okA_back e (elems tT ht0) ok, fun h => nok (okA_same (K := K) e h), rfl⟩)
theorem net_back {H H' : Hp} {sv tv : V} (tT : ThT K H tv) (hv : ∀ a, tv = .ref a → H a ≠ none) (e : Same H H') (h : NetIs H' sv tv) : NetIs H sv tv := by
  obtain ⟨n, t, xs, rfl, n1, n2, rfl, ht, ok⟩ := h
  have ht0 := tup_back e (hv t rfl) ht
  exact ⟨n, t, xs, rfl, n1, n2, rfl, ht0, okA_back e (elems tT ht0) ok⟩
theorem nfV_size (s t : V) : (nfV s t).lookup ("size" : Str) = some s := by
  unfold nfV
  rw [lookup_putF, if_neg sa_, lookup_putF, if_pos rfl]
theorem nfV_arrows (s t : V) : (nfV s t).lookup ("arrows" : Str) = some t := by
  unfold nfV
  rw [lookup_putF, if_pos rfl]
end
theorem goodA_front {n : Int} {ps : List (Int × Int)} {p : Int × Int} (G : GoodA n (ps ++ [p])) : GoodA n ps :=
  ⟨fun q hq => G.ok q (List.mem_append.mpr (.inl hq)), (List.pairwise_append.mp G.up).1⟩
theorem pairs_front {H : Hp} : ∀ {xs : List V} {x : V} {ps : List (Int × Int)}, Pairs H (xs ++ [x]) ps → ∃ qs p, ps = qs ++ [p] ∧ Pairs H xs qs
  | [], _, [p], _ => ⟨[], p, rfl, .nil⟩
  | [], _, [], h => by cases h
  | [], _, p :: q :: r, .cons _ t => by cases t
  | y :: ys, x, p :: ps, .cons r t => by
    obtain ⟨qs, p', rfl, h⟩ := pairs_front t
    exact ⟨p :: qs, p', rfl, .cons r h⟩
theorem okA_down {H : Hp} {n : Int} {xs : List V} {i : Nat} (h : OkA H n xs (i + 1)) : OkA H n xs i := by
  by_cases hi : i < xs.length
  · have hx : xs[i]? = some xs[i] := List.getElem?_eq_getElem hi
    obtain ⟨ps, h1, h2⟩ := h
    rw [take_snoc hx] at h1
    obtain ⟨qs, p, rfl, h3⟩ := pairs_front h1
    exact ⟨qs, h3, goodA_front h2⟩
  · obtain ⟨ps, h1, h2⟩ := h
    rw [List.take_of_length_le (by omega)] at h1
    exact ⟨ps, by rw [List.take_of_length_le (by omega)]; exact h1, h2⟩
theorem okA_le {H : Hp} {n : Int} {xs : List V} {i j : Nat} (h : OkA H n xs j) (hij : i ≤ j) : OkA H n xs i := by
  obtain ⟨d, rfl⟩ := Nat.exists_eq_add_of_le hij
  induction d with
  | zero => exact h
  | succ d ih => exact ih (okA_down h) (Nat.le_add_right _ _)
theorem nbad_one {H : Hp} {sv tv y z : V} (h : NBad H sv tv y) (h' : NBad H sv tv z) : y = z := by
  rcases h with ⟨h1, rfl⟩ | ⟨h1, h2, rfl⟩ | ⟨n, t, xs, i, rfl, n1, n2, rfl, ht, hi, ok, nok, rfl⟩
  · rcases h' with ⟨_, rfl⟩ | ⟨h2, _⟩ | ⟨n, t, xs, i, rfl, n1, n2, _⟩
    · rfl
    · rw [h1] at h2; cases h2
    · exact absurd ⟨n1, n2⟩ (of_decide_eq_false h1)
  · rcases h' with ⟨h3, _⟩ | ⟨_, _, rfl⟩ | ⟨n, t, xs, i, rfl, n1, n2, rfl, ht, _⟩
    · rw [h1] at h3; cases h3
    · rfl
    · exact absurd ht (h2 _ _ rfl)
  · rcases h' with ⟨h3, _⟩ | ⟨_, h2, _⟩ | ⟨n', t', xs', j, e1, _, _, e2, ht', hj, ok', nok', rfl⟩
    · exact absurd ⟨n1, n2⟩ (of_decide_eq_false h3)
    · exact absurd ht (h2 _ _ rfl)
    · cases e1
      cases e2
      rw [ht] at ht'
      cases ht'
      have h1 : ¬ i < j := fun h => nok (okA_le ok' (by omega))
      have h2 : ¬ j < i := fun h => nok' (okA_le ok (by omega))
      have : i = j := by omega
      rw [this]
theorem nbad_net {H : Hp} {sv tv y : V} (h : NBad H sv tv y) (h' : NetIs H sv tv) : False := by
  obtain ⟨n, t, xs, rfl, n1, n2, rfl, ht, ok⟩ := h'
  rcases h with ⟨h1, _⟩ | ⟨_, h2, _⟩ | ⟨n', t', xs', i, e1, _, _, e2, ht', hi, _, nok, _⟩
  · exact absurd ⟨n1, n2⟩ (of_decide_eq_false h1)
  · exact absurd ht (h2 _ _ rfl)
  · cases e1
    cases e2
    rw [ht] at ht'
    cases ht'
    exact nok (okA_le ok hi)
theorem nbad_any {K : PySem.W.Frag} {H H' : Hp} {sv tv y : V} (tT : ThT K H tv) (hv : ∀ a, tv = .ref a → H a ≠ none) (e : Same H H') (h : NBad H sv tv y) : NBad H' sv tv y := by
  rcases h with ⟨h1, h2⟩ | ⟨h1, h2, h3⟩ | ⟨n, t, xs, i, rfl, n1, n2, rfl, ht, hi, ok, nok, rfl⟩
  · exact .inl ⟨h1, h2⟩
  · refine .inr (.inl ⟨h1, fun a xs ea q => ?_, h3⟩)
    cases c : H a with
    | none => exact hv a ea c
    | some o => rw [e _ _ c] at q; cases q; exact h2 a xs ea c
  · exact .inr (.inr ⟨n, t, xs, i, rfl, n1, n2, rfl, e _ _ ht, hi, okA_same (K := K) e ok, fun h => nok (okA_back e (elems tT ht) h), rfl⟩)
theorem net_any {K : PySem.W.Frag} {H H' : Hp} {sv tv : V} (e : Same H H') (h : NetIs H sv tv) : NetIs H' sv tv := by
  obtain ⟨n, t, xs, rfl, n1, n2, rfl, ht, ok⟩ := h
  exact ⟨n, t, xs, rfl, n1, n2, rfl, e _ _ ht, okA_same (K := K) e ok⟩
theorem nbad_non {H : Hp} {sv tv y : V} (h : NBad H sv tv y) : y ≠ .non := by
  rcases h with ⟨_, rfl⟩ | ⟨_, _, rfl⟩ | ⟨_, _, _, _, _, _, _, _, _, _, _, _, rfl⟩ <;> exact V.noConfusion
end Bs

namespace Bs
open PySem PySem.Spec PyProof.Rows L2
def NetAt (C : Addr) (H : Hp) (x : Addr) (n : Int) (t : Addr) (ps : List (Int × Int)) : Prop := (∃ dx fs, H x = some (.ins C dx fs) ∧ fs.lookup ("size" : Str) = some (.int n) ∧ fs.lookup ("arrows" : Str) = some (.ref t)) ∧ ∃ xs, H t = some (.tup xs) ∧ Pairs H xs ps
theorem NetAt.same {C : Addr} {H H' : Hp} {x t : Addr} {n : Int} {ps : List (Int × Int)} (h : NetAt C H x n t ps) (e : Same H H') : NetAt C H' x n t ps := by
  obtain ⟨⟨dx, fs, h1, h2⟩, xs, h3, h4⟩ := h
  exact ⟨⟨dx, fs, e _ _ h1, h2⟩, xs, e _ _ h3, h4.tk e.tk⟩
section
variable {P : Program} {w : World} {K : PySem.W.Frag} {mg : Str → Option Value} {base : Heap} {C CB D : Addr}
def sp_Net_init (C : Addr) : Sp := fun vs H Q _ => ∃ (x dx : Addr) (n : Int) (t : Addr) (xs : List V) (ps : List (Int × Int)), vs = [.ref x, .int n, .ref t] ∧ H x = some (.ins C dx []) ∧ 1 ≤ n ∧ n ≤ 12 ∧ H t = some (.tup xs) ∧ Pairs H xs ps ∧ GoodA n ps ∧ ∀ H', ExT x H H' → H' x = some (.ins C dx (nfV (.int n) (.ref t))) → Q .non H'
theorem pairs_the {K : PySem.W.Frag} {H : Hp} : ∀ {xs : List V} {ps : List (Int × Int)}, Pairs H xs ps → ∀ x ∈ xs, ThE K H x ∧ Item K H x
  | _, _, .nil, x, hx => by cases hx
  | _, _, .cons r t, x, hx => by
    rcases List.mem_cons.mp hx with rfl | hx
    · obtain ⟨a, rfl, h⟩ := r
      exact ⟨.tup h (fun y hy => by simp at hy; rcases hy with rfl | rfl <;> exact .int _) (by show 2 ≤ 100000; decide), .tup h⟩
    · exact pairs_the t x hx
theorem ok_Net_init {f : Addr} {fd : FuncData} (F : Fun K "__init__" "Net.__init__" s_Net_init f fd) (B : Bl mg) (T : TxtN K mg C) (c_is_number : Cal P w K mg base 2 "is_number" ["thing", "least", "most"] (sp_inI K)) (c_wrong_arrow : Cal P w K mg base 4 "wrong_arrow" ["size", "arrows"] (sp_wrong_arrow K)) : FnOk P w K mg base CX0 5 f fd ["self", "size", "arrows"] (sp_Net_init C) := by
  refine F.ok sc_Net_init (fun vs H Q E h => ?_) (fun cdv A outer s H vs Q E hr h => ?_)
  · obtain ⟨x, dx, n, t, xs, ps, rfl, _⟩ := h; rfl
  · obtain ⟨x, dx, n, t, xs, ps, rfl, hx, n1, n2, ht, hp, G, k⟩ := h
    obtain ⟨t12, h12⟩ := T.mg_MOST_NET_PARTS
    refine ⟨_, (pss_cons (ps_if (pt_not (pt_val (pe_cal c_is_number (hr.mono (by first | decide | omega)) (pa_cons (pv 1) (pa_cons pe_int (pa_cons (pe_glob (v := .int 12) (by rfl) h12 ⟨_, rfl⟩) pa_nil)))))) (pss_one ps_never) pss_nil)
 (pss_cons (ps_if (pt_not (pt_val (pe_callB call_isi (by rfl) B.isinstance (by decide +kernel) (pa_cons (pv 2) (pa_cons (pe_bltn (v := .ty "tuple") (by rfl) B.tuple_ (by decide +kernel) rfl) pa_nil))))) (pss_one ps_never) pss_nil)
 (pss_cons (ps_set (i := 3) sc_Net_init.nd rfl (by first | exact Or.inl rfl | exact Or.inr rfl) (pe_cal c_wrong_arrow (hr.mono (by first | decide | omega)) (pa_cons (pv 1) (pa_cons (pv 2) pa_nil))))
 (pss_cons (ps_if (pt_cmpR op_notN (pv 3) pe_non (nomark _)) (pss_one ps_never) pss_nil)
 (pss_cons (ps_fld (pv 0) (pv 1) rfl)
 (pss_one (ps_fld (pv 0) (pv 2) rfl))))))), ?_⟩
    refine ⟨_, rfl, .int n, 1, 12, rfl, .int n, _, rfl, ?_⟩
    rw [show inI 1 12 (.int n) = true from decide_eq_true ⟨n1, n2⟩]
    refine iteF ?_
    refine ⟨_, rfl, _, _, _, _, true, rfl, .ty "tuple", .base (.tup ht), kit_ty (by decide +kernel), true, rfl, iteF ?_⟩
    have okA : OkA H n xs xs.length := ⟨ps, by rw [List.take_length]; exact hp, G⟩
    refine ⟨_, rfl, _, rfl, n, t, xs, rfl, ht, fun y hy => (pairs_the hp y hy).1, fun i H1 e1 hi ok nok => (nok (okA_le okA hi)).elim, fun H1 e1 ok => ?_⟩
    refine ⟨_, rfl, rfl, _, rfl, iteF ?_⟩
    refine ⟨_, rfl, _, rfl, x, C, dx, [], rfl, e1 _ _ hx, T.cl, T.nSize, (by decide), ?_⟩
    refine ⟨_, rfl, _, rfl, x, C, dx, _, rfl, upd_same, T.cl, T.nArrows, (by show 1 < 1000; decide), ?_⟩
    exact k _ (e1.exT.upd.upd) upd_same
theorem make_net {H : Hp} {n : Int} {t : Addr} {xs : List V} {ps : List (Int × Int)} {Q : Addr → Hp → Prop} (n1 : 1 ≤ n) (n2 : n ≤ 12) (ht : H t = some (.tup xs)) (hp : Pairs H xs ps) (G : GoodA n ps)
    (k : ∀ x H', Same H H' → H x = none → NetAt C H' x n t ps → Q x H') :
    ∀ x dx, H x = none → H dx = none → dx ≠ x → sp_Net_init C (.ref x :: ([.int n, .ref t] ++ [])) (upd (upd H dx (.own x)) x (.ins C dx [])) (fun v H2 => v = .non ∧ Q x H2) E0 := by
  intro x dx nx nd ne
  have s0 : Same H (upd (upd H dx (.own x)) x (.ins C dx [])) := fun b o e => by
    rw [upd_ne (ne_of_none e nx), upd_ne (ne_of_none e nd)]
    exact e
  refine ⟨x, dx, n, t, xs, ps, rfl, upd_same, n1, n2, s0 _ _ ht, hp.tk s0.tk, G, fun H' e' h' => ⟨rfl, ?_⟩⟩
  have s1 : Same H H' := fun b o e => e' _ _ (ne_of_none e nx) (s0 _ _ e)
  exact k x H' s1 nx ⟨⟨dx, _, h', nfV_size _ _, nfV_arrows _ _⟩, xs, s1 _ _ ht, hp.tk s1.tk⟩
def sp_Net_eq (K : PySem.W.Frag) (C : Addr) : Sp := fun vs H Q _ => ∃ a y n t ps, vs = [.ref a, y] ∧ NetAt C H a n t ps ∧
  ((∃ b m u qs, y = .ref b ∧ NetAt C H b m u qs ∧ Q (.bl (decide (n = m ∧ ps = qs))) H) ∨ (∃ ty, TyX K H y ty ∧ PySem.W.kitOne K ty (.ref C) = some false ∧ Q (.bl false) H))
abbrev s_Net_eq : Stmt := (inClass (top 15) 1)
theorem sc_Net_eq : FnScope ["self", "other"] ["self", "other"] (defScope s_Net_eq) := ⟨rfl, rfl, rfl, by decide +kernel, rfl, by decide +kernel, by decide +kernel⟩

theorem ok_Net_eq {f : Addr} {fd : FuncData} (F : Fun K "__eq__" "Net.__eq__" s_Net_eq f fd) (B : Bl mg) (T : TxtN K mg C) : FnOk P w K mg base CX0 1 f fd ["self", "other"] (sp_Net_eq K C) := by
  refine F.ok sc_Net_eq (fun vs H Q E h => ?_) (fun cdv A outer s H vs Q E hr h => ?_)
  · obtain ⟨a, y, n, t, ps, rfl, _⟩ := h; rfl
  · obtain ⟨a, y, n, t, ps, rfl, ⟨⟨dx, fs, h1, h2, h3⟩, xs, h4, h5⟩, h⟩ := h
    refine ⟨_, (pss_one (ps_ret (pe_and (pe_callB call_isi (by rfl) B.isinstance (by decide +kernel) (pa_cons (pv 1) (pa_cons (pe_globR T.mg_Net) pa_nil))) (pe_and (pe_cmpR op_eq (pe_fld (pv 0) rfl) (pe_fld (pv 1) rfl) (nomark _)) (pe_one (pe_cmpR (op_eqD hr.units) (pe_fld (pv 0) rfl) (pe_fld (pv 1) rfl) (nomark _))))))), ?_⟩
    rcases h with ⟨b, m, u, qs, rfl, ⟨⟨dy, gs, g1, g2, g3⟩, ys, g4, g5⟩, k⟩ | ⟨ty, hty, hk, k⟩
    · refine ⟨_, rfl, _, _, _, _, true, rfl, .own C, .base (.ins g1 T.cl T.xc T.xg T.xt T.xm), kit_own, true, rfl, iteT ?_⟩
      refine ⟨_, rfl, a, C, dx, _, _, rfl, h1, T.cl, T.nSize, h2, _, rfl, b, C, dy, _, _, rfl, g1, T.cl, T.nSize, g2, rfl, _, rfl, ?_⟩
      by_cases e : n = m
      · rw [if_pos (decide_eq_true (by rw [e]))]
        refine ⟨_, rfl, a, C, dx, _, _, rfl, h1, T.cl, T.nArrows, h3, _, rfl, b, C, dy, _, _, rfl, g1, T.cl, T.nArrows, g3, _, _, dp_ties h4 h5, dp_ties g4 g5, pDs_shaped ps, pDs_shaped qs, ?_⟩
        rw [pDt_eqv]
        have e2 : decide (n = m ∧ ps = qs) = decide (ps = qs) := by simp [e]
        rw [e2] at k
        exact k
      · rw [if_neg (by simpa using e)]
        have e2 : decide (n = m ∧ ps = qs) = false := decide_eq_false fun q => e q.1
        rw [e2] at k
        exact k
    · exact ⟨_, rfl, _, _, _, _, false, rfl, .own C, hty, hk, false, rfl, iteF k⟩
def sp_deepN (K : PySem.W.Frag) : Sp := fun vs H Q _ => vs = [] ∧ ∀ p xs H', Same H H' → H' p = some (.tup xs) → TsE K H' xs → (∀ x ∈ xs, Item K H' x) → xs.length ≤ 1 → Q (.ref p) H'
abbrev s__law_deep : Stmt := (top 25)
theorem sc__law_deep : FnScope ["found", "turn"] [] (defScope s__law_deep) := ⟨rfl, rfl, rfl, by decide +kernel, rfl, by decide +kernel, by decide +kernel⟩

theorem ok_law_deep {f : Addr} {fd : FuncData} (F : Fun K "_law_deep" "_law_deep" s__law_deep f fd) (hm : mg "_law_deep" = some (.ref f)) (B : Bl mg) : Cal P w K mg base 1 "_law_deep" [] (sp_deepN K) := by
  refine ⟨f, fd, F.ok sc__law_deep (fun vs H Q E h => ?_) (fun cdv A outer s H vs Q E hr h => ?_), hm, F.kp, F.binds (ps := []) fun _ _ _ _ _ _ us hl => match us, hl with | [], _ => rfl⟩
  · obtain ⟨rfl, _⟩ := h; rfl
  · obtain ⟨rfl, k⟩ := h
    refine ⟨_, (pss_cons (ps_set (i := 0) sc__law_deep.nd rfl (by first | exact Or.inl rfl | exact Or.inr rfl) (pe_tup pa_nil))
 (pss_cons (ps_for PassesOwn.never rfl (pi_range1 (by rfl) B.range (pa_cons pe_int pa_nil)) (pg_name (i := 1) sc__law_deep.nd rfl (by first | exact Or.inl rfl | exact Or.inr rfl))
  (pss_one (ps_set (i := 0) sc__law_deep.nd rfl (by first | exact Or.inl rfl | exact Or.inr rfl) (pe_tup (pa_cons (pv 0) pa_nil)))))
 (pss_one (ps_ret (pv 0))))), ?_⟩
    refine ⟨Nat.zero_le _, fun p0 hp0 => ?_⟩
    refine ⟨36, rfl, by decide, by decide, for_range (lo := 0) (n := 36) (fun i σ H' => Same H H' ∧ ∃ (p : Addr) (v : Option V) (xs : List V), σ = [some (.ref p), v] ∧ H' p = some (.tup xs) ∧ TsE K H' xs ∧ (∀ x ∈ xs, Item K H' x) ∧ xs.length ≤ 1)
      ⟨L2.Same.new hp0, p0, none, [], rfl, upd_same, (by intro x hx; cases hx), (by intro x hx; cases hx), Nat.zero_le _⟩ ?_ ?_⟩
    · rintro i σ H1 hi ⟨e1, p, u, xs, rfl, hp, ts, ti, tl⟩
      refine ⟨_, rfl, (by show 1 ≤ sizeLine; decide), fun z hz => ?_⟩
      have s2 := L2.Same.new (o := .tup [V.ref p]) hz
      exact ⟨e1.trans s2, z, _, _, rfl, upd_same, TsE.one (.tup (s2 _ _ hp) (fun x hx => (ti x hx).ext s2) (by omega)), fun x hx => by simp at hx; subst hx; exact .tup (s2 _ _ hp), by show 1 ≤ 1; decide⟩
    · rintro σ H1 ⟨e1, p, u, xs, rfl, hp, ts, ti, tl⟩
      exact ⟨_, rfl, k p xs H1 e1 hp ts ti tl⟩
/-- an odd thing: as a size, in a tuple, as a tuple -/
structure OddN (K : PySem.W.Frag) (H : Hp) (v : V) : Prop where
  it : Item K H v
  th : ThE K H v
  tt : ThT K H v
theorem OddN.same {H H' : Hp} {v : V} (h : OddN K H v) (e : Same H H') : OddN K H' v := ⟨h.it.ext e, h.th.ext e, h.tt.ext e h.th.2⟩
theorem OddN.src {H H' : Hp} {T : Addr} {v : V} (h : OddN K H v) (hT : Sr H T) (hT' : Sr H' T) (e : ExT T H H') : OddN K H' v := ⟨h.it.src hT hT' e, h.th.src hT hT' e, h.tt.src hT hT' e h.th.2⟩
theorem OddN.els {H : Hp} {v : V} (h : NoT K H v) : OddN K H v := ⟨h.it, h.th, .els h.ty h.no⟩
theorem NoT.bl {H : Hp} (b : Bool) : NoT K H (.bl b) := ⟨.bl b, .bl b, typ_bl (by decide +kernel), fun _ _ => V.noConfusion⟩
theorem OddN.tup {H : Hp} {a : Addr} {xs : List V} (h : H a = some (.tup xs)) (h1 : TsE K H xs) (h2 : ∀ x ∈ xs, Item K H x) (h3 : xs.length ≤ 1000) : OddN K H (.ref a) := ⟨.tup h, .tup h h2 (by omega), .tup h h1 (by omega)⟩
theorem web_not {C x : Addr} {H : Hp} {n : Int} {u : Addr} {ps : List (Int × Int)} (T : Txt K mg C) (CT : ClsTy K C) (W : WebAt C H x n u ps) : NoT K H (.ref x) := by
  obtain ⟨⟨dx, fs, h1, h2, h3⟩, _⟩ := W
  have ty : TyX K H (.ref x) (.ref C) := .base (.ins h1 T.cl T.xc T.xg T.xt T.xm)
  have nt : ∀ a xs, V.ref x = .ref a → H a ≠ some (.tup xs) := fun a ys e q => by cases e; rw [h1] at q; cases q
  exact ⟨.els ⟨_, ty, CT.int⟩ (fun _ => V.noConfusion), ⟨.els ⟨_, ty, CT.tup⟩ nt, fun a e q => by cases e; rw [h1] at q; cases q⟩, ⟨_, ty, CT.tup⟩, nt⟩
def sp_oddN (K : PySem.W.Frag) : Sp := fun vs H Q _ => ∃ T, vs = [.ref T] ∧ Sr H T ∧ ∀ v H', ExT T H H' → Sr H' T → OffK T H H' → OddN K H' v → Q v H'
abbrev s__law_odd : Stmt := (top 26)
theorem sc__law_odd : FnScope ["pool", "things"] ["pool"] (defScope s__law_odd) := ⟨rfl, rfl, rfl, by decide +kernel, rfl, by decide +kernel, by decide +kernel⟩

theorem ok_law_odd {f : Addr} {fd : FuncData} (F : Fun K "_law_odd" "_law_odd" s__law_odd f fd) (hm : mg "_law_odd" = some (.ref f)) (B : Bl mg) (TW : Txt K mg D) (CT : ClsTy K D) (m_Web : Mkc P w K mg base 5 D "Web" ["self", "size", "ties"] (sp_Web_init D)) (c__law_pick : Cal P w K mg base 2 "_law_pick" ["pool", "things"] sp_pick) (c__law_deep : Cal P w K mg base 1 "_law_deep" [] (sp_deepN K)) : Cal P w K mg base 7 "_law_odd" ["pool"] (sp_oddN K) := by
  refine ⟨f, fd, F.ok sc__law_odd (fun vs H Q E h => ?_) (fun cdv A outer s H vs Q E hr h => ?_), hm, F.kp, F.binds (ps := ["pool"]) fun _ _ _ _ _ _ us hl => match us, hl with | [_], _ => rfl⟩
  · obtain ⟨T, rfl, _⟩ := h; rfl
  · obtain ⟨T, rfl, hT, k⟩ := h
    refine ⟨_, (pss_cons (ps_set (i := 1) sc__law_odd.nd rfl (by first | exact Or.inl rfl | exact Or.inr rfl) (pe_lst (pa_cons pe_non (pa_cons pe_bl (pa_cons pe_bl (pa_cons pe_int (pa_cons pe_int (pa_cons (pe_un un_neg pe_int) (pa_cons (pe_op op_pow pe_int pe_int) (pa_cons pe_str (pa_cons pe_str (pa_cons (pe_tup pa_nil) (pa_cons (pe_lst pa_nil) (pa_cons pe_dnewK (pa_cons (pe_tup (pa_cons pe_int pa_nil)) (pa_cons (pe_lst (pa_cons pe_int pa_nil)) (pa_cons (pe_tup (pa_cons pe_int (pa_cons pe_int pa_nil))) (pa_cons (pe_tup (pa_cons pe_int (pa_cons pe_int pa_nil))) (pa_cons (pe_tup (pa_cons pe_bl pa_nil)) (pa_cons (pe_tup (pa_cons pe_str pa_nil)) pa_nil))))))))))))))))))))
 (pss_cons (ps_set (i := 1) sc__law_odd.nd rfl (by first | exact Or.inl rfl | exact Or.inr rfl) (pe_op op_cat (pv 1) (pe_lst (pa_cons (pe_tup (pa_cons (pe_tup (pa_cons pe_int (pa_cons pe_int pa_nil))) pa_nil)) (pa_cons (pe_tup (pa_cons pe_non pa_nil)) (pa_cons (pe_tup (pa_cons pe_int (pa_cons (pe_un un_neg pe_int) pa_nil))) (pa_cons (pe_tup (pa_cons pe_int (pa_cons pe_int pa_nil))) (pa_cons (pe_cal0 c__law_deep (hr.mono (by first | decide | omega))) (pa_cons (pe_mkc m_Web (hr.mono (by first | decide | omega)) (pa_cons pe_int (pa_cons (pe_tup pa_nil) pa_nil))) pa_nil)))))))))
 (pss_one (ps_ret (pe_cal c__law_pick (hr.mono (by first | decide | omega)) (pa_cons (pv 0) (pa_cons (pv 1) pa_nil))))))), ?_⟩
    refine ⟨_, rfl, _, _, rfl, rfl, ⟨by decide, by decide, by decide⟩, Nat.zero_le _, fun p1 h1 => ⟨Nat.zero_le _, fun p2 h2 p3 h3 => ?_⟩⟩
    have s1 := L2.Same.new (o := .tup []) h1
    have s2 := L2.Same.new (o := .lst []) h2
    have s3 := L2.Same.new (o := .dK []) h3
    refine ⟨(by show 1 ≤ sizeLine; decide), fun p4 h4 => ⟨(by show 1 ≤ sizeLine; decide), fun p5 h5 => ⟨(by show 2 ≤ sizeLine; decide), fun p6 h6 => ⟨(by show 2 ≤ sizeLine; decide), fun p7 h7 => ⟨(by show 1 ≤ sizeLine; decide), fun p8 h8 => ⟨(by show 1 ≤ sizeLine; decide), fun p9 h9 => ?_⟩⟩⟩⟩⟩⟩
    have s4 := L2.Same.new (o := .tup [V.int 0]) h4
    have s5 := L2.Same.new (o := .lst [V.int 0]) h5
    have s6 := L2.Same.new (o := .tup [V.int 1, .int 0]) h6
    have s7 := L2.Same.new (o := .tup [V.int 0, .int 0]) h7
    have s8 := L2.Same.new (o := .tup [V.bl true]) h8
    have s9 := L2.Same.new (o := .tup [V.str "0"]) h9
    refine ⟨(by show 18 ≤ sizeLine; decide), fun D1 hD1 => ?_⟩
    have s10 := L2.Same.new (o := .lst [V.non, .bl true, .bl false, .int 0, .int 1, (fun i : Int => V.int (-i)) 1, (fun i j : Int => V.int (i ^ j.toNat)) 10 20, .str "", .str "0", .ref p1, .ref p2, .ref p3, .ref p4, .ref p5, .ref p6, .ref p7, .ref p8, .ref p9]) hD1
    have s19 := s1.trans (s2.trans (s3.trans (s4.trans (s5.trans (s6.trans (s7.trans (s8.trans s9)))))))
    have z1 := s19.trans s10
    have odd1 : ∀ v ∈ [V.non, .bl true, .bl false, .int 0, .int 1, (fun i : Int => V.int (-i)) 1, (fun i j : Int => V.int (i ^ j.toNat)) 10 20, .str "", .str "0", .ref p1, .ref p2, .ref p3, .ref p4, .ref p5, .ref p6, .ref p7, .ref p8, .ref p9], OddN K (upd (upd (upd (upd (upd (upd (upd (upd (upd (upd H p1 (.tup [])) p2 (.lst [])) p3 (.dK [])) p4 (.tup [V.int 0])) p5 (.lst [V.int 0])) p6 (.tup [V.int 1, .int 0])) p7 (.tup [V.int 0, .int 0])) p8 (.tup [V.bl true])) p9 (.tup [V.str "0"])) D1 (.lst [V.non, .bl true, .bl false, .int 0, .int 1, (fun i : Int => V.int (-i)) 1, (fun i j : Int => V.int (i ^ j.toNat)) 10 20, .str "", .str "0", .ref p1, .ref p2, .ref p3, .ref p4, .ref p5, .ref p6, .ref p7, .ref p8, .ref p9])) v := by
      intro v hv
      have one : ∀ {H' : Hp} {a : Addr} {u : V}, H' a = some (.tup [u]) → NoT K H' u → OddN K H' (.ref a) := fun h q => .tup h (TsE.one q.th) (fun x hx => by simp at hx; subst hx; exact q.it) (by show 1 ≤ 1000; decide)
      have two : ∀ {H' : Hp} {a : Addr} {i j : Int}, H' a = some (.tup [.int i, .int j]) → OddN K H' (.ref a) := fun h => .tup h (fun x hx => by simp at hx; rcases hx with rfl | rfl <;> exact .int _) (fun x hx => by simp at hx; rcases hx with rfl | rfl <;> exact .int _) (by show 2 ≤ 1000; decide)
      simp only [List.mem_cons, List.not_mem_nil, or_false] at hv
      rcases hv with rfl | rfl | rfl | rfl | rfl | rfl | rfl | rfl | rfl | rfl | rfl | rfl | rfl | rfl | rfl | rfl | rfl | rfl
      · exact .els .non
      · exact .els (.bl _)
      · exact .els (.bl _)
      · exact .els (.int _)
      · exact .els (.int _)
      · exact .els (.int _)
      · exact .els (.int _)
      · exact .els (.str _)
      · exact .els (.str _)
      · exact .tup ((s2.trans (s3.trans (s4.trans (s5.trans (s6.trans (s7.trans (s8.trans (s9.trans s10)))))))) _ _ upd_same) (by intro x hx; cases hx) (by intro x hx; cases hx) (Nat.zero_le _)
      · exact .els (.lst ((s3.trans (s4.trans (s5.trans (s6.trans (s7.trans (s8.trans (s9.trans s10))))))) _ _ upd_same))
      · exact .els (.dK ((s4.trans (s5.trans (s6.trans (s7.trans (s8.trans (s9.trans s10)))))) _ _ upd_same))
      · exact one ((s5.trans (s6.trans (s7.trans (s8.trans (s9.trans s10))))) _ _ upd_same) (.int _)
      · exact .els (.lst ((s6.trans (s7.trans (s8.trans (s9.trans s10)))) _ _ upd_same))
      · exact two ((s7.trans (s8.trans (s9.trans s10))) _ _ upd_same)
      · exact two ((s8.trans (s9.trans s10)) _ _ upd_same)
      · exact one ((s9.trans s10) _ _ upd_same) (.bl _)
      · exact one (s10 _ _ upd_same) (.str _)
    have hD1' : (upd (upd (upd (upd (upd (upd (upd (upd (upd (upd H p1 (.tup [])) p2 (.lst [])) p3 (.dK [])) p4 (.tup [V.int 0])) p5 (.lst [V.int 0])) p6 (.tup [V.int 1, .int 0])) p7 (.tup [V.int 0, .int 0])) p8 (.tup [V.bl true])) p9 (.tup [V.str "0"])) D1 (.lst [V.non, .bl true, .bl false, .int 0, .int 1, (fun i : Int => V.int (-i)) 1, (fun i j : Int => V.int (i ^ j.toNat)) 10 20, .str "", .str "0", .ref p1, .ref p2, .ref p3, .ref p4, .ref p5, .ref p6, .ref p7, .ref p8, .ref p9])) D1 = some (.lst [V.non, .bl true, .bl false, .int 0, .int 1, (fun i : Int => V.int (-i)) 1, (fun i j : Int => V.int (i ^ j.toNat)) 10 20, .str "", .str "0", .ref p1, .ref p2, .ref p3, .ref p4, .ref p5, .ref p6, .ref p7, .ref p8, .ref p9]) := upd_same
    have z1' : Same H (upd (upd (upd (upd (upd (upd (upd (upd (upd (upd H p1 (.tup [])) p2 (.lst [])) p3 (.dK [])) p4 (.tup [V.int 0])) p5 (.lst [V.int 0])) p6 (.tup [V.int 1, .int 0])) p7 (.tup [V.int 0, .int 0])) p8 (.tup [V.bl true])) p9 (.tup [V.str "0"])) D1 (.lst [V.non, .bl true, .bl false, .int 0, .int 1, (fun i : Int => V.int (-i)) 1, (fun i j : Int => V.int (i ^ j.toNat)) 10 20, .str "", .str "0", .ref p1, .ref p2, .ref p3, .ref p4, .ref p5, .ref p6, .ref p7, .ref p8, .ref p9])) := z1
    have DT1 : D1 ≠ T := (hT.ext s19).neT hD1
    generalize (upd (upd (upd (upd (upd (upd (upd (upd (upd (upd H p1 (.tup [])) p2 (.lst [])) p3 (.dK [])) p4 (.tup [V.int 0])) p5 (.lst [V.int 0])) p6 (.tup [V.int 1, .int 0])) p7 (.tup [V.int 0, .int 0])) p8 (.tup [V.bl true])) p9 (.tup [V.str "0"])) D1 (.lst [V.non, .bl true, .bl false, .int 0, .int 1, (fun i : Int => V.int (-i)) 1, (fun i j : Int => V.int (i ^ j.toNat)) 10 20, .str "", .str "0", .ref p1, .ref p2, .ref p3, .ref p4, .ref p5, .ref p6, .ref p7, .ref p8, .ref p9])) = H10 at odd1 hD1' z1' ⊢
    obtain ⟨M1, m1, odd1, hD1'⟩ : ∃ M1 : List V, M1.length = 18 ∧ (∀ v ∈ M1, OddN K H10 v) ∧ H10 D1 = some (.lst M1) := ⟨_, rfl, odd1, hD1'⟩
    clear s1 s2 s3 s4 s5 s6 s7 s8 s9 s10 s19 z1 h1 h2 h3 h4 h5 h6 h7 h8 h9 hD1
    have hT10 := hT.ext z1'
    -- the others
    refine ⟨_, rfl, (by show 2 ≤ sizeLine; decide), fun p10 h10 => ⟨(by show 1 ≤ sizeLine; decide), fun p11 h11 => ⟨(by show 1 ≤ sizeLine; decide), fun p12 h12 => ?_⟩⟩⟩
    have s10 := L2.Same.new (o := .tup [V.int 0, .int 1]) h10
    have s11 := L2.Same.new (o := .tup [V.ref p10]) h11
    have s12 := L2.Same.new (o := .tup [V.non]) h12
    refine ⟨_, rfl, (by show 2 ≤ sizeLine; decide), fun p13 h13 => ⟨(by show 2 ≤ sizeLine; decide), fun p14 h14 => ⟨rfl, fun p15 ys H15 s15 h15 t15 i15 l15 => ⟨Nat.zero_le _, fun p16 h16 => ?_⟩⟩⟩⟩
    have s13 := L2.Same.new (o := .tup [V.int 0, .int (-1)]) h13
    have s14 := L2.Same.new (o := .tup [V.int 0, .int 99]) h14
    have s16 := L2.Same.new (o := .tup []) h16
    refine make_web (C := D) (n := 1) (ps := []) (by decide) (by decide) upd_same .nil ⟨by simp, .nil⟩ fun x H17 s17 nx W hx => ?_
    have z17 := s10.trans (s11.trans (s12.trans (s13.trans (s14.trans (s15.trans (s16.trans s17))))))
    refine ⟨(by show 6 ≤ sizeLine; decide), fun D2 hD2 => ?_⟩
    have s18 := L2.Same.new (o := .lst [V.ref p11, .ref p12, .ref p13, .ref p14, .ref p15, .ref x]) hD2
    have hD2' : (upd H17 D2 (.lst [V.ref p11, .ref p12, .ref p13, .ref p14, .ref p15, .ref x])) D2 = some (.lst [V.ref p11, .ref p12, .ref p13, .ref p14, .ref p15, .ref x]) := upd_same
    have z18 := z17.trans s18
    have odd2 : ∀ v ∈ [V.ref p11, .ref p12, .ref p13, .ref p14, .ref p15, .ref x], OddN K (upd H17 D2 (.lst [V.ref p11, .ref p12, .ref p13, .ref p14, .ref p15, .ref x])) v := by
      intro v hv
      simp only [List.mem_cons, List.not_mem_nil, or_false] at hv
      rcases hv with rfl | rfl | rfl | rfl | rfl | rfl
      · have hp : (upd H17 D2 (.lst [V.ref p11, .ref p12, .ref p13, .ref p14, .ref p15, .ref x])) p11 = some (.tup [.ref p10]) := (s12.trans (s13.trans (s14.trans (s15.trans (s16.trans (s17.trans s18)))))) _ _ upd_same
        have hq : (upd H17 D2 (.lst [V.ref p11, .ref p12, .ref p13, .ref p14, .ref p15, .ref x])) p10 = some (.tup [.int 0, .int 1]) := (s11.trans (s12.trans (s13.trans (s14.trans (s15.trans (s16.trans (s17.trans s18))))))) _ _ upd_same
        exact .tup hp (TsE.one (.tup hq (fun x hx => by simp at hx; rcases hx with rfl | rfl <;> exact .int _) (by show 2 ≤ 100000; decide))) (fun x hx => by simp at hx; subst hx; exact .tup hq) (by show 1 ≤ 1000; decide)
      · exact .tup ((s13.trans (s14.trans (s15.trans (s16.trans (s17.trans s18))))) _ _ upd_same) (TsE.one .non) (fun x hx => by simp at hx; subst hx; exact .non) (by show 1 ≤ 1000; decide)
      · exact .tup ((s14.trans (s15.trans (s16.trans (s17.trans s18)))) _ _ upd_same) (fun x hx => by simp at hx; rcases hx with rfl | rfl <;> exact .int _) (fun x hx => by simp at hx; rcases hx with rfl | rfl <;> exact .int _) (by show 2 ≤ 1000; decide)
      · exact .tup ((s15.trans (s16.trans (s17.trans s18))) _ _ upd_same) (fun x hx => by simp at hx; rcases hx with rfl | rfl <;> exact .int _) (fun x hx => by simp at hx; rcases hx with rfl | rfl <;> exact .int _) (by show 2 ≤ 1000; decide)
      · have z := s16.trans (s17.trans s18)
        exact .tup (z _ _ h15) (t15.ext z) (fun x hx => (i15 x hx).ext z) (by omega)
      · exact .els ((web_not TW CT W).same s18)
    have DT2 : D2 ≠ T := (hT10.ext z17).neT hD2
    generalize upd H17 D2 (.lst [V.ref p11, .ref p12, .ref p13, .ref p14, .ref p15, .ref x]) = H18 at hD2' z18 odd2 ⊢
    have odd1' : ∀ v ∈ M1, OddN K H18 v := fun v hv => (odd1 v hv).same z18
    clear s10 s11 s12 s13 s14 s15 s16 s17 s18 z17 odd1 h10 h11 h12 h13 h14 h15 t15 i15 l15 h16 W hx hD2
    refine ⟨D1, D2, _, _, rfl, rfl, z18 _ _ hD1', hD2', by rw [m1]; show 18 + 6 ≤ sizeLine; decide, fun D3 hD3 => ?_⟩
    have hT18 := hT10.ext z18
    have s19 := L2.Same.new (o := .lst (M1 ++ [V.ref p11, .ref p12, .ref p13, .ref p14, .ref p15, .ref x])) hD3
    have hT19 := hT18.ext s19
    refine ⟨_, rfl, _, rfl, T, D3, _, rfl, hT19, upd_same, hT18.neT hD3, by rw [List.length_append, m1]; show 1 ≤ 18 + 6; decide, by rw [List.length_append, m1]; show 18 + 6 ≤ 1000; decide, fun i v HZ hv eZ hTZ oZ => ?_⟩
    have ov : OddN K H18 v := (List.mem_append.mp (List.mem_of_getElem? hv)).elim (odd1' v) (odd2 v)
    have z19 := z1'.trans (z18.trans s19)
    exact k v HZ (z19.exT.trans eZ) hTZ ((OffK.same hT z19).trans z19.exT hT19 oZ) ((ov.same s19).src hT19 hTZ eZ)
end
end Bs

namespace Bs
open PySem PySem.Spec PyProof.Rows L2
/-- pairs met in order, all ahead of (i, j) -/
structure Dr (c : Int × Int → Prop) (i j : Int) (ps : List (Int × Int)) : Prop where
  ok : ∀ p ∈ ps, c p
  bel : ∀ p ∈ ps, p.1 < i ∨ (p.1 = i ∧ p.2 < j)
  up : ps.Pairwise lt2
theorem Dr.nil {c : Int × Int → Prop} {i j : Int} : Dr c i j [] := ⟨by simp, by simp, .nil⟩
theorem Dr.put {c : Int × Int → Prop} {i j : Int} {ps : List (Int × Int)} (h : Dr c i j ps) (hc : c (i, j)) : Dr c i (j + 1) (ps ++ [(i, j)]) := by
  refine ⟨fun p hp => ?_, fun p hp => ?_, List.pairwise_append.mpr ⟨h.up, by simp, fun a ha b hb => ?_⟩⟩
  · rcases List.mem_append.mp hp with h' | h'
    · exact h.ok p h'
    · simp at h'; subst h'; exact hc
  · rcases List.mem_append.mp hp with h' | h'
    · have := h.bel p h'; omega
    · simp at h'; subst h'; right; exact ⟨rfl, by show j < j + 1; omega⟩
  · simp at hb; subst hb
    have := h.bel a ha
    unfold lt2
    show a.1 < i ∨ a.1 = i ∧ a.2 < j
    omega
theorem Dr.skip {c : Int × Int → Prop} {i j : Int} {ps : List (Int × Int)} (h : Dr c i j ps) : Dr c i (j + 1) ps := ⟨h.ok, fun p hp => by have := h.bel p hp; omega, h.up⟩
theorem Dr.next {c : Int × Int → Prop} {i j k : Int} {ps : List (Int × Int)} (h : Dr c i j ps) : Dr c (i + 1) k ps := ⟨h.ok, fun p hp => by have := h.bel p hp; omega, h.up⟩
section
variable {P : Program} {w : World} {K : PySem.W.Frag} {mg : Str → Option Value} {base : Heap} {C CB D : Addr}
def sp_arrows : Sp := fun vs H Q _ => ∃ (T : Addr) (n : Int), vs = [.ref T, .int n] ∧ Sr H T ∧ 1 ≤ n ∧ n ≤ 24 ∧ ∀ t xs ps H', ExT T H H' → Sr H' T → OffK T H H' → H' t = some (.tup xs) → Pairs H' xs ps → GoodA n ps → xs.length ≤ 600 → Q (.ref t) H'
abbrev s__law_arrows : Stmt := (top 27)
theorem sc__law_arrows : FnScope ["pool", "size", "thin", "kind", "found", "one", "other", "fit"] ["pool", "size"] (defScope s__law_arrows) := ⟨rfl, rfl, rfl, by decide +kernel, rfl, by decide +kernel, by decide +kernel⟩

theorem ok_law_arrows {f : Addr} {fd : FuncData} (F : Fun K "_law_arrows" "_law_arrows" s__law_arrows f fd) (hm : mg "_law_arrows" = some (.ref f)) (B : Bl mg) (c__law_draw : Cal P w K mg base 1 "_law_draw" ["pool", "many"] spDraw) (c__law_pick : Cal P w K mg base 2 "_law_pick" ["pool", "things"] sp_pick) : Cal P w K mg base 3 "_law_arrows" ["pool", "size"] sp_arrows := by
  refine ⟨f, fd, F.ok sc__law_arrows (fun vs H Q E h => ?_) (fun cdv A outer s H vs Q E hr h => ?_), hm, F.kp, F.binds (ps := ["pool", "size"]) fun _ _ _ _ _ _ us hl => match us, hl with | [_, _], _ => rfl⟩
  · obtain ⟨T, n, rfl, _⟩ := h; rfl
  · obtain ⟨T, n, rfl, hT, n1, n2, k⟩ := h
    refine ⟨_, (pss_cons (ps_set (i := 2) sc__law_arrows.nd rfl (by first | exact Or.inl rfl | exact Or.inr rfl) (pe_cal c__law_pick (hr.mono (by first | decide | omega)) (pa_cons (pv 0) (pa_cons (pe_lst (pa_cons pe_int (pa_cons pe_int (pa_cons pe_int (pa_cons pe_int pa_nil))))) pa_nil))))
 (pss_cons (ps_set (i := 3) sc__law_arrows.nd rfl (by first | exact Or.inl rfl | exact Or.inr rfl) (pe_cal c__law_draw (hr.mono (by first | decide | omega)) (pa_cons (pv 0) (pa_cons pe_int pa_nil))))
 (pss_cons (ps_set (i := 4) sc__law_arrows.nd rfl (by first | exact Or.inl rfl | exact Or.inr rfl) (pe_lst pa_nil))
 (pss_cons (ps_for PassesOwn.never rfl (pi_range1 (by rfl) B.range (pa_cons (pv 1) pa_nil)) (pg_name (i := 5) sc__law_arrows.nd rfl (by first | exact Or.inl rfl | exact Or.inr rfl))
  (pss_one (ps_for PassesOwn.never rfl (pi_range1 (by rfl) B.range (pa_cons (pv 1) pa_nil)) (pg_name (i := 6) sc__law_arrows.nd rfl (by first | exact Or.inl rfl | exact Or.inr rfl))
  (Evl.pss_cut (ps_set (i := 7) sc__law_arrows.nd rfl (by first | exact Or.inl rfl | exact Or.inr rfl) (pe_and (pe_cmpR op_ne (pv 5) (pv 6) (nomark _)) (pe_and (pe_or (pe_cmpR op_ne (pv 3) pe_int (nomark _)) (pe_one (pe_cmpR op_lt (pv 5) (pv 6) (nomark _)))) (pe_one (pe_or (pe_cmpR op_ne (pv 3) pe_int (nomark _)) (pe_one (pe_cmpR op_eq (pe_op op_modN (pe_callTy call_int1 (by rfl) B.int_ (by decide +kernel) (pa_cons (pe_op op_add (pv 5) (pv 6)) pa_nil)) pe_int) pe_int (nomark _))))))))
 (pss_one (ps_if (PW.pt (pw_and (pt_val (pv 7)) (pw_and1 (pt_cmpR op_eq (pe_cal c__law_draw (hr.mono (by first | decide | omega)) (pa_cons (pv 0) (pa_cons (pv 2) pa_nil))) pe_int (nomark _))))) (pss_one (ps_expr (pe_bm PySem.F.plainAttrs_list PySem.F.slot_list_append PySem.F.type_list_append mt_append (pv 4) (pa_cons (pe_tup (pa_cons (pv 5) (pa_cons (pv 6) pa_nil))) pa_nil)))) pss_nil))))))
 (pss_one (ps_ret (pe_callTy call_tuple_of (by rfl) B.tuple_ (by decide +kernel) (pa_cons (pv 4) pa_nil)))))))), ?_⟩
    refine ⟨_, rfl, (by show 4 ≤ sizeLine; decide), fun L hL => ?_⟩
    have s1 := L2.Same.new (o := .lst [V.int 2, .int 3, .int 3, .int 4]) hL
    refine ⟨T, L, _, rfl, hT.ext s1, upd_same, hT.neT hL, (by show 1 ≤ 4; decide), (by show 4 ≤ 1000; decide), fun i0 v H2 hv e2 hT2 o2 => ?_⟩
    obtain ⟨th, rfl, th1, th2⟩ : ∃ th : Int, v = .int th ∧ 0 < th ∧ th < 1000 := by
      match i0, hv with
      | 0, hv => cases hv; exact ⟨2, rfl, by decide, by decide⟩
      | 1, hv => cases hv; exact ⟨3, rfl, by decide, by decide⟩
      | 2, hv => cases hv; exact ⟨3, rfl, by decide, by decide⟩
      | 3, hv => cases hv; exact ⟨4, rfl, by decide, by decide⟩
      | i + 4, hv => simp at hv
    refine ⟨_, rfl, T, 4, rfl, by decide, by decide, hT2, fun kd H3 k0 k4 e3 hT3 o3 => ?_⟩
    have e13 : ExT T H H3 := (s1.exT.trans e2).trans e3
    have o13 : OffK T H H3 := ((OffK.same hT s1).trans s1.exT (hT.ext s1) o2).trans (s1.exT.trans e2) hT2 o3
    refine ⟨Nat.zero_le _, fun fo hfo => ?_⟩
    have foT := hT3.neT hfo
    have hfo0 : H fo = none := ExT.free e13 foT hfo
    have s4 := L2.Same.new (o := .lst []) hfo
    have of4 := (hT3.off hfo).same hT3 s4
    have o14 := o13.trans e13 hT3 (OffK.same hT3 s4)
    refine ⟨_, rfl, _, rfl, by omega, by omega, for_range (lo := 0) (n := n.toNat) (fun i σ H' => ∃ (v5 v6 v7 : Option V) (ys : List V) (ps : List (Int × Int)), σ = [some (.ref T), some (.int n), some (.int th), some (.int kd), some (.ref fo), v5, v6, v7] ∧ ExT T H H' ∧ Sr H' T ∧ OffK T H H' ∧ Off H' T fo ∧ H' fo = some (.lst ys) ∧ Pairs H' ys ps ∧ Dr (fun p => 0 ≤ p.1 ∧ p.1 < n ∧ 0 ≤ p.2 ∧ p.2 < n ∧ p.1 ≠ p.2) (i : Nat) 0 ps ∧ ys.length ≤ 24 * i)
      ⟨none, none, none, [], [], rfl, e13.trans s4.exT, hT3.ext s4, o14, of4, upd_same, .nil, .nil, by simp⟩ ?_ ?_⟩
    · rintro i σ H5 hi ⟨v5, v6, v7, ys, ps, rfl, e5, hT5, o5, of5, hfo5, hp5, D5, l5⟩
      refine ⟨_, rfl, _, rfl, by omega, by omega, for_range (lo := 0) (n := n.toNat) (fun j σ H' => ∃ (v6 v7 : Option V) (ys : List V) (ps : List (Int × Int)), σ = [some (.ref T), some (.int n), some (.int th), some (.int kd), some (.ref fo), some (.int (0 + (i : Nat))), v6, v7] ∧ ExT T H H' ∧ Sr H' T ∧ OffK T H H' ∧ Off H' T fo ∧ H' fo = some (.lst ys) ∧ Pairs H' ys ps ∧ Dr (fun p => 0 ≤ p.1 ∧ p.1 < n ∧ 0 ≤ p.2 ∧ p.2 < n ∧ p.1 ≠ p.2) (i : Nat) (j : Nat) ps ∧ ys.length ≤ 24 * i + j)
        ⟨_, _, ys, ps, rfl, e5, hT5, o5, of5, hfo5, hp5, D5, l5⟩ ?_ ?_⟩
      · rintro j σ H6 hj ⟨v6, v7, ys, ps, rfl, e6, hT6, o6, of6, hfo6, hp6, D6, l6⟩
        refine ⟨fun σ H' => (∃ b : Bool, σ = [some (.ref T), some (.int n), some (.int th), some (.int kd), some (.ref fo), some (.int (0 + (i : Nat))), some (.int (0 + (j : Nat))), some (.bl b)] ∧ (b = true → i ≠ j)) ∧ H' = H6, ?_, ?_⟩
        · refine ⟨_, rfl, _, rfl, rfl, _, rfl, ?_⟩
          show (if (!decide (V.int (0 + (i : Nat)) = V.int (0 + (j : Nat)))) = true then _ else _)
          refine onbN (fun hne => ?_) (fun _ => ⟨⟨false, rfl, by simp⟩, rfl⟩)
          have hij : i ≠ j := fun e => hne (by rw [e])
          refine ⟨_, rfl, rfl, _, rfl, ?_⟩
          show (if (!decide (V.int kd = V.int 0)) = true then _ else _)
          refine onbN (fun c0 => ?_) (fun c0 => ?_)
          · refine ⟨_, rfl, iteT ?_⟩
            refine ⟨_, rfl, rfl, _, rfl, ?_⟩
            show (if (!decide (V.int kd = V.int 1)) = true then _ else _)
            refine onbN (fun _ => ⟨⟨_, rfl, fun _ => hij⟩, rfl⟩) (fun _ => ?_)
            exact ⟨_, rfl, _, rfl, _, _, rfl, rfl, .inl ⟨_, rfl, _, _, rfl, rfl, (by show (2 : Int) ≠ 0; decide), rfl, ⟨_, rfl, fun _ => hij⟩, rfl⟩⟩
          · refine ⟨_, rfl, _, rfl, _, _, rfl, rfl, _, rfl, ?_⟩
            show (if decide ((0 : Int) + (i : Nat) < 0 + (j : Nat)) = true then _ else _)
            refine onb (fun _ => ?_) (fun _ => ⟨⟨_, rfl, fun _ => hij⟩, rfl⟩)
            refine ⟨_, rfl, rfl, _, rfl, ?_⟩
            show (if (!decide (V.int kd = V.int 1)) = true then _ else _)
            refine onbN (fun _ => ⟨⟨_, rfl, fun _ => hij⟩, rfl⟩) (fun _ => ?_)
            exact ⟨_, rfl, _, rfl, _, _, rfl, rfl, .inl ⟨_, rfl, _, _, rfl, rfl, (by show (2 : Int) ≠ 0; decide), rfl, ⟨_, rfl, fun _ => hij⟩, rfl⟩⟩
        rintro σ H7 ⟨⟨b, rfl, hb⟩, rfl⟩
        cases b with
        | false =>
          exact ⟨_, rfl, _, rfl, iteF (iteF ⟨_, _, ys, ps, rfl, e6, hT6, o6, of6, hfo6, hp6, D6.skip, by omega⟩)⟩
        | true =>
          have hij := hb rfl
          refine ⟨_, rfl, _, rfl, iteT ?_⟩
          refine ⟨_, rfl, _, rfl, T, th, rfl, by omega, by omega, hT6, fun r H8 r0 r1 e8 hT8 o8 => ⟨rfl, _, rfl, ?_⟩⟩
          have e68 := e6.trans e8
          have o68 := o6.trans e6 hT6 o8
          have of8 := o8 fo (by rw [hfo6]; exact Option.some_ne_none _) of6
          have hfo8 := e8 _ _ foT hfo6
          have hp8 := hp6.tk (hT6.tk e8)
          show (if decide (V.int r = V.int 0) = true then _ else _)
          refine onb (fun c => ?_) (fun c => ⟨_, _, ys, ps, rfl, e68, hT8, o68, of8, hfo8, hp8, D6.skip, by omega⟩)
          refine ⟨_, rfl, .inl ⟨rfl, _, SqL.of hfo8⟩, _, rfl, _, rfl, (by show 2 ≤ sizeLine; decide), fun q hq => ?_⟩
          have s9 := L2.Same.new (o := .tup [V.int (0 + (i : Nat)), .int (0 + (j : Nat))]) hq
          have qf : q ≠ fo := fun z => by rw [z, hfo8] at hq; cases hq
          have ylen : ys.length ≤ 1000 := by omega
          refine ⟨fo, ys, _, rfl, rfl, s9 _ _ hfo8, Nat.lt_of_le_of_lt ylen (by decide), ?_⟩
          have e69 := e68.trans s9.exT
          have hT9 := hT8.ext s9
          have of9 := of8.same hT8 s9
          have o69 := o68.trans e68 hT8 (OffK.same hT8 s9)
          refine ⟨_, _, ys ++ [.ref q], ps ++ [(((i : Nat) : Int), ((j : Nat) : Int))], rfl, e69.mut hfo0, hT9.upd foT of9, fun p h1 h2 => (o69 p h1 h2).upd foT, of9.upd foT, upd_same, ?_, D6.put ⟨by show (0 : Int) ≤ (i : Nat); omega, by show ((i : Nat) : Int) < n; omega, by show (0 : Int) ≤ (j : Nat); omega, by show ((j : Nat) : Int) < n; omega, by show ((i : Nat) : Int) ≠ (j : Nat); omega⟩, by rw [List.length_append]; show ys.length + 1 ≤ _; omega⟩
          refine Paired.app ?_ (.cons ⟨q, rfl, ?_⟩ .nil)
          · refine Paired.imp' (hp8.tk s9.tk) fun v p hv => ?_
            obtain ⟨a, e, ha⟩ := hv
            exact ⟨a, e, by rw [upd_ne (fun z => by rw [z, s9 _ _ hfo8] at ha; cases ha)]; exact ha⟩
          · rw [upd_ne qf, upd_same, Int.zero_add, Int.zero_add]
      · rintro σ H6 ⟨v6, v7, ys, ps, rfl, e6, hT6, o6, of6, hfo6, hp6, D6, l6⟩
        exact ⟨_, _, _, ys, ps, rfl, e6, hT6, o6, of6, hfo6, hp6, by have := D6.next (k := 0); simpa using this, by omega⟩
    · rintro σ H5 ⟨v5, v6, v7, ys, ps, rfl, e5, hT5, o5, of5, hfo5, hp5, D5, l5⟩
      refine ⟨_, rfl, fo, _, rfl, .inl ⟨SqL.of hfo5, fun q hq => ?_⟩⟩
      have s6 := L2.Same.new (o := .tup ys) hq
      exact k q ys ps _ (e5.trans s6.exT) (hT5.ext s6) (o5.trans e5 hT5 (OffK.same hT5 s6)) upd_same (hp5.tk s6.tk) ⟨D5.ok, D5.up⟩ (by omega)
end
end Bs

namespace Bs
open PySem PySem.Spec PyProof.Rows L2
noncomputable instance (p q : Int × Int) : Decidable (lt2 p q) := by unfold lt2; infer_instance
section
variable {P : Program} {w : World} {K : PySem.W.Frag} {mg : Str → Option Value} {base : Heap} {C CB CW D : Addr}
def sp_net_part (K : PySem.W.Frag) : Sp := fun vs H Q _ => ∃ (sv tv : V), vs = [sv, tv] ∧ Item K H sv ∧ ThT K H tv ∧ (∀ a, tv = .ref a → H a ≠ none) ∧
  (∀ y H', NBad H sv tv y → Same H H' → Q y H') ∧ (NetIs H sv tv → ∀ H', Same H H' → Q .non H')
abbrev s__law_net_part : Stmt := (top 28)
theorem sc__law_net_part : FnScope ["size", "arrows", "at", "item", "part"] ["size", "arrows"] (defScope s__law_net_part) := ⟨rfl, rfl, rfl, by decide +kernel, rfl, by decide +kernel, by decide +kernel⟩

theorem ok_law_net_part {f : Addr} {fd : FuncData} (F : Fun K "_law_net_part" "_law_net_part" s__law_net_part f fd) (hm : mg "_law_net_part" = some (.ref f)) (B : Bl mg) (c__law_is_int : Cal P w K mg base 1 "_law_is_int" ["thing"] (sp_isI K)) : Cal P w K mg base 3 "_law_net_part" ["size", "arrows"] (sp_net_part K) := by
  refine ⟨f, fd, F.ok sc__law_net_part (fun vs H Q E h => ?_) (fun cdv A outer s H vs Q E hr h => ?_), hm, F.kp, F.binds (ps := ["size", "arrows"]) fun _ _ _ _ _ _ us hl => match us, hl with | [_, _], _ => rfl⟩
  · obtain ⟨sv, tv, rfl, _⟩ := h; rfl
  · obtain ⟨sv, tv, rfl, iS, tT, hv, kB, kW⟩ := h
    refine ⟨_, (pss_cons (ps_if (PW.pt (pw_or (pt_not (pt_val (pe_cal c__law_is_int (hr.mono (by first | decide | omega)) (pa_cons (pv 0) pa_nil)))) (pw_or1 (pt_not (pt_chain op_le op_le pe_int (pv 0) pe_int))))) (pss_one (ps_ret pe_str)) pss_nil)
 (pss_cons (ps_if (pt_not (pt_val (pe_callB call_isi (by rfl) B.isinstance (by decide +kernel) (pa_cons (pv 1) (pa_cons (pe_bltn (v := .ty "tuple") (by rfl) B.tuple_ (by decide +kernel) rfl) pa_nil))))) (pss_one (ps_ret pe_str)) pss_nil)
 (pss_cons (ps_for PassesOwn.never rfl (pi_range1 (by rfl) B.range (pa_cons (pe_callB call_len_seq (by rfl) B.len (by decide +kernel) (pa_cons (pv 1) pa_nil)) pa_nil)) (pg_name (i := 2) sc__law_net_part.nd rfl (by first | exact Or.inl rfl | exact Or.inr rfl))
  (pss_cons (ps_set (i := 3) sc__law_net_part.nd rfl (by first | exact Or.inl rfl | exact Or.inr rfl) (pe_ix ix_tup (pv 1) (pv 2) (fun _ _ => rfl)))
 (pss_cons (ps_if (PW.pt (pw_or (pt_not (pt_val (pe_callB call_isi (by rfl) B.isinstance (by decide +kernel) (pa_cons (pv 3) (pa_cons (pe_bltn (v := .ty "tuple") (by rfl) B.tuple_ (by decide +kernel) rfl) pa_nil))))) (pw_or1 (pt_cmpR op_ne (pe_callB call_len_seq (by rfl) B.len (by decide +kernel) (pa_cons (pv 3) pa_nil)) pe_int (nomark _))))) (pss_one (ps_ret (pv 2))) pss_nil)
 (pss_cons (ps_if (PW.pt (pw_or (pt_not (pt_val (pe_callB (cr_all rfl) (by rfl) B.all (by decide +kernel) (pa_cons (pe_lc (own := [("part", 4)]) (by rfl) sc__law_net_part.nd (pi_tup (pv 3)) (blkOk_by (own := [("part", 4)]) (N := ["size", "arrows", "at", "item", "part"]) (sc := defScope s__law_net_part) (by decide +kernel)) (fun _ _ _ _ _ => (pg_name (i := 4) sc__law_net_part.nd rfl (by first | exact Or.inl rfl | exact Or.inr rfl))) (fun _ _ _ _ _ => pts_nil) (fun _ _ _ _ _ => (pe_and (pe_cal c__law_is_int (hr.mono (by first | decide | omega)) (pa_cons (pv 4) pa_nil)) (pe_one (pe_chain op_le op_lt pe_int (pv 4) (pv 0)))))) pa_nil)))) (pw_or1 (pt_cmpR op_eq (pe_ix ix_tup (pv 3) pe_int (fun _ _ => rfl)) (pe_ix ix_tup (pv 3) pe_int (fun _ _ => rfl)) (nomark _))))) (pss_one (ps_ret (pv 2))) pss_nil)
 (pss_one (ps_if (PW.pt (pw_and (pt_cmpR op_gt (pv 2) pe_int (nomark _)) (pw_and1 (pt_not (pt_cmpR (op_ltT hr.units0) (pe_ix ix_tup (pv 1) (pe_op op_sub (pv 2) pe_int) (fun _ _ => rfl)) (pv 3) (nomark _)))))) (pss_one (ps_ret (pv 2))) pss_nil))))))
 (pss_one (ps_ret pe_non))))), ?_⟩
    refine ⟨_, rfl, sv, rfl, iS, isI sv, rfl, ?_⟩
    cases c : isI sv with
    | false => exact iteT (iteT (kB _ H (.inl ⟨inI_els c, rfl⟩) (L2.Same.refl H)))
    | true =>
      obtain ⟨n, rfl⟩ : ∃ n, sv = .int n := by cases sv <;> first | exact ⟨_, rfl⟩ | cases c
      refine iteF ?_
      refine ⟨_, rfl, _, _, rfl, rfl, _, rfl, ?_⟩
      by_cases h1 : (1 : Int) ≤ n
      · rw [if_pos (decide_eq_true h1)]
        refine ⟨_, _, rfl, rfl, _, rfl, ?_⟩
        show (if (!decide (n ≤ 12)) = true then _ else _)
        refine onbN (fun h2 => kB _ H (.inl ⟨decide_eq_false (fun h => h2 h.2), rfl⟩) (L2.Same.refl H)) (fun h2 => ?_)
        have c12 : inI 1 12 (.int n) = true := decide_eq_true ⟨h1, h2⟩
        cases tT with
        | els h hn =>
          obtain ⟨t, ty, hk⟩ := h
          exact ⟨_, rfl, _, _, _, _, false, rfl, .ty "tuple", ty, hk, false, rfl, iteT (kB _ H (.inr (.inl ⟨c12, hn, rfl⟩)) (L2.Same.refl H))⟩
        | @tup t xs ht hth hlen =>
          refine ⟨_, rfl, _, _, _, _, true, rfl, .ty "tuple", .base (.tup ht), kit_ty (by decide +kernel), true, rfl, iteF ?_⟩
          refine ⟨_, rfl, t, _, rfl, .inr (SqT.of ht), _, rfl, by omega, by omega, for_range (lo := 0) (n := ((xs.length : Nat) : Int).toNat) (fun i σ H' => Same H H' ∧ OkA H n xs i ∧ ∃ v2 v3 : Option V, σ = [some (.int n), some (.ref t), v2, v3, none])
            ⟨L2.Same.refl H, ⟨[], .nil, ⟨fun p h => by simp at h, .nil⟩⟩, none, none, rfl⟩ ?_ ?_⟩
          · rintro i σ H1 hi ⟨e1, ok, v2, v3, rfl⟩
            have hi' : i < xs.length := by omega
            have hx : xs[i]? = some xs[i] := List.getElem?_eq_getElem hi'
            refine ⟨_, rfl, _, rfl, t, xs, _, _, rfl, rfl, SqT.of (e1 _ _ ht), at_of (j := i) (by omega) hx, ?_⟩
            have hmem := List.mem_of_getElem? hx
            generalize xs[i] = x at hx hmem ⊢
            have th0 := hth x hmem
            have th := th0.ext e1
            have e0i : (0 : Int) + (i : Nat) = (i : Nat) := Int.zero_add _
            have bad : ∀ H', Same H H' → ¬ OkA H n xs (i + 1) → Q (.int (0 + (i : Nat))) H' := fun H' e nok => by
              rw [e0i]
              exact kB _ H' (.inr (.inr ⟨n, t, xs, i, rfl, h1, h2, rfl, ht, hi', ok, nok, rfl⟩)) e
            obtain ⟨ps, hps, G⟩ := id ok
            have noT : (¬ ∃ p, ArrV H n x p) → ¬ OkA H n xs (i + 1) := fun h => by
              rintro ⟨qs, hqs, Gq⟩
              obtain ⟨p, hp, rfl⟩ := pairs_last hps hx hqs
              exact h ⟨p, hp, (goodA_init Gq).1⟩
            have noT1 : (¬ ∃ p, ArrV H1 n x p) → ¬ ∃ p, ArrV H n x p := fun h ⟨p, h3, h4⟩ => h ⟨p, h3.tk e1.tk, h4⟩
            have thT := th.1
            cases thT with
            | els hh hn =>
              obtain ⟨ty0, ty, hk⟩ := hh
              exact ⟨_, rfl, _, _, _, _, false, rfl, .ty "tuple", ty, hk, false, rfl, iteT (iteT ⟨_, rfl, bad H1 e1 (noT (noT1 fun ⟨p, ⟨a, e, q⟩, _⟩ => hn _ _ e q))⟩)⟩
            | @tup a ys ha hys hyl =>
              refine ⟨_, rfl, _, _, _, _, true, rfl, .ty "tuple", .base (.tup ha), kit_ty (by decide +kernel), true, rfl, iteF ?_⟩
              refine ⟨_, rfl, a, _, rfl, .inr (SqT.of ha), rfl, _, rfl, ?_⟩
              by_cases c2 : ys.length = 2
              · refine iteNS (by rw [c2]; rfl) ?_
                obtain ⟨y, z, rfl⟩ : ∃ y z, ys = [y, z] := match ys, c2 with | [y, z], _ => ⟨y, z, rfl⟩
                have isP : ∀ p, ArrV H1 n (.ref a) p → y = .int p.1 ∧ z = .int p.2 := fun p ⟨⟨a', e, q⟩, _⟩ => by
                  cases e; rw [ha] at q; cases q; exact ⟨rfl, rfl⟩
                refine ⟨_, rfl, a, rfl, ⟨_, SqT.of ha⟩, fun D hD => lc_data walk_tup [y, z] rfl (fun _ => true) (fun _ v x => v = .bl (inI 0 (n - 1) x)) (fun _ _ _ _ _ q => q) hD (fun H' e => SqT.of (e _ _ ha)) (Nat.lt_of_le_of_lt hyl (by decide)) ?_ (fun _ _ _ _ _ y => yat_same y) ?_⟩
                · rintro i' x v H3 H4 Ny Nn hxi e3 ⟨rfl, hv⟩ kE kN
                  rw [hxi] at hv
                  cases hv
                  have iv := (hys x (List.mem_of_getElem? hxi)).ext e3
                  refine ⟨rfl, yes_if ?_⟩
                  refine ⟨_, rfl, x, rfl, iv, isI x, rfl, ?_⟩
                  cases c : isI x with
                  | false => exact iteF (kE _ _ rfl (L2.Same.refl _) (by rw [inI_els c]))
                  | true =>
                    obtain ⟨j, rfl⟩ : ∃ j, x = .int j := by cases x <;> first | exact ⟨_, rfl⟩ | cases c
                    refine iteT ?_
                    refine ⟨_, rfl, _, _, rfl, rfl, _, rfl, ?_⟩
                    by_cases h1 : 0 ≤ j
                    · rw [if_pos (decide_eq_true h1)]
                      refine ⟨_, rfl, _, _, rfl, rfl, kE _ _ rfl (L2.Same.refl _) ?_⟩
                      show V.bl (decide (j < n)) = V.bl (decide (0 ≤ j ∧ j ≤ n - 1))
                      congr 1
                      exact dec_iff ⟨fun h => ⟨h1, by omega⟩, fun h => by omega⟩
                    · rw [if_neg (by simpa using h1)]
                      refine kE _ _ rfl (L2.Same.refl _) ?_
                      show V.bl false = V.bl (decide (0 ≤ j ∧ j ≤ n - 1))
                      rw [decide_eq_false (fun h => h1 h.1)]
                · intro bs H2 e2 hbs hpr
                  have e12 := e1.trans e2
                  have ey := paired_eq (g := fun x : V => V.bl (inI 0 (n - 1) x)) hpr
                  rw [filter_yes] at ey
                  have ey2 : bs = ([y, z].map (inI 0 (n - 1))).map V.bl := by rw [ey, List.map_map]; rfl
                  subst ey2
                  refine ⟨D, _, rfl, SqL.of hbs, _, rfl, ?_⟩
                  cases cA : ([y, z].map (inI 0 (n - 1))).all id with
                  | false =>
                    refine iteT (iteT ⟨_, rfl, bad H2 e12 (noT (noT1 fun ⟨p, hp⟩ => ?_))⟩)
                    obtain ⟨rfl, rfl⟩ := isP p hp
                    have g1 : inI 0 (n - 1) (.int p.1) = true := decide_eq_true ⟨hp.2.1, by have := hp.2.2.1; omega⟩
                    have g2 : inI 0 (n - 1) (.int p.2) = true := decide_eq_true ⟨hp.2.2.2.1, by have := hp.2.2.2.2.1; omega⟩
                    simp [g1, g2] at cA
                  | true =>
                    refine iteF ?_
                    have cB : inI 0 (n - 1) y = true ∧ inI 0 (n - 1) z = true := by simpa using cA
                    obtain ⟨i0, rfl, i1, i2⟩ := inI_ex cB.1
                    obtain ⟨j0, rfl, j1, j2⟩ := inI_ex cB.2
                    have ha2 := e2 _ _ ha
                    refine ⟨_, rfl, a, [.int i0, .int j0], _, _, rfl, rfl, SqT.of ha2, at_of (j := 0) rfl rfl, _, rfl, a, [.int i0, .int j0], _, _, rfl, rfl, SqT.of ha2, at_of (j := 1) rfl rfl, rfl, _, rfl, ?_⟩
                    show (if decide (V.int i0 = V.int j0) = true then _ else _)
                    refine onb (fun cE => ⟨_, rfl, bad H2 e12 (noT (noT1 fun ⟨p, hp⟩ => ?_))⟩) (fun cE => ?_)
                    · obtain ⟨q1, q2⟩ := isP p hp
                      injection cE with cE
                      injection q1 with q1
                      injection q2 with q2
                      exact hp.2.2.2.2.2 (by rw [← q1, ← q2]; exact cE)
                    have hp0 : 0 ≤ i0 ∧ i0 < n ∧ 0 ≤ j0 ∧ j0 < n ∧ i0 ≠ j0 := ⟨i1, by omega, j1, by omega, fun e => cE (by rw [e])⟩
                    have hp : PairAt H (.ref a) (i0, j0) := pair_back th0 e1 ⟨a, rfl, ha⟩
                    have plen : ps.length = i := by have := Paired.len hps; rw [List.length_take] at this; omega
                    have good : (∀ q ∈ ps, lt2 q (i0, j0)) → OkA H n xs (i + 1) := fun h => ⟨ps ++ [(i0, j0)], pairs_snoc hps hx hp, goodA_snoc G hp0 h⟩
                    refine ⟨_, rfl, _, _, rfl, rfl, _, rfl, ?_⟩
                    by_cases ci : 0 < i
                    · rw [decide_eq_true (show (0 : Int) + (i : Nat) > 0 by omega)]
                      refine iteT ?_
                      obtain ⟨j, rfl⟩ : ∃ j, i = j + 1 := ⟨i - 1, by omega⟩
                      have hxj : xs[j]? = some xs[j] := List.getElem?_eq_getElem (by omega)
                      obtain ⟨q, hq1, hq2⟩ := Paired.get hps (show (xs.take (j + 1))[j]? = some xs[j] by rw [List.getElem?_take, if_pos (Nat.lt_succ_self j)]; exact hxj)
                      obtain ⟨a', ea', hq3⟩ := id hq2
                      refine ⟨_, rfl, _, rfl, _, _, rfl, rfl, t, xs, _, _, rfl, rfl, SqT.of (e12 _ _ ht), at_of (j := j) (by omega) hxj, ?_⟩
                      rw [ea']
                      refine ⟨_, rfl, a', a, [q.1, q.2], [i0, j0], rfl, rfl, SqT.of (e12 _ _ hq3), SqT.of ha2, _, rfl, ?_⟩
                      have elx : HT.lexLt [q.1, q.2] [i0, j0] = decide (lt2 q (i0, j0)) := by
                        show (if q.1 = i0 then (if q.2 = j0 then false else decide (q.2 < j0)) else decide (q.1 < i0)) = _
                        unfold lt2
                        by_cases x1 : q.1 = i0
                        · rw [if_pos x1]
                          by_cases x2 : q.2 = j0
                          · rw [if_pos x2]; exact (decide_eq_false (by show ¬ (q.1 < i0 ∨ q.1 = i0 ∧ q.2 < j0); omega)).symm
                          · rw [if_neg x2]; exact decide_eq_decide.mpr (by show q.2 < j0 ↔ (q.1 < i0 ∨ q.1 = i0 ∧ q.2 < j0); omega)
                        · rw [if_neg x1]; exact decide_eq_decide.mpr (by show q.1 < i0 ↔ (q.1 < i0 ∨ q.1 = i0 ∧ q.2 < j0); omega)
                      rw [elx]
                      have hall : lt2 q (i0, j0) → ∀ r ∈ ps, lt2 r (i0, j0) := fun hl r hr => by
                        obtain ⟨m, hm, rfl⟩ := List.mem_iff_getElem.mp hr
                        have hj : j < ps.length := by omega
                        have eq : ps[j] = q := (List.getElem?_eq_some_iff.mp hq1).2
                        by_cases em : m = j
                        · subst em; rw [eq]; exact hl
                        · have := List.pairwise_iff_getElem.mp G.up m j hm hj (by omega)
                          rw [eq] at this
                          exact lt2_trans this hl
                      show (if (!decide (lt2 q (i0, j0))) = true then _ else _)
                      refine onbN (fun hl => ⟨_, rfl, bad H2 e12 ?_⟩) (fun hl => ⟨e12, good (hall hl), _, _, rfl⟩)
                      rintro ⟨rs, hrs, Gr⟩
                      obtain ⟨p', hp', rfl⟩ := pairs_last hps hx hrs
                      have : p' = (i0, j0) := hp'.inj hp
                      subst this
                      exact hl ((goodA_init Gr).2 q (List.mem_of_getElem? hq1))
                    · rw [decide_eq_false (show ¬ (0 : Int) + (i : Nat) > 0 by omega)]
                      have : ps = [] := List.length_eq_zero_iff.mp (by omega)
                      subst this
                      exact iteF (iteF ⟨e12, good (by simp), _, _, rfl⟩)
              · have : (!decide (V.int (ys.length : Int) = V.int 2)) = true := by simp; intro e; injection e with e; omega
                rw [this]
                exact iteT ⟨_, rfl, bad H1 e1 (noT (noT1 fun ⟨p, ⟨a', e, q⟩, _⟩ => by cases e; rw [ha] at q; cases q; exact c2 rfl))⟩
          · rintro σ H1 ⟨e1, ok, v2, v3, rfl⟩
            rw [Int.toNat_natCast] at ok
            exact kW ⟨n, t, xs, rfl, h1, h2, rfl, ht, ok⟩ H1 e1
      · rw [if_neg (by simpa using h1)]
        exact ⟨_, rfl, iteT (kB _ H (.inl ⟨decide_eq_false (fun h => h1 h.1), rfl⟩) (L2.Same.refl H))⟩
end
end Bs

namespace Bs
open PySem PySem.Spec PyProof.Rows L2
section
variable {P : Program} {w : World} {K : PySem.W.Frag} {mg : Str → Option Value} {base : Heap} {C CB CW D : Addr}
theorem nbad_dp {K : PySem.W.Frag} {H : Hp} {sv tv y : V} (h : NBad H sv tv y) : ∃ d, (∀ H', Dp K H' y d) ∧ SeqAt.shaped (.tuple [.str "bad", d, .bool true]) = true ∧ PyData.eqv (.tuple [.str "bad", d, .bool true]) (.tuple [.str "bad", d, .bool true]) = true := by
  rcases h with ⟨_, rfl⟩ | ⟨_, _, rfl⟩ | ⟨_, _, _, i, _, _, _, _, _, _, _, _, rfl⟩
  · exact ⟨_, fun _ => .str _, by decide +kernel, by decide +kernel⟩
  · exact ⟨_, fun _ => .str _, by decide +kernel, by decide +kernel⟩
  · refine ⟨.int i, fun _ => .int _, ?_, by simp [PyData.eqv, PyData.eqvAll]⟩
    show (PyData.canLay0 (.tuple [.str "bad", .int i, .bool true]) && decide (PyData.depth (.tuple [.str "bad", .int i, .bool true]) ≤ 64)) = true
    simp [PyData.canLay0, PyData.canLayAll0, PyData.depth, PyData.depthAll]
    decide +kernel
def sp_net_told (K : PySem.W.Frag) : Sp := fun vs H Q _ => ∃ (sv tv : V), vs = [sv, tv] ∧ Item K H sv ∧ ThT K H tv ∧ (∀ a, tv = .ref a → H a ≠ none) ∧
  (∀ y p H', NBad H sv tv y → Same H H' → H' p = some (.tup [.str "bad", y, .bl true]) → Q (.ref p) H') ∧
  (NetIs H sv tv → ∀ p H', Same H H' → H' p = some (.tup [.str "net", sv, tv]) → Q (.ref p) H')
abbrev s__law_net_told : Stmt := (top 29)
theorem sc__law_net_told : FnScope ["size", "arrows", "net", "told", "e"] ["size", "arrows"] (defScope s__law_net_told) := ⟨rfl, rfl, rfl, by decide +kernel, rfl, by decide +kernel, by decide +kernel⟩

theorem ok_law_net_told {f fW fI : Addr} {fd fdW fdI : FuncData} (F : Fun K "_law_net_told" "_law_net_told" s__law_net_told f fd) (hm : mg "_law_net_told" = some (.ref f)) (B : Bl mg) (T : TxtN K mg C) (BT : BadT P w K mg base CB fI fdI) (M : Mk K C fW) (FW : FnOk P w K mg base (L2.CX P w) 5 fW fdW ["self", "size", "arrows"] (sp_Net_initX K C CB)) (bW : Binds K fdW ["self", "size", "arrows"] [])
    (hW : mg "WebError" = some (.ref CW)) (hV : mg "ValueError" = none) (XF : XfC K CB) (EC : ExcC K CB) (ex : PySem.W.exmOne K (.ref CB) (.ref CB) = some true) (kw : PySem.W.kitOne K (.ref CB) (.ref CW) = some true) (kv : PySem.W.kitOne K (.ref CB) (.type "ValueError") = some true) : Cal P w K mg base 7 "_law_net_told" ["size", "arrows"] (sp_net_told K) := by
  refine ⟨f, fd, F.ok sc__law_net_told (fun vs H Q E h => ?_) (fun cdv A outer s H vs Q E hr h => ?_), hm, F.kp, F.binds (ps := ["size", "arrows"]) fun _ _ _ _ _ _ us hl => match us, hl with | [_, _], _ => rfl⟩
  · obtain ⟨sv, tv, rfl, _⟩ := h; rfl
  · obtain ⟨sv, tv, rfl, iS, tT, hv, kB, kW⟩ := h
    refine ⟨_, (pss_cons (ps_try_as (i := 4) (tb := fun W => tSeq (tAsg (tMakeS C (sp_Net_initX K C CB) (WE W) (tCons (tVar 0) (tCons (tVar 1) tNil))) (gName 2)) (tAsg (tTup (tCons (tC (.str "net")) (tCons (tFld K (tVar 2) "size") (tCons (tFld K (tVar 2) "arrows") tNil)))) (gName 3)))
  (ts := fun a cls d => tAsg (tTup (tCons (tC (.str "bad")) (tCons (tXf a cls d CB "part" (tVar 4)) (tCons (tAndV (tCB (rIsEg K cls d a) (tCons (tVar 4) (tCons (tC (.ref CW)) tNil))) (tCB (rIsEg K cls d a) (tCons (tVar 4) (tCons (tC (.ty "ValueError")) tNil)))) tNil)))) (gName 3)) (Wout := fun _ _ _ _ => False) rfl rfl sc__law_net_told.nd rfl rfl ⟨rfl, by decide, Or.inl BT.g⟩ takes0
  (fun W pn xe tk _ => pss_cons (ps_set (i := 2) sc__law_net_told.nd rfl (Or.inl rfl) (by exact (pe_makeS M FW (hr.mono (by decide)) T.mg_Net bW (fun σ => passAt tk σ) (by exact (pa_cons (pv 0) (pa_cons (pv 1) pa_nil)))))) (pss_one (ps_set (i := 3) sc__law_net_told.nd rfl (Or.inl rfl) (by exact (pe_tup (pa_cons pe_str (pa_cons (pe_fld (pv 2) rfl) (pa_cons (pe_fld (pv 2) rfl) pa_nil))))))))
  (fun a oe cls d pn hz hf => by exact (pss_one (ps_set (i := 3) sc__law_net_told.nd rfl (by first | exact Or.inl rfl | exact Or.inr rfl) (pe_tup (pa_cons pe_str (pa_cons (pe_xf XF BT.no hz hf (pv 4)) (pa_cons (pe_and (pe_callB (call_isEg hz hf) (by rfl) B.isinstance (by decide +kernel) (pa_cons (pv 4) (pa_cons (pe_globR hW) pa_nil))) (pe_one (pe_callB (call_isEg hz hf) (by rfl) B.isinstance (by decide +kernel) (pa_cons (pv 4) (pa_cons (pe_bltn (v := .ty "ValueError") (by rfl) hV (by decide +kernel) rfl) pa_nil))))) pa_nil))))))))
 (pss_one (ps_ret (pv 3)))), ?_⟩
    refine ⟨_, rfl, _, rfl, fun x dx nx nd ne => ?_⟩
    have s0 : Same H (upd (upd H dx (.own x)) x (.ins C dx [])) := (L2.Same.new nd).trans (L2.Same.new (by rw [upd_ne (Ne.symm ne)]; exact nx))
    refine ⟨x, dx, sv, tv, rfl, upd_same, iS.ext s0, tT.ext s0 hv, fun y d H' hb e hd hx => ?_, fun hw H' e hx => ⟨rfl, ?_⟩⟩
    · have eS : Same H H' := s0.trans e
      refine ⟨true, ex, fun _ a ha => ?_, fun q => Bool.noConfusion q⟩
      refine ⟨_, rfl, rfl, rfl, d, _, y, rfl, hx, by simp [List.lookup], ?_⟩
      refine ⟨_, rfl, CB, .ref CW, .ref CW, true, rfl, EC, .inr ⟨d, _, rfl, hx⟩, rfl, fun u hu => hu, kw, _, rfl, iteT ?_⟩
      refine ⟨_, rfl, CB, .ty "ValueError", .type "ValueError", true, rfl, EC, .inr ⟨d, _, rfl, hx⟩, rfl, fun u hu => hu, kv, (by show 3 ≤ sizeLine; decide), fun p hp => ?_⟩
      exact ⟨_, rfl, kB y p _ (nbad_back tT hv s0 hb) (eS.new' hp) upd_same⟩
    · have eS : Same H H' := fun b o hb => e _ _ (ne_of_none hb nx) (s0 _ _ hb)
      refine ⟨_, rfl, x, C, dx, _, _, rfl, hx, T.cl, T.nSize, nfV_size sv tv, _, rfl, x, C, dx, _, _, rfl, hx, T.cl, T.nArrows, nfV_arrows sv tv, (by show 3 ≤ sizeLine; decide), fun p hp => ?_⟩
      exact ⟨_, rfl, kW (net_back tT hv s0 hw) p _ (eS.new' hp) upd_same⟩
def sp_tiesP : Sp := fun vs H Q _ => ∃ (T : Addr) (n : Int), vs = [.ref T, .int n] ∧ Sr H T ∧ 1 ≤ n ∧ n ≤ 24 ∧ ∀ t xs ps H', ExT T H H' → Sr H' T → OffK T H H' → H' t = some (.tup xs) → Pairs H' xs ps → Good n ps → xs.length ≤ 600 → Q (.ref t) H'
abbrev s__law_ties : Stmt := (top 24)
theorem sc__law_ties : FnScope ["pool", "size", "thin", "turned", "found", "one", "other"] ["pool", "size"] (defScope s__law_ties) := ⟨rfl, rfl, rfl, by decide +kernel, rfl, by decide +kernel, by decide +kernel⟩

theorem ok_law_ties {f : Addr} {fd : FuncData} (F : Fun K "_law_ties" "_law_ties" s__law_ties f fd) (hm : mg "_law_ties" = some (.ref f)) (B : Bl mg) (c__law_draw : Cal P w K mg base 1 "_law_draw" ["pool", "many"] spDraw) (c__law_pick : Cal P w K mg base 2 "_law_pick" ["pool", "things"] sp_pick) : Cal P w K mg base 3 "_law_ties" ["pool", "size"] sp_tiesP := by
  refine ⟨f, fd, F.ok sc__law_ties (fun vs H Q E h => ?_) (fun cdv A outer s H vs Q E hr h => ?_), hm, F.kp, F.binds (ps := ["pool", "size"]) fun _ _ _ _ _ _ us hl => match us, hl with | [_, _], _ => rfl⟩
  · obtain ⟨T, n, rfl, _⟩ := h; rfl
  · obtain ⟨T, n, rfl, hT, n1, n2, k⟩ := h
    refine ⟨_, (pss_cons (ps_set (i := 2) sc__law_ties.nd rfl (by first | exact Or.inl rfl | exact Or.inr rfl) (pe_cal c__law_pick (hr.mono (by first | decide | omega)) (pa_cons (pv 0) (pa_cons (pe_lst (pa_cons pe_int (pa_cons pe_int (pa_cons pe_int (pa_cons pe_int pa_nil))))) pa_nil))))
 (pss_cons (ps_set (i := 3) sc__law_ties.nd rfl (by first | exact Or.inl rfl | exact Or.inr rfl) (pe_cmpR op_eq (pe_cal c__law_draw (hr.mono (by first | decide | omega)) (pa_cons (pv 0) (pa_cons pe_int pa_nil))) pe_int (nomark _)))
 (pss_cons (ps_set (i := 4) sc__law_ties.nd rfl (by first | exact Or.inl rfl | exact Or.inr rfl) (pe_lst pa_nil))
 (pss_cons (ps_for PassesOwn.never rfl (pi_range1 (by rfl) B.range (pa_cons (pv 1) pa_nil)) (pg_name (i := 5) sc__law_ties.nd rfl (by first | exact Or.inl rfl | exact Or.inr rfl))
  (pss_one (ps_for PassesOwn.never rfl (pi_range2 (by rfl) B.range (pa_cons (pe_op op_add (pv 5) pe_int) (pa_cons (pv 1) pa_nil))) (pg_name (i := 6) sc__law_ties.nd rfl (by first | exact Or.inl rfl | exact Or.inr rfl))
  (pss_one (ps_if (pt_cmpR op_ne (pe_cmpR op_eq (pe_cal c__law_draw (hr.mono (by first | decide | omega)) (pa_cons (pv 0) (pa_cons (pv 2) pa_nil))) pe_int (nomark _)) (pv 3) (nomark _)) (pss_one (ps_expr (pe_bm PySem.F.plainAttrs_list PySem.F.slot_list_append PySem.F.type_list_append mt_append (pv 4) (pa_cons (pe_tup (pa_cons (pv 5) (pa_cons (pv 6) pa_nil))) pa_nil)))) pss_nil)))))
 (pss_one (ps_ret (pe_callTy call_tuple_of (by rfl) B.tuple_ (by decide +kernel) (pa_cons (pv 4) pa_nil)))))))), ?_⟩
    refine ⟨_, rfl, (by show 4 ≤ sizeLine; decide), fun L hL => ?_⟩
    have s1 := L2.Same.new (o := .lst [V.int 2, .int 2, .int 3, .int 4]) hL
    refine ⟨T, L, _, rfl, hT.ext s1, upd_same, hT.neT hL, (by show 1 ≤ 4; decide), (by show 4 ≤ 1000; decide), fun i0 v H2 hv e2 hT2 o2 => ?_⟩
    obtain ⟨th, rfl, th1, th2⟩ : ∃ th : Int, v = .int th ∧ 0 < th ∧ th < 1000 := by
      match i0, hv with
      | 0, hv => cases hv; exact ⟨2, rfl, by decide, by decide⟩
      | 1, hv => cases hv; exact ⟨2, rfl, by decide, by decide⟩
      | 2, hv => cases hv; exact ⟨3, rfl, by decide, by decide⟩
      | 3, hv => cases hv; exact ⟨4, rfl, by decide, by decide⟩
      | i + 4, hv => simp at hv
    refine ⟨_, rfl, T, 3, rfl, by decide, by decide, hT2, fun kd H3 k0 k4 e3 hT3 o3 => ⟨rfl, ?_⟩⟩
    have e13 : ExT T H H3 := (s1.exT.trans e2).trans e3
    have o13 : OffK T H H3 := ((OffK.same hT s1).trans s1.exT (hT.ext s1) o2).trans (s1.exT.trans e2) hT2 o3
    refine ⟨Nat.zero_le _, fun fo hfo => ?_⟩
    have foT := hT3.neT hfo
    have hfo0 : H fo = none := ExT.free e13 foT hfo
    have s4 := L2.Same.new (o := .lst []) hfo
    have of4 := (hT3.off hfo).same hT3 s4
    have o14 := o13.trans e13 hT3 (OffK.same hT3 s4)
    generalize hbt : decide (V.int kd = V.int 0) = bt
    refine ⟨_, rfl, _, rfl, by omega, by omega, for_range (lo := 0) (n := n.toNat) (fun i σ H' => ∃ (v5 v6 : Option V) (ys : List V) (ps : List (Int × Int)), σ = [some (.ref T), some (.int n), some (.int th), some (.bl bt), some (.ref fo), v5, v6] ∧ ExT T H H' ∧ Sr H' T ∧ OffK T H H' ∧ Off H' T fo ∧ H' fo = some (.lst ys) ∧ Pairs H' ys ps ∧ Dr (fun p => 0 ≤ p.1 ∧ p.1 < p.2 ∧ p.2 < n) (i : Nat) 0 ps ∧ ys.length ≤ 24 * i)
      ⟨none, none, [], [], rfl, e13.trans s4.exT, hT3.ext s4, o14, of4, upd_same, .nil, .nil, by simp⟩ ?_ ?_⟩
    · rintro i σ H5 hi ⟨v5, v6, ys, ps, rfl, e5, hT5, o5, of5, hfo5, hp5, D5, l5⟩
      refine ⟨_, rfl, _, _, rfl, rfl, _, rfl, _, _, rfl, ⟨by omega, by omega, by omega, by omega⟩, for_range (lo := 0 + (i : Nat) + 1) (n := (n - (0 + (i : Nat) + 1)).toNat) (fun j σ H' => ∃ (v6 : Option V) (ys : List V) (ps : List (Int × Int)), σ = [some (.ref T), some (.int n), some (.int th), some (.bl bt), some (.ref fo), some (.int (0 + (i : Nat))), v6] ∧ ExT T H H' ∧ Sr H' T ∧ OffK T H H' ∧ Off H' T fo ∧ H' fo = some (.lst ys) ∧ Pairs H' ys ps ∧ Dr (fun p => 0 ≤ p.1 ∧ p.1 < p.2 ∧ p.2 < n) (i : Nat) ((i : Nat) + 1 + (j : Nat)) ps ∧ ys.length ≤ 24 * i + j)
        ⟨_, ys, ps, rfl, e5, hT5, o5, of5, hfo5, hp5, ⟨D5.ok, fun p hp => by have := D5.bel p hp; omega, D5.up⟩, l5⟩ ?_ ?_⟩
      · rintro j σ H6 hj ⟨v6, ys, ps, rfl, e6, hT6, o6, of6, hfo6, hp6, D6, l6⟩
        refine ⟨_, rfl, _, rfl, T, th, rfl, by omega, by omega, hT6, fun r H8 r0 r1 e8 hT8 o8 => ⟨rfl, _, rfl, rfl, _, rfl, ?_⟩⟩
        have e68 := e6.trans e8
        have o68 := o6.trans e6 hT6 o8
        have of8 := o8 fo (by rw [hfo6]; exact Option.some_ne_none _) of6
        have hfo8 := e8 _ _ foT hfo6
        have hp8 := hp6.tk (hT6.tk e8)
        have Ds : Dr (fun p => 0 ≤ p.1 ∧ p.1 < p.2 ∧ p.2 < n) (i : Nat) ((i : Nat) + 1 + ((j + 1 : Nat) : Int)) ps := ⟨D6.ok, fun p hp => by have := D6.bel p hp; omega, D6.up⟩
        show (if (!decide (V.bl (decide (V.int r = V.int 0)) = V.bl bt)) = true then _ else _)
        refine onbN (fun c => ?_) (fun c => ⟨_, ys, ps, rfl, e68, hT8, o68, of8, hfo8, hp8, Ds, by omega⟩)
        refine ⟨_, rfl, .inl ⟨rfl, _, SqL.of hfo8⟩, _, rfl, _, rfl, (by show 2 ≤ sizeLine; decide), fun q hq => ?_⟩
        have s9 := L2.Same.new (o := .tup [V.int (0 + (i : Nat)), .int (0 + (i : Nat) + 1 + (j : Nat))]) hq
        have qf : q ≠ fo := fun z => by rw [z, hfo8] at hq; cases hq
        have ylen : ys.length ≤ 1000 := by omega
        refine ⟨fo, ys, _, rfl, rfl, s9 _ _ hfo8, Nat.lt_of_le_of_lt ylen (by decide), ?_⟩
        have e69 := e68.trans s9.exT
        have hT9 := hT8.ext s9
        have of9 := of8.same hT8 s9
        have o69 := o68.trans e68 hT8 (OffK.same hT8 s9)
        have Dp' := D6.put (c := fun p => 0 ≤ p.1 ∧ p.1 < p.2 ∧ p.2 < n) ⟨by show (0 : Int) ≤ (i : Nat); omega, by show ((i : Nat) : Int) < (i : Nat) + 1 + (j : Nat); omega, by show ((i : Nat) : Int) + 1 + (j : Nat) < n; omega⟩
        refine ⟨_, ys ++ [.ref q], ps ++ [(((i : Nat) : Int), ((i : Nat) : Int) + 1 + (j : Nat))], rfl, e69.mut hfo0, hT9.upd foT of9, fun p h1 h2 => (o69 p h1 h2).upd foT, of9.upd foT, upd_same, ?_, ⟨Dp'.ok, fun p hp => by have := Dp'.bel p hp; omega, Dp'.up⟩, by rw [List.length_append]; show ys.length + 1 ≤ _; omega⟩
        refine Paired.app ?_ (.cons ⟨q, rfl, ?_⟩ .nil)
        · refine Paired.imp' (hp8.tk s9.tk) fun v p hv => ?_
          obtain ⟨a, e, ha⟩ := hv
          exact ⟨a, e, by rw [upd_ne (fun z => by rw [z, s9 _ _ hfo8] at ha; cases ha)]; exact ha⟩
        · rw [upd_ne qf, upd_same, Int.zero_add]
      · rintro σ H6 ⟨v6, ys, ps, rfl, e6, hT6, o6, of6, hfo6, hp6, D6, l6⟩
        exact ⟨_, _, ys, ps, rfl, e6, hT6, o6, of6, hfo6, hp6, by have := D6.next (k := 0); simpa using this, by omega⟩
    · rintro σ H5 ⟨v5, v6, ys, ps, rfl, e5, hT5, o5, of5, hfo5, hp5, D5, l5⟩
      refine ⟨_, rfl, fo, _, rfl, .inl ⟨SqL.of hfo5, fun q hq => ?_⟩⟩
      have s6 := L2.Same.new (o := .tup ys) hq
      exact k q ys ps _ (e5.trans s6.exT) (hT5.ext s6) (o5.trans e5 hT5 (OffK.same hT5 s6)) upd_same (hp5.tk s6.tk) ⟨D5.ok, D5.up⟩ (by omega)
end
end Bs

namespace Bs
open PySem PySem.Spec PyProof.Rows L2
theorem lt_sorted : ∀ {l m : List (Int × Int)}, l.Perm m → l.Pairwise lt2 → m.Pairwise lt2 → l = m := fun h h1 h2 =>
  List.Perm.eq_of_pairwise (le := lt2) (fun a b _ _ x y => by unfold lt2 at x y; exact absurd x (by omega)) h1 h2 h
def bothWays (ps : List (Int × Int)) : List (Int × Int) := ps ++ ps.map fun q => (q.2, q.1)
theorem arrows_good {n : Int} {ps rs : List (Int × Int)} (G : Good n ps) (hp : rs.Perm (bothWays ps)) (hl : rs.Pairwise le2) : GoodA n rs := by
  have mem : ∀ p ∈ rs, p ∈ ps ∨ ∃ q ∈ ps, p = (q.2, q.1) := fun p h => by
    rcases List.mem_append.mp (hp.mem_iff.mp h) with h | h
    · exact .inl h
    · obtain ⟨q, hq, rfl⟩ := List.mem_map.mp h
      exact .inr ⟨q, hq, rfl⟩
  have nd : ps.Nodup := G.up.imp fun {a b} h e => by subst e; unfold lt2 at h; omega
  have nd2 : (ps.map fun q => (q.2, q.1)).Nodup := List.pairwise_map.mpr (nd.imp fun {a b} h e => h (by
    have e1 := congrArg Prod.fst e
    have e2 := congrArg Prod.snd e
    exact Prod.ext e2 e1))
  have nda : rs.Nodup := by
    refine (hp.nodup_iff).mpr (List.nodup_append.mpr ⟨nd, nd2, fun a ha b hb e => ?_⟩)
    obtain ⟨q, hq, rfl⟩ := List.mem_map.mp hb
    have h1 := G.ok a ha
    have h2 := G.ok q hq
    rw [e] at h1
    have h3 : q.2 < q.1 := h1.2.1
    have h4 : q.1 < q.2 := h2.2.1
    omega
  refine ⟨fun p h => ?_, (hl.and nda).imp fun {a b} h => ?_⟩
  · rcases mem p h with h | ⟨q, hq, rfl⟩
    · have := G.ok p h; omega
    · have := G.ok q hq
      show 0 ≤ q.2 ∧ q.2 < n ∧ 0 ≤ q.1 ∧ q.1 < n ∧ q.2 ≠ q.1
      omega
  · obtain ⟨h1, h2⟩ := h
    have h3 : ¬ (a.1 = b.1 ∧ a.2 = b.2) := fun e => h2 (Prod.ext e.1 e.2)
    unfold le2 at h1
    unfold lt2
    omega
section
variable {P : Program} {w : World} {K : PySem.W.Frag} {mg : Str → Option Value} {base : Heap} {C CB CW D : Addr}
/-- a Net, with what it holds -/
theorem make_netE {H : Hp} {n : Int} {t : Addr} {xs : List V} {ps : List (Int × Int)} {Q : Addr → Hp → Prop} (n1 : 1 ≤ n) (n2 : n ≤ 12) (ht : H t = some (.tup xs)) (hp : Pairs H xs ps) (G : GoodA n ps)
    (k : ∀ x dx H', Same H H' → H x = none → H' x = some (.ins C dx (nfV (.int n) (.ref t))) → Q x H') :
    ∀ x dx, H x = none → H dx = none → dx ≠ x → sp_Net_init C (.ref x :: ([.int n, .ref t] ++ [])) (upd (upd H dx (.own x)) x (.ins C dx [])) (fun v H2 => v = .non ∧ Q x H2) E0 := by
  intro x dx nx nd ne
  have s0 : Same H (upd (upd H dx (.own x)) x (.ins C dx [])) := fun b o e => by
    rw [upd_ne (ne_of_none e nx), upd_ne (ne_of_none e nd)]
    exact e
  refine ⟨x, dx, n, t, xs, ps, rfl, upd_same, n1, n2, s0 _ _ ht, hp.tk s0.tk, G, fun H' e' h' => ⟨rfl, ?_⟩⟩
  have s1 : Same H H' := fun b o e => e' _ _ (ne_of_none e nx) (s0 _ _ e)
  exact k x dx H' s1 nx h'
def sp_net_of (C D : Addr) : Sp := fun vs H Q _ => ∃ wx n u ps, vs = [.ref wx] ∧ WebAt D H wx n u ps ∧ Good n ps ∧ ps.length ≤ 1000 ∧ ∀ x t qs H', Same H H' → NetAt C H' x n t qs → qs.Perm (bothWays ps) → qs.Pairwise le2 → Q (.ref x) H'
abbrev s_net_of : Stmt := (top 18)
theorem sc_net_of : FnScope ["web", "net", "a", "b"] ["web"] (defScope s_net_of) := ⟨rfl, rfl, rfl, by decide +kernel, rfl, by decide +kernel, by decide +kernel⟩

theorem ok_net_of {f : Addr} {fd : FuncData} (F : Fun K "net_of" "net_of" s_net_of f fd) (hm : mg "net_of" = some (.ref f)) (B : Bl mg) (T : TxtN K mg C) (TW : Txt K mg D) (m_Net : Mkc P w K mg base 5 C "Net" ["self", "size", "arrows"] (sp_Net_init C)) : Cal P w K mg base 7 "net_of" ["web"] (sp_net_of C D) := by
  refine ⟨f, fd, F.ok sc_net_of (fun vs H Q E h => ?_) (fun cdv A outer s H vs Q E hr h => ?_), hm, F.kp, F.binds (ps := ["web"]) fun _ _ _ _ _ _ us hl => match us, hl with | [_], _ => rfl⟩
  · obtain ⟨wx, n, u, ps, rfl, _⟩ := h; rfl
  · obtain ⟨wx, n, u, ps, rfl, W, G, pl, k⟩ := h
    refine ⟨_, (pss_cons (ps_set (i := 1) sc_net_of.nd rfl (by first | exact Or.inl rfl | exact Or.inr rfl) (pe_mkc m_Net (hr.mono (by first | decide | omega)) (pa_cons pe_int (pa_cons (pe_tup pa_nil) pa_nil))))
 (pss_cons (ps_fld (pv 1) (pe_fld (pv 0) rfl) rfl)
 (pss_cons (ps_fld (pv 1) (pe_callTy call_tuple_of (by rfl) B.tuple_ (by decide +kernel) (pa_cons (pe_callB cr_sortedPO (by rfl) B.sorted (by decide +kernel) (pa_cons (pe_op op_cat (pe_callTy call_list_of (by rfl) B.list_ (by decide +kernel) (pa_cons (pe_fld (pv 0) rfl) pa_nil)) (pe_lc (own := [("a", 2), ("b", 3)]) (g := (gTup K 2 (gCons (gName 2) (gCons (gName 3) gNil)))) (by rfl) sc_net_of.nd (pi_tup (pe_fld (pv 0) rfl)) (blkOk_by (own := [("a", 2), ("b", 3)]) (N := ["web", "net", "a", "b"]) (sc := defScope s_net_of) (by decide +kernel)) (fun _ _ _ _ _ => (pg_tup (by rfl) (pgs_cons (pg_name (i := 2) sc_net_of.nd rfl (by first | exact Or.inl rfl | exact Or.inr rfl)) (pgs_cons (pg_name (i := 3) sc_net_of.nd rfl (by first | exact Or.inl rfl | exact Or.inr rfl)) pgs_nil)))) (fun _ _ _ _ _ => pts_nil) (fun _ _ _ _ _ => (pe_tup (pa_cons (pv 3) (pa_cons (pv 2) pa_nil)))))) pa_nil)) pa_nil)) rfl)
 (pss_one (ps_ret (pv 1)))))), ?_⟩
    refine ⟨Nat.zero_le _, fun e0 he0 => ?_⟩
    have s1 := L2.Same.new (o := .tup []) he0
    refine make_netE (C := C) (n := 1) (ps := []) (by decide) (by decide) upd_same .nil ⟨by simp, .nil⟩ fun x dx H2 s2 nx hx => ?_
    have s12 := s1.trans s2
    have nx0 : H x = none := L2.Same.free s1 nx
    obtain ⟨⟨dw, fw, w1, w2, w3⟩, xs, w4, w5⟩ := W.same s12
    refine ⟨_, rfl, wx, D, dw, _, _, rfl, w1, TW.cl, TW.nSize, w2, _, rfl, x, C, dx, _, rfl, hx, T.cl, T.nSize, (by show 2 < 1000; decide), ?_⟩
    have s2x : ∀ {o : HO}, Same H (upd H2 x o) := fun b o e => by rw [upd_ne (ne_of_none e nx0)]; exact s12 _ _ e
    generalize hH3 : upd H2 x (.ins C dx (putF "size" (.int n) (nfV (.int 1) (.ref e0)))) = H3
    have s3 : Same H H3 := by rw [← hH3]; exact s2x
    have hx3 : H3 x = some (.ins C dx (putF "size" (.int n) (nfV (.int 1) (.ref e0)))) := by rw [← hH3]; exact upd_same
    obtain ⟨⟨dw, fw, w1, w2, w3⟩, xs, w4, w5⟩ := W.same s3
    have xl := Paired.len w5
    refine ⟨_, rfl, wx, D, dw, _, _, rfl, w1, TW.cl, TW.nTies, w3, u, _, rfl, .inr (SqT.of w4), fun L hL => ?_⟩
    have s4 := L2.Same.new (o := .lst xs) hL
    have w1' := s4 _ _ w1
    refine ⟨_, rfl, wx, D, dw, _, _, rfl, w1', TW.cl, TW.nTies, w3, u, rfl, ⟨_, SqT.of (s4 _ _ w4)⟩, fun D' hD => lc_data (walk_tup (K := K) (a := u) (xs := xs)) ps xl.symm (fun _ => true) (fun H' v q => PairAt H' v (q.2, q.1)) (fun _ _ _ _ t q => q.tk t) hD (fun H' e => SqT.of (e _ _ (s4 _ _ w4))) (Nat.lt_of_le_of_lt (show ps.length ≤ 1000 by omega) (by decide)) ?_ (fun _ _ _ _ _ y => yat_same y) ?_⟩
    · rintro j q v H6 H7 Ny Nn hj e6 ⟨rfl, hv⟩ kE kN
      obtain ⟨a, rfl, ha⟩ : PairAt H3 v q := paired_at w5 hv hj
      refine ⟨a, _, rfl, SqT.of (e6 _ _ (s4 _ _ ha)), rfl, _, _, rfl, _, _, rfl, rfl, rfl, yes_if ?_⟩
      refine ⟨_, rfl, _, rfl, (by show 2 ≤ sizeLine; decide), fun c hc => ?_⟩
      exact kE _ _ rfl (L2.Same.new hc) ⟨c, rfl, upd_same⟩
    · intro zs H6 e6 hzs hpr
      rw [filter_yes] at hpr
      have hp6 : Pairs H6 zs (ps.map fun q => (q.2, q.1)) := paired_mapR hpr
      have zl := Paired.len hpr
      have s46 := s4.trans e6
      refine ⟨L, D', xs, zs, rfl, rfl, e6 _ _ upd_same, hzs, Nat.le_trans (show xs.length + zs.length ≤ 2000 by omega) (by decide), fun M hM => ?_⟩
      have s7 := L2.Same.new (o := .lst (xs ++ zs)) hM
      have hp7 : Pairs (upd H6 M (.lst (xs ++ zs))) (xs ++ zs) (bothWays ps) := Paired.app ((w5.tk s46.tk).tk s7.tk) (hp6.tk s7.tk)
      refine ⟨M, xs ++ zs, pairOf (upd H6 M (.lst (xs ++ zs))), rfl, SqL.of upd_same, pairs_mem hp7, fun ys q s1' s2' hq => ?_⟩
      obtain ⟨rs, hz, hperm, hle⟩ := sorted_post hp7 s1' s2'
      have s8 := L2.Same.new (o := .lst ys) hq
      refine ⟨q, _, rfl, .inl ⟨SqL.of upd_same, fun t ht => ?_⟩⟩
      have s9 := L2.Same.new (o := .tup ys) ht
      have s39 := (s46.trans s7).trans (s8.trans s9)
      have hx9 := s39 _ _ hx3
      refine ⟨_, rfl, x, C, dx, _, rfl, hx9, T.cl, T.nArrows, (by show 2 < 1000; decide), ?_⟩
      have nxt : t ≠ x := fun z => by rw [z, (s46.trans (s7.trans s8)) _ _ hx3] at ht; cases ht
      have s10 : Same H (upd (upd (upd (upd H6 M (.lst (xs ++ zs))) q (.lst ys)) t (.tup ys)) x (.ins C dx (putF "arrows" (.ref t) (putF "size" (.int n) (nfV (.int 1) (.ref e0)))))) := fun b o e => by
        rw [upd_ne (ne_of_none e nx0)]; exact s39 _ _ (s3 _ _ e)
      refine ⟨_, rfl, k x t rs _ s10 ⟨⟨dx, _, upd_same, ?_, ?_⟩, ys, ?_, ?_⟩ hperm hle⟩
      · rw [lookup_putF, if_neg sa_, lookup_putF, if_pos rfl]
      · rw [lookup_putF, if_pos rfl]
      · rw [upd_ne nxt]; exact upd_same
      · refine Paired.imp' ((hz.tk s8.tk).tk s9.tk) fun v p hv => ?_
        obtain ⟨a, e, ha⟩ := hv
        exact ⟨a, e, by rw [upd_ne (fun z => by rw [z, hx9] at ha; cases ha)]; exact ha⟩
end
end Bs

namespace Bs
open PySem PySem.Spec PyProof.Rows L2
section
variable {P : Program} {w : World} {K : PySem.W.Frag} {mg : Str → Option Value} {base : Heap} {C CB CW D : Addr}
def sp_bentA (K : PySem.W.Frag) : Sp := fun vs H Q _ => ∃ (T : Addr) (n : Int) (t : Addr) (us : List V) (ps : List (Int × Int)), vs = [.ref T, .int n, .ref t] ∧ Sr H T ∧ H t = some (.tup us) ∧ Pairs H us ps ∧ us.length ≤ 600 ∧ 1 ≤ n ∧ n ≤ 12 ∧
  ∀ v H', ExT T H H' → Sr H' T → ThT K H' v → (∀ a, v = .ref a → H' a ≠ none) → Q v H'
abbrev s__law_bent_arrows : Stmt := (top 30)
theorem sc__law_bent_arrows : FnScope ["pool", "size", "arrows", "kind", "at", "one", "items"] ["pool", "size", "arrows"] (defScope s__law_bent_arrows) := ⟨rfl, rfl, rfl, by decide +kernel, rfl, by decide +kernel, by decide +kernel⟩

theorem ok_law_bent_arrows {f : Addr} {fd : FuncData} (F : Fun K "_law_bent_arrows" "_law_bent_arrows" s__law_bent_arrows f fd) (hm : mg "_law_bent_arrows" = some (.ref f)) (B : Bl mg) (c__law_draw : Cal P w K mg base 1 "_law_draw" ["pool", "many"] spDraw) (c__law_pick : Cal P w K mg base 2 "_law_pick" ["pool", "things"] sp_pick) (c__law_deep : Cal P w K mg base 1 "_law_deep" [] (sp_deepN K)) (c__law_odd : Cal P w K mg base 7 "_law_odd" ["pool"] (sp_oddN K)) : Cal P w K mg base 8 "_law_bent_arrows" ["pool", "size", "arrows"] (sp_bentA K) := by
  refine ⟨f, fd, F.ok sc__law_bent_arrows (fun vs H Q E h => ?_) (fun cdv A outer s H vs Q E hr h => ?_), hm, F.kp, F.binds (ps := ["pool", "size", "arrows"]) fun _ _ _ _ _ _ us hl => match us, hl with | [_, _, _], _ => rfl⟩
  · obtain ⟨T, n, t, us, ps, rfl, _⟩ := h; rfl
  · obtain ⟨T, n, t, us, ps, rfl, hT, ht, hp, ul, n1, n2, k⟩ := h
    have usE : TsE K H us := fun x hx => (pairs_the hp x hx).1
    have usI : ∀ x ∈ us, Item K H x := fun x hx => (pairs_the hp x hx).2
    refine ⟨_, (pss_cons (ps_set (i := 3) sc__law_bent_arrows.nd rfl (by first | exact Or.inl rfl | exact Or.inr rfl) (pe_cal c__law_draw (hr.mono (by first | decide | omega)) (pa_cons (pv 0) (pa_cons pe_int pa_nil))))
 (Evl.pss_cut (ps_if (pt_cmpR op_eq (pv 3) pe_int (nomark _)) (pss_one (ps_ret (pe_cal c__law_pick (hr.mono (by first | decide | omega)) (pa_cons (pv 0) (pa_cons (pe_lst (pa_cons (pe_callTy call_list_of (by rfl) B.list_ (by decide +kernel) (pa_cons (pv 2) pa_nil)) (pa_cons pe_non (pa_cons (pe_tup pa_nil) (pa_cons pe_dnewK (pa_cons pe_str (pa_cons pe_int (pa_cons (pe_cal0 c__law_deep (hr.mono (by first | decide | omega))) (pa_cons (pe_cal c__law_odd (hr.mono (by first | decide | omega)) (pa_cons (pv 0) pa_nil)) pa_nil))))))))) pa_nil))))) pss_nil)
 (pss_cons (ps_set (i := 4) sc__law_bent_arrows.nd rfl (by first | exact Or.inl rfl | exact Or.inr rfl) (pe_cal c__law_draw (hr.mono (by first | decide | omega)) (pa_cons (pv 0) (pa_cons (pe_op op_add (pe_callB call_len_seq (by rfl) B.len (by decide +kernel) (pa_cons (pv 2) pa_nil)) pe_int) pa_nil))))
 (pss_cons (ps_set (i := 5) sc__law_bent_arrows.nd rfl (by first | exact Or.inl rfl | exact Or.inr rfl) (pe_cal c__law_draw (hr.mono (by first | decide | omega)) (pa_cons (pv 0) (pa_cons (pv 1) pa_nil))))
 (pss_cons (ps_set (i := 6) sc__law_bent_arrows.nd rfl (by first | exact Or.inl rfl | exact Or.inr rfl) (pe_lst (pa_cons (pe_tup (pa_cons (pv 5) (pa_cons (pv 5) pa_nil))) (pa_cons (pe_tup (pa_cons (pv 5) (pa_cons (pv 1) pa_nil))) (pa_cons (pe_tup (pa_cons (pe_un un_neg pe_int) (pa_cons (pv 5) pa_nil))) (pa_cons (pe_tup (pa_cons (pv 5) pa_nil)) (pa_cons (pe_tup (pa_cons (pv 5) (pa_cons pe_int (pa_cons pe_int pa_nil)))) (pa_cons (pe_lst (pa_cons pe_int (pa_cons pe_int pa_nil))) (pa_cons pe_non (pa_cons (pe_tup (pa_cons pe_bl (pa_cons (pv 5) pa_nil))) (pa_cons (pe_tup (pa_cons (pv 5) (pa_cons pe_str pa_nil))) (pa_cons (pe_tup (pa_cons (pv 5) (pa_cons pe_int pa_nil))) pa_nil))))))))))))
 (pss_cons (ps_set (i := 6) sc__law_bent_arrows.nd rfl (by first | exact Or.inl rfl | exact Or.inr rfl) (pe_op op_cat (pv 6) (pe_lst (pa_cons (pe_cal c__law_odd (hr.mono (by first | decide | omega)) (pa_cons (pv 0) pa_nil)) (pa_cons (pe_tup (pa_cons pe_int (pa_cons (pe_op op_sub (pv 1) pe_int) pa_nil))) pa_nil)))))
 (Evl.pss_cut (ps_if (pt_cmpR op_eq (pv 3) pe_int (nomark _)) (pss_one (ps_ret (pe_op op_catA (pe_op op_catA (pe_slice sl_tupA (pv 2) po_none (po_some (pv 4))) (pe_slice sl_tupA (pv 2) (po_some (pv 4)) (po_some (pe_op op_add (pv 4) pe_int)))) (pe_slice sl_tupA (pv 2) (po_some (pv 4)) po_none)))) pss_nil)
 (Evl.pss_cut (ps_if (pt_cmpR op_eq (pv 3) pe_int (nomark _)) (pss_one (ps_ret (pe_revT (pv 2)))) pss_nil)
 (Evl.pss_cut (ps_if (pt_cmpR op_eq (pv 3) pe_int (nomark _)) (pss_one (ps_ret (pe_op op_catA (pe_op op_catA (pe_slice sl_tupA (pv 2) po_none (po_some (pv 4))) (pe_tup (pa_cons (pe_cal c__law_pick (hr.mono (by first | decide | omega)) (pa_cons (pv 0) (pa_cons (pv 6) pa_nil))) pa_nil))) (pe_slice sl_tupA (pv 2) (po_some (pe_op op_add (pv 4) pe_int)) po_none)))) pss_nil)
 (pss_one (ps_ret (pe_op op_catA (pe_op op_catA (pe_slice sl_tupA (pv 2) po_none (po_some (pv 4))) (pe_tup (pa_cons (pe_cal c__law_pick (hr.mono (by first | decide | omega)) (pa_cons (pv 0) (pa_cons (pv 6) pa_nil))) pa_nil))) (pe_slice sl_tupA (pv 2) (po_some (pv 4)) po_none))))))))))))), ?_⟩
    refine ⟨_, rfl, T, 6, rfl, by decide, by decide, hT, fun kd H1 k0 k6 e1 hT1 o1 => ?_⟩
    have ht1 := hT.tk e1 _ _ ht
    have us1 := usE.src hT hT1 e1
    clear hp usE usI
    refine ⟨fun σ H' => H' = H1 ∧ σ = [some (.ref T), some (.int n), some (.ref t), some (.int kd), none, none, none], ?_, ?_⟩
    · refine ⟨_, rfl, rfl, _, rfl, ?_⟩
      show (if decide (V.int kd = V.int 0) = true then _ else _)
      refine onb (fun c1 => ?_) (fun c1 => ⟨rfl, rfl⟩)
      refine ⟨_, rfl, _, rfl, t, _, rfl, .inr (SqT.of ht1), fun m1 hm1 => ?_⟩
      have k1' := L2.Same.new (o := .lst us) hm1
      refine ⟨Nat.zero_le _, fun m2 hm2 m3 hm3 => ?_⟩
      have k2' := L2.Same.new (o := .tup []) hm2
      have k3' := L2.Same.new (o := .dK []) hm3
      refine ⟨rfl, fun m4 ys H4 s4 hm4 ts4 ti4 tl4 => ?_⟩
      have hT4 := hT1.ext (k1'.trans (k2'.trans (k3'.trans s4)))
      refine ⟨_, rfl, T, rfl, hT4, fun v H5 e5 hT5 o5 ov => ?_⟩
      refine ⟨(by show 8 ≤ sizeLine; decide), fun G hG => ?_⟩
      have s6 := L2.Same.new (o := .lst [V.ref m1, .non, .ref m2, .ref m3, .str "01", .int 0, .ref m4, v]) hG
      have hT6 := hT5.ext s6
      have up := fun (a : Addr) (o : HO) (h : H4 a = some o) (ha : a ≠ T) => s6 _ _ (e5 a o ha h)
      have nT : ∀ {H' : Hp} {a : Addr}, Sr H' T → H' a = none → a ≠ T := fun h1 h2 => h1.neT h2
      have q1 := up m1 _ ((k2'.trans (k3'.trans s4)) _ _ upd_same) (nT hT1 hm1)
      have q2 := up m2 _ ((k3'.trans s4) _ _ upd_same) (nT (hT1.ext k1') hm2)
      have q3 := up m3 _ (s4 _ _ upd_same) (nT (hT1.ext (k1'.trans k2')) hm3)
      have q4 := s6 _ _ (hT4.tk e5 _ _ hm4)
      have all : ∀ x ∈ [V.ref m1, .non, .ref m2, .ref m3, .str "01", .int 0, .ref m4, v], OddN K (upd H5 G (.lst [V.ref m1, .non, .ref m2, .ref m3, .str "01", .int 0, .ref m4, v])) x := by
        intro x hx
        simp only [List.mem_cons, List.not_mem_nil, or_false] at hx
        rcases hx with rfl | rfl | rfl | rfl | rfl | rfl | rfl | rfl
        · exact .els (.lst q1)
        · exact .els .non
        · exact .tup q2 (by intro x hx; cases hx) (by intro x hx; cases hx) (Nat.zero_le _)
        · exact .els (.dK q3)
        · exact .els (.str _)
        · exact .els (.int _)
        · exact .tup q4 ((ts4.src hT4 hT5 e5).ext s6) (fun x hx => ((ti4 x hx).src hT4 hT5 e5).ext s6) (by omega)
        · exact ov.same s6
      refine ⟨T, G, _, rfl, hT6, upd_same, hT5.neT hG, (by show 1 ≤ 8; decide), (by show 8 ≤ 1000; decide), fun i x HZ hx eZ hTZ oZ => ?_⟩
      have ox := (all _ (List.mem_of_getElem? hx)).src hT6 hTZ eZ
      exact k _ HZ (e1.trans ((k1'.trans (k2'.trans (k3'.trans s4))).exT.trans (e5.trans (s6.exT.trans eZ)))) hTZ ox.tt ox.th.2
    rintro σ H' ⟨rfl, rfl⟩
    refine ⟨_, rfl, _, rfl, t, _, rfl, .inr (SqT.of ht1), _, _, rfl, rfl, T, _, rfl, by omega, by omega, hT1, fun r H2 r0 r1 e2 hT2 o2 => ?_⟩
    refine ⟨_, rfl, _, rfl, T, n, rfl, by omega, by omega, hT2, fun one H3 one0 one1 e3 hT3 o3 => ?_⟩
    have ht3 := hT2.tk e3 _ _ (hT1.tk e2 _ _ ht1)
    have us3 := (us1.src hT1 hT2 e2).src hT2 hT3 e3
    have E3 := e1.trans (e2.trans e3)
    clear us1 ht1 o1 o2 o3
    -- items
    refine ⟨_, rfl, _, rfl, (by show 2 ≤ sizeLine; decide), fun p1 h1 => ⟨_, rfl, _, rfl, (by show 2 ≤ sizeLine; decide), fun p2 h2 => ⟨_, rfl, _, rfl, (by show 2 ≤ sizeLine; decide), fun p3 h3 => ⟨_, rfl, (by show 1 ≤ sizeLine; decide), fun p4 h4 => ⟨_, rfl, (by show 3 ≤ sizeLine; decide), fun p5 h5 => ⟨(by show 2 ≤ sizeLine; decide), fun p6 h6 => ⟨_, rfl, (by show 2 ≤ sizeLine; decide), fun p7 h7 => ⟨_, rfl, (by show 2 ≤ sizeLine; decide), fun p8 h8 => ⟨_, rfl, (by show 2 ≤ sizeLine; decide), fun p9 h9 => ?_⟩⟩⟩⟩⟩⟩⟩⟩⟩
    have s1 := L2.Same.new (o := .tup [V.int one, .int one]) h1
    have s2 := L2.Same.new (o := .tup [V.int one, .int n]) h2
    have s3 := L2.Same.new (o := .tup [(fun i : Int => V.int (-i)) 1, .int one]) h3
    have s4 := L2.Same.new (o := .tup [V.int one]) h4
    have s5 := L2.Same.new (o := .tup [V.int one, .int 0, .int 1]) h5
    have s6 := L2.Same.new (o := .lst [V.int 0, .int 1]) h6
    have s7 := L2.Same.new (o := .tup [V.bl true, .int one]) h7
    have s8 := L2.Same.new (o := .tup [V.int one, .str "1"]) h8
    have s9 := L2.Same.new (o := .tup [V.int one, .int 0]) h9
    refine ⟨(by show 10 ≤ sizeLine; decide), fun D1 hD1 => ?_⟩
    have s10 := L2.Same.new (o := .lst [V.ref p1, .ref p2, .ref p3, .ref p4, .ref p5, .ref p6, .non, .ref p7, .ref p8, .ref p9]) hD1
    have s19 := s1.trans (s2.trans (s3.trans (s4.trans (s5.trans (s6.trans (s7.trans (s8.trans s9)))))))
    have z1 := s19.trans s10
    have its1 : TsE K (upd (upd (upd (upd (upd (upd (upd (upd (upd (upd H3 p1 (.tup [V.int one, .int one])) p2 (.tup [V.int one, .int n])) p3 (.tup [(fun i : Int => V.int (-i)) 1, .int one])) p4 (.tup [V.int one])) p5 (.tup [V.int one, .int 0, .int 1])) p6 (.lst [V.int 0, .int 1])) p7 (.tup [V.bl true, .int one])) p8 (.tup [V.int one, .str "1"])) p9 (.tup [V.int one, .int 0])) D1 (.lst [V.ref p1, .ref p2, .ref p3, .ref p4, .ref p5, .ref p6, .non, .ref p7, .ref p8, .ref p9])) [V.ref p1, .ref p2, .ref p3, .ref p4, .ref p5, .ref p6, .non, .ref p7, .ref p8, .ref p9] := by
      intro v hv
      have tp : ∀ {H' : Hp} {a : Addr} {vs : List V}, H' a = some (.tup vs) → vs.length ≤ 3 → (∀ x ∈ vs, Item K H' x) → ThE K H' (.ref a) := fun h l q => .tup h q (by omega)
      simp only [List.mem_cons, List.not_mem_nil, or_false] at hv
      rcases hv with rfl | rfl | rfl | rfl | rfl | rfl | rfl | rfl | rfl | rfl
      · exact tp ((s2.trans (s3.trans (s4.trans (s5.trans (s6.trans (s7.trans (s8.trans (s9.trans s10)))))))) _ _ upd_same) (by show 2 ≤ 3; decide) (fun x hx => by simp at hx; subst hx; exact .int _)
      · exact tp ((s3.trans (s4.trans (s5.trans (s6.trans (s7.trans (s8.trans (s9.trans s10))))))) _ _ upd_same) (by show 2 ≤ 3; decide) (fun x hx => by simp at hx; rcases hx with rfl | rfl <;> exact .int _)
      · exact tp ((s4.trans (s5.trans (s6.trans (s7.trans (s8.trans (s9.trans s10)))))) _ _ upd_same) (by show 2 ≤ 3; decide) (fun x hx => by simp at hx; rcases hx with rfl | rfl <;> exact .int _)
      · exact tp ((s5.trans (s6.trans (s7.trans (s8.trans (s9.trans s10))))) _ _ upd_same) (by show 1 ≤ 3; decide) (fun x hx => by simp at hx; subst hx; exact .int _)
      · exact tp ((s6.trans (s7.trans (s8.trans (s9.trans s10)))) _ _ upd_same) (by show 3 ≤ 3; decide) (fun x hx => by simp at hx; rcases hx with rfl | rfl | rfl <;> exact .int _)
      · exact .lst ((s7.trans (s8.trans (s9.trans s10))) _ _ upd_same)
      · exact .non
      · exact tp ((s8.trans (s9.trans s10)) _ _ upd_same) (by show 2 ≤ 3; decide) (fun x hx => by simp at hx; rcases hx with rfl | rfl <;> first | exact .int _ | exact .bl _)
      · exact tp ((s9.trans s10) _ _ upd_same) (by show 2 ≤ 3; decide) (fun x hx => by simp at hx; rcases hx with rfl | rfl <;> first | exact .int _ | exact .str _)
      · exact tp (s10 _ _ upd_same) (by show 2 ≤ 3; decide) (fun x hx => by simp at hx; rcases hx with rfl | rfl <;> exact .int _)
    have hD1' : (upd (upd (upd (upd (upd (upd (upd (upd (upd (upd H3 p1 (.tup [V.int one, .int one])) p2 (.tup [V.int one, .int n])) p3 (.tup [(fun i : Int => V.int (-i)) 1, .int one])) p4 (.tup [V.int one])) p5 (.tup [V.int one, .int 0, .int 1])) p6 (.lst [V.int 0, .int 1])) p7 (.tup [V.bl true, .int one])) p8 (.tup [V.int one, .str "1"])) p9 (.tup [V.int one, .int 0])) D1 (.lst [V.ref p1, .ref p2, .ref p3, .ref p4, .ref p5, .ref p6, .non, .ref p7, .ref p8, .ref p9])) D1 = some (.lst [V.ref p1, .ref p2, .ref p3, .ref p4, .ref p5, .ref p6, .non, .ref p7, .ref p8, .ref p9]) := upd_same
    have z1' : Same H3 (upd (upd (upd (upd (upd (upd (upd (upd (upd (upd H3 p1 (.tup [V.int one, .int one])) p2 (.tup [V.int one, .int n])) p3 (.tup [(fun i : Int => V.int (-i)) 1, .int one])) p4 (.tup [V.int one])) p5 (.tup [V.int one, .int 0, .int 1])) p6 (.lst [V.int 0, .int 1])) p7 (.tup [V.bl true, .int one])) p8 (.tup [V.int one, .str "1"])) p9 (.tup [V.int one, .int 0])) D1 (.lst [V.ref p1, .ref p2, .ref p3, .ref p4, .ref p5, .ref p6, .non, .ref p7, .ref p8, .ref p9])) := z1
    have D1T : D1 ≠ T := (hT3.ext s19).neT hD1
    generalize (upd (upd (upd (upd (upd (upd (upd (upd (upd (upd H3 p1 (.tup [V.int one, .int one])) p2 (.tup [V.int one, .int n])) p3 (.tup [(fun i : Int => V.int (-i)) 1, .int one])) p4 (.tup [V.int one])) p5 (.tup [V.int one, .int 0, .int 1])) p6 (.lst [V.int 0, .int 1])) p7 (.tup [V.bl true, .int one])) p8 (.tup [V.int one, .str "1"])) p9 (.tup [V.int one, .int 0])) D1 (.lst [V.ref p1, .ref p2, .ref p3, .ref p4, .ref p5, .ref p6, .non, .ref p7, .ref p8, .ref p9])) = H10 at its1 hD1' z1' ⊢
    obtain ⟨M1, m1, its1, hD1'⟩ : ∃ M1 : List V, M1.length = 10 ∧ TsE K H10 M1 ∧ H10 D1 = some (.lst M1) := ⟨_, rfl, its1, hD1'⟩
    clear s1 s2 s3 s4 s5 s6 s7 s8 s9 s10 s19 z1 h1 h2 h3 h4 h5 h6 h7 h8 h9 hD1
    have hT10 := hT3.ext z1'
    refine ⟨_, rfl, _, rfl, T, rfl, hT10, fun ov H11 e11 hT11 o11 oo => ?_⟩
    refine ⟨_, rfl, _, _, rfl, rfl, (by show 2 ≤ sizeLine; decide), fun p10 h10 => ⟨(by show 2 ≤ sizeLine; decide), fun D2 hD2 => ?_⟩⟩
    have s11 := L2.Same.new (o := .tup [V.int 0, .int (n - 1)]) h10
    have s12 := L2.Same.new (o := .lst [ov, .ref p10]) hD2
    have s112 := s11.trans s12
    have hT12 := hT11.ext s112
    have M12 : TsE K _ M1 := (its1.src hT10 hT11 e11).ext s112
    have o12 : ThE K _ ov := oo.th.ext s112
    have p12 : ThE K _ (.ref p10) := .tup (s12 _ _ upd_same) (fun x hx => by simp at hx; rcases hx with rfl | rfl <;> exact .int _) (by show 2 ≤ 100000; decide)
    refine ⟨D1, D2, _, _, rfl, rfl, s112 _ _ (e11 _ _ D1T hD1'), upd_same, by rw [m1]; show 10 + 2 ≤ sizeLine; decide, fun D3 hD3 => ?_⟩
    have s13 := L2.Same.new (o := .lst (M1 ++ [ov, .ref p10])) hD3
    have D3T := hT12.neT hD3
    have itE : TsE K _ (M1 ++ [ov, V.ref p10]) := (M12.ext s13).app (fun x hx => by simp only [List.mem_cons, List.not_mem_nil, or_false] at hx; rcases hx with rfl | rfl <;> first | exact o12.ext s13 | exact p12.ext s13)
    have il : (M1 ++ [ov, V.ref p10]).length = 12 := by rw [List.length_append, m1]; rfl
    have s113 := s112.trans s13
    have hT13 := hT11.ext s113
    have ht13 := s113 _ _ (hT10.tk e11 _ _ (z1' _ _ ht3))
    have us13 : TsE K _ us := ((us3.ext z1').src hT10 hT11 e11).ext s113
    have E13 := E3.trans (z1'.exT.trans (e11.trans s113.exT))
    have hI : (upd (upd (upd H11 p10 (.tup [V.int 0, .int (n - 1)])) D2 (.lst [ov, .ref p10])) D3 (.lst (M1 ++ [ov, .ref p10]))) D3 = some (.lst (M1 ++ [ov, .ref p10])) := upd_same
    generalize upd (upd (upd H11 p10 (.tup [V.int 0, .int (n - 1)])) D2 (.lst [ov, .ref p10])) D3 (.lst (M1 ++ [ov, .ref p10])) = H9 at hI itE hT13 ht13 us13 E13 ⊢
    obtain ⟨its, il, itE, hI⟩ : ∃ its : List V, its.length = 12 ∧ TsE K H9 its ∧ H9 D3 = some (.lst its) := ⟨_, il, itE, hI⟩
    clear s11 s12 s13 s112 s113 hT12 M12 o12 p12 hD2 hD3 h10 o11 oo hD1' its1 ht3 us3
    have cl : ∀ lo hi, (cutV us lo hi).length ≤ 600 := fun lo hi => Nat.le_trans (cutV_length _ _ _) ul
    have big : ∀ m : Nat, m ≤ 3000 → m ≤ sizeLine := fun m h => Nat.le_trans h (by decide)
    refine ⟨fun σ H' => H' = H9 ∧ σ = [some (.ref T), some (.int n), some (.ref t), some (.int kd), some (.int r), some (.int one), some (.ref D3)], ?_, ?_⟩
    · refine ⟨_, rfl, rfl, _, rfl, ?_⟩
      show (if decide (V.int kd = V.int 1) = true then _ else _)
      refine onb (fun c1 => ?_) (fun c1 => ⟨rfl, rfl⟩)
      refine ⟨_, rfl, _, rfl, _, rfl, sl_any ht13 fun b1 H11 f1 hb1 => ?_⟩
      refine ⟨_, rfl, _, rfl, _, rfl, _, rfl, _, _, rfl, rfl, _, rfl, sl_any (f1 _ _ ht13) fun b2 H12 f2 hb2 => ?_⟩
      refine cat_any (f2 _ _ hb1) hb2 (big _ (by have := cl none (some r); have := cl (some r) (some (r + 1)); omega)) fun d1 H13 f3 hd1 => ?_
      have f13 := f1.trans (f2.trans f3)
      refine ⟨_, rfl, _, rfl, _, rfl, sl_from (f13 _ _ ht13) fun b3 H14 f4 hb3 => ?_⟩
      refine cat_any (f4 _ _ hd1) hb3 (big _ (by have := cl none (some r); have := cl (some r) (some (r + 1)); have := cl (some r) none; rw [List.length_append]; omega)) fun d2 H15 f5 hd2 => ?_
      have f15 := f13.trans (f4.trans f5)
      obtain ⟨g1, g2⟩ := ThT.there hd2 ((((us13.cut _ _).app (us13.cut _ _)).app (us13.cut _ _)).ext f15) (by have := cl none (some r); have := cl (some r) (some (r + 1)); have := cl (some r) none; rw [List.length_append, List.length_append]; omega)
      exact k _ H15 (E13.trans f15.exT) (hT13.ext f15) g1 g2
    rintro σ H9 ⟨rfl, rfl⟩
    refine ⟨fun σ H' => H' = H9 ∧ σ = [some (.ref T), some (.int n), some (.ref t), some (.int kd), some (.int r), some (.int one), some (.ref D3)], ?_, ?_⟩
    · refine ⟨_, rfl, rfl, _, rfl, ?_⟩
      show (if decide (V.int kd = V.int 2) = true then _ else _)
      refine onb (fun c1 => ?_) (fun c1 => ⟨rfl, rfl⟩)
      refine ⟨_, rfl, t, _, rfl, SqT.of ht13, fun b1 hb1 => ?_⟩
      have f1 := L2.Same.new (o := .tup us.reverse) hb1
      obtain ⟨g1, g2⟩ := ThT.there (K := K) (show (upd H9 b1 (.tup us.reverse)) b1 = some (.tup us.reverse) from upd_same) (fun x hx => (us13 x (List.mem_reverse.mp hx)).ext f1) (by rw [List.length_reverse]; omega)
      exact k _ _ (E13.trans f1.exT) (hT13.ext f1) g1 g2
    rintro σ H9 ⟨rfl, rfl⟩
    refine ⟨fun σ H' => H' = H9 ∧ σ = [some (.ref T), some (.int n), some (.ref t), some (.int kd), some (.int r), some (.int one), some (.ref D3)], ?_, ?_⟩
    · refine ⟨_, rfl, rfl, _, rfl, ?_⟩
      show (if decide (V.int kd = V.int 3) = true then _ else _)
      refine onb (fun c1 => ?_) (fun c1 => ⟨rfl, rfl⟩)
      refine ⟨_, rfl, _, rfl, _, rfl, sl_any ht13 fun b1 H11 f1 hb1 => ?_⟩
      have hT11' := hT13.ext f1
      refine ⟨_, rfl, _, rfl, T, D3, _, rfl, hT11', f1 _ _ hI, D3T, by omega, by omega, fun i v H12 hv e12 hT14 _ => ?_⟩
      have v12 : ThE K H12 v := ((itE _ (List.mem_of_getElem? hv)).ext f1).src hT11' hT14 e12
      have us12 := (us13.ext f1).src hT11' hT14 e12
      have hb12 := hT11'.tk e12 _ _ hb1
      have ht12 := hT11'.tk e12 _ _ (f1 _ _ ht13)
      refine ⟨(by show 1 ≤ sizeLine; decide), fun c hc => ?_⟩
      have f2 := L2.Same.new (o := .tup [v]) hc
      refine cat_any (f2 _ _ hb12) upd_same (big _ (by have := cl none (some r); show _ + 1 ≤ 3000; omega)) fun d1 H13 f3 hd1 => ?_
      refine ⟨_, rfl, _, rfl, _, _, rfl, rfl, _, rfl, sl_from ((f2.trans f3) _ _ ht12) fun b2 H14 f4 hb2 => ?_⟩
      refine cat_any (f4 _ _ hd1) hb2 (big _ (by have := cl none (some r); have := cl (some (r + 1)) none; rw [List.length_append]; show _ + 1 + _ ≤ 3000; omega)) fun d2 H15 f5 hd2 => ?_
      have f25 := f2.trans (f3.trans (f4.trans f5))
      obtain ⟨g1, g2⟩ := ThT.there hd2 (((us12.cut _ _).app (TsE.one v12)).app (us12.cut _ _) |>.ext f25) (by have := cl none (some r); have := cl (some (r + 1)) none; rw [List.length_append, List.length_append]; show _ + 1 + _ ≤ 100000; omega)
      exact k _ H15 ((E13.trans (f1.exT.trans e12)).trans f25.exT) (hT14.ext f25) g1 g2
    rintro σ H9 ⟨rfl, rfl⟩
    refine ⟨_, rfl, _, rfl, _, rfl, sl_any ht13 fun b1 H11 f1 hb1 => ?_⟩
    have hT11' := hT13.ext f1
    refine ⟨_, rfl, _, rfl, T, D3, _, rfl, hT11', f1 _ _ hI, D3T, by omega, by omega, fun i v H12 hv e12 hT14 _ => ?_⟩
    have v12 : ThE K H12 v := ((itE _ (List.mem_of_getElem? hv)).ext f1).src hT11' hT14 e12
    have us12 := (us13.ext f1).src hT11' hT14 e12
    have hb12 := hT11'.tk e12 _ _ hb1
    have ht12 := hT11'.tk e12 _ _ (f1 _ _ ht13)
    refine ⟨(by show 1 ≤ sizeLine; decide), fun c hc => ?_⟩
    have f2 := L2.Same.new (o := .tup [v]) hc
    refine cat_any (f2 _ _ hb12) upd_same (big _ (by have := cl none (some r); show _ + 1 ≤ 3000; omega)) fun d1 H13 f3 hd1 => ?_
    refine ⟨_, rfl, _, rfl, _, rfl, sl_from ((f2.trans f3) _ _ ht12) fun b2 H14 f4 hb2 => ?_⟩
    refine cat_any (f4 _ _ hd1) hb2 (big _ (by have := cl none (some r); have := cl (some r) none; rw [List.length_append]; show _ + 1 + _ ≤ 3000; omega)) fun d2 H15 f5 hd2 => ?_
    have f25 := f2.trans (f3.trans (f4.trans f5))
    obtain ⟨g1, g2⟩ := ThT.there hd2 (((us12.cut _ _).app (TsE.one v12)).app (us12.cut _ _) |>.ext f25) (by have := cl none (some r); have := cl (some r) none; rw [List.length_append, List.length_append]; show _ + 1 + _ ≤ 100000; omega)
    exact k _ H15 ((E13.trans (f1.exT.trans e12)).trans f25.exT) (hT14.ext f25) g1 g2
end
end Bs

namespace Bs
open PySem PySem.Spec PyProof.Rows L2
theorem nD_shaped (n : Int) (ps : List (Int × Int)) : SeqAt.shaped (.tuple [.str "net", .int n, .tuple (ps.map pD)]) = true := by
  have h0 := pDs_depth ps
  have h2 : PyData.depth (.tuple [.str "net", .int n, .tuple (ps.map pD)]) ≤ 64 := by
    simp only [PyData.depth, PyData.depthAll]
    omega
  show (PyData.canLay0 (.tuple [.str "net", .int n, .tuple (ps.map pD)]) && decide (PyData.depth (.tuple [.str "net", .int n, .tuple (ps.map pD)]) ≤ 64)) = true
  rw [Bool.and_eq_true]
  exact ⟨by simp [PyData.canLay0, PyData.canLayAll0, pDs_lay ps]; decide +kernel, decide_eq_true h2⟩
theorem nD_eqv (n : Int) (ps : List (Int × Int)) : PyData.eqv (.tuple [.str "net", .int n, .tuple (ps.map pD)]) (.tuple [.str "net", .int n, .tuple (ps.map pD)]) = true := by
  simp [PyData.eqv, PyData.eqvAll, pDs_eqv]
theorem mD_shaped (n : Int) (ps : List (Int × Int)) : SeqAt.shaped (.tuple [.int n, .tuple (ps.map pD)]) = true := by
  have h0 := pDs_depth ps
  have h2 : PyData.depth (.tuple [.int n, .tuple (ps.map pD)]) ≤ 64 := by
    simp only [PyData.depth, PyData.depthAll]
    omega
  show (PyData.canLay0 (.tuple [.int n, .tuple (ps.map pD)]) && decide (PyData.depth (.tuple [.int n, .tuple (ps.map pD)]) ≤ 64)) = true
  rw [Bool.and_eq_true]
  exact ⟨by simp [PyData.canLay0, PyData.canLayAll0, pDs_lay ps], decide_eq_true h2⟩
theorem mD_eqv (n m : Int) (ps qs : List (Int × Int)) : PyData.eqv (.tuple [.int n, .tuple (ps.map pD)]) (.tuple [.int m, .tuple (qs.map pD)]) = decide (n = m ∧ ps = qs) := by
  have h := pDt_eqv ps qs
  simp only [PyData.eqv] at h
  have hb : (n == m) = decide (n = m) := by by_cases e : n = m <;> simp [e]
  simp [PyData.eqv, PyData.eqvAll, h, hb]
theorem nbad_typ {K : PySem.W.Frag} {H H' : Hp} {sv tv y : V} (h : NBad H sv tv y) : ∃ ty, TyX K H' y ty ∧ PySem.W.kitOne K ty (.type "bool") = some false := by
  rcases h with ⟨_, rfl⟩ | ⟨_, _, rfl⟩ | ⟨_, _, _, _, _, _, _, _, _, _, _, _, rfl⟩
  · exact ⟨_, .base (.str _), kit_ty (by decide +kernel)⟩
  · exact ⟨_, .base (.str _), kit_ty (by decide +kernel)⟩
  · exact ⟨_, .base (.int _), kit_ty (by decide +kernel)⟩
theorem cut_tail (xs : List V) : cutV xs (some 1) none = xs.drop 1 := by
  cases xs with
  | nil => rfl
  | cons x r =>
    unfold cutV
    rw [show HT.sIx (x :: r).length 0 (some 1) = 1 from by rw [show (1 : Int) = ((1 : Nat) : Int) from rfl, HT.sIx_nat]; simp [List.length_cons]]
    rw [HT.sIx_none]
    simp
theorem goodA_tail {n : Int} {ps : List (Int × Int)} (G : GoodA n ps) : GoodA n (ps.drop 1) := ⟨fun p h => G.ok p (List.mem_of_mem_drop h), G.up.sublist (List.drop_sublist _ _)⟩
theorem goodA_more {n m : Int} {ps : List (Int × Int)} (G : GoodA n ps) (h : n ≤ m) : GoodA m ps := ⟨fun p q => by have := G.ok p q; omega, G.up⟩
theorem pairs_tail {H : Hp} {xs : List V} {ps : List (Int × Int)} (h : Pairs H xs ps) : Pairs H (xs.drop 1) (ps.drop 1) := by
  cases h with
  | nil => exact .nil
  | cons _ t => exact t
/-- Net beside other classes -/
structure NetTy (K : PySem.W.Frag) (C D : Addr) : Prop where
  tup : PySem.W.kitOne K (.type "tuple") (.ref C) = some false
  int : PySem.W.kitOne K (.type "int") (.ref C) = some false
  non : PySem.W.kitOne K (.type "NoneType") (.ref C) = some false
  web : PySem.W.kitOne K (.ref D) (.ref C) = some false
  sub : PySem.W.subIn K (.ref D) (.ref C) = some false
section
variable {P : Program} {w : World} {K : PySem.W.Frag} {mg : Str → Option Value} {base : Heap} {C CB CW D : Addr}
/-- something beside the net (n, ps), and whether it is alike -/
def Beside (K : PySem.W.Frag) (C : Addr) (n : Int) (ps : List (Int × Int)) (H : Hp) (v : V) : Prop :=
  (∃ z m u qs, v = .ref z ∧ NetAt C H z m u qs) ∨ (∃ ty, (∀ H', Same H H' → TyX K H' v ty) ∧ PySem.W.kitOne K ty (.ref C) = some false ∧ OthV K C H v)
theorem oth_same {H H' : Hp} {v : V} (h : OthV K C H v) (e : Same H H') : OthV K C H' v := by
  cases h with
  | same h => exact .same (e _ _ h)
  | ins h h2 => exact .ins (e _ _ h) h2
  | tup h => exact .tup (e _ _ h)
  | int i => exact .int i
  | non => exact .non
def sp_law (K : PySem.W.Frag) : Sp := fun vs H Q _ => ∃ (a : Addr) (ns : List Int), vs = [.ref a] ∧ SqL K H a (ns.map V.int) ∧ ∀ H', Q (.bl true) H'
abbrev s_law : Stmt := (top 31)
theorem sc_law : FnScope ["script", "pool", "turn", "size", "arrows", "given", "items", "part", "due", "told", "net", "others", "other", "alike", "ties", "one", "both"] ["script"] (defScope s_law) := ⟨rfl, rfl, rfl, by decide +kernel, rfl, by decide +kernel, by decide +kernel⟩

theorem ok_law {f fe : Addr} {fd fde : FuncData} (F : Fun K "law" "law" s_law f fd) (B : Bl mg) (TW : Txt K mg D) (CT : ClsTy K D) (T : TxtN K mg C) (LT : NetTy K C D) (N : OwnNe K C fe) (Feq : FnOk P w K mg base CX0 1 fe fde ["self", "other"] (sp_Net_eq K C)) (bEq : Binds K fde ["self", "other"] [])
    (m_Web : Mkc P w K mg base 5 D "Web" ["self", "size", "ties"] (sp_Web_init D)) (m_Net : Mkc P w K mg base 5 C "Net" ["self", "size", "arrows"] (sp_Net_init C))
    (c__law_pool : Cal P w K mg base 1 "_law_pool" ["script"] (sp_pool K)) (c__law_draw : Cal P w K mg base 1 "_law_draw" ["pool", "many"] spDraw) (c__law_pick : Cal P w K mg base 2 "_law_pick" ["pool", "things"] sp_pick) (c__law_arrows : Cal P w K mg base 3 "_law_arrows" ["pool", "size"] sp_arrows)
    (c__law_odd : Cal P w K mg base 7 "_law_odd" ["pool"] (sp_oddN K)) (c__law_bent_arrows : Cal P w K mg base 8 "_law_bent_arrows" ["pool", "size", "arrows"] (sp_bentA K)) (c__law_net_part : Cal P w K mg base 3 "_law_net_part" ["size", "arrows"] (sp_net_part K)) (c__law_net_told : Cal P w K mg base 7 "_law_net_told" ["size", "arrows"] (sp_net_told K)) (c__law_ties : Cal P w K mg base 3 "_law_ties" ["pool", "size"] sp_tiesP) (c_net_of : Cal P w K mg base 7 "net_of" ["web"] (sp_net_of C D)) :
    FnOk P w K mg base CX0 9 f fd ["script"] (sp_law K) := by
  refine F.ok sc_law (fun vs H Q E h => ?_) (fun cdv A outer s H vs Q E hr h => ?_)
  · obtain ⟨a, ns, rfl, _⟩ := h; rfl
  · obtain ⟨a, ns, rfl, hS, k⟩ := h
    refine ⟨_, (pss_cons (ps_set (i := 1) sc_law.nd rfl (by first | exact Or.inl rfl | exact Or.inr rfl) (pe_cal c__law_pool (hr.mono (by first | decide | omega)) (pa_cons (pv 0) pa_nil)))
 (pss_cons (ps_for PassesOwn.never rfl (pi_range1 (by rfl) B.range (pa_cons pe_int pa_nil)) (pg_name (i := 2) sc_law.nd rfl (by first | exact Or.inl rfl | exact Or.inr rfl))
  (pss_cons (ps_set (i := 3) sc_law.nd rfl (by first | exact Or.inl rfl | exact Or.inr rfl) (pe_op op_add pe_int (pe_cal c__law_draw (hr.mono (by first | decide | omega)) (pa_cons (pv 1) (pa_cons (pe_cal c__law_pick (hr.mono (by first | decide | omega)) (pa_cons (pv 1) (pa_cons (pe_lst (pa_cons pe_int (pa_cons pe_int pa_nil))) pa_nil))) pa_nil)))))
 (pss_cons (ps_set (i := 4) sc_law.nd rfl (by first | exact Or.inl rfl | exact Or.inr rfl) (pe_cal c__law_arrows (hr.mono (by first | decide | omega)) (pa_cons (pv 1) (pa_cons (pv 3) pa_nil))))
 (pss_cons (ps_par (i := 5) (j := 6) (by rfl) sc_law.nd rfl rfl (by decide) rfl rfl (pa_cons (pv 3) (pa_cons (pv 4) pa_nil)) (by rfl))
 (Evl.pss_cut (ps_if (pt_cmpR op_eq (pe_cal c__law_draw (hr.mono (by first | decide | omega)) (pa_cons (pv 1) (pa_cons pe_int pa_nil))) pe_int (nomark _)) (pss_one (ps_set (i := 5) sc_law.nd rfl (by first | exact Or.inl rfl | exact Or.inr rfl) (pe_cal c__law_pick (hr.mono (by first | decide | omega)) (pa_cons (pv 1) (pa_cons (pe_lst (pa_cons pe_int (pa_cons pe_int (pa_cons (pe_un un_neg pe_int) (pa_cons pe_bl (pa_cons pe_non (pa_cons pe_str (pa_cons (pe_tup (pa_cons pe_int pa_nil)) (pa_cons pe_int (pa_cons pe_int (pa_cons (pe_cal c__law_odd (hr.mono (by first | decide | omega)) (pa_cons (pv 1) pa_nil)) pa_nil))))))))))) pa_nil))))) pss_nil)
 (Evl.pss_cut (ps_if (pt_cmpR op_eq (pe_cal c__law_draw (hr.mono (by first | decide | omega)) (pa_cons (pv 1) (pa_cons pe_int pa_nil))) pe_int (nomark _)) (pss_one (ps_set (i := 6) sc_law.nd rfl (by first | exact Or.inl rfl | exact Or.inr rfl) (pe_cal c__law_bent_arrows (hr.mono (by first | decide | omega)) (pa_cons (pv 1) (pa_cons (pv 3) (pa_cons (pv 4) pa_nil)))))) pss_nil)
 (Evl.pss_cut (ps_set (i := 7) sc_law.nd rfl (by first | exact Or.inl rfl | exact Or.inr rfl) (pe_cal c__law_net_part (hr.mono (by first | decide | omega)) (pa_cons (pv 5) (pa_cons (pv 6) pa_nil))))
 (Evl.pss_cut (ps_set (i := 8) sc_law.nd rfl (by first | exact Or.inl rfl | exact Or.inr rfl) (pe_ifExp (pt_cmpR op_isN (pv 7) pe_non (nomark _)) (pe_tup (pa_cons pe_str (pa_cons (pv 5) (pa_cons (pv 6) pa_nil)))) (pe_tup (pa_cons pe_str (pa_cons (pv 7) (pa_cons pe_bl pa_nil))))))
 (Evl.pss_cut (ps_set (i := 9) sc_law.nd rfl (by first | exact Or.inl rfl | exact Or.inr rfl) (pe_cal c__law_net_told (hr.mono (by first | decide | omega)) (pa_cons (pv 5) (pa_cons (pv 6) pa_nil))))
 (Evl.pss_cut (ps_if (PW.pt (pw_or (pt_cmpR (op_neD hr.units) (pv 9) (pv 8) (nomark _)) (pw_or1 (pt_val (pe_callB call_isi (by rfl) B.isinstance (by decide +kernel) (pa_cons (pe_ix ix_tup (pv 9) pe_int (fun _ _ => rfl)) (pa_cons (pe_bltn (v := .ty "bool") (by rfl) B.bool_ (by decide +kernel) rfl) pa_nil))))))) (pss_one (ps_ret pe_bl)) pss_nil)
 (pss_cons (ps_set (i := 10) sc_law.nd rfl (by first | exact Or.inl rfl | exact Or.inr rfl) (pe_mkc m_Net (hr.mono (by first | decide | omega)) (pa_cons (pv 3) (pa_cons (pv 4) pa_nil))))
 (pss_cons (ps_if (PW.pt (pw_or (pt_not (pt_cmpR (op_eqAny N Feq (hr.mono (by decide)) bEq) (pv 10) (pe_mkc m_Net (hr.mono (by first | decide | omega)) (pa_cons (pv 3) (pa_cons (pe_callTy call_tuple_of (by rfl) B.tuple_ (by decide +kernel) (pa_cons (pe_callTy call_list_of (by rfl) B.list_ (by decide +kernel) (pa_cons (pv 4) pa_nil)) pa_nil)) pa_nil))) (nomark _))) (pw_or1 (pt_cmpR (op_neAny N Feq (hr.mono (by decide)) bEq) (pv 10) (pe_mkc m_Net (hr.mono (by first | decide | omega)) (pa_cons (pv 3) (pa_cons (pv 4) pa_nil))) (nomark _))))) (pss_one (ps_ret pe_bl)) pss_nil)
 (pss_cons (ps_set (i := 11) sc_law.nd rfl (by first | exact Or.inl rfl | exact Or.inr rfl) (pe_lst (pa_cons (pe_mkc m_Net (hr.mono (by first | decide | omega)) (pa_cons (pv 3) (pa_cons (pe_slice sl_tupA (pv 4) (po_some pe_int) po_none) pa_nil))) (pa_cons (pe_mkc m_Net (hr.mono (by first | decide | omega)) (pa_cons pe_int (pa_cons (pv 4) pa_nil))) (pa_cons (pe_tup (pa_cons (pv 3) (pa_cons (pv 4) pa_nil))) (pa_cons pe_non (pa_cons (pv 3) (pa_cons (pe_mkc m_Web (hr.mono (by first | decide | omega)) (pa_cons (pv 3) (pa_cons (pe_tup pa_nil) pa_nil))) pa_nil))))))))
 (pss_one (ps_for PassesOwn.never rfl (pi_list (pv 11)) (pg_name (i := 12) sc_law.nd rfl (by first | exact Or.inl rfl | exact Or.inr rfl))
  (pss_cons (ps_set (i := 13) sc_law.nd rfl (by first | exact Or.inl rfl | exact Or.inr rfl) (pe_and (pe_callB call_isi (by rfl) B.isinstance (by decide +kernel) (pa_cons (pv 12) (pa_cons (pe_globR T.mg_Net) pa_nil))) (pe_one (pe_cmpR (op_eqD hr.units) (pe_tup (pa_cons (pe_fld (pv 12) rfl) (pa_cons (pe_fld (pv 12) rfl) pa_nil))) (pe_tup (pa_cons (pv 3) (pa_cons (pv 4) pa_nil))) (nomark _)))))
 (pss_one (ps_if (PW.pt (pw_or (pt_cmpR op_ne (pe_cmpR (op_eqAny N Feq (hr.mono (by decide)) bEq) (pv 10) (pv 12) (nomark _)) (pv 13) (nomark _)) (pw_or1 (pt_cmpR op_eq (pe_cmpR (op_neAny N Feq (hr.mono (by decide)) bEq) (pv 10) (pv 12) (nomark _)) (pv 13) (nomark _))))) (pss_one (ps_ret pe_bl)) pss_nil))))))))))))))))))
 (pss_cons (ps_set (i := 14) sc_law.nd rfl (by first | exact Or.inl rfl | exact Or.inr rfl) (pe_cal c__law_ties (hr.mono (by first | decide | omega)) (pa_cons (pv 1) (pa_cons (pv 3) pa_nil))))
 (pss_cons (ps_set (i := 16) sc_law.nd rfl (by first | exact Or.inl rfl | exact Or.inr rfl) (pe_callTy call_tuple_of (by rfl) B.tuple_ (by decide +kernel) (pa_cons (pe_callB cr_sortedPO (by rfl) B.sorted (by decide +kernel) (pa_cons (pe_op op_cat (pe_callTy call_list_of (by rfl) B.list_ (by decide +kernel) (pa_cons (pv 14) pa_nil)) (pe_lc (own := [("one", 15), ("other", 12)]) (g := (gTup K 2 (gCons (gName 15) (gCons (gName 12) gNil)))) (by rfl) sc_law.nd (pi_tup (pv 14)) (blkOk_by (own := [("one", 15), ("other", 12)]) (N := ["script", "pool", "turn", "size", "arrows", "given", "items", "part", "due", "told", "net", "others", "other", "alike", "ties", "one", "both"]) (sc := defScope s_law) (by decide +kernel)) (fun _ _ _ _ _ => (pg_tup (by rfl) (pgs_cons (pg_name (i := 15) sc_law.nd rfl (by first | exact Or.inl rfl | exact Or.inr rfl)) (pgs_cons (pg_name (i := 12) sc_law.nd rfl (by first | exact Or.inl rfl | exact Or.inr rfl)) pgs_nil)))) (fun _ _ _ _ _ => pts_nil) (fun _ _ _ _ _ => (pe_tup (pa_cons (pv 12) (pa_cons (pv 15) pa_nil)))))) pa_nil)) pa_nil)))
 (pss_one (ps_ret (pe_cmpR (op_eqAny N Feq (hr.mono (by decide)) bEq) (pe_cal c_net_of (hr.mono (by first | decide | omega)) (pa_cons (pe_mkc m_Web (hr.mono (by first | decide | omega)) (pa_cons (pv 3) (pa_cons (pv 14) pa_nil))) pa_nil)) (pe_mkc m_Net (hr.mono (by first | decide | omega)) (pa_cons (pv 3) (pa_cons (pv 16) pa_nil))) (nomark _)))))))), ?_⟩
    refine ⟨_, rfl, a, ns, rfl, hS, fun S H1 e1 nS hT1 => ?_⟩
    refine ⟨4, rfl, by decide, by decide, for_range (lo := 0) (n := 4) (fun i σ H' => ∃ v2 v3 v4 v5 v6 v7 v8 v9 v10 v11 v12 v13 : Option V, σ = [some (.ref a), some (.ref S), v2, v3, v4, v5, v6, v7, v8, v9, v10, v11, v12, v13, none, none, none] ∧ Sr H' S ∧ (0 < i → ∃ n : Int, v3 = some (.int n) ∧ 1 ≤ n ∧ n ≤ 12))
      ⟨none, none, none, none, none, none, none, none, none, none, none, none, rfl, hT1, fun h => absurd h (by decide)⟩ ?_ ?_⟩
    · rintro i σ H2 hi ⟨v2, v3, v4, v5, v6, v7, v8, v9, v10, v11, v12, v13, rfl, hT2, _⟩
      refine ⟨_, rfl, _, rfl, (by show 2 ≤ sizeLine; decide), fun L hL => ?_⟩
      have s3 := L2.Same.new (o := .lst [V.int 4, .int 12]) hL
      refine ⟨S, L, _, rfl, hT2.ext s3, upd_same, hT2.neT hL, (by show 1 ≤ 2; decide), (by show 2 ≤ 1000; decide), fun i0 v H3 hv e3 hT3 _ => ?_⟩
      obtain ⟨mm, rfl, mm1, mm2⟩ : ∃ m : Int, v = .int m ∧ 1 ≤ m ∧ m ≤ 12 := by
        match i0, hv with
        | 0, hv => cases hv; exact ⟨4, rfl, by decide, by decide⟩
        | 1, hv => cases hv; exact ⟨12, rfl, by decide, by decide⟩
        | i + 2, hv => simp at hv
      refine ⟨S, mm, rfl, by omega, by omega, hT3, fun n0 H4 n00 n01 e4 hT4 _ => ⟨_, _, rfl, rfl, ?_⟩⟩
      obtain ⟨n, en⟩ : ∃ n : Int, n = 1 + n0 := ⟨_, rfl⟩
      have ev : (fun i j : Int => V.int (i + j)) 1 n0 = V.int n := by rw [en]
      rw [ev]
      have n1 : 1 ≤ n := by omega
      have n12 : n ≤ 12 := by omega
      refine ⟨_, rfl, _, rfl, S, n, rfl, hT4, n1, by omega, fun t xs ps H5 e5 hT5 _ ht5 hp5 G l5 => ?_⟩
      refine ⟨_, rfl, _, rfl, _, _, rfl, ?_⟩
      refine ⟨fun σ H' => ∃ gv, σ = [some (.ref a), some (.ref S), some (.int (0 + (i : Nat))), some (.int n), some (.ref t), some gv, some (.ref t), v7, v8, v9, v10, v11, v12, v13, none, none, none] ∧ ExT S H5 H' ∧ Sr H' S ∧ Item K H' gv, ?_, ?_⟩
      · refine ⟨_, rfl, S, 4, rfl, by decide, by decide, hT5, fun r H6 r0 r1 e6 hT6 _ => ⟨rfl, _, rfl, ?_⟩⟩
        show (if decide (V.int r = V.int 0) = true then _ else _)
        refine onb (fun c => ?_) (fun c => ⟨_, rfl, e6, hT6, .int n⟩)
        refine ⟨_, rfl, _, rfl, (by show 1 ≤ sizeLine; decide), fun p1 hp1 => ?_⟩
        have f1 := L2.Same.new (o := .tup [V.int 3]) hp1
        refine ⟨_, rfl, S, rfl, hT6.ext f1, fun ov H7 e7 hT7 _ oo => ?_⟩
        have hp7 := (hT6.ext f1).tk e7 _ _ upd_same
        refine ⟨(by show 10 ≤ sizeLine; decide), fun L hL => ?_⟩
        have f2 := L2.Same.new (o := .lst [V.int 0, .int 13, (fun i : Int => V.int (-i)) 1, .bl true, .non, .str "3", .ref p1, .int 12, .int 1, ov]) hL
        refine ⟨S, L, _, rfl, hT7.ext f2, upd_same, hT7.neT hL, (by show 1 ≤ 10; decide), (by show 10 ≤ 1000; decide), fun i1 v H8 hv e8 hT8 _ => ?_⟩
        have iv : Item K (upd H7 L (.lst [V.int 0, .int 13, (fun i : Int => V.int (-i)) 1, .bl true, .non, .str "3", .ref p1, .int 12, .int 1, ov])) v := by
          have hm := List.mem_of_getElem? hv
          simp only [List.mem_cons, List.not_mem_nil, or_false] at hm
          rcases hm with rfl | rfl | rfl | rfl | rfl | rfl | rfl | rfl | rfl | rfl
          · exact .int _
          · exact .int _
          · exact .int _
          · exact .bl _
          · exact .non
          · exact .str _
          · exact .tup (f2 _ _ hp7)
          · exact .int _
          · exact .int _
          · exact oo.it.ext f2
        exact ⟨_, rfl, e6.trans (f1.exT.trans (e7.trans (f2.exT.trans e8))), hT8, iv.src (hT7.ext f2) hT8 e8⟩
      rintro σ H6 ⟨gv, rfl, e6, hT6, iG⟩
      have ht6 := hT5.tk e6 _ _ ht5
      have hp6 := hp5.tk (hT5.tk e6)
      refine ⟨fun σ H' => ∃ iv, σ = [some (.ref a), some (.ref S), some (.int (0 + (i : Nat))), some (.int n), some (.ref t), some gv, some iv, v7, v8, v9, v10, v11, v12, v13, none, none, none] ∧ ExT S H6 H' ∧ Sr H' S ∧ Item K H' gv ∧ ThT K H' iv ∧ (∀ a, iv = .ref a → H' a ≠ none), ?_, ?_⟩
      · refine ⟨_, rfl, S, 2, rfl, by decide, by decide, hT6, fun r H7 r0 r1 e7 hT7 _ => ⟨rfl, _, rfl, ?_⟩⟩
        have ht7 := hT6.tk e7 _ _ ht6
        have hp7 := hp6.tk (hT6.tk e7)
        show (if decide (V.int r = V.int 0) = true then _ else _)
        refine onb (fun c => ?_) (fun c => ?_)
        · refine ⟨_, rfl, _, rfl, _, rfl, S, n, t, xs, ps, rfl, hT7, ht7, hp7, l5, n1, n12, fun v H8 e8 hT8 tt8 th8 => ?_⟩
          exact ⟨_, rfl, e7.trans e8, hT8, (iG.src hT6 hT7 e7).src hT7 hT8 e8, tt8, th8⟩
        · obtain ⟨g1, g2⟩ := ThT.there (K := K) ht7 (fun x hx => (pairs_the hp7 x hx).1) (by omega)
          exact ⟨_, rfl, e7, hT7, iG.src hT6 hT7 e7, g1, g2⟩
      rintro σ H7 ⟨iv, rfl, e7, hT7, iG7, tI, thI⟩
      have ht7 := hT6.tk e7 _ _ ht6
      have hp7 := hp6.tk (hT6.tk e7)
      clear hp6 ht6 iG hp5 ht5 hT6 hT5 e6 e7 e5 e4 e3 hT4 hT3
      -- part
      refine ⟨fun σ H' => ∃ y, σ = [some (.ref a), some (.ref S), some (.int (0 + (i : Nat))), some (.int n), some (.ref t), some gv, some iv, some y, v8, v9, v10, v11, v12, v13, none, none, none] ∧ Same H7 H' ∧ (NBad H7 gv iv y ∨ (NetIs H7 gv iv ∧ y = .non)), ?_, ?_⟩
      · exact ⟨_, rfl, _, rfl, gv, iv, rfl, iG7, tI, thI, fun y H8 hb s8 => ⟨_, rfl, s8, .inl hb⟩, fun hw H8 s8 => ⟨_, rfl, s8, .inr ⟨hw, rfl⟩⟩⟩
      rintro σ H8 ⟨y, rfl, s8, hy⟩
      refine ⟨fun σ H' => ∃ q, σ = [some (.ref a), some (.ref S), some (.int (0 + (i : Nat))), some (.int n), some (.ref t), some gv, some iv, some y, some (.ref q), v9, v10, v11, v12, v13, none, none, none] ∧ Same H7 H' ∧ ((NBad H7 gv iv y ∧ H' q = some (.tup [.str "bad", y, .bl true])) ∨ (NetIs H7 gv iv ∧ H' q = some (.tup [.str "net", gv, iv]))), ?_, ?_⟩
      · refine ⟨_, rfl, rfl, _, rfl, ?_⟩
        rcases hy with hb | ⟨hw, rfl⟩
        · rw [decide_eq_false (nbad_non hb)]
          exact iteF ⟨_, rfl, (by show 3 ≤ sizeLine; decide), fun q hq => ⟨_, rfl, s8.new' hq, .inl ⟨hb, upd_same⟩⟩⟩
        · rw [decide_eq_true (rfl : V.non = V.non)]
          exact iteT ⟨_, rfl, _, rfl, (by show 3 ≤ sizeLine; decide), fun q hq => ⟨_, rfl, s8.new' hq, .inr ⟨hw, upd_same⟩⟩⟩
      rintro σ H9 ⟨q, rfl, s9, hq⟩
      -- told
      refine ⟨fun σ H' => ∃ p, σ = [some (.ref a), some (.ref S), some (.int (0 + (i : Nat))), some (.int n), some (.ref t), some gv, some iv, some y, some (.ref q), some (.ref p), v10, v11, v12, v13, none, none, none] ∧ Same H7 H' ∧ ((NBad H7 gv iv y ∧ H' q = some (.tup [.str "bad", y, .bl true]) ∧ H' p = some (.tup [.str "bad", y, .bl true])) ∨ (NetIs H7 gv iv ∧ H' q = some (.tup [.str "net", gv, iv]) ∧ H' p = some (.tup [.str "net", gv, iv]))), ?_, ?_⟩
      · refine ⟨_, rfl, _, rfl, gv, iv, rfl, iG7.ext s9, tI.ext s9 thI, there_same s9 thI, fun y' p H10 hb' s10 hp => ?_, fun hw' p H10 s10 hp => ?_⟩
        · have hb := nbad_back tI thI s9 hb'
          rcases hq with ⟨hb0, hq⟩ | ⟨hw, _⟩
          · have := nbad_one hb hb0
            subst this
            exact ⟨_, rfl, s9.trans s10, .inl ⟨hb, s10 _ _ hq, hp⟩⟩
          · exact (nbad_net hb hw).elim
        · have hw := net_back tI thI s9 hw'
          rcases hq with ⟨hb0, _⟩ | ⟨_, hq⟩
          · exact (nbad_net hb0 hw).elim
          · exact ⟨_, rfl, s9.trans s10, .inr ⟨hw, s10 _ _ hq, hp⟩⟩
      rintro σ H10 ⟨p, rfl, s10, hpq⟩
      refine ⟨fun σ H' => H' = H10 ∧ σ = [some (.ref a), some (.ref S), some (.int (0 + (i : Nat))), some (.int n), some (.ref t), some gv, some iv, some y, some (.ref q), some (.ref p), v10, v11, v12, v13, none, none, none], ?_, ?_⟩
      · rcases hpq with ⟨hb, hq1, hp1⟩ | ⟨hw, hq1, hp1⟩
        · obtain ⟨d, hd, hsh, heq⟩ := nbad_dp (K := K) hb
          obtain ⟨ty, hty, hk⟩ := nbad_typ (K := K) (H' := H10) hb
          refine ⟨_, rfl, _, rfl, _, _, .tup (SqT.of hp1) (.cons (.str _) (.cons (hd _) (.cons (.bl _) .nil))), .tup (SqT.of hq1) (.cons (.str _) (.cons (hd _) (.cons (.bl _) .nil))), hsh, hsh, ?_⟩
          rw [heq]
          refine ⟨_, rfl, iteF ?_⟩
          exact ⟨_, rfl, p, _, _, _, rfl, rfl, SqT.of hp1, at_of (j := 1) rfl rfl, _, _, _, _, false, rfl, .ty "bool", hty, hk, false, rfl, iteF ⟨rfl, rfl⟩⟩
        · obtain ⟨n', t', xs', rfl, _, _, rfl, ht', ps', hps', G'⟩ := hw
          rw [List.take_length] at hps'
          have dpl : ∀ {b : Addr}, H10 b = some (.tup [V.str "net", .int n', .ref t']) → Dp K H10 (.ref b) (.tuple [.str "net", .int n', .tuple (ps'.map pD)]) := fun h1 => .tup (SqT.of h1) (.cons (.str _) (.cons (.int _) (.cons (dp_ties (s10 _ _ ht') (hps'.tk s10.tk)) .nil)))
          refine ⟨_, rfl, _, rfl, _, _, dpl hp1, dpl hq1, nD_shaped _ _, nD_shaped _ _, ?_⟩
          rw [nD_eqv]
          refine ⟨_, rfl, iteF ?_⟩
          exact ⟨_, rfl, p, _, _, _, rfl, rfl, SqT.of hp1, at_of (j := 1) rfl rfl, _, _, _, _, false, rfl, .ty "bool", .base (.int _), kit_ty (by decide +kernel), false, rfl, iteF ⟨rfl, rfl⟩⟩
      rintro σ H10 ⟨rfl, rfl⟩
      have ht10 := s10 _ _ ht7
      have hp10 := hp7.tk s10.tk
      have hT10 := hT7.ext s10
      clear hpq hq hy s9 s8 s10 ht7 hp7 hT7 iG7 tI thI
      refine ⟨_, rfl, _, rfl, make_net n1 n12 ht10 hp10 G fun yN H11 s11 ny L => ?_⟩
      have ht11 := s11 _ _ ht10
      have hp11 := hp10.tk s11.tk
      have hT11 := hT10.ext s11
      obtain ⟨⟨dy, fy, hy, _, _⟩, _⟩ := id L
      -- net == Net(size, tuple(list(arrows)))
      refine ⟨_, rfl, _, rfl, _, rfl, t, _, rfl, .inr (SqT.of ht11), fun l hl => ?_⟩
      have s12 := L2.Same.new (o := .lst xs) hl
      refine ⟨l, _, rfl, .inl ⟨SqL.of upd_same, fun u hu => ?_⟩⟩
      have s13 := L2.Same.new (o := .tup xs) hu
      have s123 := s12.trans s13
      refine make_net n1 n12 upd_same (hp11.tk s123.tk) G fun z H14 s14 nz Lz => ?_
      have s114 := s123.trans s14
      obtain ⟨⟨dz, fz, hz, _, _⟩, _⟩ := id Lz
      refine ⟨yN, dy, _, rfl, s114 _ _ hy, .same hz, yN, .ref z, n, t, ps, rfl, L.same s114, .inl ⟨z, n, u, ps, rfl, Lz, _, rfl, ?_⟩⟩
      rw [decide_eq_true (⟨rfl, rfl⟩ : n = n ∧ ps = ps)]
      refine ⟨_, rfl, iteF ?_⟩
      -- net != Net(size, arrows)
      refine ⟨_, rfl, _, rfl, _, rfl, make_net n1 n12 (s114 _ _ ht11) (hp11.tk s114.tk) G fun z2 H15 s15 nz2 Lz2 => ?_⟩
      have s115 := s114.trans s15
      obtain ⟨⟨dz2, fz2, hz2, _, _⟩, _⟩ := id Lz2
      refine ⟨yN, dy, _, rfl, s115 _ _ hy, .same hz2, yN, .ref z2, n, t, ps, rfl, L.same s115, .inl ⟨z2, n, t, ps, rfl, Lz2, _, rfl, ?_⟩⟩
      rw [decide_eq_true (⟨rfl, rfl⟩ : n = n ∧ ps = ps)]
      refine ⟨_, rfl, iteF ?_⟩
      have ht15 := s115 _ _ ht11
      have hp15 := hp11.tk s115.tk
      have hT15 := hT11.ext s115
      have L15 := L.same s115
      clear s11 s12 s13 s123 s14 s114 s15 s115 hz hz2 Lz Lz2 nz nz2 hy L hp11 ht11 hT11 hp10 ht10 hT10 hu hl
      -- others
      refine ⟨_, rfl, _, rfl, _, rfl, sl_from ht15 fun b1 H16 s16 hb1 => ?_⟩
      rw [cut_tail] at hb1
      refine make_net n1 n12 hb1 ((pairs_tail hp15).tk s16.tk) (goodA_tail G) fun x1 H17 s17 nx1 L1 => ?_
      have s167 := s16.trans s17
      refine ⟨_, rfl, make_net (n := 12) (by decide) (by decide) (s167 _ _ ht15) (hp15.tk s167.tk) (goodA_more G n12) fun x2 H18 s18 nx2 L2' => ?_⟩
      refine ⟨_, rfl, _, rfl, (by show 2 ≤ sizeLine; decide), fun x3 h3 => ?_⟩
      have s19 := L2.Same.new (o := .tup [V.int n, .ref t]) h3
      refine ⟨_, rfl, _, rfl, Nat.zero_le _, fun x5 h5 => ?_⟩
      have s20 := L2.Same.new (o := .tup []) h5
      refine make_web (C := D) n1 (by omega) upd_same .nil ⟨by simp, .nil⟩ fun x6 H21 s21 nx6 W hx6 => ?_
      refine ⟨(by show 6 ≤ sizeLine; decide), fun Ls hLs => ?_⟩
      have s22 := L2.Same.new (o := .lst [V.ref x1, .ref x2, .ref x3, .non, .int n, .ref x6]) hLs
      have z22 := s21.trans s22
      have z20 := s20.trans z22
      have z19 := s19.trans z20
      have z18 := s18.trans z19
      obtain ⟨⟨dw, fw, hw1, _, _⟩, _⟩ := id (W.same s22)
      have bes : ∀ v ∈ [V.ref x1, .ref x2, .ref x3, .non, .int n, .ref x6], Beside K C n ps (upd H21 Ls (.lst [V.ref x1, .ref x2, .ref x3, .non, .int n, .ref x6])) v := by
        intro v hv
        simp only [List.mem_cons, List.not_mem_nil, or_false] at hv
        rcases hv with rfl | rfl | rfl | rfl | rfl | rfl
        · exact .inl ⟨_, _, _, _, rfl, L1.same z18⟩
        · exact .inl ⟨_, _, _, _, rfl, L2'.same z19⟩
        · have h := z20 _ _ (upd_same (H := H18) (a := x3) (o := .tup [V.int n, .ref t]))
          exact .inr ⟨_, fun _ e => .base (.tup (e _ _ h)), LT.tup, .tup h⟩
        · exact .inr ⟨_, fun _ _ => .base .non, LT.non, .non⟩
        · exact .inr ⟨_, fun _ _ => .base (.int n), LT.int, .int n⟩
        · exact .inr ⟨_, fun _ e => .base (.ins (e _ _ hw1) TW.cl TW.xc TW.xg TW.xt TW.xm), LT.web, .ins hw1 LT.sub⟩
      have hLl : (upd H21 Ls (.lst [V.ref x1, .ref x2, .ref x3, .non, .int n, .ref x6])) Ls = some (.lst [V.ref x1, .ref x2, .ref x3, .non, .int n, .ref x6]) := upd_same
      have zz := s167.trans z18
      have hT22 := hT15.ext zz
      have ht22 := zz _ _ ht15
      have hp22 := hp15.tk zz.tk
      have L22 := L15.same zz
      generalize upd H21 Ls (.lst [V.ref x1, .ref x2, .ref x3, .non, .int n, .ref x6]) = H22 at bes hLl hT22 ht22 hp22 L22 ⊢
      obtain ⟨os, hLl, bes⟩ : ∃ os : List V, H22 Ls = some (.lst os) ∧ ∀ v ∈ os, Beside K C n ps H22 v := ⟨_, hLl, bes⟩
      clear s16 s17 s18 s19 s20 s21 s22 z22 z20 z19 z18 zz s167 W hx6 hw1 L1 L2' h3 h5 hLs hb1 nx1 nx2 nx6 L15 hp15 ht15 hT15
      obtain ⟨⟨dy, fy, hy, _, _⟩, _⟩ := id L22
      refine ⟨_, rfl, Ls, rfl, ⟨_, SqL.of hLl⟩, for_list (K := K) (a := Ls) (xs := os) (fun i' σ H' => ∃ w12 w13, σ = [some (.ref a), some (.ref S), some (.int (0 + (i : Nat))), some (.int n), some (.ref t), some gv, some iv, some y, some (.ref q), some (.ref p), some (.ref yN), some (.ref Ls), w12, w13, none, none, none] ∧ Same H22 H')
        ⟨_, _, rfl, L2.Same.refl _⟩ (fun i σ H' _ p => by obtain ⟨_, _, _, e⟩ := p; exact SqL.of (e _ _ hLl)) ?_ ?_⟩
      · rintro i' v σ H23 hv ⟨w12, w13, rfl, s23⟩
        rcases bes v (List.mem_of_getElem? hv) with ⟨z, m, u, qs, rfl, Z⟩ | ⟨ty, hty, hk, ho⟩
        · obtain ⟨⟨dz, fz, hz, q2, q3⟩, zs, q4, q5⟩ := id (Z.same s23)
          refine ⟨_, rfl, _, _, _, _, true, rfl, .own C, .base (.ins hz T.cl T.xc T.xg T.xt T.xm), kit_own, true, rfl, iteT ?_⟩
          refine ⟨_, rfl, z, C, dz, _, _, rfl, hz, T.cl, T.nSize, q2, _, rfl, z, C, dz, _, _, rfl, hz, T.cl, T.nArrows, q3, (by show 2 ≤ sizeLine; decide), fun p1 h1 => ?_⟩
          have f1 := L2.Same.new (o := .tup [V.int m, .ref u]) h1
          refine ⟨_, rfl, _, rfl, (by show 2 ≤ sizeLine; decide), fun p2 h2 => ?_⟩
          have f2 := L2.Same.new (o := .tup [V.int n, .ref t]) h2
          have f12 := f1.trans f2
          have s2f := s23.trans f12
          refine ⟨_, _, .tup (SqT.of (f2 _ _ upd_same)) (.cons (.int _) (.cons (dp_ties (f12 _ _ q4) (q5.tk f12.tk)) .nil)), .tup (SqT.of upd_same) (.cons (.int _) (.cons (dp_ties (s2f _ _ ht22) (hp22.tk s2f.tk)) .nil)), mD_shaped _ _, mD_shaped _ _, ?_⟩
          rw [mD_eqv]
          have ec : decide (m = n ∧ qs = ps) = decide (n = m ∧ ps = qs) := decide_eq_decide.mpr ⟨fun h => ⟨h.1.symm, h.2.symm⟩, fun h => ⟨h.1.symm, h.2.symm⟩⟩
          rw [ec]
          have Zf := Z.same s2f
          have Lf := L22.same s2f
          refine ⟨_, rfl, _, rfl, yN, dy, _, rfl, s2f _ _ hy, .same (f12 _ _ hz), yN, .ref z, n, t, ps, rfl, Lf, .inl ⟨z, m, u, qs, rfl, Zf, _, rfl, _, rfl, rfl, _, rfl, ?_⟩⟩
          rw [show (!decide (V.bl (decide (n = m ∧ ps = qs)) = V.bl (decide (n = m ∧ ps = qs)))) = false from by simp]
          refine iteF ?_
          refine ⟨_, rfl, _, rfl, yN, dy, _, rfl, s2f _ _ hy, .same (f12 _ _ hz), yN, .ref z, n, t, ps, rfl, Lf, .inl ⟨z, m, u, qs, rfl, Zf, _, rfl, _, rfl, rfl, _, rfl, ?_⟩⟩
          rw [show decide (V.bl (!decide (n = m ∧ ps = qs)) = V.bl (decide (n = m ∧ ps = qs))) = false from by
            generalize decide (n = m ∧ ps = qs) = bb
            exact decide_eq_false fun h => by
              injection h with h
              cases bb with
              | true => exact absurd h (by decide)
              | false => exact absurd h (by decide)]
          exact iteF ⟨_, _, rfl, s2f⟩
        · refine ⟨_, rfl, _, _, _, _, false, rfl, .own C, hty _ s23, hk, false, rfl, iteF ?_⟩
          have hof := oth_same ho s23
          have Lf := L22.same s23
          refine ⟨_, rfl, _, rfl, yN, dy, _, rfl, s23 _ _ hy, hof, yN, v, n, t, ps, rfl, Lf, .inr ⟨ty, hty _ s23, hk, _, rfl, _, rfl, rfl, _, rfl, ?_⟩⟩
          refine iteF ?_
          refine ⟨_, rfl, _, rfl, yN, dy, _, rfl, s23 _ _ hy, hof, yN, v, n, t, ps, rfl, Lf, .inr ⟨ty, hty _ s23, hk, _, rfl, _, rfl, rfl, _, rfl, ?_⟩⟩
          exact iteF ⟨_, _, rfl, s23⟩
      · rintro σ H23 ⟨w12, w13, rfl, s23⟩
        exact ⟨_, _, _, _, _, _, _, _, _, _, _, _, rfl, hT22.ext s23, fun _ => ⟨n, rfl, n1, n12⟩⟩
    · rintro σ H2 ⟨v2, v3, v4, v5, v6, v7, v8, v9, v10, v11, v12, v13, rfl, hT2, hv3⟩
      obtain ⟨n, rfl, n1, n12⟩ := hv3 (by decide)
      refine ⟨_, rfl, _, rfl, S, n, rfl, hT2, n1, by omega, fun t xs ps H3 e3 hT3 _ ht3 hp3 G l3 => ?_⟩
      have xl := Paired.len hp3
      refine ⟨_, rfl, t, _, rfl, .inr (SqT.of ht3), fun L hL => ?_⟩
      have s4 := L2.Same.new (o := .lst xs) hL
      refine ⟨_, rfl, t, rfl, ⟨_, SqT.of (s4 _ _ ht3)⟩, fun D' hD => lc_data (walk_tup (K := K) (a := t) (xs := xs)) ps xl.symm (fun _ => true) (fun H' v q => PairAt H' v (q.2, q.1)) (fun _ _ _ _ t q => q.tk t) hD (fun H' e => SqT.of (e _ _ (s4 _ _ ht3))) (Nat.lt_of_le_of_lt (show ps.length ≤ 1000 by omega) (by decide)) ?_ (fun _ _ _ _ _ y => yat_same y) ?_⟩
      · rintro j q v H6 H7 Ny Nn hj e6 ⟨rfl, hv⟩ kE kN
        obtain ⟨a, rfl, ha⟩ : PairAt H3 v q := paired_at hp3 hv hj
        refine ⟨a, _, rfl, SqT.of (e6 _ _ (s4 _ _ ha)), rfl, _, _, rfl, _, _, rfl, rfl, rfl, yes_if ?_⟩
        refine ⟨_, rfl, _, rfl, (by show 2 ≤ sizeLine; decide), fun c hc => ?_⟩
        exact kE _ _ rfl (L2.Same.new hc) ⟨c, rfl, upd_same⟩
      · intro zs H6 e6 hzs hpr
        rw [filter_yes] at hpr
        have hp6 : Pairs H6 zs (ps.map fun q => (q.2, q.1)) := paired_mapR hpr
        have zl := Paired.len hpr
        have s46 := s4.trans e6
        refine ⟨L, D', xs, zs, rfl, rfl, e6 _ _ upd_same, hzs, Nat.le_trans (show xs.length + zs.length ≤ 2000 by omega) (by decide), fun M hM => ?_⟩
        have s7 := L2.Same.new (o := .lst (xs ++ zs)) hM
        have hp7 : Pairs (upd H6 M (.lst (xs ++ zs))) (xs ++ zs) (bothWays ps) := Paired.app ((hp3.tk s46.tk).tk s7.tk) (hp6.tk s7.tk)
        refine ⟨M, xs ++ zs, pairOf (upd H6 M (.lst (xs ++ zs))), rfl, SqL.of upd_same, pairs_mem hp7, fun ys q s1' s2' hq => ?_⟩
        obtain ⟨rs, hz, hperm, hle⟩ := sorted_post hp7 s1' s2'
        have s8 := L2.Same.new (o := .lst ys) hq
        refine ⟨q, _, rfl, .inl ⟨SqL.of upd_same, fun b hb => ?_⟩⟩
        have s9 := L2.Same.new (o := .tup ys) hb
        have s39 := (s46.trans s7).trans (s8.trans s9)
        have hp9 := (hz.tk s8.tk).tk s9.tk
        have Gr := arrows_good G hperm hle
        refine ⟨_, rfl, _, rfl, make_web (C := D) n1 (by omega) (s39 _ _ ht3) (hp3.tk s39.tk) G fun wx H10 s10 nw W hwx => ?_⟩
        refine ⟨wx, n, t, ps, rfl, W, G, by omega, fun x u qs H11 s11 X hq1 hq2 => ?_⟩
        have s101 := s10.trans s11
        have eq : qs = rs := lt_sorted (hq1.trans hperm.symm) (arrows_good G hq1 hq2).up Gr.up
        subst eq
        refine ⟨_, rfl, _, rfl, make_net n1 n12 (s101 _ _ upd_same) (hp9.tk s101.tk) Gr fun z H12 s12 nz Lz => ?_⟩
        have X12 := X.same s12
        obtain ⟨⟨dx, fx, hx, _, _⟩, _⟩ := id X12
        obtain ⟨⟨dz, fz, hz', _, _⟩, _⟩ := id Lz
        refine ⟨x, dx, _, rfl, hx, .same hz', x, .ref z, n, u, qs, rfl, X12, .inl ⟨z, n, b, qs, rfl, Lz, _, rfl, ?_⟩⟩
        rw [decide_eq_true (⟨rfl, rfl⟩ : n = n ∧ qs = qs)]
        exact k _
end
end Bs

namespace Bs
open PySem PySem.Spec PyProof.Rows L2
theorem kit_sub {K : PySem.W.Frag} {C : Addr} {T : String} {b : Bool} (hm : PySem.W.kitMeta T = true) (h : PySem.W.subIn K (.ref C) (.type T) = some b) : PySem.W.kitOne K (.ref C) (.type T) = some b := by
  unfold PySem.W.kitOne
  rw [if_neg (by simp)]
  show (if PySem.W.kitMeta T = true then _ else _) = _
  rw [if_pos hm]
  exact h
theorem kit_refs {K : PySem.W.Frag} {C D : Addr} (hd : PySem.W.hasDictIn K D = true) (ht : PySem.W.typeIn K (.ref D) = some (.type "type")) (hs : PySem.W.subIn K (.ref C) (.ref D) = some true) : PySem.W.kitOne K (.ref C) (.ref D) = some true := by
  obtain ⟨cd, hc, _⟩ := PySem.W.any_some hd
  have e2 : ((PySem.W.clsIn K D).isSome && PySem.W.typeIn K (.ref D) == some (.type "type")) = true := by rw [hc, ht] <;> rfl
  unfold PySem.W.kitOne
  split
  · rfl
  · show (if ((PySem.W.clsIn K D).isSome && PySem.W.typeIn K (.ref D) == some (.type "type")) = true then PySem.W.subIn K (.ref C) (.ref D) else none) = some true
    rw [if_pos e2]
    exact hs
theorem kit_tref {K : PySem.W.Frag} {t : Value} {D : Addr} {b : Bool} (hd : PySem.W.hasDictIn K D = true) (ht : PySem.W.typeIn K (.ref D) = some (.type "type")) (hs0 : PySem.W.subIn K (.ref D) (.ref D) = some true) (hs : PySem.W.subIn K t (.ref D) = some b) : PySem.W.kitOne K t (.ref D) = some b := by
  obtain ⟨cd, hc, _⟩ := PySem.W.any_some hd
  have e2 : ((PySem.W.clsIn K D).isSome && PySem.W.typeIn K (.ref D) == some (.type "type")) = true := by rw [hc, ht] <;> rfl
  unfold PySem.W.kitOne
  split
  · rename_i h
    have e := eq_of_beq h
    rw [e, hs0] at hs
    exact hs
  · show (if ((PySem.W.clsIn K D).isSome && PySem.W.typeIn K (.ref D) == some (.type "type")) = true then PySem.W.subIn K t (.ref D) else none) = some b
    rw [if_pos e2]
    exact hs
theorem all_mk {l : PySem.W.OpenLaw} {w : World} {K : PySem.W.Frag} {h : Heap} {mg : Str → Option Value} {fa C_Web C_Net C_BadNet : Addr} {tk tk2 : Tok} {C_WebError : Addr} {nm_BadNet q_BadNet : Str} {N_BadNet : Addr} {bs_BadNet : List Value} {sn_BadNet : List Str} {sub_BadNet : List Value} {ab_BadNet : Bool} {col_BadNet : Option Bool} {dd_BadNet : Option Addr} {m0_BadNet m1_BadNet m2_BadNet m3_BadNet m5_BadNet : Option Value} (X : K.In h) (G : h.Ns mainGlobals mg) (hfa : mg "law" = some (.ref fa))
    {f_is_integer : Addr} {oc_is_integer kV_is_integer dc_is_integer pm_is_integer cd_is_integer ct_is_integer : Value} {od_is_integer an_is_integer : Option Addr} {sl_is_integer : Array (Option Value)}
    {f_is_number : Addr} {oc_is_number kV_is_number dc_is_number pm_is_number cd_is_number ct_is_number : Value} {od_is_number an_is_number : Option Addr} {sl_is_number : Array (Option Value)}
    {f_is_tie : Addr} {oc_is_tie kV_is_tie dc_is_tie pm_is_tie cd_is_tie ct_is_tie : Value} {od_is_tie an_is_tie : Option Addr} {sl_is_tie : Array (Option Value)}
    {f_wrong_tie : Addr} {oc_wrong_tie kV_wrong_tie dc_wrong_tie pm_wrong_tie cd_wrong_tie ct_wrong_tie : Value} {od_wrong_tie an_wrong_tie : Option Addr} {sl_wrong_tie : Array (Option Value)}
    {f_is_pair : Addr} {oc_is_pair kV_is_pair dc_is_pair pm_is_pair cd_is_pair ct_is_pair : Value} {od_is_pair an_is_pair : Option Addr} {sl_is_pair : Array (Option Value)}
    {f_is_arrow : Addr} {oc_is_arrow kV_is_arrow dc_is_arrow pm_is_arrow cd_is_arrow ct_is_arrow : Value} {od_is_arrow an_is_arrow : Option Addr} {sl_is_arrow : Array (Option Value)}
    {f_wrong_arrow : Addr} {oc_wrong_arrow kV_wrong_arrow dc_wrong_arrow pm_wrong_arrow cd_wrong_arrow ct_wrong_arrow : Value} {od_wrong_arrow an_wrong_arrow : Option Addr} {sl_wrong_arrow : Array (Option Value)}
    {f_net_of : Addr} {oc_net_of kV_net_of dc_net_of pm_net_of cd_net_of ct_net_of : Value} {od_net_of an_net_of : Option Addr} {sl_net_of : Array (Option Value)}
    {f__law_pool : Addr} {oc__law_pool kV__law_pool dc__law_pool pm__law_pool cd__law_pool ct__law_pool : Value} {od__law_pool an__law_pool : Option Addr} {sl__law_pool : Array (Option Value)}
    {f__law_draw : Addr} {oc__law_draw kV__law_draw dc__law_draw pm__law_draw cd__law_draw ct__law_draw : Value} {od__law_draw an__law_draw : Option Addr} {sl__law_draw : Array (Option Value)}
    {f__law_pick : Addr} {oc__law_pick kV__law_pick dc__law_pick pm__law_pick cd__law_pick ct__law_pick : Value} {od__law_pick an__law_pick : Option Addr} {sl__law_pick : Array (Option Value)}
    {f__law_is_int : Addr} {oc__law_is_int kV__law_is_int dc__law_is_int pm__law_is_int cd__law_is_int ct__law_is_int : Value} {od__law_is_int an__law_is_int : Option Addr} {sl__law_is_int : Array (Option Value)}
    {f__law_ties : Addr} {oc__law_ties kV__law_ties dc__law_ties pm__law_ties cd__law_ties ct__law_ties : Value} {od__law_ties an__law_ties : Option Addr} {sl__law_ties : Array (Option Value)}
    {f__law_deep : Addr} {oc__law_deep kV__law_deep dc__law_deep pm__law_deep cd__law_deep ct__law_deep : Value} {od__law_deep an__law_deep : Option Addr} {sl__law_deep : Array (Option Value)}
    {f__law_odd : Addr} {oc__law_odd kV__law_odd dc__law_odd pm__law_odd cd__law_odd ct__law_odd : Value} {od__law_odd an__law_odd : Option Addr} {sl__law_odd : Array (Option Value)}
    {f__law_arrows : Addr} {oc__law_arrows kV__law_arrows dc__law_arrows pm__law_arrows cd__law_arrows ct__law_arrows : Value} {od__law_arrows an__law_arrows : Option Addr} {sl__law_arrows : Array (Option Value)}
    {f__law_net_part : Addr} {oc__law_net_part kV__law_net_part dc__law_net_part pm__law_net_part cd__law_net_part ct__law_net_part : Value} {od__law_net_part an__law_net_part : Option Addr} {sl__law_net_part : Array (Option Value)}
    {f__law_net_told : Addr} {oc__law_net_told kV__law_net_told dc__law_net_told pm__law_net_told cd__law_net_told ct__law_net_told : Value} {od__law_net_told an__law_net_told : Option Addr} {sl__law_net_told : Array (Option Value)}
    {f__law_bent_arrows : Addr} {oc__law_bent_arrows kV__law_bent_arrows dc__law_bent_arrows pm__law_bent_arrows cd__law_bent_arrows ct__law_bent_arrows : Value} {od__law_bent_arrows an__law_bent_arrows : Option Addr} {sl__law_bent_arrows : Array (Option Value)}
    {f_law : Addr} {oc_law kV_law dc_law pm_law cd_law ct_law : Value} {od_law an_law : Option Addr} {sl_law : Array (Option Value)}
    {f_Web_init : Addr} {oc_Web_init kV_Web_init dc_Web_init pm_Web_init cd_Web_init ct_Web_init : Value} {od_Web_init an_Web_init : Option Addr} {sl_Web_init : Array (Option Value)}
    {f_Net_init : Addr} {oc_Net_init kV_Net_init dc_Net_init pm_Net_init cd_Net_init ct_Net_init : Value} {od_Net_init an_Net_init : Option Addr} {sl_Net_init : Array (Option Value)}
    {f_Net_eq : Addr} {oc_Net_eq kV_Net_eq dc_Net_eq pm_Net_eq cd_Net_eq ct_Net_eq : Value} {od_Net_eq an_Net_eq : Option Addr} {sl_Net_eq : Array (Option Value)}
    {f_BadNet_init : Addr} {oc_BadNet_init kV_BadNet_init dc_BadNet_init pm_BadNet_init cd_BadNet_init ct_BadNet_init : Value} {od_BadNet_init an_BadNet_init : Option Addr} {sl_BadNet_init : Array (Option Value)}
    (a_Web : PySem.W.nsIn K mainGlobals "Web" = some (some (.ref C_Web)))
    (a_MP : PySem.W.nsIn K mainGlobals "MOST_PARTS" = some (some (.int 24 tk)))
    (pg : PySem.W.plainGet K C_Web Str.empty = true)
    (hd : PySem.W.hasDictIn K C_Web = true)
    (po : PySem.W.plainOver K C_Web = true)
    (sa : PySem.W.findIn K (.ref C_Web) "__setattr__" = some (some (.builtin "object.__setattr__")))
    (mk : PySem.W.makesIn K C_Web = true)
    (kc : PySem.W.keepIn K (.ref C_Web) = true)
    (nS : PySem.W.findIn K (.ref C_Web) "size" = some none)
    (nT : PySem.W.findIn K (.ref C_Web) "ties" = some none)
    (xc : PySem.W.findIn K (.ref C_Web) "__class__" = some (some (.builtin "object.__class__")))
    (xg : PySem.W.specialIn K (.builtin "object.__class__") "__get__" = some (some (.builtin "getset_descriptor.__get__")))
    (xt : PySem.W.takesIn K (.builtin "object.__class__") = some true)
    (xm : PySem.W.mroIn K C_Web (.type "object") = some true)
    (a_Net : PySem.W.nsIn K mainGlobals "Net" = some (some (.ref C_Net)))
    (a_PL : PySem.W.nsIn K mainGlobals "MOST_NET_PARTS" = some (some (.int 12 tk2)))
    (pgN : PySem.W.plainGet K C_Net Str.empty = true)
    (hdN : PySem.W.hasDictIn K C_Net = true)
    (poN : PySem.W.plainOver K C_Net = true)
    (saN : PySem.W.findIn K (.ref C_Net) "__setattr__" = some (some (.builtin "object.__setattr__")))
    (mkN : PySem.W.makesIn K C_Net = true)
    (kcN : PySem.W.keepIn K (.ref C_Net) = true)
    (nSZ : PySem.W.findIn K (.ref C_Net) "size" = some none)
    (nAR : PySem.W.findIn K (.ref C_Net) "arrows" = some none)
    (xcN : PySem.W.findIn K (.ref C_Net) "__class__" = some (some (.builtin "object.__class__")))
    (xmN : PySem.W.mroIn K C_Net (.type "object") = some true)
    (tyN : PySem.W.typeIn K (.ref C_Net) = some (.type "type"))
    (ssN : PySem.W.subIn K (.ref C_Net) (.ref C_Net) = some true)
    (wsN : PySem.W.subIn K (.ref C_Web) (.ref C_Net) = some false)
    (xnN : PySem.W.findIn K (.ref C_Net) "__ne__" = some (some (.builtin "object.__ne__")))
    (xsN : PySem.W.subIn K (.ref C_Net) (.type "object") = some true)
    (a_BadNet : PySem.W.nsIn K mainGlobals "BadNet" = some (some (.ref C_BadNet)))
    (L_BadNet : K.lookup C_BadNet = some (excClassObj nm_BadNet q_BadNet C_BadNet N_BadNet bs_BadNet [.ref C_WebError, .type "ValueError", .type "Exception", .type "BaseException", .type "object"] true sn_BadNet sub_BadNet ab_BadNet col_BadNet dd_BadNet m0_BadNet m1_BadNet m2_BadNet m3_BadNet m5_BadNet "ValueError.__new__"))
    (sa_BadNet : PySem.W.findIn K (.ref C_BadNet) "__setattr__" = some (some (.builtin "object.__setattr__")))
    (ex_BadNet : PySem.W.subIn K (.ref C_BadNet) (.type "BaseException") = some true)
    (ty_BadNet : PySem.W.typeIn K (.ref C_BadNet) = some (.type "type"))
    (kc_BadNet : PySem.W.keepIn K (.ref C_BadNet) = true)
    (ga_BadNet : PySem.W.findIn K (.ref C_BadNet) "__getattribute__" = some (some (.builtin "BaseException.__getattribute__")))
    (gg_BadNet : PySem.W.findIn K (.ref C_BadNet) "__getattr__" = some none)
    (hd_BadNet : PySem.W.hasDictIn K C_BadNet = true)
    (cl_BadNet : PySem.W.findIn K (.ref C_BadNet) "__class__" = some (some (.builtin "object.__class__")))
    (mr_BadNet : PySem.W.mroIn K C_BadNet (.type "object") = some true)
    (ss_BadNet : PySem.W.subIn K (.ref C_BadNet) (.ref C_BadNet) = some true)
    (sw_BadNet : PySem.W.subIn K (.ref C_BadNet) (.ref C_WebError) = some true)
    (no_BadNet : PySem.W.findIn K (.ref C_BadNet) "part" = some none)
    (kvB : PySem.W.subIn K (.ref C_BadNet) (.type "ValueError") = some true)
    (a_WebError : PySem.W.nsIn K mainGlobals "WebError" = some (some (.ref C_WebError)))
    (hd_WebError : PySem.W.hasDictIn K C_WebError = true)
    (ty_WebError : PySem.W.typeIn K (.ref C_WebError) = some (.type "type"))
    (ki : PySem.W.subIn K (.ref C_Web) (.type "int") = some false)
    (kt : PySem.W.subIn K (.ref C_Web) (.type "tuple") = some false)
    (a_is_integer : PySem.W.nsIn K mainGlobals "is_integer" = some (some (.ref f_is_integer)))
    (l_is_integer : K.lookup f_is_integer = some ⟨oc_is_integer, od_is_integer, .func (PySem.W.fnOf "is_integer" "is_integer" (defArgs s_is_integer) (defBody s_is_integer) (defScope s_is_integer) .none kV_is_integer dc_is_integer pm_is_integer an_is_integer cd_is_integer ct_is_integer), sl_is_integer⟩)
    (c_is_integer : PySem.W.codeIn K cd_is_integer "is_integer" = true)
    (k_is_integer : PySem.W.keepIn K (.ref f_is_integer) = true)
    (a_is_number : PySem.W.nsIn K mainGlobals "is_number" = some (some (.ref f_is_number)))
    (l_is_number : K.lookup f_is_number = some ⟨oc_is_number, od_is_number, .func (PySem.W.fnOf "is_number" "is_number" (defArgs s_is_number) (defBody s_is_number) (defScope s_is_number) .none kV_is_number dc_is_number pm_is_number an_is_number cd_is_number ct_is_number), sl_is_number⟩)
    (c_is_number : PySem.W.codeIn K cd_is_number "is_number" = true)
    (k_is_number : PySem.W.keepIn K (.ref f_is_number) = true)
    (a_is_tie : PySem.W.nsIn K mainGlobals "is_tie" = some (some (.ref f_is_tie)))
    (l_is_tie : K.lookup f_is_tie = some ⟨oc_is_tie, od_is_tie, .func (PySem.W.fnOf "is_tie" "is_tie" (defArgs s_is_tie) (defBody s_is_tie) (defScope s_is_tie) .none kV_is_tie dc_is_tie pm_is_tie an_is_tie cd_is_tie ct_is_tie), sl_is_tie⟩)
    (c_is_tie : PySem.W.codeIn K cd_is_tie "is_tie" = true)
    (k_is_tie : PySem.W.keepIn K (.ref f_is_tie) = true)
    (a_wrong_tie : PySem.W.nsIn K mainGlobals "wrong_tie" = some (some (.ref f_wrong_tie)))
    (l_wrong_tie : K.lookup f_wrong_tie = some ⟨oc_wrong_tie, od_wrong_tie, .func (PySem.W.fnOf "wrong_tie" "wrong_tie" (defArgs s_wrong_tie) (defBody s_wrong_tie) (defScope s_wrong_tie) .none kV_wrong_tie dc_wrong_tie pm_wrong_tie an_wrong_tie cd_wrong_tie ct_wrong_tie), sl_wrong_tie⟩)
    (c_wrong_tie : PySem.W.codeIn K cd_wrong_tie "wrong_tie" = true)
    (k_wrong_tie : PySem.W.keepIn K (.ref f_wrong_tie) = true)
    (a_is_pair : PySem.W.nsIn K mainGlobals "is_pair" = some (some (.ref f_is_pair)))
    (l_is_pair : K.lookup f_is_pair = some ⟨oc_is_pair, od_is_pair, .func (PySem.W.fnOf "is_pair" "is_pair" (defArgs s_is_pair) (defBody s_is_pair) (defScope s_is_pair) .none kV_is_pair dc_is_pair pm_is_pair an_is_pair cd_is_pair ct_is_pair), sl_is_pair⟩)
    (c_is_pair : PySem.W.codeIn K cd_is_pair "is_pair" = true)
    (k_is_pair : PySem.W.keepIn K (.ref f_is_pair) = true)
    (a_is_arrow : PySem.W.nsIn K mainGlobals "is_arrow" = some (some (.ref f_is_arrow)))
    (l_is_arrow : K.lookup f_is_arrow = some ⟨oc_is_arrow, od_is_arrow, .func (PySem.W.fnOf "is_arrow" "is_arrow" (defArgs s_is_arrow) (defBody s_is_arrow) (defScope s_is_arrow) .none kV_is_arrow dc_is_arrow pm_is_arrow an_is_arrow cd_is_arrow ct_is_arrow), sl_is_arrow⟩)
    (c_is_arrow : PySem.W.codeIn K cd_is_arrow "is_arrow" = true)
    (k_is_arrow : PySem.W.keepIn K (.ref f_is_arrow) = true)
    (a_wrong_arrow : PySem.W.nsIn K mainGlobals "wrong_arrow" = some (some (.ref f_wrong_arrow)))
    (l_wrong_arrow : K.lookup f_wrong_arrow = some ⟨oc_wrong_arrow, od_wrong_arrow, .func (PySem.W.fnOf "wrong_arrow" "wrong_arrow" (defArgs s_wrong_arrow) (defBody s_wrong_arrow) (defScope s_wrong_arrow) .none kV_wrong_arrow dc_wrong_arrow pm_wrong_arrow an_wrong_arrow cd_wrong_arrow ct_wrong_arrow), sl_wrong_arrow⟩)
    (c_wrong_arrow : PySem.W.codeIn K cd_wrong_arrow "wrong_arrow" = true)
    (k_wrong_arrow : PySem.W.keepIn K (.ref f_wrong_arrow) = true)
    (a_net_of : PySem.W.nsIn K mainGlobals "net_of" = some (some (.ref f_net_of)))
    (l_net_of : K.lookup f_net_of = some ⟨oc_net_of, od_net_of, .func (PySem.W.fnOf "net_of" "net_of" (defArgs s_net_of) (defBody s_net_of) (defScope s_net_of) .none kV_net_of dc_net_of pm_net_of an_net_of cd_net_of ct_net_of), sl_net_of⟩)
    (c_net_of : PySem.W.codeIn K cd_net_of "net_of" = true)
    (k_net_of : PySem.W.keepIn K (.ref f_net_of) = true)
    (a__law_pool : PySem.W.nsIn K mainGlobals "_law_pool" = some (some (.ref f__law_pool)))
    (l__law_pool : K.lookup f__law_pool = some ⟨oc__law_pool, od__law_pool, .func (PySem.W.fnOf "_law_pool" "_law_pool" (defArgs s__law_pool) (defBody s__law_pool) (defScope s__law_pool) .none kV__law_pool dc__law_pool pm__law_pool an__law_pool cd__law_pool ct__law_pool), sl__law_pool⟩)
    (c__law_pool : PySem.W.codeIn K cd__law_pool "_law_pool" = true)
    (k__law_pool : PySem.W.keepIn K (.ref f__law_pool) = true)
    (a__law_draw : PySem.W.nsIn K mainGlobals "_law_draw" = some (some (.ref f__law_draw)))
    (l__law_draw : K.lookup f__law_draw = some ⟨oc__law_draw, od__law_draw, .func (PySem.W.fnOf "_law_draw" "_law_draw" (defArgs s__law_draw) (defBody s__law_draw) (defScope s__law_draw) .none kV__law_draw dc__law_draw pm__law_draw an__law_draw cd__law_draw ct__law_draw), sl__law_draw⟩)
    (c__law_draw : PySem.W.codeIn K cd__law_draw "_law_draw" = true)
    (k__law_draw : PySem.W.keepIn K (.ref f__law_draw) = true)
    (a__law_pick : PySem.W.nsIn K mainGlobals "_law_pick" = some (some (.ref f__law_pick)))
    (l__law_pick : K.lookup f__law_pick = some ⟨oc__law_pick, od__law_pick, .func (PySem.W.fnOf "_law_pick" "_law_pick" (defArgs s__law_pick) (defBody s__law_pick) (defScope s__law_pick) .none kV__law_pick dc__law_pick pm__law_pick an__law_pick cd__law_pick ct__law_pick), sl__law_pick⟩)
    (c__law_pick : PySem.W.codeIn K cd__law_pick "_law_pick" = true)
    (k__law_pick : PySem.W.keepIn K (.ref f__law_pick) = true)
    (a__law_is_int : PySem.W.nsIn K mainGlobals "_law_is_int" = some (some (.ref f__law_is_int)))
    (l__law_is_int : K.lookup f__law_is_int = some ⟨oc__law_is_int, od__law_is_int, .func (PySem.W.fnOf "_law_is_int" "_law_is_int" (defArgs s__law_is_int) (defBody s__law_is_int) (defScope s__law_is_int) .none kV__law_is_int dc__law_is_int pm__law_is_int an__law_is_int cd__law_is_int ct__law_is_int), sl__law_is_int⟩)
    (c__law_is_int : PySem.W.codeIn K cd__law_is_int "_law_is_int" = true)
    (k__law_is_int : PySem.W.keepIn K (.ref f__law_is_int) = true)
    (a__law_ties : PySem.W.nsIn K mainGlobals "_law_ties" = some (some (.ref f__law_ties)))
    (l__law_ties : K.lookup f__law_ties = some ⟨oc__law_ties, od__law_ties, .func (PySem.W.fnOf "_law_ties" "_law_ties" (defArgs s__law_ties) (defBody s__law_ties) (defScope s__law_ties) .none kV__law_ties dc__law_ties pm__law_ties an__law_ties cd__law_ties ct__law_ties), sl__law_ties⟩)
    (c__law_ties : PySem.W.codeIn K cd__law_ties "_law_ties" = true)
    (k__law_ties : PySem.W.keepIn K (.ref f__law_ties) = true)
    (a__law_deep : PySem.W.nsIn K mainGlobals "_law_deep" = some (some (.ref f__law_deep)))
    (l__law_deep : K.lookup f__law_deep = some ⟨oc__law_deep, od__law_deep, .func (PySem.W.fnOf "_law_deep" "_law_deep" (defArgs s__law_deep) (defBody s__law_deep) (defScope s__law_deep) .none kV__law_deep dc__law_deep pm__law_deep an__law_deep cd__law_deep ct__law_deep), sl__law_deep⟩)
    (c__law_deep : PySem.W.codeIn K cd__law_deep "_law_deep" = true)
    (k__law_deep : PySem.W.keepIn K (.ref f__law_deep) = true)
    (a__law_odd : PySem.W.nsIn K mainGlobals "_law_odd" = some (some (.ref f__law_odd)))
    (l__law_odd : K.lookup f__law_odd = some ⟨oc__law_odd, od__law_odd, .func (PySem.W.fnOf "_law_odd" "_law_odd" (defArgs s__law_odd) (defBody s__law_odd) (defScope s__law_odd) .none kV__law_odd dc__law_odd pm__law_odd an__law_odd cd__law_odd ct__law_odd), sl__law_odd⟩)
    (c__law_odd : PySem.W.codeIn K cd__law_odd "_law_odd" = true)
    (k__law_odd : PySem.W.keepIn K (.ref f__law_odd) = true)
    (a__law_arrows : PySem.W.nsIn K mainGlobals "_law_arrows" = some (some (.ref f__law_arrows)))
    (l__law_arrows : K.lookup f__law_arrows = some ⟨oc__law_arrows, od__law_arrows, .func (PySem.W.fnOf "_law_arrows" "_law_arrows" (defArgs s__law_arrows) (defBody s__law_arrows) (defScope s__law_arrows) .none kV__law_arrows dc__law_arrows pm__law_arrows an__law_arrows cd__law_arrows ct__law_arrows), sl__law_arrows⟩)
    (c__law_arrows : PySem.W.codeIn K cd__law_arrows "_law_arrows" = true)
    (k__law_arrows : PySem.W.keepIn K (.ref f__law_arrows) = true)
    (a__law_net_part : PySem.W.nsIn K mainGlobals "_law_net_part" = some (some (.ref f__law_net_part)))
    (l__law_net_part : K.lookup f__law_net_part = some ⟨oc__law_net_part, od__law_net_part, .func (PySem.W.fnOf "_law_net_part" "_law_net_part" (defArgs s__law_net_part) (defBody s__law_net_part) (defScope s__law_net_part) .none kV__law_net_part dc__law_net_part pm__law_net_part an__law_net_part cd__law_net_part ct__law_net_part), sl__law_net_part⟩)
    (c__law_net_part : PySem.W.codeIn K cd__law_net_part "_law_net_part" = true)
    (k__law_net_part : PySem.W.keepIn K (.ref f__law_net_part) = true)
    (a__law_net_told : PySem.W.nsIn K mainGlobals "_law_net_told" = some (some (.ref f__law_net_told)))
    (l__law_net_told : K.lookup f__law_net_told = some ⟨oc__law_net_told, od__law_net_told, .func (PySem.W.fnOf "_law_net_told" "_law_net_told" (defArgs s__law_net_told) (defBody s__law_net_told) (defScope s__law_net_told) .none kV__law_net_told dc__law_net_told pm__law_net_told an__law_net_told cd__law_net_told ct__law_net_told), sl__law_net_told⟩)
    (c__law_net_told : PySem.W.codeIn K cd__law_net_told "_law_net_told" = true)
    (k__law_net_told : PySem.W.keepIn K (.ref f__law_net_told) = true)
    (a__law_bent_arrows : PySem.W.nsIn K mainGlobals "_law_bent_arrows" = some (some (.ref f__law_bent_arrows)))
    (l__law_bent_arrows : K.lookup f__law_bent_arrows = some ⟨oc__law_bent_arrows, od__law_bent_arrows, .func (PySem.W.fnOf "_law_bent_arrows" "_law_bent_arrows" (defArgs s__law_bent_arrows) (defBody s__law_bent_arrows) (defScope s__law_bent_arrows) .none kV__law_bent_arrows dc__law_bent_arrows pm__law_bent_arrows an__law_bent_arrows cd__law_bent_arrows ct__law_bent_arrows), sl__law_bent_arrows⟩)
    (c__law_bent_arrows : PySem.W.codeIn K cd__law_bent_arrows "_law_bent_arrows" = true)
    (k__law_bent_arrows : PySem.W.keepIn K (.ref f__law_bent_arrows) = true)
    (a_law : PySem.W.nsIn K mainGlobals "law" = some (some (.ref f_law)))
    (l_law : K.lookup f_law = some ⟨oc_law, od_law, .func (PySem.W.fnOf "law" "law" (defArgs s_law) (defBody s_law) (defScope s_law) .none kV_law dc_law pm_law an_law cd_law ct_law), sl_law⟩)
    (c_law : PySem.W.codeIn K cd_law "law" = true)
    (k_law : PySem.W.keepIn K (.ref f_law) = true)
    (a_Web_init : PySem.W.findIn K (.ref C_Web) "__init__" = some (some (.ref f_Web_init)))
    (i_Web_init : PySem.W.isFn K (.ref f_Web_init) = true)
    (l_Web_init : K.lookup f_Web_init = some ⟨oc_Web_init, od_Web_init, .func (PySem.W.fnOf "__init__" "Web.__init__" (defArgs s_Web_init) (defBody s_Web_init) (defScope s_Web_init) .none kV_Web_init dc_Web_init pm_Web_init an_Web_init cd_Web_init ct_Web_init), sl_Web_init⟩)
    (c_Web_init : PySem.W.codeIn K cd_Web_init "Web.__init__" = true)
    (k_Web_init : PySem.W.keepIn K (.ref f_Web_init) = true)
    (a_Net_init : PySem.W.findIn K (.ref C_Net) "__init__" = some (some (.ref f_Net_init)))
    (i_Net_init : PySem.W.isFn K (.ref f_Net_init) = true)
    (l_Net_init : K.lookup f_Net_init = some ⟨oc_Net_init, od_Net_init, .func (PySem.W.fnOf "__init__" "Net.__init__" (defArgs s_Net_init) (defBody s_Net_init) (defScope s_Net_init) .none kV_Net_init dc_Net_init pm_Net_init an_Net_init cd_Net_init ct_Net_init), sl_Net_init⟩)
    (c_Net_init : PySem.W.codeIn K cd_Net_init "Net.__init__" = true)
    (k_Net_init : PySem.W.keepIn K (.ref f_Net_init) = true)
    (a_Net_eq : PySem.W.findIn K (.ref C_Net) "__eq__" = some (some (.ref f_Net_eq)))
    (i_Net_eq : PySem.W.isFn K (.ref f_Net_eq) = true)
    (l_Net_eq : K.lookup f_Net_eq = some ⟨oc_Net_eq, od_Net_eq, .func (PySem.W.fnOf "__eq__" "Net.__eq__" (defArgs s_Net_eq) (defBody s_Net_eq) (defScope s_Net_eq) .none kV_Net_eq dc_Net_eq pm_Net_eq an_Net_eq cd_Net_eq ct_Net_eq), sl_Net_eq⟩)
    (c_Net_eq : PySem.W.codeIn K cd_Net_eq "Net.__eq__" = true)
    (k_Net_eq : PySem.W.keepIn K (.ref f_Net_eq) = true)
    (a_BadNet_init : PySem.W.findIn K (.ref C_BadNet) "__init__" = some (some (.ref f_BadNet_init)))
    (i_BadNet_init : PySem.W.isFn K (.ref f_BadNet_init) = true)
    (l_BadNet_init : K.lookup f_BadNet_init = some ⟨oc_BadNet_init, od_BadNet_init, .func (PySem.W.fnOf "__init__" "BadNet.__init__" (defArgs s_BadNet_init) (defBody s_BadNet_init) (defScope s_BadNet_init) .none kV_BadNet_init dc_BadNet_init pm_BadNet_init an_BadNet_init cd_BadNet_init ct_BadNet_init), sl_BadNet_init⟩)
    (c_BadNet_init : PySem.W.codeIn K cd_BadNet_init "BadNet.__init__" = true)
    (k_BadNet_init : PySem.W.keepIn K (.ref f_BadNet_init) = true)
    (z_isinstance : PySem.W.nsIn K mainGlobals "isinstance" = some none)
    (z_len : PySem.W.nsIn K mainGlobals "len" = some none)
    (z_sorted : PySem.W.nsIn K mainGlobals "sorted" = some none)
    (z_min : PySem.W.nsIn K mainGlobals "min" = some none)
    (z_max : PySem.W.nsIn K mainGlobals "max" = some none)
    (z_all : PySem.W.nsIn K mainGlobals "all" = some none)
    (z_zip : PySem.W.nsIn K mainGlobals "zip" = some none)
    (z_range : PySem.W.nsIn K mainGlobals "range" = some none)
    (z_enumerate : PySem.W.nsIn K mainGlobals "enumerate" = some none)
    (z_int : PySem.W.nsIn K mainGlobals "int" = some none)
    (z_bool : PySem.W.nsIn K mainGlobals "bool" = some none)
    (z_str : PySem.W.nsIn K mainGlobals "str" = some none)
    (z_list : PySem.W.nsIn K mainGlobals "list" = some none)
    (z_tuple : PySem.W.nsIn K mainGlobals "tuple" = some none)
    (z_abs : PySem.W.nsIn K mainGlobals "abs" = some none)
    (z_ValueError : PySem.W.nsIn K mainGlobals "ValueError" = some none) :
    ∃ fd : FuncData, (∀ (s : Shared) (v : Value), BindsTo s fd ⟨[v], []⟩ [("script", v)]) ∧ ∀ base : Heap, K.In base → base.Ns mainGlobals mg → FnOk l.prog w K mg base CX0 9 fa fd ["script"] (sp_law (K := K)) := by
  have e := hfa.symm.trans (PySem.W.mg_of X G a_law)
  cases e
  have B : Bl mg := ⟨PySem.W.mg_none_of X G z_isinstance, PySem.W.mg_none_of X G z_len, PySem.W.mg_none_of X G z_sorted, PySem.W.mg_none_of X G z_min, PySem.W.mg_none_of X G z_max, PySem.W.mg_none_of X G z_all, PySem.W.mg_none_of X G z_zip, PySem.W.mg_none_of X G z_range, PySem.W.mg_none_of X G z_enumerate, PySem.W.mg_none_of X G z_int, PySem.W.mg_none_of X G z_bool, PySem.W.mg_none_of X G z_str, PySem.W.mg_none_of X G z_list, PySem.W.mg_none_of X G z_tuple⟩
  have TW : Txt K mg C_Web := ⟨⟨pg, hd, po, sa⟩, nS, nT, PySem.W.mg_of X G a_Web, ⟨_, PySem.W.mg_of X G a_MP⟩, xc, xg, xt, xm⟩
  have CT : ClsTy K C_Web := ⟨kit_sub (by decide +kernel) ki, kit_sub (by decide +kernel) kt⟩
  have ZA : mg "abs" = none ∧ True := ⟨PySem.W.mg_none_of X G z_abs, trivial⟩
  have T : TxtN K mg C_Net := ⟨⟨pgN, hdN, poN, saN⟩, nSZ, nAR, PySem.W.mg_of X G a_Net, ⟨_, PySem.W.mg_of X G a_PL⟩, xcN, xg, xt, xmN⟩
  have LT : NetTy K C_Net C_Web := ⟨kit_tref hdN tyN ssN rfl, kit_tref hdN tyN ssN rfl, kit_tref hdN tyN ssN rfl, kit_tref hdN tyN ssN wsN, wsN⟩
  have N : OwnNe K C_Net f_Net_eq := ⟨a_Net_eq, i_Net_eq, xnN, xsN⟩
  have OX : OexC K C_BadNet := ⟨⟨_, _, _, _, _, _, _, _, _, _, _, _, _, _, _, L_BadNet, rfl⟩, sa_BadNet, ex_BadNet, ty_BadNet, kc_BadNet⟩
  have XF : XfC K C_BadNet := ⟨ga_BadNet, gg_BadNet, ex_BadNet, hd_BadNet⟩
  have EC : ExcC K C_BadNet := ⟨ga_BadNet, gg_BadNet, ex_BadNet, hd_BadNet, cl_BadNet, xg, xt, mr_BadNet⟩
  have ex : PySem.W.exmOne K (.ref C_BadNet) (.ref C_BadNet) = some true := PySem.W.exm_ref ex_BadNet hd_BadNet ty_BadNet ss_BadNet
  have kw : PySem.W.kitOne K (.ref C_BadNet) (.ref C_WebError) = some true := kit_refs hd_WebError ty_WebError sw_BadNet
  have kv : PySem.W.kitOne K (.ref C_BadNet) (.type "ValueError") = some true := kit_sub (by decide +kernel) kvB
  have F_is_integer := fun_mk (st := s_is_integer) l_is_integer c_is_integer k_is_integer
  have m_is_integer := PySem.W.mg_of X G a_is_integer
  have F_is_number := fun_mk (st := s_is_number) l_is_number c_is_number k_is_number
  have m_is_number := PySem.W.mg_of X G a_is_number
  have F_is_tie := fun_mk (st := s_is_tie) l_is_tie c_is_tie k_is_tie
  have m_is_tie := PySem.W.mg_of X G a_is_tie
  have F_wrong_tie := fun_mk (st := s_wrong_tie) l_wrong_tie c_wrong_tie k_wrong_tie
  have m_wrong_tie := PySem.W.mg_of X G a_wrong_tie
  have F_is_pair := fun_mk (st := s_is_pair) l_is_pair c_is_pair k_is_pair
  have m_is_pair := PySem.W.mg_of X G a_is_pair
  have F_is_arrow := fun_mk (st := s_is_arrow) l_is_arrow c_is_arrow k_is_arrow
  have m_is_arrow := PySem.W.mg_of X G a_is_arrow
  have F_wrong_arrow := fun_mk (st := s_wrong_arrow) l_wrong_arrow c_wrong_arrow k_wrong_arrow
  have m_wrong_arrow := PySem.W.mg_of X G a_wrong_arrow
  have F_net_of := fun_mk (st := s_net_of) l_net_of c_net_of k_net_of
  have m_net_of := PySem.W.mg_of X G a_net_of
  have F__law_pool := fun_mk (st := s__law_pool) l__law_pool c__law_pool k__law_pool
  have m__law_pool := PySem.W.mg_of X G a__law_pool
  have F__law_draw := fun_mk (st := s__law_draw) l__law_draw c__law_draw k__law_draw
  have m__law_draw := PySem.W.mg_of X G a__law_draw
  have F__law_pick := fun_mk (st := s__law_pick) l__law_pick c__law_pick k__law_pick
  have m__law_pick := PySem.W.mg_of X G a__law_pick
  have F__law_is_int := fun_mk (st := s__law_is_int) l__law_is_int c__law_is_int k__law_is_int
  have m__law_is_int := PySem.W.mg_of X G a__law_is_int
  have F__law_ties := fun_mk (st := s__law_ties) l__law_ties c__law_ties k__law_ties
  have m__law_ties := PySem.W.mg_of X G a__law_ties
  have F__law_deep := fun_mk (st := s__law_deep) l__law_deep c__law_deep k__law_deep
  have m__law_deep := PySem.W.mg_of X G a__law_deep
  have F__law_odd := fun_mk (st := s__law_odd) l__law_odd c__law_odd k__law_odd
  have m__law_odd := PySem.W.mg_of X G a__law_odd
  have F__law_arrows := fun_mk (st := s__law_arrows) l__law_arrows c__law_arrows k__law_arrows
  have m__law_arrows := PySem.W.mg_of X G a__law_arrows
  have F__law_net_part := fun_mk (st := s__law_net_part) l__law_net_part c__law_net_part k__law_net_part
  have m__law_net_part := PySem.W.mg_of X G a__law_net_part
  have F__law_net_told := fun_mk (st := s__law_net_told) l__law_net_told c__law_net_told k__law_net_told
  have m__law_net_told := PySem.W.mg_of X G a__law_net_told
  have F__law_bent_arrows := fun_mk (st := s__law_bent_arrows) l__law_bent_arrows c__law_bent_arrows k__law_bent_arrows
  have m__law_bent_arrows := PySem.W.mg_of X G a__law_bent_arrows
  have F_law := fun_mk (st := s_law) l_law c_law k_law
  have m_law := PySem.W.mg_of X G a_law
  have F_Web_init := fun_mk (st := s_Web_init) l_Web_init c_Web_init k_Web_init
  have F_Net_init := fun_mk (st := s_Net_init) l_Net_init c_Net_init k_Net_init
  have F_Net_eq := fun_mk (st := s_Net_eq) l_Net_eq c_Net_eq k_Net_eq
  have F_BadNet_init := fun_mk (st := s_BadNet_init) l_BadNet_init c_BadNet_init k_BadNet_init
  refine ⟨PySem.W.fnOf "law" "law" (defArgs s_law) (defBody s_law) (defScope s_law) .none kV_law dc_law pm_law an_law cd_law ct_law, fun s v => .of_eq rfl, fun base _ _ => ?_⟩
  have c1 := ok_is_integer (P := l.prog) (w := w) (base := base) F_is_integer m_is_integer B
  have c2 := ok_is_number F_is_number m_is_number B c1
  have c5 := ok_is_tie F_is_tie m_is_tie B c2
  have c6 := ok_wrong_tie F_wrong_tie m_wrong_tie B c5
  have wI := ok_Web_init F_Web_init B TW c2 c6
  have bI := F_Web_init.binds (ps := ["self", "size", "ties"]) fun _ _ _ _ _ _ us hl => match us, hl with | [_, _, _], _ => rfl
  have mW : Mkc l.prog w K mg base 5 C_Web "Web" ["self", "size", "ties"] (sp_Web_init C_Web) := ⟨f_Web_init, _, ⟨mk, a_Web_init, i_Web_init, kc⟩, wI, TW.mg_Web, bI⟩
  have bB := F_BadNet_init.binds (ps := ["self", "part"]) fun _ _ _ _ _ _ us hl => match us, hl with | [_, _], _ => rfl
  have BT : BadT l.prog w K mg base C_BadNet f_BadNet_init _ := ⟨OX, no_BadNet, PySem.W.mg_of X G a_BadNet, a_BadNet_init, beq_iff_eq.mp i_BadNet_init, ok_BadNet_init F_BadNet_init B, bB⟩
  have g1 := ok_is_integerA (P := l.prog) (w := w) (base := base) F_is_integer m_is_integer B
  have g2 := ok_is_numberA F_is_number m_is_number B g1
  have g3 := ok_is_pair (P := l.prog) (w := w) (base := base) (K := K) F_is_pair m_is_pair B
  have g4 := ok_is_arrow F_is_arrow m_is_arrow B g3 g2
  have g5 := ok_wrong_arrow F_wrong_arrow m_wrong_arrow B g4
  have lX := ok_Net_initX F_Net_init B T BT g2 g5
  have lI := ok_Net_init F_Net_init B T g2 g5
  have bL := F_Net_init.binds (ps := ["self", "size", "arrows"]) fun _ _ _ _ _ _ us hl => match us, hl with | [_, _, _], _ => rfl
  have mL : Mkc l.prog w K mg base 5 C_Net "Net" ["self", "size", "arrows"] (sp_Net_init C_Net) := ⟨f_Net_init, _, ⟨mkN, a_Net_init, i_Net_init, kcN⟩, lI, T.mg_Net, bL⟩
  have lE := ok_Net_eq (P := l.prog) (w := w) (base := base) F_Net_eq B T
  have bE := F_Net_eq.binds (ps := ["self", "other"]) fun _ _ _ _ _ _ us hl => match us, hl with | [_, _], _ => rfl
  have t1 := ok_law_pool (P := l.prog) (w := w) (base := base) F__law_pool m__law_pool B ZA
  have t2 := ok_law_draw (P := l.prog) (w := w) (base := base) F__law_draw m__law_draw B
  have t3 := ok_law_pick F__law_pick m__law_pick B t2
  have e1 := ok_law_is_intA (P := l.prog) (w := w) (base := base) (K := K) F__law_is_int m__law_is_int B
  have e2 := ok_law_ties F__law_ties m__law_ties B t2 t3
  have e3 := ok_law_deep (P := l.prog) (w := w) (base := base) (K := K) F__law_deep m__law_deep B
  have e4 := ok_law_odd F__law_odd m__law_odd B TW CT mW t3 e3
  have e5 := ok_law_arrows F__law_arrows m__law_arrows B t2 t3
  have e6 := ok_law_net_part F__law_net_part m__law_net_part B e1
  have e7 := ok_law_net_told F__law_net_told m__law_net_told B T BT ⟨mkN, a_Net_init, i_Net_init, kcN⟩ lX bL (PySem.W.mg_of X G a_WebError) (PySem.W.mg_none_of X G z_ValueError) XF EC ex kw kv
  have e8 := ok_law_bent_arrows F__law_bent_arrows m__law_bent_arrows B t2 t3 e3 e4
  have e9 := ok_net_of F_net_of m_net_of B T TW mL
  exact ok_law F_law B TW CT T LT N lE bE mW mL t1 t2 t3 e5 e4 e8 e6 e7 e2 e9
theorem walk {l : PySem.W.OpenLaw} {q : Program} {loose : List Str} {XP : (Str → Option Value) → Heap → Prop} {YP : World → Heap → Prop} {d : DefRec} {K : Params → PySem.W.Frag} (hn : l.most = some 63) (hdf : d.params.defaults = [])
    (hY : ∀ (w : World) (h : Heap), YP w h → (K w.params).In h)
    (F : ∀ (w : World) (mg : Str → Option Value) (fa : Addr) (h : Heap), (K w.params).In h → h.Ns mainGlobals mg → mg d.name = some (.ref fa) →
      ∃ fd : FuncData, (∀ (s : Shared) (u : Value), BindsTo s fd ⟨[u], []⟩ [("script", u)]) ∧ ∀ base : Heap, (K w.params).In base → base.Ns mainGlobals mg → FnOk l.prog w (K w.params) mg base CX0 9 fa fd ["script"] (sp_law (K w.params))) :
    PySem.W.WalkO q loose XP YP l.row.toRowW d [] (fun f vs => PySem.call f vs) :=
  L2.walk_of (n := 63) (k := 9) (x := "script") (CX := fun _ => CX0) (sp := fun w => sp_law (K w.params)) hn (by decide) hdf ⟨rfl, by decide, by decide⟩ hY F (fun _ _ a ns hl _ hS => ⟨a, ns, rfl, hS, fun _ => rfl⟩) fun _ _ _ _ _ z => z
end Bs

open PySem PySem.W PyProof.Rows in
set_option maxRecDepth 100000 in
set_option maxHeartbeats 0 in
theorem PySem.Challenge.cw_silencers_k77_nets_judged_holds : PySem.Challenge.rw_silencers_k77_nets_judged.Holds := by
  w_on; o_law; k_head; (case hw => w_witness2)
  k_fill
  refine Bs.walk (l := PySem.Challenge.rw_silencers_k77_nets_judged) rfl rfl (fun w h Y => PySem.W.kIn_of Y) ?F
  case F =>
    intro w mg fa h KX G hmg
    refine' Bs.all_mk KX G hmg ?a_Web ?a_MP ?pg ?hd ?po ?sa ?mk ?kc ?nS ?nT ?xc ?xg ?xt ?xm ?a_Net ?a_PL ?pgN ?hdN ?poN ?saN ?mkN ?kcN ?nSZ ?nAR ?xcN ?xmN ?tyN ?ssN ?wsN ?xnN ?xsN ?a_BadNet ?L_BadNet ?sa_BadNet ?ex_BadNet ?ty_BadNet ?kc_BadNet ?ga_BadNet ?gg_BadNet ?hd_BadNet ?cl_BadNet ?mr_BadNet ?ss_BadNet ?sw_BadNet ?no_BadNet ?kvB ?a_WebError ?hd_WebError ?ty_WebError ?ki ?kt ?a_is_integer ?l_is_integer ?c_is_integer ?k_is_integer ?a_is_number ?l_is_number ?c_is_number ?k_is_number ?a_is_tie ?l_is_tie ?c_is_tie ?k_is_tie ?a_wrong_tie ?l_wrong_tie ?c_wrong_tie ?k_wrong_tie ?a_is_pair ?l_is_pair ?c_is_pair ?k_is_pair ?a_is_arrow ?l_is_arrow ?c_is_arrow ?k_is_arrow ?a_wrong_arrow ?l_wrong_arrow ?c_wrong_arrow ?k_wrong_arrow ?a_net_of ?l_net_of ?c_net_of ?k_net_of ?a__law_pool ?l__law_pool ?c__law_pool ?k__law_pool ?a__law_draw ?l__law_draw ?c__law_draw ?k__law_draw ?a__law_pick ?l__law_pick ?c__law_pick ?k__law_pick ?a__law_is_int ?l__law_is_int ?c__law_is_int ?k__law_is_int ?a__law_ties ?l__law_ties ?c__law_ties ?k__law_ties ?a__law_deep ?l__law_deep ?c__law_deep ?k__law_deep ?a__law_odd ?l__law_odd ?c__law_odd ?k__law_odd ?a__law_arrows ?l__law_arrows ?c__law_arrows ?k__law_arrows ?a__law_net_part ?l__law_net_part ?c__law_net_part ?k__law_net_part ?a__law_net_told ?l__law_net_told ?c__law_net_told ?k__law_net_told ?a__law_bent_arrows ?l__law_bent_arrows ?c__law_bent_arrows ?k__law_bent_arrows ?a_law ?l_law ?c_law ?k_law ?a_Web_init ?i_Web_init ?l_Web_init ?c_Web_init ?k_Web_init ?a_Net_init ?i_Net_init ?l_Net_init ?c_Net_init ?k_Net_init ?a_Net_eq ?i_Net_eq ?l_Net_eq ?c_Net_eq ?k_Net_eq ?a_BadNet_init ?i_BadNet_init ?l_BadNet_init ?c_BadNet_init ?k_BadNet_init ?z_isinstance ?z_len ?z_sorted ?z_min ?z_max ?z_all ?z_zip ?z_range ?z_enumerate ?z_int ?z_bool ?z_str ?z_list ?z_tuple ?z_abs ?z_ValueError
    (case a_Web => k_is)
    (case a_MP => k_is)
    (case pg => k_is)
    (case hd => k_is)
    (case po => k_is)
    (case sa => k_is)
    (case mk => k_is)
    (case kc => k_is)
    (case nS => k_is)
    (case nT => k_is)
    (case xc => k_is)
    (case xg => k_is)
    (case xt => k_is)
    (case xm => k_is)
    (case a_Net => k_is)
    (case a_PL => k_is)
    (case pgN => k_is)
    (case hdN => k_is)
    (case poN => k_is)
    (case saN => k_is)
    (case mkN => k_is)
    (case kcN => k_is)
    (case nSZ => k_is)
    (case nAR => k_is)
    (case xcN => k_is)
    (case xmN => k_is)
    (case tyN => k_is)
    (case ssN => k_is)
    (case wsN => k_is)
    (case xnN => k_is)
    (case xsN => k_is)
    (case a_BadNet => k_is)
    (case L_BadNet => k_is)
    (case sa_BadNet => k_is)
    (case ex_BadNet => k_is)
    (case ty_BadNet => k_is)
    (case kc_BadNet => k_is)
    (case ga_BadNet => k_is)
    (case gg_BadNet => k_is)
    (case hd_BadNet => k_is)
    (case cl_BadNet => k_is)
    (case mr_BadNet => k_is)
    (case ss_BadNet => k_is)
    (case sw_BadNet => k_is)
    (case no_BadNet => k_is)
    (case kvB => k_is)
    (case a_WebError => k_is)
    (case hd_WebError => k_is)
    (case ty_WebError => k_is)
    (case ki => k_is)
    (case kt => k_is)
    (case a_is_integer => k_is)
    (case l_is_integer => k_is)
    (case c_is_integer => k_is)
    (case k_is_integer => k_is)
    (case a_is_number => k_is)
    (case l_is_number => k_is)
    (case c_is_number => k_is)
    (case k_is_number => k_is)
    (case a_is_tie => k_is)
    (case l_is_tie => k_is)
    (case c_is_tie => k_is)
    (case k_is_tie => k_is)
    (case a_wrong_tie => k_is)
    (case l_wrong_tie => k_is)
    (case c_wrong_tie => k_is)
    (case k_wrong_tie => k_is)
    (case a_is_pair => k_is)
    (case l_is_pair => k_is)
    (case c_is_pair => k_is)
    (case k_is_pair => k_is)
    (case a_is_arrow => k_is)
    (case l_is_arrow => k_is)
    (case c_is_arrow => k_is)
    (case k_is_arrow => k_is)
    (case a_wrong_arrow => k_is)
    (case l_wrong_arrow => k_is)
    (case c_wrong_arrow => k_is)
    (case k_wrong_arrow => k_is)
    (case a_net_of => k_is)
    (case l_net_of => k_is)
    (case c_net_of => k_is)
    (case k_net_of => k_is)
    (case a__law_pool => k_is)
    (case l__law_pool => k_is)
    (case c__law_pool => k_is)
    (case k__law_pool => k_is)
    (case a__law_draw => k_is)
    (case l__law_draw => k_is)
    (case c__law_draw => k_is)
    (case k__law_draw => k_is)
    (case a__law_pick => k_is)
    (case l__law_pick => k_is)
    (case c__law_pick => k_is)
    (case k__law_pick => k_is)
    (case a__law_is_int => k_is)
    (case l__law_is_int => k_is)
    (case c__law_is_int => k_is)
    (case k__law_is_int => k_is)
    (case a__law_ties => k_is)
    (case l__law_ties => k_is)
    (case c__law_ties => k_is)
    (case k__law_ties => k_is)
    (case a__law_deep => k_is)
    (case l__law_deep => k_is)
    (case c__law_deep => k_is)
    (case k__law_deep => k_is)
    (case a__law_odd => k_is)
    (case l__law_odd => k_is)
    (case c__law_odd => k_is)
    (case k__law_odd => k_is)
    (case a__law_arrows => k_is)
    (case l__law_arrows => k_is)
    (case c__law_arrows => k_is)
    (case k__law_arrows => k_is)
    (case a__law_net_part => k_is)
    (case l__law_net_part => k_is)
    (case c__law_net_part => k_is)
    (case k__law_net_part => k_is)
    (case a__law_net_told => k_is)
    (case l__law_net_told => k_is)
    (case c__law_net_told => k_is)
    (case k__law_net_told => k_is)
    (case a__law_bent_arrows => k_is)
    (case l__law_bent_arrows => k_is)
    (case c__law_bent_arrows => k_is)
    (case k__law_bent_arrows => k_is)
    (case a_law => k_is)
    (case l_law => k_is)
    (case c_law => k_is)
    (case k_law => k_is)
    (case a_Web_init => k_is)
    (case i_Web_init => k_is)
    (case l_Web_init => k_is)
    (case c_Web_init => k_is)
    (case k_Web_init => k_is)
    (case a_Net_init => k_is)
    (case i_Net_init => k_is)
    (case l_Net_init => k_is)
    (case c_Net_init => k_is)
    (case k_Net_init => k_is)
    (case a_Net_eq => k_is)
    (case i_Net_eq => k_is)
    (case l_Net_eq => k_is)
    (case c_Net_eq => k_is)
    (case k_Net_eq => k_is)
    (case a_BadNet_init => k_is)
    (case i_BadNet_init => k_is)
    (case l_BadNet_init => k_is)
    (case c_BadNet_init => k_is)
    (case k_BadNet_init => k_is)
    (case z_isinstance => k_is)
    (case z_len => k_is)
    (case z_sorted => k_is)
    (case z_min => k_is)
    (case z_max => k_is)
    (case z_all => k_is)
    (case z_zip => k_is)
    (case z_range => k_is)
    (case z_enumerate => k_is)
    (case z_int => k_is)
    (case z_bool => k_is)
    (case z_str => k_is)
    (case z_list => k_is)
    (case z_tuple => k_is)
    (case z_abs => k_is)
    (case z_ValueError => k_is)

