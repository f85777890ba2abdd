import PyProof.Rows.All
import Wide.All
import OpenK.AllK
import Wide.FinOn
import PyProof.EnumMake
import PyProof.Draws
import PyProof.InstNe
import HandS.ForMost
import HandS.IsInst
import HandS.Zip0
import HandS.Zip
import HandS.Conv
import HandS.Deep
import HandS.SortRule
import HandS.SortInts
import HandS.TupLe
import HandS.OwnEq
import HandS.Walk
import HandS.Evl
import HandS.EndTab
import KE.KNestM
import KE.KStateDown
import HandS.Head0
import HandS.Head1
import HandS.Head2
import HandS.Head3
import HandS.HeadHook1
import HandS.HeadHook2
import HandS.HeadHook3
import HandS.HeadHook4
import HandS.HeadEnd
import HandS.HeadWalk
import OpenK.KMake
import HandS.WideBits
import HandS.TupAny
import HandS.Style
import HandS.ForExc
import HandS.ExcInit
import HandS.TryMany
import HandS.ExcIs
import HandS.ExcField
import HandS.Lambda
import HandS.NamedTupSort
import HandS.FStr
import HandS.Text
import KE.KxField
import KE.KDictDisplayH
import HandS.SetFor
import HandS.Strs
import HandS.TupSets
import HandS.Flow
import KE.KMinBuiltin
import HandS.DictComp
import PyProof.SliceList
import HandS.Nested
import KE.KMinKey
import HandS.SetKeys
import HandS.TupLen
import PyProof.ZipIter
import PyProof.TupleOfSeq
import PyProof.RangeIter
import HandS.Iter
import KE.DataFind
import KE.SortData
import KE.DataMinMax
import KE.KDictPairs
import PyProof.ReprRoads
import HandS.WordsExc
import KE.GoesMore
import PySem.Challenge.RW_silencers_k70_whole_logs_that_fit_or_not
set_option Elab.async false
set_option linter.all false
set_option maxRecDepth 100000
set_option maxHeartbeats 4000000
set_option maxHeartbeats 4000000
namespace DL
open PySem PySem.Spec PyProof.Rows L2
theorem all_at {l : List Bool} (h : l.all (fun b => b) = true) {b : Bool} (i : Nat) (hi : l[i]? = some b) : b = true := List.all_eq_true.mp h b (List.mem_of_getElem? hi)
abbrev AlL : Type := Bool × List He.FnV
def obsL (as : List Addr) (fn : List He.FnD) (tf : List He.Defn) (ex : PySem.W.Frag → Bool) (g : Addr → Option Obj) : AlL := (ex (He.frT g as) && ((fn.all fun d => (He.Fa.code d.at_ d.qual).ok (He.frT g as)) && He.tabsB g tf (He.frT g as)), fn.map fun d => He.fnObs (He.frT g as) d.at_)
def valL (fn : List He.FnD) : AlL := (true, fn.map He.FnD.val)
structure SaysL (fn : List He.FnD) (tf : List He.Defn) (ex : PySem.W.Frag → Bool) (h : Heap) (K : PySem.W.Frag) : Prop where
  more : ex K = true
  code : ∀ d ∈ fn, (He.Fa.code d.at_ d.qual).ok K = true
  eq : (fn.map fun d => He.fnObs K d.at_) = fn.map He.FnD.val
  hd : ∀ p ∈ tf, PySem.W.codeHdIn K (He.cT K p).1 (He.cT K p).2 = true
  out : ∀ p ∈ tf, K.lookup (He.cT K p).2 = none
  empty : ∀ p ∈ tf, h.get? (He.cT K p).2 = some { cls := .none, data := .fields #[] }
theorem saysL_of {as : List Addr} {fn : List He.FnD} {tf : List He.Defn} {ex : PySem.W.Frag → Bool} {h : Heap} (e : obsL as fn tf ex h.get? = valL fn) : SaysL fn tf ex h (He.frT h.get? as) := by
  have e1 : (ex (He.frT h.get? as) && ((fn.all fun d => (He.Fa.code d.at_ d.qual).ok (He.frT h.get? as)) && He.tabsB h.get? tf (He.frT h.get? as))) = true := congrArg (fun z : AlL => z.1) e
  have e2 : (fn.map fun d => He.fnObs (He.frT h.get? as) d.at_) = fn.map He.FnD.val := congrArg (fun z : AlL => z.2) e
  obtain ⟨h1, h2⟩ := He.ba e1
  obtain ⟨h3, h4⟩ := He.ba h2
  have key : ∀ p ∈ tf, PySem.W.codeHdIn (He.frT h.get? as) (He.cT (He.frT h.get? as) p).1 (He.cT (He.frT h.get? as) p).2 = true ∧ ∃ o, h.get? (He.cT (He.frT h.get? as) p).2 = some o ∧ He.emptyTab o = true := fun p hp => by
    obtain ⟨q1, q2⟩ := He.ba (List.all_eq_true.mp h4 p hp)
    refine ⟨q1, ?_⟩
    split at q2
    · rename_i o ho
      exact ⟨o, ho, q2⟩
    · cases q2
  exact ⟨h1, fun d hd => List.all_eq_true.mp h3 d hd, e2, fun p hp => (key p hp).1, fun p hp => by
    obtain ⟨_, o, q, z⟩ := key p hp
    exact He.frT_none q z, fun p hp => by
    obtain ⟨_, o, q, z⟩ := key p hp
    rw [q, He.emptyTab_eq z]⟩
def hookL (as : List Addr) (fn : List He.FnD) (tf : List He.Defn) (ex : PySem.W.Frag → Bool) : PySem.W.Hook where
  α := AlL
  obs := fun s => obsL as fn tf ex s.heap.get?
  val := fun _ => valL fn
  says := fun _ h => ∃ K : PySem.W.Frag, K.In h ∧ SaysL fn tf ex h K
  of := fun _ _ e => ⟨_, He.frT_in, saysL_of e⟩
  keeps := fun _ _ _ ⟨K, hK, c⟩ k => ⟨K, PySem.W.Frag.In.keeps hK k, ⟨c.more, c.code, c.eq, c.hd, c.out, fun p hp => k _ _ (c.empty p hp)⟩⟩
theorem obsL_eq {as : List Addr} {fn : List He.FnD} {tf : List He.Defn} {ex : PySem.W.Frag → Bool} {g : Addr → Option Obj} {s : Shared} (h : ∀ a, g a = s.heap.get? a) : obsL as fn tf ex g = (hookL as fn tf ex).obs s := by
  have e : g = s.heap.get? := funext h
  rw [e] <;> rfl
section
variable {fn : List He.FnD} {tf : List He.Defn} {ex : PySem.W.Frag → Bool} {h : Heap} {K : PySem.W.Frag}
theorem SaysL.def_ (c : SaysL fn tf ex h K) (i : Nat) {d : He.FnD} (hi : fn[i]? = some d) :
    ∃ oc od osl kV doc pm an cdv ct, K.lookup (He.fAd K d.at_) = some ⟨oc, od, .func (PySem.W.fnOf d.name d.qual d.params d.body d.scope .none kV doc pm an cdv ct), osl⟩ ∧ PySem.W.codeIn K cdv d.qual = true := by
  have e2 : (fn.map fun d => He.fnObs K d.at_)[i]? = (fn.map He.FnD.val)[i]? := by rw [c.eq]
  rw [List.getElem?_map, List.getElem?_map, hi] at e2
  exact He.fn_ok (Option.some.inj e2) (c.code d (List.mem_of_getElem? hi))
end
theorem gint_ok {K : PySem.W.Frag} {x : Str} {i : Int} (c : (match PySem.W.nsIn K mainGlobals x with | some (some (.int j _)) => decide (j = i) | _ => false) = true) : ∃ t, PySem.W.nsIn K mainGlobals x = some (some (.int i t)) := by
  split at c
  · rename_i j t e
    rw [of_decide_eq_true c] at e
    exact ⟨t, e⟩
  · cases c
end DL

set_option maxHeartbeats 4000000
namespace Bs
open PySem PySem.Spec PyProof.Rows L2
theorem draws_tup {prog : Program} {w : World} {A : Around} (hh : A.handled = none) (it l : Addr) (hne : l ≠ it) (items : Array Value) :
    Draws prog w A it [it, l] items.size (fun i v => items[i]? = some v) (fun i h => h.IsTupleIter it l i ∧ h.IsTuple l items) where
  live := fun i h st => let ⟨⟨o, e, _⟩, _⟩ := st; ⟨o, e⟩
  frame := fun i h h' st k => ⟨st.1.at fun o e => k it (by simp) o e, st.2.at fun o e => k l (by simp) o e⟩
  item := fun i s Q E hi st hQ => by
    refine RZ.nextOf_tuple_item st.1 st.2 (x := items[i]) (by simp [hi]) fun h' hit' hs' => ?_
    exact hQ _ h' s.toks (by simp [hi]) ⟨hit', st.2.at fun o e => hs'.extBut l o hne e⟩ hs'
  done := fun s Q E st hQ => RZ.nextOf_tuple_end hh st.1 st.2 (by simp) hQ
theorem meets_enumerate_newT (l : Addr) (items : Array Value) (n : Nat) (dct : Option Addr) (sl : Array (Option Value)) :
    Meets (Builtin.«enumerate.__new__» ⟨[.type "enumerate", .ref l], []⟩) (fun _ R s => s.heap.get? l = some { cls := .type "tuple", dict := dct, data := .seq items n, slots := sl } ∧
      R (.ok (.ret (.ref (s.heap.push { cls := .type "tuple_iterator", data := .fields #[.ref l, .int 0 0] }).objs.size)))
        { s with heap := (s.heap.push { cls := .type "tuple_iterator", data := .fields #[.ref l, .int 0 0] }).push { cls := .type "enumerate", data := .fields #[.none, .bool false, .ref s.heap.objs.size, rawInt 0, .none, .none] } }) :=
  .of_wp fun prog w A R s h => by
    obtain ⟨hp, g, d, tk, os⟩ := s; obtain ⟨hl, h⟩ := h
    have hsub := sub_enumerate
    have hL : Heap.IsTuple (Shared.heap ⟨hp, g, d, tk, os⟩) l items := ⟨_, hl, rfl, n, rfl⟩
    wp_walk using AutoSeq1.wpAny_loadPart' hl
    refine wpAny_stack_any fun st => wpAny_pure ?_
    split
    · rename_i c _ _ _ _ _
      cases (c == Value.type "enumerate")
      · wp_walk using AutoSeq1.wpAny_loadPart' hl, wpAny_pyIter_tuple hL
        exact ⟨_, rfl, h⟩
      · wp_walk using AutoSeq1.wpAny_loadPart' hl, wpAny_pyIter_tuple hL
        exact ⟨_, rfl, h⟩
    · wp_walk using AutoSeq1.wpAny_loadPart' hl, wpAny_pyIter_tuple hL
      exact ⟨_, rfl, h⟩
section
variable {prog : Program} {w : World} {A : Around} {E : Value → Shared → Prop} {s : Shared}
theorem call_enumerate_tup {l : Addr} {items : Array Value} {Q : Value → Shared → Prop} (hL : s.heap.IsTuple l items)
    (h : ∀ h', IsEnum h' (s.heap.objs.size + 1) s.heap.objs.size 0 .none → h'.IsTupleIter s.heap.objs.size l 0 → h'.objs.size = s.heap.objs.size + 2 →
      (∀ b o, s.heap.get? b = some o → h'.get? b = some o) → Q (.ref (s.heap.objs.size + 1)) { s with heap := h' }) :
    wpAny (model prog w) A (call (.type "enumerate") [.ref l]) Q E s := by
  obtain ⟨⟨c, dct, dt, sl⟩, hl, hc, n, hd⟩ := hL
  replace hc : c = .type "tuple" := hc
  replace hd : dt = .seq items n := hd
  subst hc hd
  refine callType_new F.called_enumerate (by decide) (F.typeCall_enumerate_1 _) (F.newCall_enumerate_1 _) (fun obj => F.args_object_init_2 obj _) F.entry_enumerate_new
    (meets_enumerate_newT l items n dct sl) ⟨hl, ?_⟩
  have hz : (s.heap.push { cls := .type "tuple_iterator", data := .fields #[.ref l, .int 0 0] }).objs.size = s.heap.objs.size + 1 := Heap.size_push ..
  show _ ∧ _
  rw [hz]
  have he : IsEnum ((s.heap.push { cls := .type "tuple_iterator", data := .fields #[.ref l, .int 0 0] }).push
      { cls := .type "enumerate", data := .fields #[.none, .bool false, .ref s.heap.objs.size, rawInt 0, .none, .none] }) (s.heap.objs.size + 1) s.heap.objs.size 0 .none := by
    have := Heap.get?_push_size (s.heap.push { cls := .type "tuple_iterator", data := .fields #[.ref l, .int 0 0] })
      (o := { cls := .type "enumerate", data := .fields #[.none, .bool false, .ref s.heap.objs.size, rawInt 0, .none, .none] }) rfl
    rw [hz] at this; exact this
  refine ⟨⟨_, he, rfl⟩, h _ he ⟨_, Heap.get?_push_of_some _ (Heap.get?_push_size _ rfl), rfl, rfl⟩ (by rw [Heap.size_push, hz]) fun b o x => Heap.get?_push_of_some _ (Heap.get?_push_of_some _ x)⟩
end
def IteT (K : PySem.W.Frag) (a : Addr) : It :=
  ⟨fun i H => ∃ (xs : List V) (x : V), SqT K H a xs ∧ xs[i]? = some x, fun i H v H' => ∃ T x, v = .ref T ∧ H T = none ∧ H' = upd H T (.tup [.int (i : Nat), x]) ∧ ∀ xs, SqT K H a xs → xs[i]? = some x, fun i H => ∃ xs : List V, SqT K H a xs ∧ xs.length ≤ i⟩
theorem turn_enumT {P : Program} {w : World} {K : PySem.W.Frag} {elts : List Expr} {kk : Nat} {tpos : Pos} (a e it : Addr) :
    Turn P w K (.Tuple elts kk tpos) (IteT K a) [e, it] e (fun i h => (∃ old, IsEnum h e it ((i : Nat) : Int) old) ∧ h.IsTupleIter it a i ∧ e ≠ it ∧ a ≠ it ∧ a ≠ e) where
  mem := by simp
  obj := fun i h st b hb => by
    obtain ⟨⟨old, he⟩, ⟨o, ho, hc, hd⟩, _⟩ := st
    have e' : b = e ∨ b = it := by simpa using hb
    rcases e' with z | z
    · rw [z]; exact ⟨_, he, fun v q => nomatch q⟩
    · rw [z]; exact ⟨o, ho, fun v q => by rw [hd] at q; cases q⟩
  keep := fun i h h' st k => let ⟨⟨old, he⟩, hi, hne⟩ := st; ⟨⟨old, k e (by simp) _ he⟩, hi.at fun o q => k it (by simp) o q, hne⟩
  item := by
    intro X hP hw hK hc i pins s σ H E I hf st hg
    subst hP hw hK
    obtain ⟨⟨old, he⟩, hit, hne, hne2, hne3⟩ := st
    obtain ⟨xs, x, hq, hx⟩ := hg
    obtain ⟨its, rv, p, hz⟩ := I.tuple hq
    obtain ⟨u, hu, ru⟩ := rv.get hx
    have hel : e < s.heap.objs.size := Heap.lt_size he
    have hil : it < s.heap.objs.size := by obtain ⟨_, q, _⟩ := hit; exact Heap.lt_size q
    have hlt : i < its.toArray.size := by
      have := (List.getElem?_eq_some_iff.mp hu).1
      simpa using this
    refine wpAny_pyNext_enum_itemD (draws_tup (show X.A.in1.handled = none from I.ok.hd hc) it a hne2 its.toArray) he ⟨hit, p⟩ hlt hne (by simp [hne, Ne.symm hne3]) fun y h' tk hy ho hit' hT hsz hk => ?_
    have hyu : y = u := by
      have h2 : its.toArray[i]? = some u := by simpa using hu
      rw [h2] at hy
      exact (Option.some.inj hy).symm
    subst hyu
    refine ⟨_, rfl, wpAny_letOwnedTupleGo_enum (s := { s with heap := h', toks := tk + 1 }) ho fun h'' he' sb => ?_⟩
    have hT2 : h''.get? s.heap.objs.size = some { cls := .type "tuple", data := .seq #[.int i tk, y] } := (sb.2 _ (Nat.ne_of_gt hel)).trans hT
    have new : ObjOk X.prog X.w (upd H s.heap.objs.size (.tup [.int (i : Nat), x])) h'' s.heap.objs.size (.tup [.int (i : Nat), x]) :=
      ⟨by show 2 ≤ sizeLine; decide, [.int i tk, y], .cons ⟨_, rfl⟩ (.cons ru .nil), ⟨_, hT2, rfl, _, rfl⟩⟩
    have I1 : Inv X pins σ (upd H s.heap.objs.size (.tup [.int (i : Nat), x])) { s with heap := h'', toks := tk + 1 } :=
      I.turnedNew (ch := [e, it]) (fun b ob hb q => (sb.2 b (fun z => hb (by simp [z]))).trans (hk b ob (fun z => hb (by simp [z])) (fun z => hb (by simp [z])) q)) hf (Nat.le_refl _) new
    refine ⟨.ref s.heap.objs.size, _, I1, rfl, ⟨_, x, rfl, I.hok.fresh (Nat.le_refl _), rfl, fun ys hy => by rw [I.tuple_inj hy hq]; exact hx⟩, ⟨⟨y, ?_⟩, hit'.1.at fun o q => (sb.2 it (Ne.symm hne)).trans q, hne, hne2, hne3⟩, fun b hb => ?_⟩
    · have e1 : ((i + 1 : Nat) : Int) = (i : Int) + 1 := by omega
      rw [e1]; exact he'
    · have hb' : b < s.heap.objs.size := by
        have e' : b = e ∨ b = it := by simpa using hb
        rcases e' with z | z
        · rw [z]; exact hel
        · rw [z]; exact hil
      rw [upd_ne (Nat.ne_of_lt hb')]
      exact (hf b hb).1
  done := by
    intro X hP hw hK hc i pins s σ H E I hf st hg
    subst hP hw hK
    obtain ⟨⟨old, he⟩, hit, hne, hne2, hne3⟩ := st
    obtain ⟨xs, hq, hx⟩ := hg
    obtain ⟨its, rv, p, hz⟩ := I.tuple hq
    obtain ⟨f0, f1, f2, f3, f4, f5⟩ := hf it (by simp)
    have hl := rv.length
    have hT : s.TypeIs (.ref e) "enumerate" := ⟨_, he, rfl⟩
    unfold pyNext
    refine wpAny_bind (wpAny_attempt (wpAny_callSpecial?_slot (name := Str.ofString "__next__") hT F.slot_enumerate_next
      (wpAny_call_entry F.slot_enumerate_next hT F.entry_enumerate_next ?_ (F.args_enumerate_next_1 _))))
    show wpAny _ _ (field (.ref e) 2 >>= _) _ _ _
    refine wpAny_bind (wpAny_field he rfl (x := .ref it) rfl ?_)
    refine wpAny_bind (RZ.nextOf_tuple_end (show X.A.in1.handled = none from I.ok.hd hc) hit p (by simp; omega) fun h' x he' hx' => ?_)
    obtain ⟨o, ho, hc⟩ := hx'
    refine wpAny_bind (wpAny_isInstance (T := "StopIteration") (b := true) ⟨o, ho, hc⟩ isSubtype_stop ?_)
    exact wpAny_pure ⟨rfl, I.turned (t' := s.toks) (fun b o hb q => he' b o hb q) f0 f1 f3 f4 f5⟩
  self := fun A i s Q E st h => let ⟨⟨_, he⟩, _⟩ := st; wpAny_pyIter_enum he h
def iEnumT (K : PySem.W.Frag) (ta : TA) : TI := fun σ H R => ta σ H fun vs H1 => ∃ a xs, vs = [.ref a] ∧ SqT K H1 a xs ∧ R (IteT K a) H1
theorem pi_enumT {X : Cx} {e : Expr} {ta : TA} {p pos tpos : Pos} {elts : List Expr} {kk : Nat} (hg : Gl X "enumerate") (hm : X.mg "enumerate" = none) (ha : PA X [e] ta) (hs : starEach [e] X.env = [(false, eval e X.env)] := by rfl) :
    PI X (.Tuple elts kk tpos) (.Call (.Name "enumerate" p) [e] [] pos) (iEnumT X.K ta) := by
  refine ⟨fun pins s σ H R I h => ?_⟩
  refine Call_ (ld_blt I hg hm boot_enumerate (PyProof.Rows.callWith_type1 (thn (ha.run pos pins s σ H _ I h) fun us s1 ⟨vs, H1, I1, r1, q1⟩ => ?_) hs rfl))
  obtain ⟨a, xs, ex, hq, q⟩ := q1
  subst ex
  cases r1 with
  | cons r rr =>
    cases rr
    cases r
    obtain ⟨its, rv, p', hz⟩ := I1.tuple hq
    have hal : a < s1.heap.objs.size := by obtain ⟨_, q, _⟩ := p'; exact Heap.lt_size q
    refine call_enumerate_tup p' fun h' he hit hsz hk => wpAny_pyIter_enum he ?_
    have I2 : Inv X pins σ H1 { s1 with heap := h' } := I1.kept (t' := s1.toks) hk
    refine ⟨s1.heap.objs.size + 1, [s1.heap.objs.size + 1, s1.heap.objs.size], _, _, H1, rfl, I2, turn_enumT a (s1.heap.objs.size + 1) s1.heap.objs.size, ⟨⟨.none, he⟩, hit, Nat.succ_ne_self _, Nat.ne_of_lt hal, Nat.ne_of_lt (Nat.lt_succ_of_lt hal)⟩, fun b hb => ?_, q⟩
    have e' : b = s1.heap.objs.size + 1 ∨ b = s1.heap.objs.size := by simpa using hb
    have hle : s1.heap.objs.size ≤ b := by
      rcases e' with z | z
      · rw [z]; exact Nat.le_add_right _ _
      · rw [z]; exact Nat.le_refl _
    exact I1.fpOk hle (I1.hok.fresh hle)
end Bs

set_option maxHeartbeats 4000000
namespace DL
open PySem PySem.Spec PyProof.Rows L2 Bs
def topH (i : Nat) : Stmt := PySem.Challenge.pw_silencers_k70_whole_logs_that_fit_or_not.main.body.getD i (.Pass ⟨0, 0, 0, 0⟩)
abbrev fnL : List He.FnD := [⟨(("is_integer" : Str), (none : Option Str)), "is_integer", "is_integer", defArgs (topH 9), defBody (topH 9), defScope (topH 9)⟩,
  ⟨(("is_number" : Str), (none : Option Str)), "is_number", "is_number", defArgs (topH 10), defBody (topH 10), defScope (topH 10)⟩,
  ⟨(("is_tie" : Str), (none : Option Str)), "is_tie", "is_tie", defArgs (topH 27), defBody (topH 27), defScope (topH 27)⟩,
  ⟨(("wrong_tie" : Str), (none : Option Str)), "wrong_tie", "wrong_tie", defArgs (topH 28), defBody (topH 28), defScope (topH 28)⟩,
  ⟨(("Web" : Str), some ("__init__" : Str)), "__init__", "Web.__init__", defArgs (inClass (topH 26) 0), defBody (inClass (topH 26) 0), defScope (inClass (topH 26) 0)⟩,
  ⟨(("_law_tied" : Str), (none : Option Str)), "_law_tied", "_law_tied", defArgs (topH 47), defBody (topH 47), defScope (topH 47)⟩,
  ⟨(("_law_says" : Str), (none : Option Str)), "_law_says", "_law_says", defArgs (topH 48), defBody (topH 48), defScope (topH 48)⟩,
  ⟨(("_law_called" : Str), (none : Option Str)), "_law_called", "_law_called", defArgs (topH 49), defBody (topH 49), defScope (topH 49)⟩,
  ⟨(("_law_flag" : Str), (none : Option Str)), "_law_flag", "_law_flag", defArgs (topH 56), defBody (topH 56), defScope (topH 56)⟩,
  ⟨(("_law_pick" : Str), (none : Option Str)), "_law_pick", "_law_pick", defArgs (topH 45), defBody (topH 45), defScope (topH 45)⟩,
  ⟨(("_law_log" : Str), (none : Option Str)), "_law_log", "_law_log", defArgs (topH 53), defBody (topH 53), defScope (topH 53)⟩,
  ⟨(("_law_stands" : Str), (none : Option Str)), "_law_stands", "_law_stands", defArgs (topH 54), defBody (topH 54), defScope (topH 54)⟩,
  ⟨(("_law_tape" : Str), (none : Option Str)), "_law_tape", "_law_tape", defArgs (topH 44), defBody (topH 44), defScope (topH 44)⟩,
  ⟨(("_law_web" : Str), (none : Option Str)), "_law_web", "_law_web", defArgs (topH 46), defBody (topH 46), defScope (topH 46)⟩,
  ⟨(("_law_wrong" : Str), (none : Option Str)), "_law_wrong", "_law_wrong", defArgs (topH 55), defBody (topH 55), defScope (topH 55)⟩,
  ⟨(("is_lot_below" : Str), (none : Option Str)), "is_lot_below", "is_lot_below", defArgs (topH 12), defBody (topH 12), defScope (topH 12)⟩,
  ⟨(("is_pair" : Str), (none : Option Str)), "is_pair", "is_pair", defArgs (topH 14), defBody (topH 14), defScope (topH 14)⟩,
  ⟨(("is_told_call" : Str), (none : Option Str)), "is_told_call", "is_told_call", defArgs (topH 32), defBody (topH 32), defScope (topH 32)⟩,
  ⟨(("is_log" : Str), (none : Option Str)), "is_log", "is_log", defArgs (topH 33), defBody (topH 33), defScope (topH 33)⟩,
  ⟨(("check_log" : Str), (none : Option Str)), "check_log", "check_log", defArgs (topH 34), defBody (topH 34), defScope (topH 34)⟩,
  ⟨(("lot_of" : Str), (none : Option Str)), "lot_of", "lot_of", defArgs (topH 17), defBody (topH 17), defScope (topH 17)⟩,
  ⟨(("behind_told" : Str), (none : Option Str)), "behind_told", "behind_told", defArgs (topH 35), defBody (topH 35), defScope (topH 35)⟩,
  ⟨(("bits_of" : Str), (none : Option Str)), "bits_of", "bits_of", defArgs (topH 16), defBody (topH 16), defScope (topH 16)⟩,
  ⟨(("stands_of" : Str), (none : Option Str)), "stands_of", "stands_of", defArgs (topH 36), defBody (topH 36), defScope (topH 36)⟩,
  ⟨(("behind" : Str), (none : Option Str)), "behind", "behind", defArgs (topH 41), defBody (topH 41), defScope (topH 41)⟩,
  ⟨(("calls_of" : Str), (none : Option Str)), "calls_of", "calls_of", defArgs (topH 37), defBody (topH 37), defScope (topH 37)⟩,
  ⟨(("tied_bits" : Str), (none : Option Str)), "tied_bits", "tied_bits", defArgs (topH 18), defBody (topH 18), defScope (topH 18)⟩,
  ⟨(("told_by" : Str), (none : Option Str)), "told_by", "told_by", defArgs (topH 22), defBody (topH 22), defScope (topH 22)⟩,
  ⟨(("first_wrong" : Str), (none : Option Str)), "first_wrong", "first_wrong", defArgs (topH 38), defBody (topH 38), defScope (topH 38)⟩,
  ⟨(("fits" : Str), (none : Option Str)), "fits", "fits", defArgs (topH 39), defBody (topH 39), defScope (topH 39)⟩,
  ⟨(("behind_call" : Str), (none : Option Str)), "behind_call", "behind_call", defArgs (topH 23), defBody (topH 23), defScope (topH 23)⟩,
  ⟨(("is_lot" : Str), (none : Option Str)), "is_lot", "is_lot", defArgs (topH 13), defBody (topH 13), defScope (topH 13)⟩,
  ⟨(("check_stand" : Str), (none : Option Str)), "check_stand", "check_stand", defArgs (topH 15), defBody (topH 15), defScope (topH 15)⟩,
  ⟨(("is_part" : Str), (none : Option Str)), "is_part", "is_part", defArgs (topH 11), defBody (topH 11), defScope (topH 11)⟩,
  ⟨(("is_row" : Str), (none : Option Str)), "is_row", "is_row", defArgs (topH 21), defBody (topH 21), defScope (topH 21)⟩,
  ⟨(("same_log" : Str), (none : Option Str)), "same_log", "same_log", defArgs (topH 42), defBody (topH 42), defScope (topH 42)⟩,
  ⟨(("wrong_call" : Str), (none : Option Str)), "wrong_call", "wrong_call", defArgs (topH 40), defBody (topH 40), defScope (topH 40)⟩,
  ⟨(("law" : Str), (none : Option Str)), "law", "law", defArgs (topH 57), defBody (topH 57), defScope (topH 57)⟩]
abbrev tfL : List He.Defn := []
def fc_0 (K : PySem.W.Frag) : List Bool := [(match PySem.W.nsIn K mainGlobals "MOST_CALLS" with | some (some (.int j _)) => decide (j = 1000) | _ => false),
  (match PySem.W.nsIn K mainGlobals "MOST_LOGGED_CALLS" with | some (some (.int j _)) => decide (j = 200) | _ => false),
  (match PySem.W.nsIn K mainGlobals "MOST_LOGGED_PARTS" with | some (some (.int j _)) => decide (j = 12) | _ => false),
  (match PySem.W.nsIn K mainGlobals "MOST_PARTS" with | some (some (.int j _)) => decide (j = 24) | _ => false),
  decide (PySem.W.nsIn K mainGlobals "bool" = some none),
  decide (PySem.W.nsIn K mainGlobals "enumerate" = some none),
  decide (PySem.W.nsIn K mainGlobals "int" = some none),
  decide (PySem.W.nsIn K mainGlobals "isinstance" = some none),
  decide (PySem.W.nsIn K mainGlobals "len" = some none),
  decide (PySem.W.nsIn K mainGlobals "list" = some none),
  decide (PySem.W.nsIn K mainGlobals "max" = some none),
  decide (PySem.W.nsIn K mainGlobals "min" = some none),
  decide (PySem.W.nsIn K mainGlobals "range" = some none),
  decide (PySem.W.nsIn K mainGlobals "repr" = some none),
  decide (PySem.W.nsIn K mainGlobals "sorted" = some none),
  decide (PySem.W.nsIn K mainGlobals "tuple" = some none),
  decide (PySem.W.nsIn K mainGlobals "zip" = some none),
  decide (PySem.W.specialIn K (.builtin "object.__class__") "__get__" = some (some (.builtin "getset_descriptor.__get__"))),
  decide (PySem.W.takesIn K (.builtin "object.__class__") = some true),
  decide (PySem.W.nsIn K mainGlobals "Web" = some (some (.ref (He.ga K "Web")))),
  PySem.W.plainGet K (He.ga K "Web") Str.empty,
  PySem.W.hasDictIn K (He.ga K "Web"),
  PySem.W.plainOver K (He.ga K "Web"),
  decide (PySem.W.findIn K (.ref (He.ga K "Web")) "__setattr__" = some (some (.builtin "object.__setattr__"))),
  PySem.W.makesIn K (He.ga K "Web"),
  PySem.W.keepIn K (.ref (He.ga K "Web")),
  decide (PySem.W.findIn K (.ref (He.ga K "Web")) "size" = some none),
  decide (PySem.W.findIn K (.ref (He.ga K "Web")) "ties" = some none),
  decide (PySem.W.findIn K (.ref (He.ga K "Web")) "__class__" = some (some (.builtin "object.__class__"))),
  decide (PySem.W.mroIn K (He.ga K "Web") (.type "object") = some true),
  decide (PySem.W.subIn K (.ref (He.ga K "Web")) (.type "bool") = some false),
  decide (PySem.W.subIn K (.ref (He.ga K "Web")) (.type "int") = some false),
  decide (PySem.W.subIn K (.ref (He.ga K "Web")) (.type "list") = some false),
  decide (PySem.W.subIn K (.ref (He.ga K "Web")) (.type "tuple") = some false),
  decide (PySem.W.nsIn K mainGlobals "is_integer" = some (some (.ref (He.ga K "is_integer")))),
  PySem.W.keepIn K (.ref (He.ga K "is_integer")),
  decide (PySem.W.nsIn K mainGlobals "is_number" = some (some (.ref (He.ga K "is_number")))),
  PySem.W.keepIn K (.ref (He.ga K "is_number")),
  decide (PySem.W.nsIn K mainGlobals "is_tie" = some (some (.ref (He.ga K "is_tie")))),
  PySem.W.keepIn K (.ref (He.ga K "is_tie"))]
def fc_1 (K : PySem.W.Frag) : List Bool := [decide (PySem.W.nsIn K mainGlobals "wrong_tie" = some (some (.ref (He.ga K "wrong_tie")))),
  PySem.W.keepIn K (.ref (He.ga K "wrong_tie")),
  decide (PySem.W.findIn K (.ref (He.ga K "Web")) "__init__" = some (some (.ref (He.ma K (He.ga K "Web") "__init__")))),
  PySem.W.isFn K (.ref (He.ma K (He.ga K "Web") "__init__")),
  PySem.W.keepIn K (.ref (He.ma K (He.ga K "Web") "__init__")),
  decide (PySem.W.nsIn K mainGlobals "_law_tied" = some (some (.ref (He.ga K "_law_tied")))),
  PySem.W.keepIn K (.ref (He.ga K "_law_tied")),
  decide (PySem.W.nsIn K mainGlobals "_law_says" = some (some (.ref (He.ga K "_law_says")))),
  PySem.W.keepIn K (.ref (He.ga K "_law_says")),
  decide (PySem.W.nsIn K mainGlobals "_law_called" = some (some (.ref (He.ga K "_law_called")))),
  PySem.W.keepIn K (.ref (He.ga K "_law_called")),
  decide (PySem.W.nsIn K mainGlobals "_law_flag" = some (some (.ref (He.ga K "_law_flag")))),
  PySem.W.keepIn K (.ref (He.ga K "_law_flag")),
  decide (PySem.W.nsIn K mainGlobals "_law_pick" = some (some (.ref (He.ga K "_law_pick")))),
  PySem.W.keepIn K (.ref (He.ga K "_law_pick")),
  decide (PySem.W.nsIn K mainGlobals "_law_log" = some (some (.ref (He.ga K "_law_log")))),
  PySem.W.keepIn K (.ref (He.ga K "_law_log")),
  decide (PySem.W.nsIn K mainGlobals "_law_stands" = some (some (.ref (He.ga K "_law_stands")))),
  PySem.W.keepIn K (.ref (He.ga K "_law_stands")),
  decide (PySem.W.nsIn K mainGlobals "_law_tape" = some (some (.ref (He.ga K "_law_tape")))),
  PySem.W.keepIn K (.ref (He.ga K "_law_tape")),
  decide (PySem.W.nsIn K mainGlobals "_law_web" = some (some (.ref (He.ga K "_law_web")))),
  PySem.W.keepIn K (.ref (He.ga K "_law_web")),
  decide (PySem.W.nsIn K mainGlobals "_law_wrong" = some (some (.ref (He.ga K "_law_wrong")))),
  PySem.W.keepIn K (.ref (He.ga K "_law_wrong")),
  decide (PySem.W.nsIn K mainGlobals "is_lot_below" = some (some (.ref (He.ga K "is_lot_below")))),
  PySem.W.keepIn K (.ref (He.ga K "is_lot_below")),
  decide (PySem.W.nsIn K mainGlobals "is_pair" = some (some (.ref (He.ga K "is_pair")))),
  PySem.W.keepIn K (.ref (He.ga K "is_pair")),
  decide (PySem.W.nsIn K mainGlobals "is_told_call" = some (some (.ref (He.ga K "is_told_call")))),
  PySem.W.keepIn K (.ref (He.ga K "is_told_call")),
  decide (PySem.W.nsIn K mainGlobals "is_log" = some (some (.ref (He.ga K "is_log")))),
  PySem.W.keepIn K (.ref (He.ga K "is_log")),
  decide (PySem.W.nsIn K mainGlobals "check_log" = some (some (.ref (He.ga K "check_log")))),
  PySem.W.keepIn K (.ref (He.ga K "check_log")),
  decide (PySem.W.nsIn K mainGlobals "lot_of" = some (some (.ref (He.ga K "lot_of")))),
  PySem.W.keepIn K (.ref (He.ga K "lot_of")),
  decide (PySem.W.nsIn K mainGlobals "behind_told" = some (some (.ref (He.ga K "behind_told")))),
  PySem.W.keepIn K (.ref (He.ga K "behind_told")),
  decide (PySem.W.nsIn K mainGlobals "bits_of" = some (some (.ref (He.ga K "bits_of"))))]
def fc_2 (K : PySem.W.Frag) : List Bool := [PySem.W.keepIn K (.ref (He.ga K "bits_of")),
  decide (PySem.W.nsIn K mainGlobals "stands_of" = some (some (.ref (He.ga K "stands_of")))),
  PySem.W.keepIn K (.ref (He.ga K "stands_of")),
  decide (PySem.W.nsIn K mainGlobals "behind" = some (some (.ref (He.ga K "behind")))),
  PySem.W.keepIn K (.ref (He.ga K "behind")),
  decide (PySem.W.nsIn K mainGlobals "calls_of" = some (some (.ref (He.ga K "calls_of")))),
  PySem.W.keepIn K (.ref (He.ga K "calls_of")),
  decide (PySem.W.nsIn K mainGlobals "tied_bits" = some (some (.ref (He.ga K "tied_bits")))),
  PySem.W.keepIn K (.ref (He.ga K "tied_bits")),
  decide (PySem.W.nsIn K mainGlobals "told_by" = some (some (.ref (He.ga K "told_by")))),
  PySem.W.keepIn K (.ref (He.ga K "told_by")),
  decide (PySem.W.nsIn K mainGlobals "first_wrong" = some (some (.ref (He.ga K "first_wrong")))),
  PySem.W.keepIn K (.ref (He.ga K "first_wrong")),
  decide (PySem.W.nsIn K mainGlobals "fits" = some (some (.ref (He.ga K "fits")))),
  PySem.W.keepIn K (.ref (He.ga K "fits")),
  decide (PySem.W.nsIn K mainGlobals "behind_call" = some (some (.ref (He.ga K "behind_call")))),
  PySem.W.keepIn K (.ref (He.ga K "behind_call")),
  decide (PySem.W.nsIn K mainGlobals "is_lot" = some (some (.ref (He.ga K "is_lot")))),
  PySem.W.keepIn K (.ref (He.ga K "is_lot")),
  decide (PySem.W.nsIn K mainGlobals "check_stand" = some (some (.ref (He.ga K "check_stand")))),
  PySem.W.keepIn K (.ref (He.ga K "check_stand")),
  decide (PySem.W.nsIn K mainGlobals "is_part" = some (some (.ref (He.ga K "is_part")))),
  PySem.W.keepIn K (.ref (He.ga K "is_part")),
  decide (PySem.W.nsIn K mainGlobals "is_row" = some (some (.ref (He.ga K "is_row")))),
  PySem.W.keepIn K (.ref (He.ga K "is_row")),
  decide (PySem.W.nsIn K mainGlobals "same_log" = some (some (.ref (He.ga K "same_log")))),
  PySem.W.keepIn K (.ref (He.ga K "same_log")),
  decide (PySem.W.nsIn K mainGlobals "wrong_call" = some (some (.ref (He.ga K "wrong_call")))),
  PySem.W.keepIn K (.ref (He.ga K "wrong_call")),
  decide (PySem.W.nsIn K mainGlobals "law" = some (some (.ref (He.ga K "law")))),
  PySem.W.keepIn K (.ref (He.ga K "law"))]
def exF (K : PySem.W.Frag) : Bool := ((fc_0 K).all fun b => b) && (((fc_1 K).all fun b => b) && (((fc_2 K).all fun b => b)))
def nL_0 : List PySem.Str := ["WebError", "BadWeb", "NoStand", "NoRow", "TooMany", "NoLog", "OtherSize", "is_integer", "is_number", "is_part", "is_lot_below", "is_lot", "is_pair", "check_stand", "bits_of", "lot_of", "tied_bits", "MOST_CALLS", "is_row", "told_by", "behind_call", "MOST_PARTS", "Web", "is_tie", "wrong_tie", "MOST_LOGGED_PARTS", "MOST_LOGGED_CALLS", "is_told_call", "is_log", "check_log"]
def nL_1 : List PySem.Str := ["behind_told", "stands_of", "calls_of", "first_wrong", "fits", "wrong_call", "behind", "same_log", "_law_tape", "_law_pick", "_law_web", "_law_tied", "_law_says", "_law_called", "_law_is_rest", "_law_lots", "_law_rests", "_law_log", "_law_stands", "_law_wrong", "_law_flag"]
def nL : List PySem.Str := nL_0 ++ nL_1
abbrev rowL : PySem.W.OpenRow := PySem.W.OpenLaw.row PySem.Challenge.rw_silencers_k70_whole_logs_that_fit_or_not
abbrev qvL : Program := PySem.W.view rowL.prog [57]
def asL : List Addr := 3 :: List.range' 4 1200
abbrev hkL : PySem.W.Hook := hookL asL fnL tfL exF
def obL (s : PySem.W.SharedT) : AlL := obsL asL fnL tfL exF (HandSHeadRun.getT s)
theorem obL_eq (s : PySem.W.SharedT) : obL s = hkL.obs s.abs := obsL_eq (HandSHeadRun.getT_eq s)
theorem runL (w : PySem.World) : HandSHeadRun.RunEq rowL qvL hkL obL 40000 nL w := by
  intro os
  kernel_rfl
end DL

set_option maxHeartbeats 4000000
namespace Bs
open PySem PySem.Spec PyProof.Rows L2
section
variable {prog : Program} {w : World} {A : Around} {E : Value → Shared → Prop} {s : Shared} {K : PySem.W.Frag} {x y C : Addr} {ox oy : Obj} {od oe : Option Obj} {f : Addr}
end
structure OwnNe (K : PySem.W.Frag) (C f : Addr) : Prop where
  eq : PySem.W.findIn K (.ref C) "__eq__" = some (some (.ref f))
  fn : PySem.W.isFn K (.ref f) = true
  ne : PySem.W.findIn K (.ref C) "__ne__" = some (some (.builtin "object.__ne__"))
  sub : PySem.W.subIn K (.ref C) (.type "object") = some true
structure Cal (P : Program) (w : World) (K : PySem.W.Frag) (mg : Str → Option Value) (base : Heap) (k : Nat) (x : Str) (ps : List Str) (sp : Sp) : Prop where
  ex : ∃ (f : Addr) (fd : FuncData), FnOk P w K mg base CX0 k f fd ps sp ∧ mg x = some (.ref f) ∧ PySem.W.keepIn K (.ref f) = true ∧ Binds K fd ps []
structure Mkc (P : Program) (w : World) (K : PySem.W.Frag) (mg : Str → Option Value) (base : Heap) (k : Nat) (C : Addr) (x : Str) (ps : List Str) (sp : Sp) : Prop where
  ex : ∃ (f : Addr) (fd : FuncData), Mk K C f ∧ FnOk P w K mg base CX0 k f fd ps sp ∧ mg x = some (.ref C) ∧ Binds K fd ps []
structure Bl (mg : Str → Option Value) : Prop where
  isinstance : mg "isinstance" = none
  len : mg "len" = none
  sorted : mg "sorted" = none
  min : mg "min" = none
  max : mg "max" = none
  all : mg "all" = none
  zip : mg "zip" = none
  range : mg "range" = none
  enumerate : mg "enumerate" = none
  int_ : mg "int" = none
  bool_ : mg "bool" = none
  str_ : mg "str" = none
  list_ : mg "list" = none
  tuple_ : mg "tuple" = none
end Bs

set_option maxHeartbeats 4000000
namespace Bs
open PySem PySem.Spec PyProof.Rows L2
def TK (H H' : Hp) : Prop := ∀ a xs, H a = some (.tup xs) → H' a = some (.tup xs)
theorem TK.trans {H H1 H2 : Hp} (a : TK H H1) (b : TK H1 H2) : TK H H2 := fun x o h => b x o (a x o h)
theorem _root_.L2.Same.tk {H H' : Hp} (e : Same H H') : TK H H' := fun a xs h => e a _ h
theorem _root_.L2.Same.new {H : Hp} {p : Addr} {o : HO} (h : H p = none) : Same H (upd H p o) := fun a u e => by rw [upd_ne (ne_of_none e h)]; exact e
def isTupO : Option HO → Bool
  | some (.tup _) => true
  | _ => false
theorem TK.upd {H : Hp} {p : Addr} {o : HO} (h : isTupO (H p) = false) : TK H (L2.upd H p o) := fun a xs e => by
  have hn : a ≠ p := fun q => by rw [q] at e; rw [e] at h; cases h
  rw [upd_ne hn]; exact e
def ExT (T : Addr) (H H' : Hp) : Prop := ∀ a o, a ≠ T → H a = some o → H' a = some o
theorem ExT.trans {T : Addr} {H H1 H2 : Hp} (a : ExT T H H1) (b : ExT T H1 H2) : ExT T H H2 := fun x o n h => b x o n (a x o n h)
theorem ExT.tk {T : Addr} {H H' : Hp} {l : List V} (e : ExT T H H') (h : H T = some (.lst l)) : TK H H' := fun a xs q => e a _ (ne_of q h (by intro z; cases z)) q
theorem ExT.upd {T : Addr} {H H1 : Hp} {o : HO} (e : ExT T H H1) : ExT T H (L2.upd H1 T o) := fun a u n h => by rw [upd_ne n]; exact e a u n h
theorem ExT.new {T p : Addr} {H H1 : Hp} {o : HO} (e : ExT T H H1) (h : H1 p = none) : ExT T H (L2.upd H1 p o) := fun a u n q => by
  have q' := e a u n q
  rw [upd_ne (ne_of_none q' h)]; exact q'
theorem ExT.free {T : Addr} {H H' : Hp} (e : ExT T H H') {l : Addr} (hl : l ≠ T) (h : H' l = none) : H l = none := by
  cases q : H l with
  | none => rfl
  | some o => rw [e l o hl q] at h; cases h
def PairAt (H : Hp) (v : V) (p : Int × Int) : Prop := ∃ a, v = .ref a ∧ H a = some (.tup [.int p.1, .int p.2])
theorem PairAt.tk {H H' : Hp} {v : V} {p : Int × Int} (e : TK H H') (h : PairAt H v p) : PairAt H' v p := let ⟨a, h1, h2⟩ := h; ⟨a, h1, e _ _ h2⟩
theorem PairAt.inj {H : Hp} {v : V} {p q : Int × Int} (h : PairAt H v p) (h' : PairAt H v q) : p = q := by
  obtain ⟨a, rfl, h2⟩ := h
  obtain ⟨b, e, h3⟩ := h'
  cases e
  rw [h2] at h3
  injection h3 with h3
  injection h3 with h3
  injection h3 with h4 h5
  injection h4 with h4
  injection h5 with h5
  injection h5 with h5
  exact Prod.ext h4 h5
abbrev Pairs (H : Hp) (xs : List V) (ps : List (Int × Int)) : Prop := Paired (PairAt H) xs ps
theorem Paired.imp' {α β : Type} {F G : α → β → Prop} : ∀ {l₁ : List α} {l₂ : List β}, Paired F l₁ l₂ → (∀ a b, F a b → G a b) → Paired G l₁ l₂
  | _, _, .nil, _ => .nil
  | _, _, .cons r t, f => .cons (f _ _ r) (Paired.imp' t f)
theorem Pairs.tk {H H' : Hp} {xs : List V} {ps : List (Int × Int)} (e : TK H H') (h : Pairs H xs ps) : Pairs H' xs ps := Paired.imp' h fun _ _ q => q.tk e
theorem Paired.get {α β : Type} {F : α → β → Prop} : ∀ {l₁ : List α} {l₂ : List β} {i : Nat} {a : α}, Paired F l₁ l₂ → l₁[i]? = some a → ∃ b, l₂[i]? = some b ∧ F a b
  | _, _, _, _, .nil, h => by simp at h
  | _, _, 0, _, .cons r _, h => by simp at h; subst h; exact ⟨_, by simp, r⟩
  | _, _, i + 1, a, .cons _ t, h => by
    obtain ⟨b, h1, h2⟩ := Paired.get (i := i) (a := a) t (by simpa using h)
    exact ⟨b, by simpa using h1, h2⟩
theorem Paired.len {α β : Type} {F : α → β → Prop} : ∀ {l₁ : List α} {l₂ : List β}, Paired F l₁ l₂ → l₁.length = l₂.length
  | _, _, .nil => rfl
  | _, _, .cons _ t => by simp [Paired.len t]
structure Tape where
  ns : List Int
  i1 : Int
  i2 : Int
  i3 : Int
  i4 : Int
def Tp (H : Hp) (T L : Addr) : Prop := ∃ t : Tape, H T = some (.lst [.ref L, .int t.i1, .int t.i2, .int t.i3, .int t.i4]) ∧ H L = some (.lst (t.ns.map V.int)) ∧ L ≠ T ∧ 0 ≤ t.i1 ∧ 0 ≤ t.i3 ∧ t.i3 < 2147483648
theorem Tp.ext {T L : Addr} {H H' : Hp} (h : Tp H T L) (e : Same H H') : Tp H' T L := by
  obtain ⟨t, h1, h2, h3⟩ := h
  exact ⟨t, e _ _ h1, e _ _ h2, h3⟩
theorem Tp.lst {T L : Addr} {H : Hp} (h : Tp H T L) : ∃ l, H T = some (.lst l) := let ⟨t, h1, _⟩ := h; ⟨_, h1⟩
theorem Tp.tk {T L : Addr} {H H' : Hp} (h : Tp H T L) (e : ExT T H H') : TK H H' := let ⟨_, q⟩ := h.lst; e.tk q
theorem Tp.upd {T L p : Addr} {H : Hp} {o : HO} (h : Tp H T L) (h1 : p ≠ T) (h2 : p ≠ L) : Tp (L2.upd H p o) T L := by
  obtain ⟨t, a1, a2, a3⟩ := h
  exact ⟨t, by rw [upd_ne h1.symm]; exact a1, by rw [upd_ne h2.symm]; exact a2, a3⟩
end Bs

set_option maxHeartbeats 4000000
namespace Bs
open PySem PySem.Spec PyProof.Rows L2
theorem and_pp (x y : Nat) : Builtin.bitAnd (x : Int) (y : Int) = ((x &&& y : Nat) : Int) := by
  unfold Builtin.bitAnd
  rw [decide_eq_true (Int.natCast_nonneg x), decide_eq_true (Int.natCast_nonneg y)]
  simp
theorem or_pp (x y : Nat) : Builtin.bitOr (x : Int) (y : Int) = ((x ||| y : Nat) : Int) := by
  rw [Bits.bitOr_pp (Int.natCast_nonneg x) (Int.natCast_nonneg y)]; simp
theorem xor_pp (x y : Nat) : Builtin.bitXor (x : Int) (y : Int) = ((x ^^^ y : Nat) : Int) := by
  rw [Bits.bitXor_pp (Int.natCast_nonneg x) (Int.natCast_nonneg y)]; simp
def clr (x k : Nat) : Nat := x - (x &&& 2 ^ k)
theorem and_pow (x k : Nat) : x &&& 2 ^ k = if x.testBit k = true then 2 ^ k else 0 := by
  apply Nat.eq_of_testBit_eq
  intro j
  rw [Nat.testBit_and, Nat.testBit_two_pow]
  by_cases h : k = j
  · subst h
    cases hb : x.testBit k <;> simp
  · cases hb : x.testBit k <;> simp [h, Nat.testBit_two_pow]
theorem clr_bit (x k j : Nat) : (clr x k).testBit j = (x.testBit j && !decide (j = k)) := by
  unfold clr
  rw [and_pow]
  cases hb : x.testBit k with
  | false =>
    simp only [Bool.false_eq_true, if_false, Nat.sub_zero]
    by_cases h : j = k
    · subst h; simp [hb]
    · simp [h]
  | true =>
    rw [if_pos rfl]
    have h1 : x = 2 ^ (k + 1) * (x / 2 ^ (k + 1)) + x % 2 ^ (k + 1) := (Nat.div_add_mod x _).symm
    have hr : x % 2 ^ (k + 1) < 2 ^ (k + 1) := Nat.mod_lt _ (Nat.pow_pos (by decide))
    generalize x / 2 ^ (k + 1) = a at h1
    generalize x % 2 ^ (k + 1) = r at h1 hr
    have hrk : r.testBit k = true := by
      rw [h1, Nat.testBit_two_pow_mul_add _ hr, if_pos (Nat.lt_succ_self k)] at hb
      exact hb
    have hge : 2 ^ k ≤ r := by
      rcases Nat.lt_or_ge r (2 ^ k) with h | h
      · rw [Nat.testBit_lt_two_pow h] at hrk; cases hrk
      · exact h
    have hp : 2 ^ (k + 1) = 2 ^ k + 2 ^ k := by rw [Nat.pow_succ]; omega
    have hb' : r - 2 ^ k < 2 ^ k := by omega
    have hb2 : r - 2 ^ k < 2 ^ (k + 1) := by omega
    have e1 : x - 2 ^ k = 2 ^ (k + 1) * a + (r - 2 ^ k) := by omega
    have e2 : r = 2 ^ k * 1 + (r - 2 ^ k) := by omega
    rw [e1, Nat.testBit_two_pow_mul_add _ hb2]
    conv => rhs; rw [h1]
    rw [Nat.testBit_two_pow_mul_add _ hr]
    by_cases c : j < k + 1
    · rw [if_pos c, if_pos c]
      conv => rhs; rw [e2]
      rw [Nat.testBit_two_pow_mul_add _ hb']
      by_cases d : j < k
      · rw [if_pos d]; simp [show j ≠ k by omega]
      · have : j = k := by omega
        subst this
        rw [if_neg d, Nat.testBit_lt_two_pow hb']
        simp
    · rw [if_neg c, if_neg c]; simp [show j ≠ k by omega]
theorem low_ex {n : Nat} (h : n ≠ 0) : ∃ k, n.testBit k = true ∧ ∀ j, j < k → n.testBit j = false := by
  obtain ⟨i, hi⟩ := Nat.exists_testBit_of_ne_zero h
  induction i using Nat.strongRecOn with
  | ind i ih =>
    by_cases c : ∃ j, j < i ∧ n.testBit j = true
    · obtain ⟨j, hj, hb⟩ := c
      exact ih j hj hb
    · refine ⟨i, hi, fun j hj => ?_⟩
      cases hb : n.testBit j with
      | false => rfl
      | true => exact absurd ⟨j, hj, hb⟩ c
theorem low_is {n k : Nat} (h1 : n.testBit k = true) (h2 : ∀ j, j < k → n.testBit j = false) : Builtin.bitAnd (n : Int) (-(n : Int)) = 2 ^ k := by
  have hn : n ≠ 0 := fun e => by rw [e] at h1; simp at h1
  have hm : n % 2 ^ k = 0 := by
    apply Nat.eq_of_testBit_eq
    intro j
    rw [Nat.testBit_mod_two_pow]
    by_cases c : j < k
    · rw [h2 j c]; simp
    · simp [c]
  have e1 : n = 2 ^ k * (n / 2 ^ k) := by
    have := Nat.div_add_mod n (2 ^ k)
    omega
  generalize hc : n / 2 ^ k = c at e1
  have hodd : c.testBit 0 = true := by
    rw [e1, Nat.testBit_two_pow_mul] at h1
    simpa using h1
  have hodd2 : c % 2 = 1 := by simpa using hodd
  obtain ⟨m, hm2⟩ : ∃ m, c = 2 * m + 1 := ⟨c / 2, by omega⟩
  have hp : 0 < 2 ^ k := Nat.pow_pos (by decide)
  have e2 : n - 1 = 2 ^ k * (2 * m) + (2 ^ k - 1) := by
    have : 2 ^ k * c = 2 ^ k * (2 * m) + 2 ^ k := by rw [hm2, Nat.mul_add, Nat.mul_one]
    omega
  have e3 : n &&& (n - 1) = clr n k := by
    apply Nat.eq_of_testBit_eq
    intro j
    rw [Nat.testBit_and, clr_bit]
    conv => lhs; rhs; rw [e2]
    rw [Nat.testBit_two_pow_mul_add _ (show 2 ^ k - 1 < 2 ^ k by omega)]
    by_cases c1 : j < k
    · rw [if_pos c1, h2 j c1]; simp
    · rw [if_neg c1]
      by_cases c2 : j = k
      · subst c2; simp
      · have e4 : n.testBit j = (2 * m + 1).testBit (j - k) := by
          rw [e1, hm2, Nat.testBit_two_pow_mul]
          simp [show k ≤ j by omega]
        rw [e4]
        obtain ⟨i, hi⟩ : ∃ i, j - k = i + 1 := ⟨j - k - 1, by omega⟩
        rw [hi, Nat.testBit_succ, Nat.testBit_succ]
        have a1 : (2 * m + 1) / 2 = m := by omega
        have a2 : 2 * m / 2 = m := by omega
        rw [a1, a2]
        simp [c2]
  unfold Builtin.bitAnd
  rw [decide_eq_true (Int.natCast_nonneg n), decide_eq_false (show ¬ 0 ≤ -(n : Int) by omega)]
  show (n : Int) - (((n : Int).toNat &&& (Builtin.bitNot (-(n : Int))).toNat : Nat) : Int) = _
  have e5 : (Builtin.bitNot (-(n : Int))).toNat = n - 1 := by unfold Builtin.bitNot; omega
  have e6 : ((n : Int).toNat &&& (n - 1)) = clr n k := by rw [Int.toNat_natCast]; exact e3
  rw [e5, e6]
  unfold clr
  rw [and_pow, if_pos h1]
  have hle : 2 ^ k ≤ n := by
    have := Nat.and_le_left (n := n) (m := 2 ^ k)
    rw [and_pow, if_pos h1] at this
    exact this
  have e7 : ((2 : Int) ^ k) = ((2 ^ k : Nat) : Int) := by rw [Int.natCast_pow]; rfl
  rw [e7]
  omega
theorem xor_low {n k : Nat} (h1 : n.testBit k = true) : n ^^^ 2 ^ k = clr n k := by
  apply Nat.eq_of_testBit_eq
  intro j
  rw [Nat.testBit_xor, clr_bit, Nat.testBit_two_pow]
  by_cases c : k = j
  · subst c; simp [h1]
  · simp [c, show j ≠ k from fun e => c e.symm]
theorem bits_pow (k : Nat) : Builtin.Int.intBits ((2 : Int) ^ k) = k + 1 := by
  have h1 := natAbs_lt_pow_bits ((2 : Int) ^ k)
  have e : ((2 : Int) ^ k).natAbs = 2 ^ k := by rw [Int.natAbs_pow]; rfl
  rw [e] at h1
  have h2 : Builtin.Int.intBits ((2 : Int) ^ k) ≤ k + 1 := intBits_le (by rw [e, Nat.pow_succ]; have := Nat.pow_pos (n := k) (show 0 < 2 by decide); omega)
  have h3 : k < Builtin.Int.intBits ((2 : Int) ^ k) := (Nat.pow_lt_pow_iff_right (by decide)).mp h1
  omega
section
variable {X : Cx}
theorem ip_or : PIp X .BitOr (rI0 fun i j => .int (Builtin.bitOr i j)) := fun pins s σ H x y v u Q I rx ry h => iop_or pins s σ H x y v u Q I rx ry h
theorem ip_xor : PIp X .BitXor (rI0 fun i j => .int (Builtin.bitXor i j)) := fun pins s σ H x y v u Q I rx ry h => iop_xor pins s σ H x y v u Q I rx ry h
def gGetL (K : PySem.W.Frag) : V → V → Hp → VK → Prop := fun o i H Q => ∃ p xs k v, o = .ref p ∧ i = .int k ∧ SqL K H p xs ∧ 0 ≤ k ∧ xs[k.toNat]? = some v ∧ Q v H
theorem get_listP : PGet X (gGetL X.K) := by
  intro pins s σ H o i ov iv Q I ro ri h
  obtain ⟨p, xs, k, v, rfl, rfl, hs, h0, hv, q⟩ := h
  cases ro
  obtain ⟨t, rfl⟩ := ri
  obtain ⟨its, r, pl, hz⟩ := I.list hs
  obtain ⟨u, hu, ru⟩ := r.get hv
  have hl := r.length
  have hk : k.toNat < xs.length := (List.getElem?_eq_some_iff.mp hv).1
  have hn := line63
  exact wpAny_getItem_list pl.isList h0 (by omega) (by simpa using hu) ⟨v, H, I, ru, q⟩
end
end Bs

set_option maxHeartbeats 4000000
namespace Bs
open PySem PySem.Spec PyProof.Rows L2 HT
section
variable {prog : Program} {w : World} {A : Around} {E : Value → Shared → Prop} {s : Shared}
end
def Typ (K : PySem.W.Frag) (H : Hp) (v : V) (c : String) (b : Bool) : Prop := ∃ t, TyX K H v t ∧ PySem.W.kitOne K t (.type c) = some b
inductive Item (K : PySem.W.Frag) (H : Hp) : V → Prop where
  | int (i : Int) : Item K H (.int i)
  | bl (b : Bool) : Item K H (.bl b)
  | els {v : V} (h : Typ K H v "int" false) (h1 : ∀ i, v ≠ .int i) : Item K H v
theorem TyX.same {K : PySem.W.Frag} {H H' : Hp} {v : V} {t : Value} (hk : ∀ a xs, H a = some (.tup xs) → H' a = some (.tup xs)) (h : TyX K H v t) (hl : ∀ a xs, v = .ref a → H a = some (.lst xs) → ∃ ys, H' a = some (.lst ys)) (ho : ∀ a o, v = .ref a → H a = some o → isTupO (some o) = false → (∀ xs, o ≠ .lst xs) → H' a = some o) : TyX K H' v t := by
  cases h with
  | base b =>
    cases b with
    | non => exact .base .non
    | bl x => exact .base (.bl x)
    | int x => exact .base (.int x)
    | str x => exact .base (.str x)
    | flt x => exact .base (.flt x)
    | @lst a xs e => obtain ⟨ys, h⟩ := hl a xs rfl e; exact .base (.lst h)
    | @frz a o xs e => exact .base (.frz (ho a _ rfl e rfl (fun _ => HO.noConfusion)))
    | @tup a xs e => exact .base (.tup (hk _ _ e))
    | @dK a kvs e => exact .base (.dK (ho a _ rfl e rfl (fun _ => HO.noConfusion)))
    | @dT a kvs e => exact .base (.dT (ho a _ rfl e rfl (fun _ => HO.noConfusion)))
    | @ins a C dx fs e cl ha hn htk hm => exact .base (.ins (ho a _ rfl e rfl (fun _ => HO.noConfusion)) cl ha hn htk hm)
  | byt b => exact .byt b
  | @set a S n e => exact .set (ho a _ rfl e rfl (fun _ => HO.noConfusion))
  | kList e c => exact .kList e c
  | kTuple e c => exact .kTuple e c
  | kDict e c => exact .kDict e c
  | @fTuple a o xs e => exact .fTuple (ho a _ rfl e rfl (fun _ => HO.noConfusion))
  | @fDict a o kvs e => exact .fDict (ho a _ rfl e rfl (fun _ => HO.noConfusion))
theorem TyX.ext {K : PySem.W.Frag} {H H' : Hp} {v : V} {t : Value} (h : TyX K H v t) (e : Same H H') : TyX K H' v t :=
  TyX.same (fun a xs q => e _ _ q) h (fun a xs _ q => ⟨xs, e _ _ q⟩) (fun a o _ q _ _ => e _ _ q)
theorem Typ.ext {K : PySem.W.Frag} {H H' : Hp} {v : V} {c : String} {b : Bool} (h : Typ K H v c b) (e : Same H H') : Typ K H' v c b := let ⟨t, h1, h2⟩ := h; ⟨t, TyX.ext h1 e, h2⟩
theorem Item.ext {K : PySem.W.Frag} {H H' : Hp} {v : V} (h : Item K H v) (e : Same H H') : Item K H' v := by
  cases h with
  | int i => exact .int i
  | bl b => exact .bl b
  | els h h1 => exact .els (h.ext e) h1
inductive Thing (K : PySem.W.Frag) (H : Hp) : V → Prop where
  | tup {a : Addr} {xs : List V} (h : H a = some (.tup xs)) (h1 : ∀ x ∈ xs, Item K H x) (h2 : xs.length ≤ 100000) : Thing K H (.ref a)
  | els {v : V} (h : Typ K H v "tuple" false) (h1 : ∀ a xs, v = .ref a → H a ≠ some (.tup xs)) : Thing K H v
theorem Thing.ext {K : PySem.W.Frag} {H H' : Hp} {v : V} (h : Thing K H v) (e : Same H H') (hv : ∀ a, v = .ref a → H a ≠ none) : Thing K H' v := by
  cases h with
  | tup h h1 h2 => exact .tup (e _ _ h) (fun x hx => (h1 x hx).ext e) h2
  | els h h1 =>
    refine .els (h.ext e) fun a xs ea q => ?_
    cases c : H a with
    | none => exact hv a ea c
    | some o =>
      rw [e _ _ c] at q
      cases q
      exact h1 a xs ea c
theorem typ_tup {K : PySem.W.Frag} {H : Hp} {a : Addr} {xs : List V} {c : String} {b : Bool} (h : H a = some (.tup xs)) (hb : kitB "tuple" c = some b) : Typ K H (.ref a) c b := ⟨_, .base (.tup h), kit_ty hb⟩
theorem typ_lst {K : PySem.W.Frag} {H : Hp} {a : Addr} {xs : List V} {c : String} {b : Bool} (h : H a = some (.lst xs)) (hb : kitB "list" c = some b) : Typ K H (.ref a) c b := ⟨_, .base (.lst h), kit_ty hb⟩
theorem typ_dK {K : PySem.W.Frag} {H : Hp} {a : Addr} {xs : List (L2.Key × V)} {c : String} {b : Bool} (h : H a = some (.dK xs)) (hb : kitB "dict" c = some b) : Typ K H (.ref a) c b := ⟨_, .base (.dK h), kit_ty hb⟩
theorem typ_non {K : PySem.W.Frag} {H : Hp} {c : String} {b : Bool} (hb : kitB "NoneType" c = some b) : Typ K H .non c b := ⟨_, .base .non, kit_ty hb⟩
theorem typ_str {K : PySem.W.Frag} {H : Hp} {c : String} {x : Str} {b : Bool} (hb : kitB "str" c = some b) : Typ K H (.str x) c b := ⟨_, .base (.str x), kit_ty hb⟩
theorem typ_int {K : PySem.W.Frag} {H : Hp} {c : String} {x : Int} {b : Bool} (hb : kitB "int" c = some b) : Typ K H (.int x) c b := ⟨_, .base (.int x), kit_ty hb⟩
theorem typ_bl {K : PySem.W.Frag} {H : Hp} {c : String} {x : Bool} {b : Bool} (hb : kitB "bool" c = some b) : Typ K H (.bl x) c b := ⟨_, .base (.bl x), kit_ty hb⟩
theorem Item.non {K : PySem.W.Frag} {H : Hp} : Item K H .non := .els (typ_non (by decide +kernel)) (fun _ => V.noConfusion)
theorem Item.str {K : PySem.W.Frag} {H : Hp} (x : Str) : Item K H (.str x) := .els (typ_str (by decide +kernel)) (fun _ => V.noConfusion)
theorem Item.tup {K : PySem.W.Frag} {H : Hp} {a : Addr} {xs : List V} (h : H a = some (.tup xs)) : Item K H (.ref a) := .els (typ_tup h (by decide +kernel)) (fun _ => V.noConfusion)
theorem Item.lst {K : PySem.W.Frag} {H : Hp} {a : Addr} {xs : List V} (h : H a = some (.lst xs)) : Item K H (.ref a) := .els (typ_lst h (by decide +kernel)) (fun _ => V.noConfusion)
theorem Item.dK {K : PySem.W.Frag} {H : Hp} {a : Addr} {xs : List (L2.Key × V)} (h : H a = some (.dK xs)) : Item K H (.ref a) := .els (typ_dK h (by decide +kernel)) (fun _ => V.noConfusion)
theorem Thing.non {K : PySem.W.Frag} {H : Hp} : Thing K H .non := .els (typ_non (by decide +kernel)) (fun _ _ => V.noConfusion)
theorem Thing.str {K : PySem.W.Frag} {H : Hp} (x : Str) : Thing K H (.str x) := .els (typ_str (by decide +kernel)) (fun _ _ => V.noConfusion)
theorem Thing.int {K : PySem.W.Frag} {H : Hp} (x : Int) : Thing K H (.int x) := .els (typ_int (by decide +kernel)) (fun _ _ => V.noConfusion)
theorem Thing.bl {K : PySem.W.Frag} {H : Hp} (x : Bool) : Thing K H (.bl x) := .els (typ_bl (by decide +kernel)) (fun _ _ => V.noConfusion)
theorem Thing.lst {K : PySem.W.Frag} {H : Hp} {a : Addr} {xs : List V} (h : H a = some (.lst xs)) : Thing K H (.ref a) := .els (typ_lst h (by decide +kernel)) (fun b ys e q => by cases e; rw [h] at q; cases q)
theorem Thing.dK {K : PySem.W.Frag} {H : Hp} {a : Addr} {xs : List (L2.Key × V)} (h : H a = some (.dK xs)) : Thing K H (.ref a) := .els (typ_dK h (by decide +kernel)) (fun b ys e q => by cases e; rw [h] at q; cases q)
structure ClsTy (K : PySem.W.Frag) (C : Addr) : Prop where
  int : PySem.W.kitOne K (.ref C) (.type "int") = some false
  tup : PySem.W.kitOne K (.ref C) (.type "tuple") = some false
end Bs

set_option maxHeartbeats 4000000
namespace Bs
open PySem PySem.Spec PyProof.Rows L2
section
variable {X : Cx}
end

section
variable {prog : Program} {w : World} {A : Around} {E : Value → Shared → Prop} {s : Shared} {K : PySem.W.Frag} {x D : Addr} {ox : Obj} {od : Option Obj}
end
def tMakeS (C : Addr) (sp : Sp) (E : L2.St → XK) (t : TA) : TE := fun σ H Q => t σ H fun vs H1 => ∀ x dx, H1 x = none → H1 dx = none → dx ≠ x → sp (.ref x :: vs) (upd (upd H1 dx (.own x)) x (.ins C dx [])) (fun v H2 => v = .non ∧ Q (.ref x) H2) (E σ)
section
variable {X : Cx} {CX : CXT} {k : Nat} {f C : Addr} {fd : FuncData} {ps : List Str} {sp : Sp} {E : L2.St → XK} {x : Str} {p pos : Pos} {e : Expr} {es : List Expr} {t : TA}
theorem run_makeS {pins : List (Addr × Obj)} {σ : L2.St} {H : Hp} {s : Shared} {Q : VK} {us : List Value} {vs : List V} (M : Mk X.K C f) (F : FnOk X.prog X.w X.K X.mg X.base CX k f fd ps sp) (hr : Room (k + 1) X.A) (hb : Binds X.K fd ps [])
    (hx : PassesAt CX X σ (E σ)) (I : Inv X pins σ H s) (r : Vals vs us)
    (h : ∀ x dx, H x = none → H dx = none → dx ≠ x → sp (.ref x :: vs) (upd (upd H dx (.own x)) x (.ins C dx [])) (fun v H2 => v = .non ∧ Q (.ref x) H2) (E σ)) :
    wpAny (model X.prog X.w) X.A (call (.ref C) us) (EP X pins σ Q) X.xe s := by
  have hq := h (s.heap.objs.size + 1) s.heap.objs.size (I.hok.fresh (Nat.le_succ _)) (I.hok.fresh (Nat.le_refl _)) (Nat.ne_of_lt (Nat.lt_succ_self _))
  have I2 := Inv.made (C := C) I
  have r2 : Vals (V.ref (s.heap.objs.size + 1) :: vs) (Value.ref (s.heap.objs.size + 1) :: us) := .cons rfl r
  have hl : ((Value.ref (s.heap.objs.size + 1) :: us) ++ ([] : List Value)).length = ps.length := by
    have e := r2.length
    rw [F.len _ _ _ _ hq] at e
    rw [List.append_nil]
    exact e.symm
  have hb2 := hb _ (Value.ref (s.heap.objs.size + 1) :: us) I2.kIn hl
  rw [List.append_nil] at hb2
  refine wpAny_call (make_map (f := f) I.kIn M.makes M.init (beq_iff_eq.mp M.fn) (codeAny_mono (F.run _ X.stack _ _ ⟨Value.ref (s.heap.objs.size + 1) :: us, []⟩ (Value.ref (s.heap.objs.size + 1) :: us) _ _ (E σ) (hr.make C us [])
    (I2.env0.make C us []) hb2 r2 hq) fun r s' hq' => ?_))
  cases r with
  | error e => exact hx pins _ _ e s' I2 hq'
  | ok fl =>
    cases fl with
    | ret u =>
      obtain ⟨v, H', I3, rv, ev, q3⟩ := I2.after hq'
      subst ev
      exact ⟨rv, ⟨V.ref (s.heap.objs.size + 1), H', I3, rfl, q3⟩⟩
    | next => exact False.elim hq'
    | brk => exact False.elim hq'
    | cont => exact False.elim hq'
theorem pe_makeS (M : Mk X.K C f) (F : FnOk X.prog X.w X.K X.mg X.base CX k f fd ps sp) (hr : Room (k + 1) X.A) (hm : X.mg x = some (.ref C)) (hb : Binds X.K fd ps []) (hx : ∀ σ, PassesAt CX X σ (E σ))
    (ha : PA X (e :: es) t) (hg : Gl X x := by rfl) (hdb : (x == ("__debug__" : Str)) = false := by decide) (he : starEach (e :: es) X.env = (false, eval e X.env) :: starEach es X.env := by rfl) (hpl : (backTo pos (starEach es X.env)).any (·.1) = false := by rfl) :
    PE X (.Call (.Name x p) (e :: es) [] pos) (tMakeS C sp E t) := by
  refine ⟨fun pins s σ H Q I h => ?_⟩
  refine wpAny_Call_Name_kw (ld_glob I hg hm ?_ hdb)
  refine PySem.W.callWith_K (h₀ := X.base) I.ok.mod.kin M.kp (thn (ha.run pos pins s σ H _ I h) fun us s1 ⟨vs, H1, I1, r, q⟩ => ⟨I1.kIn, ?_⟩) he hpl
  exact run_makeS M F hr hb (hx σ) I1 r q
end
end Bs

set_option maxHeartbeats 4000000
namespace Bs
open PySem PySem.Spec PyProof.Rows L2 HT
section
variable {prog : Program} {w : World} {A : Around} {E : Value → Shared → Prop} {s : Shared}
def IsIt (h : Heap) (v : Value) (ns : List Int) : Prop := ∃ (a : Addr) (o : Obj) (items : Array Value) (n : Nat), v = .ref a ∧ h.get? a = some o ∧ o.cls = .type "tuple" ∧ o.data = .seq items n ∧ IntsAre items.toList ns
theorem IsIt.keeps {h h' : Heap} {v : Value} {ns : List Int} (x : IsIt h v ns) (k : ∀ b o, v = .ref b → h.get? b = some o → h'.get? b = some o) : IsIt h' v ns := by
  obtain ⟨a, o, items, n, e, g, c, d, i⟩ := x
  exact ⟨a, o, items, n, e, k _ _ e g, c, d, i⟩
theorem lt_it {v u : Value} {ns ms : List Int} {Q : Bool → Shared → Prop} (hu : A.units < cLine) (hv : IsIt s.heap v ns) (hw : IsIt s.heap u ms) (h : Q (HT.lexLt ns ms) s) : wpAny (model prog w) A (keyLt' oneType' v u) Q E s := by
  obtain ⟨a, ⟨c1, dd, d1, sl⟩, items, n, rfl, ga, ca, da, ia⟩ := hv
  obtain ⟨b, ⟨c2, dd2, d2, sl2⟩, items2, n2, rfl, gb, cb, db, ib⟩ := hw
  simp only at ca da cb db
  subst ca da cb db
  rw [keyLt'_oneType, oneLt'_eq]
  simp only [if_true]
  refine wpAny_bind (wpAny_cRoomFor hu ?_)
  refine wpAny_bind (wpAny_callSpecialIfBound?_slot (name := PySem.Str.ofString "__lt__") ⟨_, ga, rfl⟩ PySem.F.slot_tuple_lt ?_)
  refine call_meets PySem.F.slot_tuple_lt ⟨_, ga, rfl⟩ PySem.F.entry_tuple_lt (PySem.F.args_tuple_lt_2 _ _) (tuple_lt_ints a b items items2 n n2 dd dd2 sl sl2 ns ms ia ib) ⟨ga, gb, ?_⟩
  exact wpAny_truthy_bool h
theorem lex_it (b : Bool) {Q : Bool → Shared → Prop} : ∀ {xs ys : List Value} {ns ms : List Int} (i : Nat) (d : Bool), IntsAre xs ns → IntsAre ys ms → (ns.length < ms.length ↔ d = true) → Q (HT.lexLt ns ms) s → PySem.W.KatLex prog w A b d Q (xs.zip ys) i s
  | _, _, _, _, i, d, .nil, .nil, e, h => by
    have : d = false := by
      cases d with
      | false => rfl
      | true => exact absurd (e.mpr rfl) (by simp)
    subst this
    exact PySem.W.kat_nil h
  | _, _, _, _, i, d, .nil, .cons m t r, e, h => by
    have : d = true := e.mp (by simp)
    subst this
    exact PySem.W.kat_nil h
  | _, _, _, _, i, d, .cons n t r, .nil, e, h => by
    have : d = false := by
      cases d with
      | false => rfl
      | true => exact absurd (e.mpr rfl) (by simp)
    subst this
    exact PySem.W.kat_nil h
  | _, _, _, _, i, d, .cons (vs := xs) (ns := ns) n t r, .cons (vs := ys) (ns := ms) m u r', e, h => by
    rw [HT.lexLt_cons] at h
    refine PySem.W.kat_cons (SeqAt.EqAt.int_int n t m u prog w _ _ ?_)
    refine PySem.W.kat_go (fun e1 => ?_) (fun e1 => ?_)
    · have ex : n = m := by simpa using e1
      rw [if_pos ex] at h
      exact PySem.W.kat_yes (lex_it b (i + 1) d r r' (by simpa using e) h)
    · have ex : ¬ n = m := by simpa using e1
      rw [if_neg ex] at h
      exact PySem.W.kat_no (TS.oneLt_ints _ h)
theorem kat_it {vs : List Value} (h : Heap) : (∀ v ∈ vs, ∃ ns, IsIt h v ns ∧ ns ≠ []) → ∃ fs, PySem.W.KatTups h vs fs ∧ fs.length = vs.length ∧ ∀ f ∈ fs, ∃ x t, f = Value.int x t := by
  induction vs with
  | nil => intro _; exact ⟨[], .nil, rfl, by simp⟩
  | cons v vs ih =>
    intro hv
    obtain ⟨fs, h1, h2, h3⟩ := ih fun u hu => hv u (List.mem_cons_of_mem _ hu)
    obtain ⟨ns, ⟨a, o, items, n, rfl, g, c, d, i⟩, hne⟩ := hv v List.mem_cons_self
    obtain ⟨its, rfl⟩ : ∃ its, items = List.toArray its := ⟨items.toList, by simp⟩
    cases its with
    | nil => cases i; exact absurd rfl hne
    | cons x its =>
      cases i with
      | cons k t r => exact ⟨.int k t :: fs, .cons g c d (by simp) h1, by simp [h2], fun f hf => (List.mem_cons.mp hf).elim (fun e => ⟨k, t, e⟩) (h3 f)⟩
theorem firsts_it {M : Model} : ∀ (vs : List Value) {Q : List (Option Value) → Shared → Prop}, (∀ v ∈ vs, ∃ ns, IsIt s.heap v ns) → (∀ l, Q l s) → wpAny M A (vs.mapM firstOfTuple') Q E s
  | [], Q, _, h => by rw [List.mapM_nil]; exact wpAny_pure (h _)
  | v :: vs, Q, hv, h => by
    obtain ⟨ns, ⟨a, o, items, n, rfl, g, c, d, i⟩⟩ := hv v List.mem_cons_self
    rw [List.mapM_cons]
    refine wpAny_bind ?_
    rw [PySem.W.kas_first_eq]
    refine wpAny_bind (PySem.W.Looks.here (show PySem.W.Looks M s.heap (typeOf (.ref a)) o.cls from (PySem.W.Looks.ld g).andThen .now) ?_)
    rw [c, if_neg (by first | decide | simp)]
    refine wpAny_bind (listItems_at g d (wpAny_pure ?_))
    exact wpAny_bind (firsts_it vs (fun u hu => hv u (List.mem_cons_of_mem _ hu)) fun l => wpAny_pure (h _))
theorem kind_one {v : Value} {vs : List Value} {Q : SortKind → Shared → Prop} (h0 : IsIt s.heap v []) (hv : ∀ u ∈ vs, ∃ ns, IsIt s.heap u ns) (h : Q oneType' s) {M : Model} : wpAny M A (keyKind' (v :: vs).toArray) Q E s := by
  rw [kat_kind_eq, List.mapM_toArray, map_eq_pure_bind]
  obtain ⟨a, o, items, n, rfl, g, c, d, i⟩ := id h0
  rw [List.mapM_cons]
  refine wpAny_bind (wpAny_bind (wpAny_bind ?_))
  rw [PySem.W.kas_first_eq]
  refine wpAny_bind (PySem.W.Looks.here (show PySem.W.Looks M s.heap (typeOf (.ref a)) o.cls from (PySem.W.Looks.ld g).andThen .now) ?_)
  rw [c, if_neg (by first | decide | simp)]
  refine wpAny_bind (listItems_at g d (wpAny_pure ?_))
  have e0 : items[0]? = none := by
    cases hl : items.toList with
    | nil => simp [Array.toList_eq_nil_iff.mp hl]
    | cons x r => rw [hl] at i; cases i
  rw [e0]
  refine wpAny_bind (firsts_it vs hv fun l => wpAny_pure (wpAny_pure ?_))
  have hall : ((none :: l : List (Option Value)).toArray.all fun x => x.isSome) = false := by simp
  rw [hall, if_neg (by simp)]
  have hb : (((none :: l : List (Option Value)).toArray[0]?.bind id).isSome) = false := by simp
  rw [hb, if_neg (by simp)]
  rw [oneTypeOnly'_eq, List.mapM_toArray, map_eq_pure_bind]
  have ht : ∀ u ∈ Value.ref a :: vs, PySem.W.Looks M s.heap (typeOf u) (.type "tuple") := fun u hu => by
    obtain ⟨ns, ⟨b, o', _, _, rfl, g', c', _, _⟩⟩ : ∃ ns, IsIt s.heap u ns := by
      rcases List.mem_cons.mp hu with rfl | hu
      · exact ⟨_, h0⟩
      · exact hv u hu
    rw [← c']
    exact (PySem.W.Looks.ld g').andThen .now
  refine wpAny_bind (wpAny_bind (wpAny_bind (PySem.W.kas_mapM (r := Value.type "tuple") _ (fun v hv Q' hq => (ht v hv).here hq) (wpAny_pure ?_))))
  have hall2 : ((List.map (fun _ => Value.type "tuple") (Value.ref a :: vs)).toArray.all fun x => x == Value.type "tuple") = true := by
    simp only [List.all_toArray, List.all_map, List.all_eq_true]
    intro _ _
    rfl
  have h00 : (List.map (fun _ => Value.type "tuple") (Value.ref a :: vs)).toArray[0]? = some (Value.type "tuple") := by simp
  rw [h00]
  simp only [hall2, if_true]
  exact wpAny_pure (wpAny_pure h)
theorem it_sortable {a : Addr} {vs : List Value} {k : Value → List Int} (h2 : 2 ≤ vs.length) (hu : A.units < cLine) (hv : ∀ v ∈ vs, IsIt s.heap v (k v)) (ha : ∀ v ∈ vs, v ≠ .ref a) (hk : (∀ v ∈ vs, k v ≠ []) ∨ ∃ v r, vs = v :: r ∧ k v = []) :
    SrtO.SortableO prog w A s a vs fun v u => HT.lexLt (k v) (k u) := by
  intro h' keep
  have hv' : ∀ v ∈ vs, IsIt h' v (k v) := fun v hm => (hv v hm).keeps fun b o e g => keep b o (fun z => ha v hm (by rw [e, z])) g
  rcases hk with hk | ⟨v0, r, rfl, hk⟩
  · obtain ⟨fs, h1, h3, h4⟩ := kat_it h' fun v hm => ⟨k v, hv' v hm, hk v hm⟩
    refine ⟨tuples' true, fun Q E hq => ?_, fun p q hp hq => ?_⟩
    · refine PySem.W.kat_kind (T := .type "int") h1 (by omega) (fun f hm => ?_) (by rfl) ?_
      · obtain ⟨x, t, rfl⟩ := h4 f hm
        exact PySem.W.Looks.now
      · have e : (Value.type "int" != Value.type "tuple") = true := by first | decide +kernel | rfl | decide
        rw [e]
        exact hq
    · obtain ⟨a1, o1, i1, n1, e1, g1, c1, d1, ii1⟩ := hv' _ hp
      obtain ⟨a2, o2, i2, n2, e2, g2, c2, d2, ii2⟩ := hv' _ hq
      show wpAny (model prog w) A (keyLt' (tuples' true) p.1 q.1) (fun r s' => s' = { s with heap := h' } ∧ r = HT.lexLt (k p.1) (k q.1)) (fun _ _ => False) { s with heap := h' }
      generalize k p.1 = ns at ii1 ⊢
      generalize k q.1 = ms at ii2 ⊢
      rw [e1, e2]
      refine PySem.W.kat_lt g1 d1 g2 d2 (lex_it true 0 _ ii1 ii2 ?_ ⟨rfl, rfl⟩)
      rw [← ii1.length, ← ii2.length, decide_eq_true_eq]
      simp
  · refine ⟨oneType', fun Q E hq => ?_, fun p q hp hq => lt_it (Q := fun r s' => s' = { s with heap := h' } ∧ r = HT.lexLt (k p.1) (k q.1)) (E := fun _ _ => False) hu (hv' p.1 hp) (hv' q.1 hq) ⟨rfl, rfl⟩⟩
    have h0 := hv' v0 List.mem_cons_self
    rw [hk] at h0
    exact kind_one (s := { s with heap := h' }) h0 (fun u hm => ⟨_, hv' u (List.mem_cons_of_mem _ hm)⟩) hq
end
end Bs

set_option maxHeartbeats 4000000
namespace Bs
open PySem PySem.Spec PyProof.Rows L2 HT PySem.W
open Builtin Builtin.Str Builtin.Int Builtin.Float
end Bs

set_option maxHeartbeats 4000000
namespace Bs
open PySem PySem.Spec PyProof.Rows L2 HT
open Builtin Builtin.Str StrLaws
end Bs

set_option maxHeartbeats 4000000
namespace Bs
open PySem PySem.Spec PyProof.Rows L2 HT
section
variable {prog : Program} {w : World} {A : Around} {E : Value → Shared → Prop} {s : Shared} {κ : Type} [DecidableEq κ] {knd : HeapKind prog w κ}
end
end Bs

set_option maxHeartbeats 4000000
namespace Bs
open PySem PySem.Spec L2 PyProof PyProof.Rows SrtO
section
variable {prog : Program} {w : World} {A : Around} {E : Value → Shared → Prop} {s : Shared}
theorem gather_tup {p : Addr} {vs : List Value} {Q : List Value → Shared → Prop} {o : Obj} {n : Nat} (g : s.heap.get? p = some o) (hc : o.cls = .type "tuple") (hd : o.data = .seq vs.toArray n) (hz : vs.length ≤ sizeLine)
    (k : Q vs { s with heap := (s.heap.push (seqObj "list" #[] 0)).update s.heap.objs.size (Obj.mapSeq (· ++ vs.toArray)) }) : wpAny (model prog w) A (collect (.ref p)) Q E s := by
  have fresh : (s.heap.push (seqObj "list" #[] 0)).get? s.heap.objs.size = some (seqObj "list" #[] 0) := Heap.get?_push_size _ rfl
  have g2 : (s.heap.push (seqObj "list" #[] 0)).get? p = some o := Heap.get?_push_of_some _ g
  unfold collect
  refine wpAny_bind (wpAny_runValue (codeAny_builtin entry_proto_collect' ?_))
  show wpAny _ _ (do again (.builtin "list.__iadd__" ⟨[← newList [], .ref p], []⟩)) _ _ s
  refine wpAny_bind (wpAny_newList (wpAny_pure ⟨Code.quiet_builtin _ (by decide +kernel), codeAny_builtin entry_list_iadd' ?_⟩))
  show wpAny _ _ (Builtin.List.listExtendWith (.ref s.heap.objs.size) (.ref p) (.ref s.heap.objs.size)) _ _ { s with heap := s.heap.push (seqObj "list" #[] 0) }
  unfold Builtin.List.listExtendWith
  refine wpAny_bind (wpAny_typeOf (T := "tuple") ⟨o, g2, hc⟩ ?_)
  rw [if_pos (show (_ || Value.type "tuple" == Value.type "list" || Value.type "tuple" == Value.type "tuple") = true by
    rw [show (Value.type "tuple" == Value.type "tuple") = true from rfl, Bool.or_true])]
  refine wpAny_bind (listItems_at g2 hd (wpAny_bind (listItems_at (xs := #[]) (n := 0) fresh rfl ?_)))
  rw [if_neg (by simp)]
  refine wpAny_bind (listUpdate_at (xs := #[]) (n := 0) fresh rfl (wpAny_pure ?_) (Nat.zero_le _) (by show (#[] ++ vs.toArray).size ≤ sizeLine + 1; simp only [Array.size_append, List.size_toArray, List.length_nil]; omega))
  refine wpAny_bind (wpAny_load (get?_update_seq fresh _) ?_)
  show wpAny _ _ (pure ((#[] : Array Value) ++ vs.toArray).toList) Q E _
  rw [show ((#[] : Array Value) ++ vs.toArray).toList = vs by simp]
  exact wpAny_pure k
theorem sorted_tup {p : Addr} {vs : List Value} {ns : List Int} {Q : Value → Shared → Prop} {o : Obj} {n : Nat} (g : s.heap.get? p = some o) (hc : o.cls = .type "tuple") (hd : o.data = .seq vs.toArray n) (hz : vs.length ≤ sizeLine) (hi : IntsAre vs ns)
    (k : ∀ out : List Value, Srtd ltIv out → Stb ltIv out vs → Q (.ref (s.heap.objs.size + 1)) { s with heap := sortedAll s.heap vs out.toArray }) : wpAny (model prog w) A (call (.builtin "sorted") [.ref p]) Q E s := by
  refine Calls.call_function_entry kind_sorted plain_sorted entry_sorted (args_sorted1 _) ?_
  unfold Builtin.«sorted»
  refine wpAny_bind (m := checkCount "sorted" 1 1 _) (wpAny_pure (wpAny_bind (gather_tup g hc hd hz (wpAny_bind (wpAny_newList ?_ hz)))))
  generalize hT : (s.heap.push (seqObj "list" #[] 0)).update s.heap.objs.size (Obj.mapSeq (· ++ vs.toArray)) = T
  have sz : T.objs.size = s.heap.objs.size + 1 := by rw [← hT, Heap.size_update, size_push']
  have at1 : (T.push (seqObj "list" vs.toArray 0)).get? (s.heap.objs.size + 1) = some (seqObj "list" vs.toArray 0) := by rw [← sz]; exact Heap.get?_push_size _ rfl
  show wpAny _ _ _ _ _ { s with heap := T.push (seqObj "list" vs.toArray 0) }
  rw [sz]
  refine wpAny_bind (wpAny_holding (wpAny_call_entry slot_list_sort ⟨_, at1, rfl⟩ entry_list_sort (list_sort_ord swo_int at1 hz (fun h2 => ints_sortable hi h2) fun out h1 h2 => ⟨_, rfl, wpAny_pure ⟨_, rfl, ?_⟩⟩) (args_list_sort _)))
  have := k out h1 h2
  unfold sortedAll at this
  rw [hT] at this
  exact this
end
section
variable {X : Cx}
def rSortedIT : List V → Hp → VK → Prop := fun vs H Q => ∃ (a : Addr) (ns : List Int), vs = [V.ref a] ∧ H a = some (.tup (ns.map V.int)) ∧
  ∀ (ns' : List Int) (p : Addr), ns'.Perm ns → ns'.Pairwise (· ≤ ·) → H p = none → Q (.ref p) (upd H p (.lst (ns'.map V.int)))
theorem cr_sortedIT : CallR X (.builtin "sorted") rSortedIT := by
  intro pins s σ H vs us Q I r h
  obtain ⟨a, ns, rfl, ha, q⟩ := h
  obtain ⟨hz, its, rv, o, g, hc, n, hd⟩ := I.hok a _ ha
  rw [Vals.ref1 r]
  have hi := rv.ints
  refine sorted_tup (vs := its) g hc hd (by rw [← rv.length]; exact hz) hi fun out h1 h2 => ?_
  obtain ⟨k1, k2, k3⟩ := ints_out hi h1 h2
  obtain ⟨ep, he'⟩ := sortedAll_at s.heap its out.toArray
  have hlen : ((out.map iv).map V.int).length ≤ sizeLine := by
    rw [List.length_map, k2.length_eq, ← List.length_map (as := ns) (f := V.int)]
    exact hz
  exact ⟨.ref _, upd H (s.heap.objs.size + 1) (.lst ((out.map iv).map V.int)), I.laid (t' := s.toks) (fun _ _ => sortedAll_old) (Nat.le_succ _) ⟨hlen, out, ep, vals_of_ints k1, he'⟩, rfl, q _ _ k2 k3 (I.hok.fresh (Nat.le_succ _))⟩
end
end Bs

set_option maxHeartbeats 4000000
namespace Bs
open PySem PySem.Spec L2 PyProof.Rows
section
variable {X : Cx}
end
end Bs

set_option maxHeartbeats 4000000
namespace Bs
open PySem PySem.Spec L2 PyProof.Rows
section
variable {X : Cx}
end
end Bs

set_option maxHeartbeats 4000000
namespace DL
open PySem PySem.Spec PyProof.Rows L2 Bs
abbrev Slots := L2.St
inductive D where
  | non | bl (b : Bool) | int (i : Int) | str (x : Str)
  | tup (l : List D) | lst (l : List D) | rdl (l : List D)
  | dic (t : Bool) (ks vs : List D)
  | ins (c : String) (ns : List Str) (l : List D)
  | ref (n : Nat)
instance : Inhabited D := ⟨.non⟩
abbrev Sto := List D
inductive R (α : Type) where
  | ok (a : α) (st : Sto) | exc (c : String) (fs : List (Str × D)) (st : Sto) | bad
inductive Slot where
  | no | fz (d : D) | ow (d : D)
abbrev En := List Slot
inductive RS where
  | nx (env : En) (st : Sto) | ret (d : D) (st : Sto) | brk (env : En) (st : Sto) | ct (env : En) (st : Sto) | exc (c : String) (fs : List (Str × D)) (env : En) (st : Sto) | bad
abbrev EF := En → Sto → R D
abbrev TF := En → Sto → R Bool
abbrev AF := En → Sto → R (List D)
abbrev SF := En → Sto → RS
abbrev FF := List D → Sto → R D
def R.bind {α β : Type} (r : R α) (k : α → Sto → R β) : R β := match r with
  | .ok a st => k a st
  | .exc c fs st => .exc c fs st
  | .bad => .bad
def lim : Nat := 4000000
theorem lim_line : lim < sizeLine := by decide
structure Gm where
  K : PySem.W.Frag
  cl : String → Addr
def HoldL (K : PySem.W.Frag) (S : Addr → Prop) (H : Hp) (a : Addr) (xs : List V) : Prop := SqL K H a xs ∧ (S a ∨ ∀ H', SqL K H' a xs)
def keyD : Key → D
  | .inl i => .int i
  | .inr x => .str x
mutual
def Rep (G : Gm) (S : Addr → Prop) (α : List Addr) (H : Hp) : D → V → Prop
  | .non, v => v = .non
  | .bl b, v => v = .bl b
  | .int i, v => v = .int i
  | .str x, v => v = .str x
  | .tup l, v => ∃ a xs, v = .ref a ∧ S a ∧ H a = some (.tup xs) ∧ RepL G S α H l xs
  | .lst l, v => ∃ a xs, v = .ref a ∧ S a ∧ H a = some (.lst xs) ∧ RepL G S α H l xs
  | .rdl l, v => ∃ a xs, v = .ref a ∧ HoldL G.K S H a xs ∧ RepL G S α H l xs
  | .dic true ks vs, v => ∃ a kvs, v = .ref a ∧ S a ∧ H a = some (.dT kvs) ∧ ks = kvs.map (fun p => .tup (p.1.map keyD)) ∧ RepL G S α H vs (kvs.map (·.2))
  | .dic false ks vs, v => ∃ a kvs, v = .ref a ∧ S a ∧ H a = some (.dK kvs) ∧ ks = kvs.map (fun p => keyD p.1) ∧ RepL G S α H vs (kvs.map (·.2))
  | .ins c ns l, v => ∃ a dx fs, v = .ref a ∧ S a ∧ H a = some (.ins (G.cl c) dx fs) ∧ fs.map (·.1) = ns ∧ RepL G S α H l (fs.map (·.2))
  | .ref n, v => ∃ a, v = .ref a ∧ α[n]? = some a
def RepL (G : Gm) (S : Addr → Prop) (α : List Addr) (H : Hp) : List D → List V → Prop
  | [], vs => vs = []
  | d :: l, vs => ∃ v r, vs = v :: r ∧ Rep G S α H d v ∧ RepL G S α H l r
end
def Own (G : Gm) (S : Addr → Prop) (α : List Addr) (H : Hp) (a : Addr) : D → Prop
  | .lst l => ∃ xs, H a = some (.lst xs) ∧ RepL G S α H l xs
  | .dic true ks vs => ∃ kvs, H a = some (.dT kvs) ∧ ks = kvs.map (fun p => .tup (p.1.map keyD)) ∧ RepL G S α H vs (kvs.map (·.2))
  | .dic false ks vs => ∃ kvs, H a = some (.dK kvs) ∧ ks = kvs.map (fun p => keyD p.1) ∧ RepL G S α H vs (kvs.map (·.2))
  | .ins c ns l => ∃ dx fs, H a = some (.ins (G.cl c) dx fs) ∧ fs.map (·.1) = ns ∧ RepL G S α H l (fs.map (·.2))
  | _ => False
section
variable {G : Gm} {S S' S1 : Addr → Prop} {α α' α1 : List Addr} {H H' H1 : Hp}
structure Ext (S : Addr → Prop) (α : List Addr) (H : Hp) (S' : Addr → Prop) (α' : List Addr) (H' : Hp) : Prop where
  s : ∀ a, S a → S' a
  al : ∀ (n : Nat) (a : Addr), α[n]? = some a → α'[n]? = some a
  eq : ∀ a, S a → H' a = H a
theorem Ext.refl : Ext S α H S α H := ⟨fun _ h => h, fun _ _ h => h, fun _ _ => rfl⟩
theorem Ext.trans (e : Ext S α H S' α' H') (f : Ext S' α' H' S1 α1 H1) : Ext S α H S1 α1 H1 := ⟨fun a h => f.s a (e.s a h), fun n a h => f.al n a (e.al n a h), fun a h => (f.eq a (e.s a h)).trans (e.eq a h)⟩
theorem Ext.sqL (e : Ext S α H S' α' H') {K : PySem.W.Frag} {a : Addr} {xs : List V} (hs : S a) (h : SqL K H a xs) : SqL K H' a xs := by
  unfold SqL Rd at h ⊢
  rw [e.eq a hs]
  exact h
theorem Ext.holdL (e : Ext S α H S' α' H') {K : PySem.W.Frag} {a : Addr} {xs : List V} (h : HoldL K S H a xs) : HoldL K S' H' a xs := by
  obtain ⟨h, h2⟩ := h
  rcases h2 with h2 | h2
  · exact ⟨e.sqL h2 h, .inl (e.s a h2)⟩
  · exact ⟨h2 H', .inr h2⟩
mutual
theorem Rep.mono (e : Ext S α H S' α' H') : ∀ (d : D) (v : V), Rep G S α H d v → Rep G S' α' H' d v
  | .non, v, h => h
  | .bl b, v, h => h
  | .int i, v, h => h
  | .str x, v, h => h
  | .tup l, v, h => by
    obtain ⟨a, xs, hv, h0, h1, h2⟩ := h
    exact ⟨a, xs, hv, e.s a h0, (e.eq a h0).trans h1, RepL.mono e l xs h2⟩
  | .lst l, v, h => by
    obtain ⟨a, xs, hv, h0, h1, h2⟩ := h
    exact ⟨a, xs, hv, e.s a h0, (e.eq a h0).trans h1, RepL.mono e l xs h2⟩
  | .rdl l, v, h => by
    obtain ⟨a, xs, hv, h1, h2⟩ := h
    exact ⟨a, xs, hv, e.holdL h1, RepL.mono e l xs h2⟩
  | .dic true ks vs, v, h => by
    obtain ⟨a, kvs, hv, h0, h1, hk, h2⟩ := h
    exact ⟨a, kvs, hv, e.s a h0, (e.eq a h0).trans h1, hk, RepL.mono e vs _ h2⟩
  | .dic false ks vs, v, h => by
    obtain ⟨a, kvs, hv, h0, h1, hk, h2⟩ := h
    exact ⟨a, kvs, hv, e.s a h0, (e.eq a h0).trans h1, hk, RepL.mono e vs _ h2⟩
  | .ins c ns l, v, h => by
    obtain ⟨a, dx, fs, hv, h0, h1, hk, h2⟩ := h
    exact ⟨a, dx, fs, hv, e.s a h0, (e.eq a h0).trans h1, hk, RepL.mono e l _ h2⟩
  | .ref n, v, h => by
    obtain ⟨a, hv, h1⟩ := h
    exact ⟨a, hv, e.al n a h1⟩
theorem RepL.mono (e : Ext S α H S' α' H') : ∀ (l : List D) (vs : List V), RepL G S α H l vs → RepL G S' α' H' l vs
  | [], vs, h => h
  | d :: l, vs, h => by
    obtain ⟨v, r, hv, h1, h2⟩ := h
    exact ⟨v, r, hv, Rep.mono e d v h1, RepL.mono e l r h2⟩
end
theorem RepL.len : ∀ {l : List D} {vs : List V}, RepL G S α H l vs → vs.length = l.length
  | [], vs, h => by
    have h : vs = [] := h
    rw [h]; rfl
  | d :: l, vs, h => by
    obtain ⟨v, r, hv, h1, h2⟩ := h
    rw [hv, List.length_cons, List.length_cons, RepL.len h2]
theorem RepL.get : ∀ {l : List D} {vs : List V} {i : Nat} {d : D}, RepL G S α H l vs → l[i]? = some d → ∃ v, vs[i]? = some v ∧ Rep G S α H d v
  | [], vs, i, d, h, e => by simp at e
  | d' :: l, vs, 0, d, h, e => by
    obtain ⟨v, r, hv, h1, h2⟩ := h
    simp at e
    subst e hv
    exact ⟨v, by simp, h1⟩
  | d' :: l, vs, i + 1, d, h, e => by
    obtain ⟨v, r, hv, h1, h2⟩ := h
    subst hv
    obtain ⟨w, q1, q2⟩ := RepL.get (i := i) (d := d) h2 (by simpa using e)
    exact ⟨w, by simpa using q1, q2⟩
theorem RepL.append : ∀ {l m : List D} {vs ws : List V}, RepL G S α H l vs → RepL G S α H m ws → RepL G S α H (l ++ m) (vs ++ ws)
  | [], m, vs, ws, h, h' => by
    have h : vs = [] := h
    subst h
    exact h'
  | d :: l, m, vs, ws, h, h' => by
    obtain ⟨v, r, hv, h1, h2⟩ := h
    subst hv
    exact ⟨v, r ++ ws, rfl, h1, RepL.append h2 h'⟩
theorem RepL.one {d : D} {v : V} (h : Rep G S α H d v) : RepL G S α H [d] [v] := ⟨v, [], rfl, h, rfl⟩
theorem RepL.set {d : D} {v : V} (h : Rep G S α H d v) : ∀ {l : List D} {vs : List V} (i : Nat), RepL G S α H l vs → RepL G S α H (l.set i d) (vs.set i v)
  | [], vs, i, h' => by
    have h' : vs = [] := h'
    subst h'
    exact rfl
  | e :: l, vs, 0, h' => by
    obtain ⟨w, r, hv, h1, h2⟩ := h'
    subst hv
    exact ⟨v, r, rfl, h, h2⟩
  | e :: l, vs, i + 1, h' => by
    obtain ⟨w, r, hv, h1, h2⟩ := h'
    subst hv
    exact ⟨w, r.set i v, rfl, h1, RepL.set h i h2⟩
theorem RepL.drop : ∀ {l : List D} {vs : List V} (n : Nat), RepL G S α H l vs → RepL G S α H (l.drop n) (vs.drop n)
  | l, vs, 0, h => h
  | [], vs, n + 1, h => by
    have h : vs = [] := h
    subst h
    exact rfl
  | e :: l, vs, n + 1, h => by
    obtain ⟨w, r, hv, h1, h2⟩ := h
    subst hv
    exact RepL.drop n h2
theorem RepL.take : ∀ {l : List D} {vs : List V} (n : Nat), RepL G S α H l vs → RepL G S α H (l.take n) (vs.take n)
  | l, vs, 0, h => rfl
  | [], vs, n + 1, h => by
    have h : vs = [] := h
    subst h
    exact rfl
  | e :: l, vs, n + 1, h => by
    obtain ⟨w, r, hv, h1, h2⟩ := h
    subst hv
    exact ⟨w, r.take n, rfl, h1, RepL.take n h2⟩
theorem RepL.ints : ∀ {l : List Int} {vs : List V}, RepL G S α H (l.map D.int) vs → vs = l.map V.int
  | [], vs, h => h
  | i :: l, vs, h => by
    obtain ⟨w, r, hv, h1, h2⟩ := h
    rw [hv, show w = .int i from h1, RepL.ints h2]; rfl
theorem RepL.ofInts : ∀ (l : List Int), RepL G S α H (l.map D.int) (l.map V.int)
  | [] => rfl
  | i :: l => ⟨.int i, l.map V.int, rfl, rfl, RepL.ofInts l⟩
theorem Own.mono (e : Ext S α H S' α' H') {a : Addr} (ha : H' a = H a) : ∀ {d : D}, Own G S α H a d → Own G S' α' H' a d
  | .lst l, h => by obtain ⟨xs, h1, h2⟩ := h; exact ⟨xs, ha.trans h1, h2.mono e _ _⟩
  | .dic true ks vs, h => by obtain ⟨kvs, h1, hk, h2⟩ := h; exact ⟨kvs, ha.trans h1, hk, h2.mono e _ _⟩
  | .dic false ks vs, h => by obtain ⟨kvs, h1, hk, h2⟩ := h; exact ⟨kvs, ha.trans h1, hk, h2.mono e _ _⟩
  | .ins c ns l, h => by obtain ⟨dx, fs, h1, hk, h2⟩ := h; exact ⟨dx, fs, ha.trans h1, hk, h2.mono e _ _⟩
theorem Own.live {a : Addr} : ∀ {d : D}, Own G S α H a d → H a ≠ none
  | .lst l, h => by obtain ⟨xs, h1, _⟩ := h; rw [h1]; simp
  | .dic true ks vs, h => by obtain ⟨kvs, h1, _⟩ := h; rw [h1]; simp
  | .dic false ks vs, h => by obtain ⟨kvs, h1, _⟩ := h; rw [h1]; simp
  | .ins c ns l, h => by obtain ⟨dx, fs, h1, _⟩ := h; rw [h1]; simp
theorem Own.rep {a : Addr} (hs : S a) : ∀ {d : D}, Own G S α H a d → Rep G S α H d (.ref a)
  | .lst l, h => by obtain ⟨xs, h1, h2⟩ := h; exact ⟨a, xs, rfl, hs, h1, h2⟩
  | .dic true ks vs, h => by obtain ⟨kvs, h1, hk, h2⟩ := h; exact ⟨a, kvs, rfl, hs, h1, hk, h2⟩
  | .dic false ks vs, h => by obtain ⟨kvs, h1, hk, h2⟩ := h; exact ⟨a, kvs, rfl, hs, h1, hk, h2⟩
  | .ins c ns l, h => by obtain ⟨dx, fs, h1, hk, h2⟩ := h; exact ⟨a, dx, fs, rfl, hs, h1, hk, h2⟩
end
def tabNames : List String := ["Tally.choice.<locals>.<lambda>", "stands_behind.<locals>.<lambda>", "at_once_end.<locals>.<lambda>"]
def TabsOk (G : Gm) (H : Hp) : Prop := ∀ q, q ∈ tabNames → G.cl q ≠ 0 → LamX.TabS H (G.cl q) (Str.ofString q)
def NoTb : HO → Prop
  | .tbl _ => False
  | _ => True
def SoftO : HO → Prop
  | .tbl _ => False
  | .ext _ => False
  | _ => True
def Soft (H : Hp) (a : Addr) : Prop := ∀ o, H a = some o → SoftO o
theorem SoftO.noTb {o : HO} (h : SoftO o) : NoTb o := by cases o <;> first | trivial | exact h.elim
theorem soft_none {H : Hp} {a : Addr} (h : H a = none) : Soft H a := fun o e => by rw [h] at e; cases e
theorem soft_at {H : Hp} {a : Addr} {o : HO} (h : H a = some o) (hs : SoftO o) : Soft H a := fun o' e => by rw [h] at e; cases e; exact hs
theorem TabsOk.ext {G : Gm} {H H' : Hp} (t : TabsOk G H) (e : ∀ b o, H b = some o → H' b = some o) : TabsOk G H' := fun q hq hz => (t q hq hz).ext e
theorem TabsOk.upd {G : Gm} {H : Hp} {a : Addr} {o : HO} (t : TabsOk G H) (h : Soft H a) : TabsOk G (upd H a o) := fun q hq hz => by
  obtain ⟨ps, h1, h2, h3⟩ := t q hq hz
  refine ⟨ps, by rw [upd_ne (show G.cl q ≠ a from fun z => (h _ (z ▸ h1) : SoftO (.tbl ps)))]; exact h1, h2, fun pos cv hc => ?_⟩
  obtain ⟨c, e1, e2⟩ := h3 pos cv hc
  exact ⟨c, e1, by rw [upd_ne (show c ≠ a from fun z => (h _ (z ▸ e2) : SoftO (LamX.CodeO c (Str.ofString q))))]; exact e2⟩
theorem Own.soft {G : Gm} {S : Addr → Prop} {α : List Addr} {H : Hp} {a : Addr} : ∀ {d : D}, Own G S α H a d → Soft H a
  | .lst l, h => by obtain ⟨xs, h1, _⟩ := h; exact soft_at h1 trivial
  | .dic true ks vs, h => by obtain ⟨kvs, h1, _⟩ := h; exact soft_at h1 trivial
  | .dic false ks vs, h => by obtain ⟨kvs, h1, _⟩ := h; exact soft_at h1 trivial
  | .ins c ns l, h => by obtain ⟨dx, fs, h1, _⟩ := h; exact soft_at h1 trivial
structure World (G : Gm) (S : Addr → Prop) (α : List Addr) (H : Hp) (st : Sto) : Prop where
  live : ∀ a, S a → H a ≠ none
  len : α.length = st.length
  nd : α.Nodup
  ns : ∀ (a : Addr), a ∈ α → ¬ S a
  sto : ∀ (n : Nat) (a : Addr) (d : D), α[n]? = some a → st[n]? = some d → Own G S α H a d
  so : ∀ a, S a → Soft H a
  tb : TabsOk G H
def IsTup (H : Hp) (a : Addr) : Prop := ∃ xs, H a = some (.tup xs)
theorem IsTup.upd_no {H : Hp} {a b : Addr} {o : HO} (h : IsTup (upd H a o) b) (ho : ∀ xs, o ≠ .tup xs) : IsTup H b := by
  obtain ⟨xs, h⟩ := h
  by_cases e : b = a
  · subst e
    rw [upd_same] at h
    cases h
    exact absurd rfl (ho xs)
  · rw [upd_ne e] at h
    exact ⟨xs, h⟩
theorem IsTup.upd_new {H : Hp} {a b : Addr} {o : HO} (h : IsTup (upd H a o) b) (hn : H a = none) : H b = none ∨ IsTup H b := by
  obtain ⟨xs, h⟩ := h
  by_cases e : b = a
  · subst e
    exact .inl hn
  · rw [upd_ne e] at h
    exact .inr ⟨xs, h⟩
theorem IsTup.back {H H' : Hp} {a : Addr} (h : IsTup H' a) (k : ∀ o, H a = some o → H' a = some o) : H a = none ∨ IsTup H a := by
  cases q : H a with
  | none => exact .inl rfl
  | some o =>
    obtain ⟨xs, h⟩ := h
    rw [k o q] at h
    cases h
    exact .inr ⟨xs, q⟩
theorem IsTup.own_upd {H : Hp} {a b : Addr} {o : HO} (h : IsTup (upd H b o) a) (hn : ¬ IsTup (upd H b o) b) : IsTup H a := by
  by_cases e : a = b
  · subst e
    exact absurd h hn
  · obtain ⟨xs, h⟩ := h
    rw [upd_ne e] at h
    exact ⟨xs, h⟩
theorem tp_back {H H' : Hp} {a : Addr} (h : H' a = none ∨ IsTup H' a) (k : ∀ o, H a = some o → H' a = some o) : H a = none ∨ IsTup H a := by
  rcases h with h | h
  · refine .inl ?_
    cases q : H a with
    | none => rfl
    | some o => rw [k o q] at h; cases h
  · exact h.back k
theorem Own.noTup {G : Gm} {S : Addr → Prop} {α : List Addr} {H : Hp} {a : Addr} : ∀ {d : D}, Own G S α H a d → ¬ IsTup H a
  | .lst l, h => by obtain ⟨xs, h1, _⟩ := h; rintro ⟨ys, z⟩; rw [h1] at z; cases z
  | .dic true ks vs, h => by obtain ⟨kvs, h1, _⟩ := h; rintro ⟨ys, z⟩; rw [h1] at z; cases z
  | .dic false ks vs, h => by obtain ⟨kvs, h1, _⟩ := h; rintro ⟨ys, z⟩; rw [h1] at z; cases z
  | .ins c ns l, h => by obtain ⟨dx, fs, h1, _⟩ := h; rintro ⟨ys, z⟩; rw [h1] at z; cases z
structure Step (S : Addr → Prop) (α : List Addr) (O : Addr → Prop) (H : Hp) (S' : Addr → Prop) (α' : List Addr) (O' : Addr → Prop) (H' : Hp) : Prop where
  s : ∀ a, S a → S' a
  al : ∀ (n : Nat) (a : Addr), α[n]? = some a → α'[n]? = some a
  keep : ∀ a o, H a = some o → a ∉ α → ¬ O a → NoTb o → H' a = some o
  sn : ∀ a, S' a → S a ∨ O a ∨ H a = none ∨ IsTup H a
  an : ∀ (a : Addr), a ∈ α' → a ∈ α ∨ O a ∨ H a = none
  on : ∀ a, O' a → O a ∨ H a = none
  live : ∀ a, H a ≠ none → H' a ≠ none
  tp : ∀ a, IsTup H' a → H a = none ∨ IsTup H a
def ØO : Addr → Prop := fun _ => False
section
variable {G : Gm} {S S' S1 : Addr → Prop} {α α' α1 : List Addr} {H H' H1 : Hp} {O O' O1 : Addr → Prop} {st st' : Sto}
theorem Step.refl : Step S α O H S α O H := ⟨fun _ h => h, fun _ _ h => h, fun _ _ h _ _ _ => h, fun _ h => .inl h, fun _ h => .inl h, fun _ h => .inl h, fun _ h => h, fun _ h => .inr h⟩
theorem Step.trans (e : Step S α O H S' α' O' H') (f : Step S' α' O' H' S1 α1 O1 H1) : Step S α O H S1 α1 O1 H1 where
  s := fun a h => f.s a (e.s a h)
  al := fun n a h => f.al n a (e.al n a h)
  keep := fun a o h h1 h2 hn => f.keep a o (e.keep a o h h1 h2 hn) (fun q => by
    rcases e.an a q with q | q | q
    · exact h1 q
    · exact h2 q
    · rw [h] at q; cases q) (fun q => by
    rcases e.on a q with q | q
    · exact h2 q
    · rw [h] at q; cases q) hn
  sn := fun a h => by
    rcases f.sn a h with q | q | q | q
    · exact e.sn a q
    · rcases e.on a q with q | q
      · exact .inr (.inl q)
      · exact .inr (.inr (.inl q))
    · refine .inr (.inr (.inl ?_))
      cases hh : H a with
      | none => rfl
      | some o => exact absurd q (e.live a (by rw [hh]; simp))
    · exact .inr (.inr (e.tp a q))
  an := fun a h => by
    rcases f.an a h with q | q | q
    · exact e.an a q
    · rcases e.on a q with q | q
      · exact .inr (.inl q)
      · exact .inr (.inr q)
    · refine .inr (.inr ?_)
      cases hh : H a with
      | none => rfl
      | some o => exact absurd q (e.live a (by rw [hh]; simp))
  on := fun a h => by
    rcases f.on a h with q | q
    · exact e.on a q
    · refine .inr ?_
      cases hh : H a with
      | none => rfl
      | some o => exact absurd q (e.live a (by rw [hh]; simp))
  live := fun a h => f.live a (e.live a h)
  tp := fun a h => by
    rcases f.tp a h with q | q
    · refine .inl ?_
      cases hh : H a with
      | none => rfl
      | some o => exact absurd q (e.live a (by rw [hh]; simp))
    · exact e.tp a q
theorem World.nal (w : World G S α H st) {a : Addr} (h : S a) : a ∉ α := fun q => w.ns a q h
theorem Step.ext (e : Step S α O H S' α' O' H') (w : World G S α H st) (hO : ∀ a, O a → ¬ S a) : Ext S α H S' α' H' := ⟨e.s, e.al, fun a h => by
  cases q : H a with
  | none => exact absurd q (w.live a h)
  | some o => exact e.keep a o q (w.nal h) (fun z => hO a z h) (w.so a h o q).noTb⟩
end
end DL

set_option maxHeartbeats 4000000
namespace DL
open PySem PySem.Spec PyProof.Rows L2 Bs
def SlotOk (G : Gm) (S : Addr → Prop) (α : List Addr) (H : Hp) (o : Option (Option V)) : Slot → Prop
  | .no => True
  | .fz d => ∃ v, o = some (some v) ∧ Rep G S α H d v
  | .ow d => ∃ a, o = some (some (.ref a)) ∧ ¬ S a ∧ a ∉ α ∧ Own G S α H a d
def Ow (σ : Slots) (env : En) (a : Addr) : Prop := ∃ (i : Nat) (d : D), env[i]? = some (.ow d) ∧ σ[i]? = some (some (.ref a))
structure Pre (G : Gm) (S : Addr → Prop) (α : List Addr) (H : Hp) (σ : Slots) (env : En) (st : Sto) : Prop where
  w : World G S α H st
  len : σ.length = env.length
  sl : ∀ (i : Nat) (s : Slot), env[i]? = some s → SlotOk G S α H (σ[i]?) s
  ap : ∀ (i j : Nat) (a : Addr) (d e : D), i ≠ j → env[i]? = some (.ow d) → env[j]? = some (.ow e) → σ[i]? = some (some (.ref a)) → σ[j]? = some (some (.ref a)) → False
abbrev StepE (S : Addr → Prop) (α : List Addr) (H : Hp) (S' : Addr → Prop) (α' : List Addr) (H' : Hp) : Prop := Step S α ØO H S' α' ØO H'
section
variable {G : Gm} {S S' S1 : Addr → Prop} {α α' α1 : List Addr} {H H' H1 : Hp} {O O' O1 : Addr → Prop} {st st' : Sto} {σ : Slots} {env : En}
theorem StepE.ext (e : StepE S α H S' α' H') (w : World G S α H st) : Ext S α H S' α' H' := Step.ext e w (fun _ h => h.elim)
theorem Step.lift (e : StepE S α H S' α' H') : Step S α O H S' α' O H' :=
  ⟨e.s, e.al, fun a o h h1 _ hn => e.keep a o h h1 (fun z => z) hn, fun a h => by
    rcases e.sn a h with q | q | q
    · exact .inl q
    · exact q.elim
    · exact .inr (.inr q), fun a h => by
    rcases e.an a h with q | q | q
    · exact .inl q
    · exact q.elim
    · exact .inr (.inr q), fun a h => .inl h, e.live, e.tp⟩
theorem own_step (e : StepE S α H S' α' H') (w : World G S α H st) {a : Addr} {d : D} (h1 : ¬ S a) (h2 : a ∉ α) (h3 : Own G S α H a d) : ¬ S' a ∧ a ∉ α' ∧ H' a = H a ∧ Own G S' α' H' a d := by
  have lv := h3.live
  cases q : H a with
  | none => exact absurd q lv
  | some o =>
    have k := e.keep a o q h2 (fun z => z) (h3.soft o q).noTb
    refine ⟨fun z => ?_, fun z => ?_, k, h3.mono (StepE.ext e w) (k.trans q.symm)⟩
    · rcases e.sn a z with z | z | z | z
      · exact h1 z
      · exact z
      · exact lv z
      · exact h3.noTup z
    · rcases e.an a z with z | z | z
      · exact h2 z
      · exact z
      · exact lv z
theorem Pre.step (p : Pre G S α H σ env st) (e : StepE S α H S' α' H') (w : World G S' α' H' st') : Pre G S' α' H' σ env st' where
  w := w
  len := p.len
  sl := fun i s h => by
    have q := p.sl i s h
    cases s with
    | no => trivial
    | fz d => obtain ⟨v, h1, h2⟩ := q; exact ⟨v, h1, h2.mono (StepE.ext e p.w) _ _⟩
    | ow d =>
      obtain ⟨a, h1, h2, h3, h4⟩ := q
      obtain ⟨k1, k2, _, k4⟩ := own_step e p.w h2 h3 h4
      exact ⟨a, h1, k1, k2, k4⟩
  ap := p.ap
def BRep (G : Gm) (S : Addr → Prop) (α : List Addr) (H : Hp) (d : D) (v : V) : Prop := Rep G S α H d v ∨ ∃ a, v = .ref a ∧ ¬ S a ∧ a ∉ α ∧ Own G S α H a d
def FRep (G : Gm) (H0 : Hp) (S : Addr → Prop) (α : List Addr) (H : Hp) (d : D) (v : V) : Prop := ∃ a, v = .ref a ∧ ¬ S a ∧ a ∉ α ∧ H0 a = none ∧ Own G S α H a d
theorem BRep.step {d : D} {v : V} (b : BRep G S α H d v) (e : StepE S α H S' α' H') (w : World G S α H st) : BRep G S' α' H' d v := by
  rcases b with b | ⟨a, h1, h2, h3, h4⟩
  · exact .inl (b.mono (StepE.ext e w) _ _)
  · obtain ⟨k1, k2, _, k4⟩ := own_step e w h2 h3 h4
    exact .inr ⟨a, h1, k1, k2, k4⟩
inductive Kd where | val | brw | fresh
def KRep (κ : Kd) (G : Gm) (H0 : Hp) (S : Addr → Prop) (α : List Addr) (H : Hp) (d : D) (v : V) : Prop := match κ with
  | .val => Rep G S α H d v
  | .brw => BRep G S α H d v
  | .fresh => FRep G H0 S α H d v
def Got (κ : Kd) (G : Gm) (S : Addr → Prop) (α : List Addr) (H : Hp) (d : D) (st' : Sto) (v : V) (H1 : Hp) : Prop := ∃ S1 α1, StepE S α H S1 α1 H1 ∧ World G S1 α1 H1 st' ∧ KRep κ G H S1 α1 H1 d v
def ExR (G : Gm) (S : Addr → Prop) (α : List Addr) (H : Hp) (fs : List (Str × D)) (dx : Option Addr) : Prop :=
  (fs = [] ∧ dx = none) ∨ ∃ f d v a, fs = [(f, d)] ∧ dx = some a ∧ ¬ S a ∧ a ∉ α ∧ H a = some (.xd [(f, v)]) ∧ Rep G S α H d v
def GotX (G : Gm) (S : Addr → Prop) (α : List Addr) (O : Addr → Prop) (H : Hp) (fs : List (Str × D)) (st' : Sto) (dx : Option Addr) (H1 : Hp) : Prop := ∃ S1 α1, Step S α O H S1 α1 O H1 ∧ World G S1 α1 H1 st' ∧ ExR G S1 α1 H1 fs dx
def PostE (κ : Kd) (G : Gm) (W : WX) (S : Addr → Prop) (α : List Addr) (H : Hp) (σ : Slots) (r : R D) (Q : VK) : Prop := match r with
  | .ok d st' => ∀ v H1, Got κ G S α H d st' v H1 → Q v H1
  | .exc c fs st' => ∀ dx H1, GotX G S α ØO H fs st' dx H1 → W (.ref (G.cl c)) dx σ H1
  | .bad => False
def OkE (κ : Kd) (G : Gm) (W : WX) (f : EF) (t : TE) : Prop := ∀ (S : Addr → Prop) (α : List Addr) (H : Hp) (σ : Slots) (env : En) (st : Sto) (Q : VK), Pre G S α H σ env st → PostE κ G W S α H σ (f env st) Q → t σ H Q
def PostT (G : Gm) (W : WX) (S : Addr → Prop) (α : List Addr) (H : Hp) (σ : Slots) (r : R Bool) (Q : Bool → Hp → Prop) : Prop := match r with
  | .ok b st' => ∀ H1, (∃ S1 α1, StepE S α H S1 α1 H1 ∧ World G S1 α1 H1 st') → Q b H1
  | .exc c fs st' => ∀ dx H1, GotX G S α ØO H fs st' dx H1 → W (.ref (G.cl c)) dx σ H1
  | .bad => False
def OkT (G : Gm) (W : WX) (f : TF) (t : TT) : Prop := ∀ (S : Addr → Prop) (α : List Addr) (H : Hp) (σ : Slots) (env : En) (st : Sto) (Q : Bool → Hp → Prop), Pre G S α H σ env st → PostT G W S α H σ (f env st) Q → t σ H Q
def KRepL (κ : Kd) (G : Gm) (H0 : Hp) (S : Addr → Prop) (α : List Addr) (H : Hp) : List D → List V → Prop
  | [], vs => vs = []
  | d :: l, vs => ∃ v r, vs = v :: r ∧ KRep κ G H0 S α H d v ∧ KRepL κ G H0 S α H l r
def PostA (κ : Kd) (G : Gm) (W : WX) (S : Addr → Prop) (α : List Addr) (H : Hp) (σ : Slots) (r : R (List D)) (Q : List V → Hp → Prop) : Prop := match r with
  | .ok l st' => ∀ vs H1, (∃ S1 α1, StepE S α H S1 α1 H1 ∧ World G S1 α1 H1 st' ∧ KRepL κ G H S1 α1 H1 l vs) → Q vs H1
  | .exc c fs st' => ∀ dx H1, GotX G S α ØO H fs st' dx H1 → W (.ref (G.cl c)) dx σ H1
  | .bad => False
def OkA (κ : Kd) (G : Gm) (W : WX) (f : AF) (t : TA) : Prop := ∀ (S : Addr → Prop) (α : List Addr) (H : Hp) (σ : Slots) (env : En) (st : Sto) (Q : List V → Hp → Prop), Pre G S α H σ env st → PostA κ G W S α H σ (f env st) Q → t σ H Q
theorem GotX.step {fs : List (Str × D)} {dx : Option Addr} (e : Step S α O H S' α' O H') (g : GotX G S' α' O H' fs st' dx H1) : GotX G S α O H fs st' dx H1 := by
  obtain ⟨S1, α1, e1, w1, r⟩ := g
  exact ⟨S1, α1, e.trans e1, w1, r⟩
theorem KRepL.val : ∀ {l : List D} {vs : List V} {H0 : Hp}, KRepL .val G H0 S α H l vs → RepL G S α H l vs
  | [], _, _, h => h
  | _ :: _, _, _, ⟨v, r, h1, h2, h3⟩ => ⟨v, r, h1, h2, KRepL.val h3⟩
def FzS (S : Addr → Prop) (a : Addr) : Addr → Prop := fun b => S b ∨ b = a
theorem fz_ext {a : Addr} : Ext S α H (FzS S a) α H := ⟨fun _ h => .inl h, fun _ _ h => h, fun _ _ => rfl⟩
theorem fz_world {a : Addr} (w : World G S α H st) (h1 : a ∉ α) (h2 : H a ≠ none) (h3 : Soft H a) : World G (FzS S a) α H st :=
  ⟨fun b h => h.elim (w.live b) (fun e => e ▸ h2), w.len, w.nd, fun b hb h => h.elim (w.ns b hb) (fun e => h1 (e ▸ hb)), fun n b d e1 e2 => (w.sto n b d e1 e2).mono fz_ext rfl, fun b h => h.elim (w.so b) (fun e => e ▸ h3), w.tb⟩
theorem fz_step {a : Addr} (e : StepE S α H S' α' H') (h : H a = none) : StepE S α H (FzS S' a) α' H' :=
  ⟨fun b q => .inl (e.s b q), e.al, e.keep, fun b q => q.elim (e.sn b) (fun z => .inr (.inr (.inl (z ▸ h)))), e.an, e.on, e.live, e.tp⟩
theorem Got.ofFresh {d : D} {v : V} (g : Got .fresh G S α H d st' v H1) : Got .val G S α H d st' v H1 := by
  obtain ⟨S1, α1, e, w, a, rfl, n1, n2, n3, ow⟩ := g
  exact ⟨FzS S1 a, α1, fz_step e n3, fz_world w n2 ow.live ow.soft, Own.rep (.inr rfl) (ow.mono fz_ext rfl)⟩
theorem Got.brw {d : D} {v : V} (g : Got .val G S α H d st' v H1) : Got .brw G S α H d st' v H1 := by
  obtain ⟨S1, α1, e, w, r⟩ := g
  exact ⟨S1, α1, e, w, .inl r⟩
end
structure DE (κ : Kd) (X : Cx) (cl : String → Addr) (W : WX) (e : Expr) (f : EF) : Prop where
  ex : ∃ t, PE X e t ∧ OkE κ ⟨X.K, cl⟩ W f t
structure DT (X : Cx) (cl : String → Addr) (W : WX) (e : Expr) (f : TF) : Prop where
  ex : ∃ t, PT X e t ∧ OkT ⟨X.K, cl⟩ W f t
structure DW (X : Cx) (cl : String → Addr) (W : WX) (e : Expr) (f : TF) : Prop where
  ex : ∃ t, PW X e t ∧ OkT ⟨X.K, cl⟩ W f t
structure DA (κ : Kd) (X : Cx) (cl : String → Addr) (W : WX) (es : List Expr) (f : AF) : Prop where
  ex : ∃ t, PA X es t ∧ OkA κ ⟨X.K, cl⟩ W f t
section
variable {X : Cx} {cl : String → Addr} {W : WX} {e a b : Expr} {es : List Expr} {f fa fb : EF} {κ : Kd}
theorem DE.ofFresh (h : DE .fresh X cl W e f) : DE .val X cl W e f := by
  obtain ⟨t, h1, h2⟩ := h.ex
  refine ⟨t, h1, fun S α H σ env st Q p q => h2 S α H σ env st Q p ?_⟩
  cases r : f env st with
  | ok d st' => rw [r] at q; exact fun v H1 g => q v H1 g.ofFresh
  | exc c fs st' => rw [r] at q; exact q
  | bad => rw [r] at q; exact q
theorem DE.brw (h : DE .val X cl W e f) : DE .brw X cl W e f := by
  obtain ⟨t, h1, h2⟩ := h.ex
  refine ⟨t, h1, fun S α H σ env st Q p q => h2 S α H σ env st Q p ?_⟩
  cases r : f env st with
  | ok d st' => rw [r] at q; exact fun v H1 g => q v H1 g.brw
  | exc c fs st' => rw [r] at q; exact q
  | bad => rw [r] at q; exact q
theorem DE.frb (h : DE .fresh X cl W e f) : DE .brw X cl W e f := h.ofFresh.brw
def dVar (i : Nat) : EF := fun env st => match env[i]? with
  | some (.fz d) => .ok d st
  | _ => .bad
def dVarB (i : Nat) : EF := fun env st => match env[i]? with
  | some (.fz d) => .ok d st
  | some (.ow d) => .ok d st
  | _ => .bad
theorem got_refl {G : Gm} {S : Addr → Prop} {α : List Addr} {H : Hp} {d : D} {st : Sto} {v : V} (w : World G S α H st) (r : KRep κ G H S α H d v) : Got κ G S α H d st v H := ⟨S, α, .refl, w, r⟩
theorem de_var {i : Nat} (h : PE X e (tVar i)) : DE .val X cl W e (dVar i) := by
  refine ⟨_, h, fun S α H σ env st Q p q => ?_⟩
  unfold dVar at q
  split at q
  · rename_i d he
    obtain ⟨v, h1, h2⟩ := p.sl i _ he
    exact ⟨v, h1, q v H (got_refl p.w h2)⟩
  · exact q.elim
theorem db_var {i : Nat} (h : PE X e (tVar i)) : DE .brw X cl W e (dVarB i) := by
  refine ⟨_, h, fun S α H σ env st Q p q => ?_⟩
  unfold dVarB at q
  split at q
  · rename_i d he
    obtain ⟨v, h1, h2⟩ := p.sl i _ he
    exact ⟨v, h1, q v H (got_refl p.w (.inl h2))⟩
  · rename_i d he
    obtain ⟨a, h1, h2⟩ := p.sl i _ he
    exact ⟨_, h1, q _ H (got_refl p.w (.inr ⟨a, rfl, h2⟩))⟩
  · exact q.elim
def dC (d : D) : EF := fun _ st => .ok d st
theorem de_con {v : V} {d : D} (h : PE X e (tC v)) (hr : ∀ G S α H, Rep G S α H d v) : DE .val X cl W e (dC d) := by
  refine ⟨_, h, fun S α H σ env st Q p q => ?_⟩
  exact q v H (got_refl p.w (hr _ _ _ _))
theorem de_int {i : Int} (h : PE X e (tC (.int i))) : DE .val X cl W e (dC (.int i)) := de_con h fun _ _ _ _ => rfl
theorem de_bl {i : Bool} (h : PE X e (tC (.bl i))) : DE .val X cl W e (dC (.bl i)) := de_con h fun _ _ _ _ => rfl
theorem de_non (h : PE X e (tC .non)) : DE .val X cl W e (dC .non) := de_con h fun _ _ _ _ => rfl
def dNil : AF := fun _ st => .ok [] st
def dCons (f : EF) (g : AF) : AF := fun env st => (f env st).bind fun d st1 => (g env st1).bind fun l st2 => .ok (d :: l) st2
theorem da_nil : DA κ X cl W [] dNil := ⟨_, pa_nil, fun S α H σ env st Q p q => q [] H ⟨S, α, .refl, p.w, rfl⟩⟩
theorem KRep.step {G : Gm} {S S' : Addr → Prop} {α α' : List Addr} {H H' H0 : Hp} {d : D} {v : V} {st : Sto} (r : KRep κ G H0 S α H d v) (e : StepE S α H S' α' H') (w : World G S α H st) : KRep κ G H0 S' α' H' d v := by
  cases κ with
  | val => exact Rep.mono (StepE.ext e w) _ _ r
  | brw => exact BRep.step r e w
  | fresh =>
    obtain ⟨a, h0, h1, h2, h3, h4⟩ := r
    obtain ⟨k1, k2, _, k4⟩ := own_step e w h1 h2 h4
    exact ⟨a, h0, k1, k2, h3, k4⟩
theorem KRep.back {G : Gm} {S S' : Addr → Prop} {α α' : List Addr} {H H' H1 : Hp} {d : D} {v : V} {S1 : Addr → Prop} {α1 : List Addr} (e : StepE S α H S' α' H') (r : KRep κ G H' S1 α1 H1 d v) : KRep κ G H S1 α1 H1 d v := by
  cases κ with
  | val => exact r
  | brw => exact r
  | fresh =>
    obtain ⟨a, h0, h1, h2, h3, h4⟩ := r
    refine ⟨a, h0, h1, h2, ?_, h4⟩
    cases q : H a with
    | none => rfl
    | some o => exact absurd h3 (e.live a (by rw [q]; simp))
theorem KRepL.back {G : Gm} {S S' : Addr → Prop} {α α' : List Addr} {H H' H1 : Hp} {S1 : Addr → Prop} {α1 : List Addr} (e : StepE S α H S' α' H') : ∀ {l : List D} {vs : List V}, KRepL κ G H' S1 α1 H1 l vs → KRepL κ G H S1 α1 H1 l vs
  | [], _, r => r
  | _ :: _, _, ⟨v, r, h1, h2, h3⟩ => ⟨v, r, h1, h2.back e, KRepL.back e h3⟩
theorem Got.step {G : Gm} {S S' : Addr → Prop} {α α' : List Addr} {H H' H1 : Hp} {d : D} {v : V} {st' : Sto} (e : StepE S α H S' α' H') (g : Got κ G S' α' H' d st' v H1) : Got κ G S α H d st' v H1 := by
  obtain ⟨S1, α1, e1, w1, r⟩ := g
  exact ⟨S1, α1, e.trans e1, w1, r.back e⟩
theorem PostE.step {G : Gm} {S S' : Addr → Prop} {α α' : List Addr} {H H' : Hp} {σ : Slots} {r : R D} {Q : VK} (e : StepE S α H S' α' H') (q : PostE κ G W S α H σ r Q) : PostE κ G W S' α' H' σ r Q := by
  cases r with
  | ok d st' => exact fun v H1 g => q v H1 (g.step e)
  | exc c fs st' => exact fun dx H1 g => q dx H1 (g.step e)
  | bad => exact q
theorem PostT.step {G : Gm} {S S' : Addr → Prop} {α α' : List Addr} {H H' : Hp} {σ : Slots} {r : R Bool} {Q : Bool → Hp → Prop} (e : StepE S α H S' α' H') (q : PostT G W S α H σ r Q) : PostT G W S' α' H' σ r Q := by
  cases r with
  | ok d st' => exact fun H1 ⟨S1, α1, e1, w1⟩ => q H1 ⟨S1, α1, e.trans e1, w1⟩
  | exc c fs st' => exact fun dx H1 g => q dx H1 (g.step e)
  | bad => exact q
theorem PostA.step {G : Gm} {S S' : Addr → Prop} {α α' : List Addr} {H H' : Hp} {σ : Slots} {r : R (List D)} {Q : List V → Hp → Prop} (e : StepE S α H S' α' H') (q : PostA κ G W S α H σ r Q) : PostA κ G W S' α' H' σ r Q := by
  cases r with
  | ok d st' => exact fun vs H1 ⟨S1, α1, e1, w1, r⟩ => q vs H1 ⟨S1, α1, e.trans e1, w1, r.back e⟩
  | exc c fs st' => exact fun dx H1 g => q dx H1 (g.step e)
  | bad => exact q
theorem da_cons {f : EF} {g : AF} (h : DE κ X cl W e f) (hr : DA κ X cl W es g) (hs : starEach (e :: es) X.env = (false, eval e X.env) :: starEach es X.env := by rfl) : DA κ X cl W (e :: es) (dCons f g) := by
  obtain ⟨t, h1, h2⟩ := h.ex
  obtain ⟨u, k1, k2⟩ := hr.ex
  refine ⟨_, pa_cons h1 k1 hs, fun S α H σ env st Q p q => ?_⟩
  refine h2 S α H σ env st _ p ?_
  unfold dCons at q
  cases r : f env st with
  | bad => rw [r] at q; exact q
  | exc c fs st' => rw [r] at q; exact q
  | ok d st1 =>
    rw [r] at q
    rintro v H1 ⟨S1, α1, e1, w1, r1⟩
    refine k2 S1 α1 H1 σ env st1 _ (p.step e1 w1) ?_
    replace q : PostA κ _ W S α H σ ((g env st1).bind fun l st2 => .ok (d :: l) st2) Q := q
    have q' := PostA.step e1 q
    cases r2 : g env st1 with
    | bad => rw [r2] at q'; exact q'
    | exc c fs st' => rw [r2] at q'; exact q'
    | ok l st2 =>
      rw [r2] at q
      rintro vs H2 ⟨S2, α2, e2, w2, r3⟩
      exact q (v :: vs) H2 ⟨S2, α2, e1.trans e2, w2, v, vs, rfl, r1.step e2 w1, r3.back e1⟩
end
end DL

set_option maxHeartbeats 4000000
namespace DL
open PySem PySem.Spec PyProof.Rows L2 Bs
def deref (st : Sto) : D → D
  | .ref n => (st[n]?).getD .non
  | d => d
section
variable {G : Gm} {S S' S1 : Addr → Prop} {α α' α1 : List Addr} {H H' H1 : Hp} {st st' : Sto}
def View (G : Gm) (S : Addr → Prop) (α : List Addr) (H : Hp) (d : D) (v : V) : Prop := Rep G S α H d v ∨ ∃ a, v = .ref a ∧ Own G S α H a d
theorem BRep.view {d : D} {v : V} (w : World G S α H st) (h : BRep G S α H d v) : View G S α H (deref st d) v := by
  rcases h with h | ⟨a, rfl, _, _, h⟩
  · cases d with
    | ref n =>
      obtain ⟨a, rfl, ha⟩ := h
      have hn : n < α.length := (List.getElem?_eq_some_iff.mp ha).1
      rw [w.len] at hn
      have hs : st[n]? = some st[n] := List.getElem?_eq_getElem hn
      refine .inr ⟨a, rfl, ?_⟩
      show Own G S α H a ((st[n]?).getD .non)
      rw [hs]
      exact w.sto n a _ ha hs
    | _ => exact .inl h
  · cases d with
    | ref n => exact h.elim
    | _ => exact .inr ⟨a, rfl, h⟩
theorem View.lst {l : List D} {v : V} (h : View G S α H (.lst l) v) : ∃ a xs, v = .ref a ∧ H a = some (.lst xs) ∧ RepL G S α H l xs := by
  rcases h with ⟨a, xs, hv, _, h1, h2⟩ | ⟨a, hv, xs, h1, h2⟩
  · exact ⟨a, xs, hv, h1, h2⟩
  · exact ⟨a, xs, hv, h1, h2⟩
theorem View.tup {l : List D} {v : V} (h : View G S α H (.tup l) v) : ∃ a xs, v = .ref a ∧ S a ∧ H a = some (.tup xs) ∧ RepL G S α H l xs := by
  rcases h with ⟨a, xs, hv, h0, h1, h2⟩ | ⟨a, hv, h⟩
  · exact ⟨a, xs, hv, h0, h1, h2⟩
  · exact h.elim
theorem View.int {i : Int} {v : V} (h : View G S α H (.int i) v) : v = .int i := h.elim (fun h => h) fun ⟨_, _, h⟩ => h.elim
theorem View.bl {i : Bool} {v : V} (h : View G S α H (.bl i) v) : v = .bl i := h.elim (fun h => h) fun ⟨_, _, h⟩ => h.elim
theorem View.str {i : Str} {v : V} (h : View G S α H (.str i) v) : v = .str i := h.elim (fun h => h) fun ⟨_, _, h⟩ => h.elim
theorem View.non {v : V} (h : View G S α H .non v) : v = .non := h.elim (fun h => h) fun ⟨_, _, h⟩ => h.elim
theorem View.rdl {l : List D} {v : V} (h : View G S α H (.rdl l) v) : ∃ a xs, v = .ref a ∧ True ∧ SqL G.K H a xs ∧ RepL G S α H l xs := by
  rcases h with ⟨a, xs, hv, h1, h2⟩ | ⟨a, hv, h⟩
  · exact ⟨a, xs, hv, trivial, h1.1, h2⟩
  · exact h.elim
theorem View.dK {ks vs : List D} {v : V} (h : View G S α H (.dic false ks vs) v) : ∃ a kvs, v = .ref a ∧ H a = some (.dK kvs) ∧ ks = kvs.map (fun p => keyD p.1) ∧ RepL G S α H vs (kvs.map (·.2)) := by
  rcases h with ⟨a, kvs, hv, _, h1, hk, h2⟩ | ⟨a, hv, kvs, h1, hk, h2⟩
  · exact ⟨a, kvs, hv, h1, hk, h2⟩
  · exact ⟨a, kvs, hv, h1, hk, h2⟩
theorem View.dT {ks vs : List D} {v : V} (h : View G S α H (.dic true ks vs) v) : ∃ a kvs, v = .ref a ∧ H a = some (.dT kvs) ∧ ks = kvs.map (fun p => .tup (p.1.map keyD)) ∧ RepL G S α H vs (kvs.map (·.2)) := by
  rcases h with ⟨a, kvs, hv, _, h1, hk, h2⟩ | ⟨a, hv, kvs, h1, hk, h2⟩
  · exact ⟨a, kvs, hv, h1, hk, h2⟩
  · exact ⟨a, kvs, hv, h1, hk, h2⟩
theorem View.ins {c : String} {ns : List Str} {l : List D} {v : V} (h : View G S α H (.ins c ns l) v) : ∃ a dx fs, v = .ref a ∧ H a = some (.ins (G.cl c) dx fs) ∧ fs.map (·.1) = ns ∧ RepL G S α H l (fs.map (·.2)) := by
  rcases h with ⟨a, dx, fs, hv, _, h1, hk, h2⟩ | ⟨a, hv, dx, fs, h1, hk, h2⟩
  · exact ⟨a, dx, fs, hv, h1, hk, h2⟩
  · exact ⟨a, dx, fs, hv, h1, hk, h2⟩
def items : D → Option (List D)
  | .lst l => some l
  | .tup l => some l
  | .rdl l => some l
  | _ => none
theorem View.seq {d : D} {l : List D} {v : V} (h : View G S α H d v) (e : items d = some l) : ∃ a xs, v = .ref a ∧ (SqL G.K H a xs ∨ SqT G.K H a xs) ∧ RepL G S α H l xs := by
  cases d with
  | lst m => cases e; obtain ⟨a, xs, hv, h1, h2⟩ := h.lst; exact ⟨a, xs, hv, .inl (SqL.of h1), h2⟩
  | tup m => cases e; obtain ⟨a, xs, hv, _, h1, h2⟩ := h.tup; exact ⟨a, xs, hv, .inr (SqT.of h1), h2⟩
  | rdl m => cases e; obtain ⟨a, xs, hv, _, h1, h2⟩ := h.rdl; exact ⟨a, xs, hv, .inl h1, h2⟩
  | _ => cases e
theorem step_new {p : Addr} {o : HO} (hp : H p = none) : StepE S α H S α (upd H p o) :=
  ⟨fun _ h => h, fun _ _ h => h, fun a u h _ _ _ => by rw [upd_ne (ne_of_none h hp)]; exact h, fun _ h => .inl h, fun _ h => .inl h, fun _ h => .inl h, fun a h => by
    by_cases e : a = p
    · rw [e, upd_same]; simp
    · rw [upd_ne e]; exact h, fun a h => h.upd_new hp⟩
theorem own_new {p a : Addr} {o : HO} {d : D} (hp : H p = none) (w : World G S α H st) (h : Own G S α H a d) : Own G S α (upd H p o) a d := by
  have e : (upd H p o) a = H a := upd_ne (show a ≠ p from fun z => h.live (z ▸ hp))
  exact h.mono ⟨fun _ h => h, fun _ _ h => h, fun b hb => upd_ne (show b ≠ p from fun z => w.live b hb (z ▸ hp))⟩ e
theorem world_new {p : Addr} {o : HO} (hp : H p = none) (w : World G S α H st) : World G S α (upd H p o) st :=
  ⟨fun a h => (step_new (S := S) (α := α) (o := o) hp).live a (w.live a h), w.len, w.nd, w.ns, fun n a d e1 e2 => own_new hp w (w.sto n a d e1 e2), fun a h o e => w.so a h o (by rw [← e, upd_ne (show a ≠ p from fun z => w.live a h (z ▸ hp))]), w.tb.upd (soft_none hp)⟩
theorem not_al {p : Addr} (hp : H p = none) (w : World G S α H st) : p ∉ α := fun h => by
  obtain ⟨n, hn, e⟩ := List.mem_iff_getElem.mp h
  have e1 : α[n]? = some p := by rw [List.getElem?_eq_getElem hn, e]
  rw [w.len] at hn
  exact (w.sto n p _ e1 (List.getElem?_eq_getElem hn)).live hp
theorem not_S {p : Addr} (hp : H p = none) (w : World G S α H st) : ¬ S p := fun h => w.live p h hp
theorem repL_new {p : Addr} {o : HO} {l : List D} {xs : List V} (hp : H p = none) (w : World G S α H st) (h : RepL G S α H l xs) : RepL G S α (upd H p o) l xs := h.mono (StepE.ext (step_new hp) w) _ _
theorem got_lst {l : List D} {xs : List V} {p : Addr} (hp : H p = none) (w : World G S α H st) (h : RepL G S α H l xs) : Got .fresh G S α H (.lst l) st (.ref p) (upd H p (.lst xs)) :=
  ⟨S, α, step_new hp, world_new hp w, p, rfl, not_S hp w, not_al hp w, hp, xs, upd_same, repL_new hp w h⟩
theorem got_tup {l : List D} {xs : List V} {p : Addr} (hp : H p = none) (w : World G S α H st) (h : RepL G S α H l xs) : Got .val G S α H (.tup l) st (.ref p) (upd H p (.tup xs)) := by
  have e := step_new (S := S) (α := α) (o := HO.tup xs) hp
  have w1 := world_new (o := HO.tup xs) hp w
  refine ⟨FzS S p, α, fz_step e hp, fz_world w1 (not_al hp w) (by rw [upd_same]; simp) (soft_at upd_same trivial), p, xs, rfl, .inr rfl, upd_same, ?_⟩
  exact (repL_new hp w h).mono fz_ext _ _
end
def OpOk (κ : Kd) (G : Gm) (r : R2) (g : Sto → D → D → Option D) : Prop := ∀ (S : Addr → Prop) (α : List Addr) (H : Hp) (st : Sto) (x y : D) (vx vy : V) (z : D) (Q : VK), World G S α H st → BRep G S α H x vx → BRep G S α H y vy → g st x y = some z → (∀ v H1, Got κ G S α H z st v H1 → Q v H1) → r vx vy H Q
def dOpt (o : Option D) (st : Sto) : R D := match o with
  | some z => .ok z st
  | none => .bad
def dBin (g : Sto → D → D → Option D) (fa fb : EF) : EF := fun env st => (fa env st).bind fun x st1 => (fb env st1).bind fun y st2 => dOpt (g st2 x y) st2
def tOfD (st : Sto) : D → R Bool
  | .bl b => .ok b st
  | _ => .bad
def dBinT (g : Sto → D → D → Option D) (fa fb : EF) : TF := fun env st => (dBin g fa fb env st).bind fun d st1 => tOfD st1 d
section
variable {X : Cx} {cl : String → Addr} {W : WX} {e a b : Expr} {es : List Expr} {f fa fb : EF} {κ : Kd} {r : R2} {g : Sto → D → D → Option D}
theorem bin_core {ta tb : TE} (ok : OpOk κ ⟨X.K, cl⟩ r g) (h2 : OkE .brw ⟨X.K, cl⟩ W fa ta) (k2 : OkE .brw ⟨X.K, cl⟩ W fb tb) : OkE κ ⟨X.K, cl⟩ W (dBin g fa fb) (tOp r ta tb) := by
  intro S α H σ env st Q p q
  refine h2 S α H σ env st _ p ?_
  unfold dBin at q
  cases r1 : fa env st with
  | bad => rw [r1] at q; exact q
  | exc c fs st' => rw [r1] at q; exact q
  | ok x st1 =>
    rw [r1] at q
    rintro v H1 ⟨S1, α1, e1, w1, b1⟩
    refine k2 S1 α1 H1 σ env st1 _ (p.step e1 w1) ?_
    replace q : PostE κ _ W S α H σ ((fb env st1).bind fun y st2 => dOpt (g st2 x y) st2) Q := q
    have q' := PostE.step e1 q
    cases r2 : fb env st1 with
    | bad => rw [r2] at q'; exact q'
    | exc c fs st' => rw [r2] at q'; exact q'
    | ok y st2 =>
      rw [r2] at q
      rintro u H2 ⟨S2, α2, e2, w2, b2⟩
      replace q : PostE κ _ W S α H σ (dOpt (g st2 x y) st2) Q := q
      have q' := PostE.step (e1.trans e2) q
      cases rz : g st2 x y with
      | none => rw [rz] at q'; exact q'.elim
      | some z =>
        rw [rz] at q'
        exact ok S2 α2 H2 st2 x y v u z Q w2 (b1.step e2 w1) b2 rz q'
theorem de_op (h : ∀ ta tb, PE X a ta → PE X b tb → PE X e (tOp r ta tb)) (ok : OpOk κ ⟨X.K, cl⟩ r g) (ha : DE .brw X cl W a fa) (hb : DE .brw X cl W b fb) : DE κ X cl W e (dBin g fa fb) := by
  obtain ⟨ta, h1, h2⟩ := ha.ex
  obtain ⟨tb, k1, k2⟩ := hb.ex
  exact ⟨_, h ta tb h1 k1, bin_core ok h2 k2⟩
theorem dt_op (h : ∀ ta tb, PE X a ta → PE X b tb → PT X e (tTest (tOp r ta tb))) (ok : OpOk .val ⟨X.K, cl⟩ r g) (ha : DE .brw X cl W a fa) (hb : DE .brw X cl W b fb) : DT X cl W e (dBinT g fa fb) := by
  obtain ⟨ta, h1, h2⟩ := ha.ex
  obtain ⟨tb, k1, k2⟩ := hb.ex
  refine ⟨_, h ta tb h1 k1, fun S α H σ env st Q p q => ?_⟩
  refine bin_core ok h2 k2 S α H σ env st _ p ?_
  unfold dBinT at q
  cases r1 : dBin g fa fb env st with
  | bad => rw [r1] at q; exact q
  | exc c fs st' => rw [r1] at q; exact q
  | ok x st1 =>
    rw [r1] at q
    rintro v H1 ⟨S1, α1, e1, w1, b1⟩
    cases x with
    | bl b => exact ⟨b, b1, q H1 ⟨S1, α1, e1, w1⟩⟩
    | _ => exact q.elim
end
section
variable {G : Gm} {κ : Kd}
theorem opok_view {r : R2} {g : Sto → D → D → Option D} (h : ∀ (S : Addr → Prop) (α : List Addr) (H : Hp) (st : Sto) (x y : D) (vx vy : V) (z : D) (Q : VK), World G S α H st → View G S α H x vx → View G S α H y vy → g st x y = some z → (∀ v H1, Got κ G S α H z st v H1 → Q v H1) → r vx vy H Q) :
    OpOk κ G r (fun st x y => g st (deref st x) (deref st y)) := fun S α H st x y vx vy z Q w bx byy hz q => h S α H st _ _ vx vy z Q w (bx.view w) (byy.view w) hz q
def i2 (f : Int → Int → Option D) : Sto → D → D → Option D := fun _ x y => match x, y with
  | .int i, .int j => f i j
  | _, _ => none
theorem opok_i {C : Int → Int → Prop} {h : Int → Int → V} {f : Int → Int → Option D} (hf : ∀ i j z, f i j = some z → C i j ∧ ∀ (S : Addr → Prop) (α : List Addr) (H : Hp), Rep G S α H z (h i j)) : OpOk .val G (rI C h) (fun st x y => i2 f st (deref st x) (deref st y)) := by
  refine opok_view fun S α H st x y vx vy z Q w bx byy hz q => ?_
  unfold i2 at hz
  split at hz
  · rename_i i j
    obtain ⟨c1, c2⟩ := hf i j z hz
    exact ⟨i, j, bx.int, byy.int, c1, q _ _ (got_refl w (c2 S α H))⟩
  · cases hz
theorem opok_i0 {h : Int → Int → V} {f : Int → Int → D} (hf : ∀ i j (S : Addr → Prop) (α : List Addr) (H : Hp), Rep G S α H (f i j) (h i j)) : OpOk .val G (rI0 h) (fun st x y => i2 (fun i j => some (f i j)) st (deref st x) (deref st y)) := by
  refine opok_view fun S α H st x y vx vy z Q w bx byy hz q => ?_
  unfold i2 at hz
  split at hz
  · rename_i i j
    cases hz
    exact ⟨i, j, bx.int, byy.int, q _ _ (got_refl w (hf i j S α H))⟩
  · cases hz
end
end DL

set_option maxHeartbeats 4000000
namespace DL
open PySem PySem.Spec PyProof.Rows L2 Bs
mutual
def py : D → PyData
  | .non => .none
  | .bl b => .bool b
  | .int i => .int i
  | .str x => .str x
  | .tup l => .tuple (pyL l)
  | .lst l => .list (pyL l)
  | .rdl l => .list (pyL l)
  | .dic _ _ _ => .dict []
  | .ins _ _ _ => .dict []
  | .ref _ => .dict []
def pyL : List D → List PyData
  | [] => []
  | d :: l => py d :: pyL l
end
mutual
def plain : Nat → D → Bool
  | _, .non => true
  | _, .bl _ => true
  | _, .int _ => true
  | _, .str x => PyData.strOk x
  | n, .tup l => decide (0 < n) && plainL (n - 1) l
  | n, .lst l => decide (0 < n) && plainL (n - 1) l
  | n, .rdl l => decide (0 < n) && plainL (n - 1) l
  | _, .dic _ _ _ => false
  | _, .ins _ _ _ => false
  | _, .ref _ => false
def plainL : Nat → List D → Bool
  | _, [] => true
  | n, d :: l => plain n d && plainL n l
end
mutual
def deq : D → D → Bool
  | .non, .non => true
  | .bl a, .bl b => a == b
  | .bl a, .int j => (if a then 1 else 0) == j
  | .int i, .bl b => i == (if b then 1 else 0)
  | .int i, .int j => i == j
  | .str x, .str y => x == y
  | .lst xs, .lst ys => deqL xs ys
  | .rdl xs, .lst ys => deqL xs ys
  | .lst xs, .rdl ys => deqL xs ys
  | .rdl xs, .rdl ys => deqL xs ys
  | .tup xs, .tup ys => deqL xs ys
  | _, _ => false
def deqL : List D → List D → Bool
  | [], [] => true
  | x :: xs, y :: ys => deq x y && deqL xs ys
  | _, _ => false
end
mutual
theorem deq_py : ∀ x y : D, PyData.eqv (py x) (py y) = deq x y
  | .non, y => by cases y <;> rfl
  | .bl a, y => by cases y <;> rfl
  | .int a, y => by cases y <;> rfl
  | .str a, y => by cases y <;> rfl
  | .lst xs, y => by
    cases y with
    | lst ys => simp only [py, PyData.eqv, deq]; exact deq_pyL xs ys
    | rdl ys => simp only [py, PyData.eqv, deq]; exact deq_pyL xs ys
    | _ => simp only [py, PyData.eqv, deq]
  | .rdl xs, y => by
    cases y with
    | lst ys => simp only [py, PyData.eqv, deq]; exact deq_pyL xs ys
    | rdl ys => simp only [py, PyData.eqv, deq]; exact deq_pyL xs ys
    | _ => simp only [py, PyData.eqv, deq]
  | .tup xs, y => by
    cases y with
    | tup ys => simp only [py, PyData.eqv, deq]; exact deq_pyL xs ys
    | _ => simp only [py, PyData.eqv, deq]
  | .dic _ _ _, y => by cases y <;> simp only [py, PyData.eqv, deq]
  | .ins _ _ _, y => by cases y <;> simp only [py, PyData.eqv, deq]
  | .ref _, y => by cases y <;> simp only [py, PyData.eqv, deq]
theorem deq_pyL : ∀ xs ys : List D, PyData.eqvAll (pyL xs) (pyL ys) = deqL xs ys
  | [], [] => by simp only [pyL, PyData.eqvAll, deqL]
  | [], y :: ys => by simp only [pyL, PyData.eqvAll, deqL]
  | x :: xs, [] => by simp only [pyL, PyData.eqvAll, deqL]
  | x :: xs, y :: ys => by simp only [pyL, PyData.eqvAll, deqL]; rw [deq_py x y, deq_pyL xs ys]
end
mutual
theorem plain_ok : ∀ (n : Nat) (x : D), plain n x = true → PyData.canLay0 (py x) = true ∧ PyData.depth (py x) ≤ n
  | n, .non, h => ⟨rfl, by simp only [py, PyData.depth]; omega⟩
  | n, .bl _, h => ⟨rfl, by simp only [py, PyData.depth]; omega⟩
  | n, .int _, h => ⟨rfl, by simp only [py, PyData.depth]; omega⟩
  | n, .str x, h => ⟨by simp only [plain] at h; simp only [py, PyData.canLay0]; exact h, by simp only [py, PyData.depth]; omega⟩
  | n, .tup l, h => by
    simp only [plain, Bool.and_eq_true, decide_eq_true_eq] at h
    obtain ⟨h1, h2⟩ := plainL_ok (n - 1) l h.2
    exact ⟨by simp only [py, PyData.canLay0]; exact h1, by simp only [py, PyData.depth]; omega⟩
  | n, .lst l, h => by
    simp only [plain, Bool.and_eq_true, decide_eq_true_eq] at h
    obtain ⟨h1, h2⟩ := plainL_ok (n - 1) l h.2
    exact ⟨by simp only [py, PyData.canLay0]; exact h1, by simp only [py, PyData.depth]; omega⟩
  | n, .rdl l, h => by
    simp only [plain, Bool.and_eq_true, decide_eq_true_eq] at h
    obtain ⟨h1, h2⟩ := plainL_ok (n - 1) l h.2
    exact ⟨by simp only [py, PyData.canLay0]; exact h1, by simp only [py, PyData.depth]; omega⟩
  | n, .dic _ _ _, h => by simp [plain] at h
  | n, .ins _ _ _, h => by simp [plain] at h
  | n, .ref _, h => by simp [plain] at h
theorem plainL_ok : ∀ (n : Nat) (l : List D), plainL n l = true → PyData.canLayAll0 (pyL l) = true ∧ PyData.depthAll (pyL l) ≤ n
  | n, [], h => ⟨rfl, by simp only [pyL, PyData.depthAll]; omega⟩
  | n, x :: l, h => by
    simp only [plainL, Bool.and_eq_true] at h
    obtain ⟨h1, h2⟩ := plain_ok n x h.1
    obtain ⟨k1, k2⟩ := plainL_ok n l h.2
    refine ⟨by simp only [pyL, PyData.canLayAll0, Bool.and_eq_true]; exact ⟨h1, k1⟩, ?_⟩
    simp only [pyL, PyData.depthAll]
    omega
end
theorem plain_shaped {x : D} (h : plain 62 x = true) : SeqAt.shaped (py x) = true := by
  obtain ⟨h1, h2⟩ := plain_ok 62 x h
  unfold SeqAt.shaped
  rw [h1, decide_eq_true (show PyData.depth (py x) ≤ 64 by omega)]; rfl
section
variable {G : Gm} {S S' : Addr → Prop} {α α' : List Addr} {H H' : Hp} {st : Sto}
mutual
theorem dp_rep : ∀ (n : Nat) (d : D) (v : V), plain n d = true → Rep G S α H d v → Dp G.K H v (py d)
  | n, .non, v, _, h => by rw [show v = .non from h]; exact .non
  | n, .bl b, v, _, h => by rw [show v = .bl b from h]; exact .bl b
  | n, .int i, v, _, h => by rw [show v = .int i from h]; exact .int i
  | n, .str x, v, _, h => by rw [show v = .str x from h]; exact .str x
  | n, .tup l, v, p, h => by
    obtain ⟨a, xs, rfl, _, h1, h2⟩ := h
    simp only [plain, Bool.and_eq_true] at p
    exact .tup (SqT.of h1) (dp_repL (n - 1) l xs p.2 h2)
  | n, .lst l, v, p, h => by
    obtain ⟨a, xs, rfl, _, h1, h2⟩ := h
    simp only [plain, Bool.and_eq_true] at p
    exact .lst (SqL.of h1) (dp_repL (n - 1) l xs p.2 h2)
  | n, .rdl l, v, p, h => by
    obtain ⟨a, xs, rfl, h1, h2⟩ := h
    simp only [plain, Bool.and_eq_true] at p
    exact .lst h1.1 (dp_repL (n - 1) l xs p.2 h2)
  | n, .dic _ _ _, v, p, h => by simp [plain] at p
  | n, .ins _ _ _, v, p, h => by simp [plain] at p
  | n, .ref _, v, p, h => by simp [plain] at p
theorem dp_repL : ∀ (n : Nat) (l : List D) (vs : List V), plainL n l = true → RepL G S α H l vs → DpAll G.K H vs (pyL l)
  | n, [], vs, _, h => by rw [show vs = [] from h]; exact .nil
  | n, d :: l, vs, p, h => by
    obtain ⟨v, r, rfl, h1, h2⟩ := h
    simp only [plainL, Bool.and_eq_true] at p
    exact .cons (dp_rep n d v p.1 h1) (dp_repL n l r p.2 h2)
end
theorem View.dp {n : Nat} {d : D} {v : V} (p : plain n d = true) (h : View G S α H d v) : Dp G.K H v (py d) := by
  rcases h with h | ⟨a, rfl, h⟩
  · exact dp_rep n d v p h
  · cases d with
    | lst l =>
      obtain ⟨xs, h1, h2⟩ := h
      simp only [plain, Bool.and_eq_true] at p
      exact .lst (SqL.of h1) (dp_repL (n - 1) l xs p.2 h2)
    | dic t _ _ => simp [plain] at p
    | ins _ _ _ => simp [plain] at p
    | _ => exact h.elim
end
def gEq (neg : Bool) : Sto → D → D → Option D := fun _ x y => if plain 62 x && plain 62 y then some (.bl (neg != deq x y)) else none
theorem ok_eq {G : Gm} : OpOk .val G (rEqD G.K) (fun st x y => gEq false st (deref st x) (deref st y)) := by
  refine opok_view fun S α H st x y vx vy z Q w bx byy hz q => ?_
  unfold gEq at hz
  split at hz
  · rename_i hp
    rw [Bool.and_eq_true] at hp
    cases hz
    refine ⟨py x, py y, bx.dp hp.1, byy.dp hp.2, plain_shaped hp.1, plain_shaped hp.2, q _ _ (got_refl w ?_)⟩
    show V.bl _ = V.bl _
    rw [deq_py]
    cases deq x y <;> rfl
  · cases hz
theorem ok_ne {G : Gm} : OpOk .val G (rNeD G.K) (fun st x y => gEq true st (deref st x) (deref st y)) := by
  refine opok_view fun S α H st x y vx vy z Q w bx byy hz q => ?_
  unfold gEq at hz
  split at hz
  · rename_i hp
    rw [Bool.and_eq_true] at hp
    cases hz
    refine ⟨py x, py y, bx.dp hp.1, byy.dp hp.2, plain_shaped hp.1, plain_shaped hp.2, q _ _ (got_refl w ?_)⟩
    show V.bl _ = V.bl _
    rw [deq_py]
    cases deq x y <;> rfl
  · cases hz
def gIn (neg : Bool) : Sto → D → D → Option D := fun _ x y => match items y with
  | some l => if plain 62 x && plainL 61 l then some (.bl (neg != l.any fun z => deq z x)) else none
  | none => none
theorem any_py (x : D) : ∀ l : List D, ((pyL l).any fun z => PyData.eqv z (py x)) = l.any fun z => deq z x
  | [] => rfl
  | d :: l => by simp only [pyL, List.any_cons, deq_py, any_py x l]
def rInA (K : PySem.W.Frag) (neg : Bool) : R2 := fun x y H Q => ∃ d ds, Dp K H x d ∧ (Dp K H y (.list ds) ∨ Dp K H y (.tuple ds)) ∧ SeqAt.shaped d = true ∧ SeqAt.shaped (.list ds) = true ∧ SeqAt.shaped (.tuple ds) = true ∧ Q (.bl (neg != ds.any fun z => PyData.eqv z d)) H
theorem op_inA {X : Cx} (hu : X.A.units + 65 < cLine) : OpR X (compareOp .In) (rInA X.K false) := by
  intro pins s σ H x y v u Q I rx ry ⟨d, ds, hd, he, sd, sl, se, q⟩
  obtain ⟨as, r1⟩ := Dp.reads I d x v hd rx
  have q : Q (.bl (ds.any fun z => PyData.eqv z d)) H := by simpa using q
  rcases he with he | he
  · obtain ⟨bs, r2⟩ := Dp.reads I (.list ds) y u he ry
    exact SeqAt.in_list_reads r2 r1 (by have := SeqAt.canLay_of_shaped sl; exact this) (SeqAt.canLay_of_shaped sd) (room_in_shaped sd hu) ⟨.bl _, H, I, rfl, q⟩
  · obtain ⟨bs, r2⟩ := Dp.reads I (.tuple ds) y u he ry
    exact SeqAt.in_tuple_reads r2 r1 (by have := SeqAt.canLay_of_shaped sl; exact this) (SeqAt.canLay_of_shaped sd) (room_in_shaped sd hu) ⟨.bl _, H, I, rfl, q⟩
theorem ok_in {G : Gm} {neg : Bool} : OpOk .val G (rInA G.K neg) (fun st x y => gIn neg st (deref st x) (deref st y)) := by
  refine opok_view fun S α H st x y vx vy z Q w bx byy hz q => ?_
  unfold gIn at hz
  split at hz
  · rename_i l hl
    split at hz
    · rename_i hp
      rw [Bool.and_eq_true] at hp
      cases hz
      have sh : plain 62 (.lst l) = true := by simp only [plain, Bool.and_eq_true]; exact ⟨by decide, hp.2⟩
      have sh2 : plain 62 (.tup l) = true := by simp only [plain, Bool.and_eq_true]; exact ⟨by decide, hp.2⟩
      obtain ⟨a, xs, rfl, hs, hr⟩ := byy.seq hl
      refine ⟨py x, pyL l, bx.dp hp.1, hs.imp (fun h => .lst h (dp_repL 61 l xs hp.2 hr)) (fun h => .tup h (dp_repL 61 l xs hp.2 hr)), plain_shaped hp.1, plain_shaped sh, plain_shaped sh2, q _ _ (got_refl w ?_)⟩
      show V.bl _ = V.bl _
      rw [any_py]
    · cases hz
  · cases hz
def rIsA (neg : Bool) : R2 := fun x y H Q => (y = .non ∧ Q (.bl (neg != decide (x = .non))) H) ∨ ∃ a b : Bool, x = .bl a ∧ y = .bl b ∧ Q (.bl (neg != decide (a = b))) H
theorem op_isA {X : Cx} : OpR X (compareOp .Is) (rIsA false) := by
  intro pins s σ H x y v u Q I rx ry h
  rcases h with ⟨rfl, q⟩ | ⟨a, b, rfl, rfl, q⟩
  · exact op_isN pins s σ H x _ v u Q I rx ry ⟨rfl, by simpa using q⟩
  · exact op_isBl pins s σ H _ _ v u Q I rx ry ⟨a, b, rfl, rfl, by simpa using q⟩
theorem op_isNotA {X : Cx} : OpR X (compareOp .IsNot) (rIsA true) := by
  intro pins s σ H x y v u Q I rx ry h
  rcases h with ⟨rfl, q⟩ | ⟨a, b, rfl, rfl, q⟩
  · exact op_notN pins s σ H x _ v u Q I rx ry ⟨rfl, by simpa using q⟩
  · exact op_notBl pins s σ H _ _ v u Q I rx ry ⟨a, b, rfl, rfl, by simpa using q⟩
def isNon : D → Bool
  | .non => true
  | _ => false
def gIs (neg : Bool) : Sto → D → D → Option D := fun _ x y => match y with
  | .non => some (.bl (neg != isNon x))
  | .bl b => match x with
    | .bl a => some (.bl (neg != decide (a = b)))
    | _ => none
  | _ => none
theorem View.non_iff {G : Gm} {S : Addr → Prop} {α : List Addr} {H : Hp} {d : D} {v : V} (h : View G S α H d v) : decide (v = .non) = isNon d := by
  cases d with
  | non => rw [h.non]; rfl
  | bl b => rw [h.bl]; rfl
  | int i => rw [h.int]; rfl
  | str i => rw [h.str]; rfl
  | tup l => obtain ⟨a, xs, rfl, _⟩ := h.tup; rfl
  | lst l => obtain ⟨a, xs, rfl, _⟩ := h.lst; rfl
  | rdl l => obtain ⟨a, xs, rfl, _⟩ := h.rdl; rfl
  | dic t ks vs =>
    cases t with
    | true => obtain ⟨a, xs, rfl, _⟩ := h.dT; rfl
    | false => obtain ⟨a, xs, rfl, _⟩ := h.dK; rfl
  | ins c ns l => obtain ⟨a, dx, fs, rfl, _⟩ := h.ins; rfl
  | ref n =>
    rcases h with ⟨a, rfl, _⟩ | ⟨a, rfl, _⟩ <;> rfl
theorem ok_is {G : Gm} {neg : Bool} : OpOk .val G (rIsA neg) (fun st x y => gIs neg st (deref st x) (deref st y)) := by
  refine opok_view fun S α H st x y vx vy z Q w bx byy hz q => ?_
  unfold gIs at hz
  split at hz
  · cases hz
    refine .inl ⟨byy.non, q _ _ (got_refl w ?_)⟩
    show V.bl _ = V.bl _
    rw [bx.non_iff]
  · split at hz
    · rename_i b _ a
      cases hz
      exact .inr ⟨a, b, bx.bl, byy.bl, q _ _ (got_refl w rfl)⟩
    · cases hz
  · cases hz
end DL

set_option maxHeartbeats 4000000
namespace DL
open PySem PySem.Spec PyProof.Rows L2 Bs
section
variable {G : Gm} {S S' : Addr → Prop} {α α' : List Addr} {H H' : Hp} {st : Sto}
def rAddA (K : PySem.W.Frag) : R2 := fun x y H Q => ((rI0 fun i j => .int (i + j)) x y H Q ∨ rCatA K x y H Q) ∨ ((∃ i j, x = .str i ∧ y = .str j ∧ i.length + j.length ≤ sizeLine ∧ Q (.str (i ++ j)) H) ∨ rCat x y H Q)
theorem op_addA {X : Cx} : OpR X (binaryOp .Add) (rAddA X.K) := .or (.or op_add op_catA) (.or op_add_str op_cat)
def gAdd : Sto → D → D → Option D := fun _ x y => match x, y with
  | .int i, .int j => some (.int (i + j))
  | .tup l, .tup m => if l.length + m.length ≤ lim then some (.tup (l ++ m)) else none
  | .str i, .str j => if i.length + j.length ≤ lim then some (.str (i ++ j)) else none
  | .lst l, .lst m => if l.length + m.length ≤ lim then some (.lst (l ++ m)) else none
  | _, _ => none
theorem lim_le {n : Nat} (h : n ≤ lim) : n ≤ sizeLine := Nat.le_trans h (Nat.le_of_lt lim_line)
theorem ok_add : OpOk .val G (rAddA G.K) (fun st x y => gAdd st (deref st x) (deref st y)) := by
  refine opok_view fun S α H st x y vx vy z Q w bx byy hz q => ?_
  unfold gAdd at hz
  split at hz
  · cases hz
    exact .inl (.inl ⟨_, _, bx.int, byy.int, q _ _ (got_refl w rfl)⟩)
  · rename_i l m
    split at hz
    · rename_i hl
      cases hz
      obtain ⟨a, xs, rfl, sa, h1, r1⟩ := bx.tup
      obtain ⟨b, ys, rfl, sb, h2, r2⟩ := byy.tup
      have hlx := r1.len
      have hly := r2.len
      refine .inl (.inr ⟨a, b, xs, ys, rfl, rfl, SqT.of h1, SqT.of h2, lim_le (by omega), fun e => ?_, fun _ e => ?_, fun _ _ p hp => ?_⟩)
      · have : l = [] := by rw [e] at hlx; cases l; rfl; simp at hlx
        subst this
        exact q _ _ (got_refl w ⟨b, ys, rfl, sb, h2, r2⟩)
      · have : m = [] := by rw [e] at hly; cases m; rfl; simp at hly
        subst this
        rw [List.append_nil] at q
        exact q _ _ (got_refl w ⟨a, xs, rfl, sa, h1, r1⟩)
      · exact q _ _ (got_tup hp w (r1.append r2))
    · cases hz
  · split at hz
    · rename_i hl
      cases hz
      exact .inr (.inl ⟨_, _, bx.str, byy.str, lim_le hl, q _ _ (got_refl w rfl)⟩)
    · cases hz
  · split at hz
    · rename_i hl
      cases hz
      obtain ⟨a, xs, rfl, h1, r1⟩ := bx.lst
      obtain ⟨b, ys, rfl, h2, r2⟩ := byy.lst
      have hlx := r1.len
      have hly := r2.len
      exact .inr (.inr ⟨a, b, xs, ys, rfl, rfl, h1, h2, lim_le (by omega), fun p hp => q _ _ (got_lst hp w (r1.append r2)).ofFresh⟩)
    · cases hz
  · cases hz
def rep (k : Nat) (l : List D) : List D := (List.replicate k l).flatten
theorem repL_rep {l : List D} {xs : List V} (h : RepL G S α H l xs) : ∀ k : Nat, RepL G S α H (rep k l) (List.replicate k xs).flatten
  | 0 => rfl
  | k + 1 => by
    show RepL G S α H (List.replicate (k + 1) l).flatten _
    rw [List.replicate_succ, List.flatten_cons, List.replicate_succ, List.flatten_cons]
    exact h.append (repL_rep h k)
def small63 (k : Int) : Bool := decide (-(2 ^ 63) ≤ k) && decide (k < 2 ^ 63)
def gRep : Sto → D → D → Option D := fun _ x y => match x, y with
  | .lst l, .int k => if small63 k && decide (l.length * k.toNat ≤ lim) then some (.lst (rep k.toNat l)) else none
  | _, _ => none
theorem ok_rep : OpOk .fresh G rRep (fun st x y => gRep st (deref st x) (deref st y)) := by
  refine opok_view fun S α H st x y vx vy z Q w bx byy hz q => ?_
  unfold gRep at hz
  split at hz
  · split at hz
    · rename_i hl
      cases hz
      unfold small63 at hl
      simp only [Bool.and_eq_true, decide_eq_true_eq] at hl
      obtain ⟨a, xs, rfl, h1, r1⟩ := bx.lst
      have hlx := r1.len
      refine ⟨a, _, xs, rfl, byy.int, h1, hl.1.1, hl.1.2, lim_le (by rw [hlx]; exact hl.2), fun p hp => q _ _ (got_lst hp w (repL_rep r1 _))⟩
    · cases hz
  · cases hz
def isSmall (i : Int) : Bool := decide (-(2 ^ 64) < i) && decide (i < 2 ^ 64)
theorem isSmall_ok {i : Int} (h : isSmall i = true) : -(2 ^ 64) < i ∧ i < 2 ^ 64 := by unfold isSmall at h; simpa using h
def rMulA : R2 := fun x y H Q => (rI CMul fun i j => .int (i * j)) x y H Q ∨ rRep x y H Q
theorem op_mulA {X : Cx} : OpR X (binaryOp .Mult) rMulA := .or op_mul op_rep
def gMul : Sto → D → D → Option D := fun st x y => match x, y with
  | .int i, .int j => if isSmall i || isSmall j then some (.int (i * j)) else none
  | .lst l, .int k => gRep st (.lst l) (.int k)
  | _, _ => none
theorem ok_mul : OpOk .val G rMulA (fun st x y => gMul st (deref st x) (deref st y)) := by
  intro S α H st x y vx vy z Q w bx byy hz q
  dsimp only at hz
  cases hx : deref st x with
  | int i =>
    cases hy : deref st y with
    | int j =>
      rw [hx, hy] at hz
      simp only [gMul] at hz
      split at hz
      · rename_i hs
        cases hz
        rw [Bool.or_eq_true] at hs
        have b1 := bx.view w
        have b2 := byy.view w
        rw [hx] at b1
        rw [hy] at b2
        exact .inl ⟨i, j, b1.int, b2.int, hs.imp isSmall_ok isSmall_ok, q _ _ (got_refl w rfl)⟩
      · cases hz
    | _ => rw [hx, hy] at hz; cases hz
  | lst l =>
    cases hy : deref st y with
    | int j =>
      rw [hx, hy] at hz
      refine .inr (ok_rep S α H st x y vx vy z Q w bx byy ?_ fun v H1 g => q v H1 g.ofFresh)
      dsimp only
      rw [hx, hy]
      exact hz
    | _ => rw [hx, hy] at hz; cases hz
  | _ => rw [hx] at hz; cases hz
theorem ok_sub : OpOk .val G (rI0 fun i j => .int (i - j)) (fun st x y => i2 (fun i j => some (.int (i - j))) st (deref st x) (deref st y)) := opok_i0 fun _ _ _ _ _ => rfl
theorem ok_and : OpOk .val G (rI0 fun i j => .int (Builtin.bitAnd i j)) (fun st x y => i2 (fun i j => some (.int (Builtin.bitAnd i j))) st (deref st x) (deref st y)) := opok_i0 fun _ _ _ _ _ => rfl
theorem ok_or : OpOk .val G (rI0 fun i j => .int (Builtin.bitOr i j)) (fun st x y => i2 (fun i j => some (.int (Builtin.bitOr i j))) st (deref st x) (deref st y)) := opok_i0 fun _ _ _ _ _ => rfl
theorem ok_xor : OpOk .val G (rI0 fun i j => .int (Builtin.bitXor i j)) (fun st x y => i2 (fun i j => some (.int (Builtin.bitXor i j))) st (deref st x) (deref st y)) := opok_i0 fun _ _ _ _ _ => rfl
def gDiv (i j : Int) : Option D := if j ≠ 0 ∧ j.natAbs < 1073741824 then some (.int (i.fdiv j)) else none
theorem ok_div : OpOk .val G (rI CDivN fun i j => .int (i.fdiv j)) (fun st x y => i2 gDiv st (deref st x) (deref st y)) := opok_i fun i j z hz => by
  unfold gDiv at hz
  split at hz
  · rename_i h; cases hz; exact ⟨h, fun _ _ _ => rfl⟩
  · cases hz
def gMod (i j : Int) : Option D := if j ≠ 0 then some (.int (i.fmod j)) else none
theorem ok_mod : OpOk .val G (rI (fun _ j => j ≠ 0) fun i j => .int (i.fmod j)) (fun st x y => i2 gMod st (deref st x) (deref st y)) := opok_i fun i j z hz => by
  unfold gMod at hz
  split at hz
  · rename_i h; cases hz; exact ⟨h, fun _ _ _ => rfl⟩
  · cases hz
def gPow (i j : Int) : Option D := if 0 ≤ j ∧ j ≤ 1000000 ∧ i.natAbs < 2 ^ 64 then some (.int (i ^ j.toNat)) else none
theorem ok_pow : OpOk .val G (rI CPow fun i j => .int (i ^ j.toNat)) (fun st x y => i2 gPow st (deref st x) (deref st y)) := opok_i fun i j z hz => by
  unfold gPow at hz
  split at hz
  · rename_i h; cases hz; exact ⟨h, fun _ _ _ => rfl⟩
  · cases hz
def gShl (i j : Int) : Option D := if 0 ≤ j ∧ j ≤ 1000000 ∧ i.natAbs < 2 ^ 64 then some (.int (i * 2 ^ j.toNat)) else none
theorem ok_shl : OpOk .val G (rI CPow fun i j => .int (i * 2 ^ j.toNat)) (fun st x y => i2 gShl st (deref st x) (deref st y)) := opok_i fun i j z hz => by
  unfold gShl at hz
  split at hz
  · rename_i h; cases hz; exact ⟨h, fun _ _ _ => rfl⟩
  · cases hz
def asInts : List D → Option (List Int)
  | [] => some []
  | .int i :: l => (asInts l).map (i :: ·)
  | _ => none
theorem asInts_eq : ∀ {l : List D} {ns : List Int}, asInts l = some ns → l = ns.map D.int
  | [], ns, h => by cases h; rfl
  | .int i :: l, ns, h => by
    simp only [asInts, Option.map_eq_some_iff] at h
    obtain ⟨m, h1, rfl⟩ := h
    rw [asInts_eq h1]; rfl
  | .non :: l, ns, h => by cases h
  | .bl _ :: l, ns, h => by cases h
  | .str _ :: l, ns, h => by cases h
  | .tup _ :: l, ns, h => by cases h
  | .lst _ :: l, ns, h => by cases h
  | .rdl _ :: l, ns, h => by cases h
  | .dic _ _ _ :: l, ns, h => by cases h
  | .ins _ _ _ :: l, ns, h => by cases h
  | .ref _ :: l, ns, h => by cases h
theorem asInts_map : ∀ ns : List Int, asInts (ns.map D.int) = some ns
  | [] => rfl
  | i :: ns => by simp only [List.map_cons, asInts, asInts_map ns, Option.map_some]
def lexLe (ns ms : List Int) : Bool := !HT.lexLt ms ns
theorem lexAt_shift {e r e' r' : Nat → Bool} {z : Bool} : ∀ (k i : Nat), (∀ j, e (i + 1 + j) = e' (i + j)) → (∀ j, r (i + 1 + j) = r' (i + j)) → Ob.lexAt e r z (i + 1) k = Ob.lexAt e' r' z i k
  | 0, i, _, _ => rfl
  | k + 1, i, h1, h2 => by
    have a1 := h1 0
    have a2 := h2 0
    simp only [Nat.add_zero] at a1 a2
    rw [Ob.lexAt_succ, Ob.lexAt_succ, a1, a2, lexAt_shift k (i + 1) (fun j => by have := h1 (j + 1); rw [show i + 1 + 1 + j = i + 1 + (j + 1) by omega, this, show i + (j + 1) = i + 1 + j by omega]) (fun j => by have := h2 (j + 1); rw [show i + 1 + 1 + j = i + 1 + (j + 1) by omega, this, show i + (j + 1) = i + 1 + j by omega])]
theorem lexLe_at : ∀ (ns ms : List Int), Ob.lexAt (fun j => decide (ns.getD j 0 = ms.getD j 0)) (fun j => decide (ns.getD j 0 ≤ ms.getD j 0)) (decide (ns.length ≤ ms.length)) 0 (min ns.length ms.length) = lexLe ns ms
  | [], ms => by
    rw [show min ([] : List Int).length ms.length = 0 by simp, Ob.lexAt_zero]
    cases ms <;> simp [lexLe, HT.lexLt]
  | n :: ns, [] => by
    rw [show min (n :: ns).length ([] : List Int).length = 0 by simp, Ob.lexAt_zero]
    simp [lexLe, HT.lexLt]
  | n :: ns, m :: ms => by
    have e : min (n :: ns).length (m :: ms).length = min ns.length ms.length + 1 := by simp only [List.length_cons]; omega
    rw [e, Ob.lexAt_succ]
    have ih := lexLe_at ns ms
    have ez : decide ((n :: ns).length ≤ (m :: ms).length) = decide (ns.length ≤ ms.length) := by simp
    rw [lexAt_shift (e' := fun j => decide (ns.getD j 0 = ms.getD j 0)) (r' := fun j => decide (ns.getD j 0 ≤ ms.getD j 0)) _ 0 (fun j => by rw [show 0 + 1 + j = j + 1 by omega, show 0 + j = j by omega]; simp) (fun j => by rw [show 0 + 1 + j = j + 1 by omega, show 0 + j = j by omega]; simp), ez, ih]
    simp only [List.getD_cons_zero, lexLe, HT.lexLt]
    by_cases h : n = m
    · subst h; simp
    · have h' : ¬ m = n := fun z => h z.symm
      rw [if_neg h']
      simp only [h, decide_false, Bool.false_eq_true, if_false]
      by_cases h2 : m < n
      · simp [h2]
      · simp [h2]; omega
def rLtA (K : PySem.W.Frag) : R2 := fun x y H Q => (rI0 fun i j => .bl (decide (i < j))) x y H Q ∨ rLtT K x y H Q
def rLeA (K : PySem.W.Frag) : R2 := fun x y H Q => (rI0 fun i j => .bl (decide (i ≤ j))) x y H Q ∨ rLeT K x y H Q
theorem op_ltA {X : Cx} (hu : X.A.units < cLine) : OpR X (compareOp .Lt) (rLtA X.K) := .or op_lt (op_ltT hu)
theorem op_leA {X : Cx} (hu : X.A.units < cLine) : OpR X (compareOp .LtE) (rLeA X.K) := .or op_le (op_leT hu)
def gLt : Sto → D → D → Option D := fun _ x y => match x, y with
  | .int i, .int j => some (.bl (decide (i < j)))
  | .tup l, .tup m => match asInts l, asInts m with
    | some ns, some ms => some (.bl (HT.lexLt ns ms))
    | _, _ => none
  | _, _ => none
def gLe : Sto → D → D → Option D := fun _ x y => match x, y with
  | .int i, .int j => some (.bl (decide (i ≤ j)))
  | .tup l, .tup m => match asInts l, asInts m with
    | some ns, some ms => some (.bl (lexLe ns ms))
    | _, _ => none
  | _, _ => none
theorem ok_lt : OpOk .val G (rLtA G.K) (fun st x y => gLt st (deref st x) (deref st y)) := by
  refine opok_view fun S α H st x y vx vy z Q w bx byy hz q => ?_
  unfold gLt at hz
  split at hz
  · cases hz
    exact .inl ⟨_, _, bx.int, byy.int, q _ _ (got_refl w rfl)⟩
  · split at hz
    · rename_i ns ms e1 e2
      cases hz
      obtain ⟨a, xs, rfl, sa, h1, r1⟩ := bx.tup
      obtain ⟨b, ys, rfl, sb, h2, r2⟩ := byy.tup
      rw [asInts_eq e1] at r1
      rw [asInts_eq e2] at r2
      rw [r1.ints] at h1
      rw [r2.ints] at h2
      exact .inr ⟨a, b, ns, ms, rfl, rfl, SqT.of h1, SqT.of h2, q _ _ (got_refl w rfl)⟩
    · cases hz
  · cases hz
theorem ok_le : OpOk .val G (rLeA G.K) (fun st x y => gLe st (deref st x) (deref st y)) := by
  refine opok_view fun S α H st x y vx vy z Q w bx byy hz q => ?_
  unfold gLe at hz
  split at hz
  · cases hz
    exact .inl ⟨_, _, bx.int, byy.int, q _ _ (got_refl w rfl)⟩
  · split at hz
    · rename_i ns ms e1 e2
      cases hz
      obtain ⟨a, xs, rfl, sa, h1, r1⟩ := bx.tup
      obtain ⟨b, ys, rfl, sb, h2, r2⟩ := byy.tup
      rw [asInts_eq e1] at r1
      rw [asInts_eq e2] at r2
      rw [r1.ints] at h1
      rw [r2.ints] at h2
      refine .inr ⟨a, b, ns, ms, rfl, rfl, SqT.of h1, SqT.of h2, q _ _ (got_refl w ?_)⟩
      show V.bl _ = V.bl _
      rw [lexLe_at]
    · cases hz
  · cases hz
theorem ok_gt : OpOk .val G (rI0 fun i j => .bl (decide (j < i))) (fun st x y => i2 (fun i j => some (.bl (decide (j < i)))) st (deref st x) (deref st y)) := opok_i0 fun _ _ _ _ _ => rfl
theorem ok_ge : OpOk .val G (rI0 fun i j => .bl (decide (j ≤ i))) (fun st x y => i2 (fun i j => some (.bl (decide (j ≤ i)))) st (deref st x) (deref st y)) := opok_i0 fun _ _ _ _ _ => rfl
def rIxA (K : PySem.W.Frag) : R2 := fun x y H Q => rIxL K x y H Q ∨ rIxT K x y H Q
theorem ix_any {X : Cx} : IxR X (rIxA X.K) := fun va sl pins s σ H x y v u Q I rx ry h hs => h.elim (fun h => ix_list va sl pins s σ H x y v u Q I rx ry h hs) (fun h => ix_tup va sl pins s σ H x y v u Q I rx ry h hs)
def gIx : Sto → D → D → Option D := fun _ x y => match y with
  | .int i => (items x).bind fun l => atI l i
  | _ => none
theorem ok_ix : OpOk .val G (rIxA G.K) (fun st x y => gIx st (deref st x) (deref st y)) := by
  refine opok_view fun S α H st x y vx vy z Q w bx byy hz q => ?_
  unfold gIx at hz
  split at hz
  · rename_i i
    cases hl : items x with
    | none => rw [hl] at hz; cases hz
    | some l =>
      rw [hl, Option.bind_some] at hz
      obtain ⟨a, xs, rfl, hs, hr⟩ := bx.seq hl
      unfold atI at hz
      cases hk : ixN l.length i with
      | none => rw [hk] at hz; cases hz
      | some k =>
        rw [hk, Option.bind_some] at hz
        obtain ⟨v, hv, rv⟩ := hr.get hz
        have e : atI xs i = some v := by unfold atI; rw [hr.len, hk, Option.bind_some]; exact hv
        exact hs.imp (fun h => ⟨a, xs, i, v, rfl, byy.int, h, e, q _ _ (got_refl w rv)⟩) (fun h => ⟨a, xs, i, v, rfl, byy.int, h, e, q _ _ (got_refl w rv)⟩)
  · cases hz
end
end DL

set_option maxHeartbeats 4000000
namespace Bs
open PySem PySem.Spec PyProof.Rows L2
section
variable {P : Program} {w : World} {A : Around} {E : Value → Shared → Prop} {s : Shared}
end
section
variable {X : Cx}
def rSetL (w : World) : List V → Hp → VK → Prop := fun vs H Q => ∃ (l : Addr) (ns : List Int), vs = [V.ref l] ∧ H l = some (.lst (ns.map V.int)) ∧ ns.length < 60 ∧
  ∀ (a : Addr) (c : Nat), H a = none → c ≤ ns.length → Q (.ref a) (upd H a (SetO w a (fun j => decide (j ∈ ns)) c))
end
end Bs

set_option maxHeartbeats 4000000
namespace Bs
open PySem PySem.Spec PyProof.Rows L2 HT
section
variable {prog : Program} {w : World} {A : Around} {E : Value → Shared → Prop} {s : Shared}
theorem ltg_it {v u : Value} {ns ms : List Int} {Q : Bool → Shared → Prop} (hu : A.units < cLine) (hv : IsIt s.heap v ns) (hw : IsIt s.heap u ms) (h : Q (HT.lexLt ns ms) s) : wpAny (model prog w) A (keyLt' general' v u) Q E s := by
  obtain ⟨a, ⟨c1, dd, d1, sl⟩, items, n, rfl, ga, ca, da, ia⟩ := hv
  obtain ⟨b, ⟨c2, dd2, d2, sl2⟩, items2, n2, rfl, gb, cb, db, ib⟩ := hw
  show wpAny _ _ (oneLt' false (.ref a) (.ref b)) _ _ _
  rw [oneLt'_eq]
  simp only [Bool.false_eq_true, if_false]
  simp only at ca da cb db
  subst ca da cb db
  exact wpAny_bind (show wpAny (model prog w) A (richCompare .Lt (.ref a) (.ref b)) _ E s from HT.lt_tupInts (items := items) (items2 := items2) ⟨_, ga, rfl, n, rfl⟩ ⟨_, gb, rfl, n2, rfl⟩ ia ib hu (wpAny_truthy_bool h))
theorem firsts_gen {M : Model} : ∀ (vs : List Value) {Q : List (Option Value) → Shared → Prop}, (∀ v ∈ vs, ∃ ns, IsIt s.heap v ns) → (∃ v ∈ vs, IsIt s.heap v []) → (∀ l, (l.all fun x => x.isSome) = false → Q l s) → wpAny M A (vs.mapM firstOfTuple') Q E s
  | [], Q, _, h0, h => by obtain ⟨v, hv, _⟩ := h0; cases hv
  | v :: vs, Q, hv, h0, h => by
    obtain ⟨ns, ⟨a, o, items, n, rfl, g, c, d, i⟩⟩ := hv v List.mem_cons_self
    rw [List.mapM_cons]
    refine wpAny_bind ?_
    rw [PySem.W.kas_first_eq]
    refine wpAny_bind (PySem.W.Looks.here (show PySem.W.Looks M s.heap (typeOf (.ref a)) o.cls from (PySem.W.Looks.ld g).andThen .now) ?_)
    rw [c, if_neg (by first | decide | simp)]
    refine wpAny_bind (listItems_at g d (wpAny_pure ?_))
    by_cases he : items[0]? = none
    · rw [he]
      exact wpAny_bind (firsts_it vs (fun u hu => hv u (List.mem_cons_of_mem _ hu)) fun l => wpAny_pure (h _ (by simp)))
    · refine wpAny_bind (firsts_gen vs (fun u hu => hv u (List.mem_cons_of_mem _ hu)) ?_ fun l hl => wpAny_pure (h _ (by rw [List.all_cons, hl, Bool.and_false])))
      obtain ⟨v0, hm, h3⟩ := h0
      rcases List.mem_cons.mp hm with e | hm
      · subst e
        obtain ⟨a', o', items', n', e', g', c', d', i'⟩ := h3
        cases e'
        rw [g] at g'
        cases g'
        rw [d] at d'
        cases d'
        refine absurd ?_ he
        cases hl : items.toList with
        | nil => simp [Array.toList_eq_nil_iff.mp hl]
        | cons x r => rw [hl] at i'; cases i'
      · exact ⟨v0, hm, h3⟩
theorem kind_any {v : Value} {vs : List Value} {Q : SortKind → Shared → Prop} (hv : ∀ u ∈ v :: vs, ∃ ns, IsIt s.heap u ns) (h0 : ∃ u ∈ v :: vs, IsIt s.heap u []) (h : ¬ IsIt s.heap v [] → Q general' s) (h2 : IsIt s.heap v [] → Q oneType' s) {M : Model} : wpAny M A (keyKind' (v :: vs).toArray) Q E s := by
  by_cases hc : IsIt s.heap v []
  · exact kind_one hc (fun u hu => hv u (List.mem_cons_of_mem _ hu)) (h2 hc)
  obtain ⟨ns, hns⟩ := hv v List.mem_cons_self
  obtain ⟨a, o, items, n, rfl, g, c, d, i⟩ := id hns
  rw [kat_kind_eq, List.mapM_toArray, map_eq_pure_bind]
  rw [List.mapM_cons]
  refine wpAny_bind (wpAny_bind (wpAny_bind ?_))
  rw [PySem.W.kas_first_eq]
  refine wpAny_bind (PySem.W.Looks.here (show PySem.W.Looks M s.heap (typeOf (.ref a)) o.cls from (PySem.W.Looks.ld g).andThen .now) ?_)
  rw [c, if_neg (by first | decide | simp)]
  refine wpAny_bind (listItems_at g d (wpAny_pure ?_))
  obtain ⟨x, ex⟩ : ∃ x, items[0]? = some x := by
    cases hl : items.toList with
    | nil =>
      rw [hl] at i
      cases i
      exact absurd ⟨a, o, items, n, rfl, g, c, d, by rw [hl]; exact .nil⟩ hc
    | cons x r =>
      refine ⟨x, ?_⟩
      rw [← Array.getElem?_toList, hl]; rfl
  rw [ex]
  have h0' : ∃ u ∈ vs, IsIt s.heap u [] := by
    obtain ⟨u, hu, h3⟩ := h0
    rcases List.mem_cons.mp hu with e | hu
    · subst e; exact absurd h3 hc
    · exact ⟨u, hu, h3⟩
  refine wpAny_bind (firsts_gen vs (fun u hu => hv u (List.mem_cons_of_mem _ hu)) h0' fun l hl => wpAny_pure (wpAny_pure ?_))
  have hall : ((some x :: l : List (Option Value)).toArray.all fun x => x.isSome) = false := by
    rw [List.all_toArray, List.all_cons, hl, Bool.and_false]
  rw [hall, if_neg (by simp)]
  have hb : (((some x :: l : List (Option Value)).toArray[0]?.bind id).isSome) = true := by simp
  rw [hb, if_pos rfl]
  exact wpAny_pure (h hc)
theorem it_sortable_any {a : Addr} {vs : List Value} {k : Value → List Int} (h2 : 2 ≤ vs.length) (hu : A.units < cLine) (hv : ∀ v ∈ vs, IsIt s.heap v (k v)) (ha : ∀ v ∈ vs, v ≠ .ref a) :
    SrtO.SortableO prog w A s a vs fun v u => HT.lexLt (k v) (k u) := by
  by_cases hk : ∀ v ∈ vs, k v ≠ []
  · exact it_sortable h2 hu hv ha (.inl hk)
  have hk : ∃ v ∈ vs, k v = [] := Classical.byContradiction fun hn => hk fun v hm e => hn ⟨v, hm, e⟩
  intro h' keep
  have hv' : ∀ v ∈ vs, IsIt h' v (k v) := fun v hm => (hv v hm).keeps fun b o e g => keep b o (fun z => ha v hm (by rw [e, z])) g
  cases vs with
  | nil => cases h2
  | cons v0 r =>
  obtain ⟨v1, hm1, e1⟩ := hk
  by_cases hc : IsIt h' v0 []
  · refine ⟨oneType', fun Q E hq => ?_, fun p q hp hq => lt_it (Q := fun r s' => s' = { s with heap := h' } ∧ r = HT.lexLt (k p.1) (k q.1)) (E := fun _ _ => False) hu (hv' p.1 hp) (hv' q.1 hq) ⟨rfl, rfl⟩⟩
    exact kind_one (s := { s with heap := h' }) hc (fun u hm => ⟨_, hv' u (List.mem_cons_of_mem _ hm)⟩) hq
  · refine ⟨general', fun Q E hq => ?_, fun p q hp hq => ltg_it (s := { s with heap := h' }) (Q := fun r s' => s' = { s with heap := h' } ∧ r = HT.lexLt (k p.1) (k q.1)) (E := fun _ _ => False) hu (hv' p.1 hp) (hv' q.1 hq) ⟨rfl, rfl⟩⟩
    refine kind_any (s := { s with heap := h' }) (fun u hm => ⟨_, hv' u hm⟩) ⟨v1, hm1, ?_⟩ (fun _ => hq) fun h => absurd h hc
    have := hv' v1 hm1
    rw [e1] at this
    exact this
end
def rSortedAny (K : PySem.W.Frag) : List V → Hp → VK → Prop := fun vs H Q => ∃ (a : Addr) (xs : List V) (k : V → List Int), vs = [V.ref a] ∧ SqL K H a xs ∧ (∀ x ∈ xs, ∃ t, x = V.ref t ∧ H t = some (.tup ((k x).map V.int))) ∧
  ∀ ys p, ys.Perm xs → ys.Pairwise (fun x y => HT.lexLt (k y) (k x) = false) → H p = none → Q (.ref p) (upd H p (.lst ys))
theorem cr_sortedAny {X : Cx} (hu : X.A.units + 64 < cLine) : CallR X (.builtin "sorted") (rSortedAny X.K) := by
  intro pins s σ H vs us Q I r h
  obtain ⟨a, xs, k, rfl, hs, hx, q⟩ := h
  obtain ⟨its, rv, hl, hz⟩ := I.list hs
  obtain ⟨u, rfl, ru⟩ := vals1 r
  obtain rfl : u = Value.ref a := ru
  obtain ⟨e1, e2⟩ := refs_back rv fun x m => by
    obtain ⟨t, e, _⟩ := hx x m
    exact ⟨t, e⟩
  have hp : ∀ v ∈ its, IsIt s.heap v (k (backV v)) := fun v hv => by
    obtain ⟨t, rfl⟩ := e2 v hv
    have hm : V.ref t ∈ xs := by rw [e1]; exact List.mem_map.mpr ⟨_, hv, rfl⟩
    obtain ⟨t', e, ht⟩ := hx _ hm
    cases e
    obtain ⟨_, its2, r2, o, ho, hc, n, hd⟩ := I.hok _ _ ht
    exact ⟨t, o, its2.toArray, n, rfl, ho, hc, hd, intsAre_of r2⟩
  refine SrtO.sorted_ord (NtL.swo_lexL fun u => k (backV u)) hl.isList (by rw [← rv.length]; exact hz) (fun h2 h₁ a' ha' keep => it_sortable_any (s := { s with heap := h₁ }) h2 (by show X.A.units + 1 + 1 < cLine; omega) (fun v hv => (hp v hv).keeps fun b o _ g => (keep b o g).2) (fun v hv => ?_)) fun out h1 h2 => ?_
  · obtain ⟨t, o, _, _, rfl, g, c, _, _⟩ := hp v hv
    exact fun e => (keep t o g).1 (Value.ref.inj e)
  · have h3 : ∀ u ∈ out, ∃ a, u = Value.ref a := fun u hu => e2 u (h2.perm.mem_iff.mp hu)
    obtain ⟨ep, he'⟩ := PyProof.Rows.sortedAll_at s.heap its out.toArray
    have hb : (out.map backV).Perm xs := by rw [e1]; exact h2.perm.map backV
    refine ⟨.ref _, upd H (s.heap.objs.size + 1) (.lst (out.map backV)), I.laid (t' := s.toks) (fun _ _ => PyProof.Rows.sortedAll_old) (Nat.le_succ _) ⟨?_, out, ep, vals_back h3, he'⟩, rfl, q _ _ hb ?_ (I.hok.fresh (Nat.le_succ _))⟩
    · rw [hb.length_eq]
      exact hz
    · exact List.pairwise_map.mpr h1
end Bs

set_option maxHeartbeats 4000000
namespace DL
open PySem PySem.Spec PyProof.Rows L2 Bs
def CallOk (κ : Kd) (G : Gm) (r : List V → Hp → VK → Prop) (g : Sto → List D → Option D) : Prop := ∀ (S : Addr → Prop) (α : List Addr) (H : Hp) (st : Sto) (l : List D) (vs : List V) (z : D) (Q : VK), World G S α H st → KRepL .brw G H S α H l vs → g st l = some z → (∀ v H1, Got κ G S α H z st v H1 → Q v H1) → r vs H Q
def dFn (g : Sto → List D → Option D) (fa : AF) : EF := fun env st => (fa env st).bind fun l st1 => dOpt (g st1 l) st1
section
variable {X : Cx} {cl : String → Addr} {W : WX} {e a b : Expr} {es : List Expr} {f fb : EF} {fa : AF} {κ : Kd} {r : List V → Hp → VK → Prop} {g : Sto → List D → Option D}
theorem KRepL.fwd {G : Gm} {S : Addr → Prop} {α : List Addr} {H H1 : Hp} : ∀ {l : List D} {vs : List V}, KRepL .brw G H S α H1 l vs → KRepL .brw G H1 S α H1 l vs
  | [], _, h => h
  | _ :: _, _, ⟨v, r, h1, h2, h3⟩ => ⟨v, r, h1, h2, KRepL.fwd h3⟩
theorem de_fn (h : ∀ ta, PA X es ta → PE X e (tCB r ta)) (ok : CallOk κ ⟨X.K, cl⟩ r g) (ha : DA .brw X cl W es fa) : DE κ X cl W e (dFn g fa) := by
  obtain ⟨ta, h1, h2⟩ := ha.ex
  refine ⟨_, h ta h1, fun S α H σ env st Q p q => ?_⟩
  refine h2 S α H σ env st _ p ?_
  unfold dFn at q
  cases r1 : fa env st with
  | bad => rw [r1] at q; exact q
  | exc c fs st' => rw [r1] at q; exact q
  | ok l st1 =>
    rw [r1] at q
    rintro vs H1 ⟨S1, α1, e1, w1, b1⟩
    replace q : PostE κ _ W S α H σ (dOpt (g st1 l) st1) Q := q
    have q' := PostE.step e1 q
    cases rz : g st1 l with
    | none => rw [rz] at q'; exact q'.elim
    | some z =>
      rw [rz] at q'
      exact ok S1 α1 H1 st1 l vs z Q w1 b1.fwd rz q'
end
section
variable {G : Gm} {κ : Kd}
def fn1 (g : D → Option D) : Sto → List D → Option D := fun st l => match l with
  | [x] => g (deref st x)
  | _ => none
def fn2 (g : D → D → Option D) : Sto → List D → Option D := fun st l => match l with
  | [x, y] => g (deref st x) (deref st y)
  | _ => none
theorem callok1 {r : List V → Hp → VK → Prop} {g : D → Option D} (h : ∀ (S : Addr → Prop) (α : List Addr) (H : Hp) (st : Sto) (x : D) (vx : V) (z : D) (Q : VK), World G S α H st → View G S α H x vx → g x = some z → (∀ v H1, Got κ G S α H z st v H1 → Q v H1) → r [vx] H Q) : CallOk κ G r (fn1 g) := by
  intro S α H st l vs z Q w hl hz q
  unfold fn1 at hz
  split at hz
  · obtain ⟨v, rr, rfl, h1, h2⟩ := hl
    rw [show rr = [] from h2]
    exact h S α H st _ v z Q w (BRep.view w h1) hz q
  · cases hz
theorem callok2 {r : List V → Hp → VK → Prop} {g : D → D → Option D} (h : ∀ (S : Addr → Prop) (α : List Addr) (H : Hp) (st : Sto) (x y : D) (vx vy : V) (z : D) (Q : VK), World G S α H st → View G S α H x vx → View G S α H y vy → g x y = some z → (∀ v H1, Got κ G S α H z st v H1 → Q v H1) → r [vx, vy] H Q) : CallOk κ G r (fn2 g) := by
  intro S α H st l vs z Q w hl hz q
  unfold fn2 at hz
  split at hz
  · obtain ⟨v, rr, rfl, h1, u, rr2, rfl, h2, h3⟩ := hl
    rw [show rr2 = [] from h3]
    exact h S α H st _ _ v u z Q w (BRep.view w h1) (BRep.view w h2) hz q
  · cases hz
def rLenA (K : PySem.W.Frag) : List V → Hp → VK → Prop := fun xs H Q => (∃ x n, xs = [x] ∧ LenV K x H n ∧ Q (.int n) H) ∨ (∃ a kvs, xs = [V.ref a] ∧ H a = some (.dK kvs) ∧ Q (.int kvs.length) H)
theorem cr_len {X : Cx} : CallR X (.builtin "len") (rLenA X.K) := fun pins s σ H xs us Q I r h => h.elim (fun h => call_len pins s σ H xs us Q I r h) fun h => call_lenD pins s σ H xs us Q I r h
def gLen : D → Option D
  | .str x => if x.length ≤ lim then some (.int x.length) else none
  | .dic false ks _ => some (.int ks.length)
  | .lst l => some (.int l.length)
  | .tup l => some (.int l.length)
  | .rdl l => some (.int l.length)
  | _ => none
theorem ok_len : CallOk .val G (rLenA G.K) (fn1 gLen) := callok1 fun S α H st x vx z Q w bx hz q => by
  have seq : ∀ {l}, items x = some l → z = .int l.length → rLenA G.K [vx] H Q := fun {l} hl ez => by
    obtain ⟨a, xs, rfl, hs, hr⟩ := bx.seq hl
    subst ez
    exact .inl ⟨_, xs.length, rfl, hs.imp (fun h => ⟨xs, h, rfl⟩) (fun h => ⟨xs, h, rfl⟩), by rw [hr.len]; exact q _ _ (got_refl w rfl)⟩
  unfold gLen at hz
  split at hz
  · split at hz
    · rename_i hl
      cases hz
      exact .inl ⟨vx, _, rfl, by rw [bx.str]; exact ⟨lim_le hl, rfl⟩, q _ _ (got_refl w rfl)⟩
    · cases hz
  · cases hz
    obtain ⟨a, kvs, rfl, h1, hk, _⟩ := bx.dK
    refine .inr ⟨a, kvs, rfl, h1, ?_⟩
    have e : kvs.length = _ := (List.length_map (as := kvs) (fun p => keyD p.1)).symm
    rw [e, ← hk]
    exact q _ _ (got_refl w rfl)
  · cases hz; exact seq rfl rfl
  · cases hz; exact seq rfl rfl
  · cases hz; exact seq rfl rfl
  · cases hz
def gList (d : D) : Option D := (items d).map .lst
def gTuple (d : D) : Option D := (items d).map .tup
abbrev rListOf (K : PySem.W.Frag) : List V → Hp → VK → Prop := fun xs H Q => ∃ p ys, xs = [.ref p] ∧ (SqL K H p ys ∨ SqT K H p ys) ∧ ∀ l, H l = none → Q (.ref l) (upd H l (.lst ys))
abbrev rTupleOf (K : PySem.W.Frag) : List V → Hp → VK → Prop := fun xs H Q => ∃ p ys, xs = [.ref p] ∧ ((SqL K H p ys ∧ ∀ l, H l = none → Q (.ref l) (upd H l (.tup ys))) ∨ (SqT K H p ys ∧ Q (.ref p) H))
theorem ok_list : CallOk .fresh G (rListOf G.K) (fn1 gList) := callok1 fun S α H st x vx z Q w bx hz q => by
  unfold gList at hz
  cases hl : items x with
  | none => rw [hl] at hz; cases hz
  | some l =>
    rw [hl] at hz
    cases hz
    obtain ⟨a, xs, rfl, hs, hr⟩ := bx.seq hl
    exact ⟨a, xs, rfl, hs, fun p hp => q _ _ (got_lst hp w hr)⟩
theorem ok_tuple : CallOk .val G (rTupleOf G.K) (fn1 gTuple) := callok1 fun S α H st x vx z Q w bx hz q => by
  unfold gTuple at hz
  cases x with
  | lst l =>
    cases hz
    obtain ⟨a, xs, rfl, h1, hr⟩ := bx.lst
    exact ⟨a, xs, rfl, .inl ⟨SqL.of h1, fun p hp => q _ _ (got_tup hp w hr)⟩⟩
  | rdl l =>
    cases hz
    obtain ⟨a, xs, rfl, sa, h1, hr⟩ := bx.rdl
    exact ⟨a, xs, rfl, .inl ⟨h1, fun p hp => q _ _ (got_tup hp w hr)⟩⟩
  | tup l =>
    cases hz
    obtain ⟨a, xs, rfl, sa, h1, hr⟩ := bx.tup
    exact ⟨a, xs, rfl, .inr ⟨SqT.of h1, q _ _ (got_refl w ⟨a, xs, rfl, sa, h1, hr⟩)⟩⟩
  | _ => cases hz
theorem sorted_one {β : Type} {le : β → β → Prop} (anti : ∀ a b, le a b → le b a → a = b) (hr : ∀ a, le a a) : ∀ {l m : List β}, l.Perm m → l.Pairwise le → m.Pairwise le → l = m
  | [], m, h, _, _ => (List.nil_perm.mp h).symm
  | x :: l, [], h, _, _ => (List.perm_nil.mp h)
  | x :: l, y :: m, h, h1, h2 => by
    have e : x = y := by
      have hx : x ∈ y :: m := h.mem_iff.mp List.mem_cons_self
      have hy : y ∈ x :: l := h.mem_iff.mpr List.mem_cons_self
      rcases List.mem_cons.mp hx with e | hx
      · exact e
      · rcases List.mem_cons.mp hy with e | hy
        · exact e.symm
        · exact anti _ _ ((List.pairwise_cons.mp h1).1 y hy) ((List.pairwise_cons.mp h2).1 x hx)
    subst e
    rw [sorted_one anti hr (List.Perm.cons_inv h) (List.pairwise_cons.mp h1).2 (List.pairwise_cons.mp h2).2]
def srtI (ns : List Int) : List Int := ns.mergeSort fun a b => decide (a ≤ b)
theorem srtI_perm (ns : List Int) : (srtI ns).Perm ns := List.mergeSort_perm ..
theorem srtI_le (ns : List Int) : (srtI ns).Pairwise (· ≤ ·) := by
  have h := List.pairwise_mergeSort (le := fun a b : Int => decide (a ≤ b)) (fun a b c => by simp only [decide_eq_true_eq]; omega) (fun a b => by simp only [Bool.or_eq_true, decide_eq_true_eq]; omega) ns
  exact h.imp fun h => by simpa using h
theorem srtI_eq {ns ms : List Int} (h : ms.Perm ns) (h2 : ms.Pairwise (· ≤ ·)) : ms = srtI ns :=
  sorted_one (le := (· ≤ ·)) (fun _ _ => Int.le_antisymm) (fun _ => Int.le_refl _) (h.trans (srtI_perm ns).symm) h2 (srtI_le ns)
theorem lexLt_irrefl : ∀ ns : List Int, HT.lexLt ns ns = false
  | [] => rfl
  | n :: ns => by rw [HT.lexLt_cons, if_pos rfl]; exact lexLt_irrefl ns
theorem lexLt_trans : ∀ {a b c : List Int}, HT.lexLt a b = true → HT.lexLt b c = true → HT.lexLt a c = true
  | [], b, [], h1, h2 => by cases b <;> simp [HT.lexLt] at h1 h2
  | [], b, c :: cs, h1, h2 => rfl
  | a :: as, [], c, h1, h2 => by simp [HT.lexLt] at h1
  | a :: as, b :: bs, [], h1, h2 => by simp [HT.lexLt] at h2
  | a :: as, b :: bs, c :: cs, h1, h2 => by
    rw [HT.lexLt_cons] at h1 h2 ⊢
    by_cases e1 : a = b
    · subst e1
      rw [if_pos rfl] at h1
      by_cases e2 : a = c
      · rw [if_pos e2] at h2 ⊢; exact lexLt_trans h1 h2
      · rw [if_neg e2] at h2 ⊢; exact h2
    · rw [if_neg e1] at h1
      simp only [decide_eq_true_eq] at h1
      by_cases e2 : b = c
      · subst e2
        rw [if_neg e1]; simpa using h1
      · rw [if_neg e2] at h2
        simp only [decide_eq_true_eq] at h2
        rw [if_neg (by omega)]; simp; omega
theorem lexLt_total : ∀ a b : List Int, HT.lexLt a b = true ∨ a = b ∨ HT.lexLt b a = true
  | [], [] => .inr (.inl rfl)
  | [], b :: bs => .inl rfl
  | a :: as, [] => .inr (.inr rfl)
  | a :: as, b :: bs => by
    rw [HT.lexLt_cons, HT.lexLt_cons]
    by_cases e : a = b
    · subst e
      rw [if_pos rfl, if_pos rfl]
      rcases lexLt_total as bs with h | h | h
      · exact .inl h
      · exact .inr (.inl (by rw [h]))
      · exact .inr (.inr h)
    · rw [if_neg e, if_neg (fun z => e z.symm)]
      simp only [decide_eq_true_eq]
      rcases Int.lt_or_lt_of_ne e with h | h
      · exact .inl h
      · exact .inr (.inr h)
theorem lexLe_iff {a b : List Int} : lexLe a b = true ↔ HT.lexLt a b = true ∨ a = b := by
  unfold lexLe
  rw [Bool.not_eq_true']
  constructor
  · intro h
    rcases lexLt_total a b with q | q | q
    · exact .inl q
    · exact .inr q
    · rw [h] at q; cases q
  · rintro (h | rfl)
    · cases q : HT.lexLt b a with
      | false => rfl
      | true => have := lexLt_trans h q; rw [lexLt_irrefl] at this; cases this
    · exact lexLt_irrefl a
theorem lexLe_trans {a b c : List Int} (h1 : lexLe a b = true) (h2 : lexLe b c = true) : lexLe a c = true := by
  rw [lexLe_iff] at *
  rcases h1 with h1 | rfl
  · rcases h2 with h2 | rfl
    · exact .inl (lexLt_trans h1 h2)
    · exact .inl h1
  · exact h2
theorem lexLe_anti {a b : List Int} (h1 : lexLe a b = true) (h2 : lexLe b a = true) : a = b := by
  rw [lexLe_iff] at *
  rcases h1 with h1 | rfl
  · rcases h2 with h2 | rfl
    · have := lexLt_trans h1 h2; rw [lexLt_irrefl] at this; cases this
    · rfl
  · rfl
theorem lexLe_total (a b : List Int) : (lexLe a b || lexLe b a) = true := by
  rw [Bool.or_eq_true, lexLe_iff, lexLe_iff]
  rcases lexLt_total a b with q | q | q
  · exact .inl (.inl q)
  · exact .inl (.inr q)
  · exact .inr (.inl q)
def srtT (ts : List (List Int)) : List (List Int) := ts.mergeSort lexLe
theorem srtT_perm (ts : List (List Int)) : (srtT ts).Perm ts := List.mergeSort_perm ..
theorem srtT_le (ts : List (List Int)) : (srtT ts).Pairwise fun a b => lexLe a b = true := List.pairwise_mergeSort (le := lexLe) (fun _ _ _ h1 h2 => lexLe_trans h1 h2) (fun a b => lexLe_total a b) ts
theorem srtT_eq {ts us : List (List Int)} (h : us.Perm ts) (h2 : us.Pairwise fun a b => lexLe a b = true) : us = srtT ts :=
  sorted_one (le := fun a b => lexLe a b = true) (fun _ _ => lexLe_anti) (fun a => lexLe_iff.mpr (.inr rfl)) (h.trans (srtT_perm ts).symm) h2 (srtT_le ts)
def tupI (ns : List Int) : D := .tup (ns.map D.int)
def asTups : List D → Option (List (List Int))
  | [] => some []
  | .tup t :: l => match asInts t, asTups l with
    | some ns, some ts => some (ns :: ts)
    | _, _ => none
  | _ => none
theorem asTups_eq : ∀ {l : List D} {ts : List (List Int)}, asTups l = some ts → l = ts.map tupI
  | [], ts, h => by cases h; rfl
  | .tup t :: l, ts, h => by
    unfold asTups at h
    cases h1 : asInts t with
    | none => rw [h1] at h; cases h
    | some ns =>
      cases h2 : asTups l with
      | none => rw [h1, h2] at h; cases h
      | some us =>
        rw [h1, h2] at h
        cases h
        rw [List.map_cons, ← asTups_eq h2, tupI, ← asInts_eq h1]
  | .non :: l, ns, h => by cases h
  | .bl _ :: l, ns, h => by cases h
  | .str _ :: l, ns, h => by cases h
  | .int _ :: l, ns, h => by cases h
  | .lst _ :: l, ns, h => by cases h
  | .rdl _ :: l, ns, h => by cases h
  | .dic _ _ _ :: l, ns, h => by cases h
  | .ins _ _ _ :: l, ns, h => by cases h
  | .ref _ :: l, ns, h => by cases h
def gSort (d : D) : Option D := (items d).bind fun l => match asInts l with
  | some ns => some (.lst ((srtI ns).map D.int))
  | none => match d, asTups l with
    | .lst _, some ts => some (.lst ((srtT ts).map tupI))
    | _, _ => none
def rSortA (K : PySem.W.Frag) : List V → Hp → VK → Prop := fun vs H Q => (rSortedI K vs H Q ∨ rSortedAny K vs H Q) ∨ rSortedIT vs H Q
theorem cr_sort {X : Cx} (hu : X.A.units + 64 < cLine) : CallR X (.builtin "sorted") (rSortA X.K) := fun pins s σ H xs us Q I r h => by
  rcases h with (h | h) | h
  · exact cr_sortedI pins s σ H xs us Q I r h
  · exact cr_sortedAny hu pins s σ H xs us Q I r h
  · exact cr_sortedIT pins s σ H xs us Q I r h
def kOf (H : Hp) : V → List Int
  | .ref a => match H a with
    | some (.tup vs) => vs.filterMap fun v => match v with
      | .int i => some i
      | _ => none
    | _ => []
  | _ => []
theorem kOf_eq {S : Addr → Prop} {α : List Addr} {H : Hp} {t : List Int} {v : V} (h : Rep G S α H (tupI t) v) : kOf H v = t ∧ ∃ a, v = .ref a ∧ H a = some (.tup (t.map V.int)) := by
  obtain ⟨a, xs, rfl, sa, h1, h2⟩ := h
  have e := h2.ints
  subst e
  refine ⟨?_, a, rfl, h1⟩
  unfold kOf
  simp only [h1, List.filterMap_map]
  have : (fun i : Int => some i) = some := rfl
  show List.filterMap (fun x : Int => some x) t = t
  rw [this, List.filterMap_some]
theorem kOf_map {S : Addr → Prop} {α : List Addr} {H : Hp} : ∀ {ts : List (List Int)} {xs : List V}, RepL G S α H (ts.map tupI) xs → xs.map (kOf H) = ts ∧ ∀ x ∈ xs, Rep G S α H (tupI (kOf H x)) x
  | [], xs, h => by
    have h : xs = [] := h
    subst h
    exact ⟨rfl, fun x hx => by cases hx⟩
  | t :: ts, xs, h => by
    obtain ⟨v, r, rfl, h1, h2⟩ := h
    obtain ⟨k1, k2⟩ := kOf_map h2
    have e := (kOf_eq h1).1
    refine ⟨by rw [List.map_cons, e, k1], fun x hx => ?_⟩
    rcases List.mem_cons.mp hx with rfl | hx
    · rw [e]; exact h1
    · exact k2 x hx
theorem repL_kOf {S : Addr → Prop} {α : List Addr} {H : Hp} : ∀ {ys : List V}, (∀ y ∈ ys, Rep G S α H (tupI (kOf H y)) y) → RepL G S α H ((ys.map (kOf H)).map tupI) ys
  | [], _ => rfl
  | y :: ys, h => ⟨y, ys, rfl, h y List.mem_cons_self, repL_kOf fun z hz => h z (List.mem_cons_of_mem _ hz)⟩
theorem ok_sort : CallOk .fresh G (rSortA G.K) (fn1 gSort) := callok1 fun S α H st x vx z Q w bx hz q => by
  unfold gSort at hz
  cases hl : items x with
  | none => rw [hl] at hz; cases hz
  | some l =>
    rw [hl, Option.bind_some] at hz
    split at hz
    · rename_i ns e
      cases hz
      have el := asInts_eq e
      obtain ⟨a, xs, rfl, hs, hr⟩ := bx.seq hl
      have hr' := hr
      rw [el] at hr'
      have ex := hr'.ints
      have fin : ∀ (ns' : List Int) (p : Addr), ns'.Perm ns → ns'.Pairwise (· ≤ ·) → H p = none → Q (.ref p) (upd H p (.lst (ns'.map V.int))) := fun ns' p h1 h2 hp => by
        rw [srtI_eq h1 h2]
        exact q _ _ (got_lst hp w (RepL.ofInts _))
      rcases hs with hs | hs
      · rw [ex] at hs
        exact .inl (.inl ⟨a, ns, rfl, hs, fin⟩)
      · cases x with
        | tup m =>
          obtain ⟨b, ys, eb, sb, h1, hr2⟩ := bx.tup
          cases hl
          cases eb
          rw [el] at hr2
          rw [hr2.ints] at h1
          exact .inr ⟨a, ns, rfl, h1, fin⟩
        | lst m =>
          obtain ⟨b, ys, eb, h1, hr2⟩ := bx.lst
          cases hl
          cases eb
          rw [el] at hr2
          rw [hr2.ints] at h1
          exact .inl (.inl ⟨a, ns, rfl, SqL.of h1, fin⟩)
        | rdl m =>
          obtain ⟨b, ys, eb, sb, h1, hr2⟩ := bx.rdl
          cases hl
          cases eb
          rw [el] at hr2
          rw [hr2.ints] at h1
          exact .inl (.inl ⟨a, ns, rfl, h1, fin⟩)
        | _ => cases hl
    · split at hz
      · rename_i m ts e
        cases hz
        cases hl
        have el := asTups_eq e
        obtain ⟨a, xs, rfl, h1, hr⟩ := bx.lst
        rw [el] at hr
        obtain ⟨k1, k2⟩ := kOf_map hr
        refine .inl (.inr ⟨a, xs, kOf H, rfl, SqL.of h1, fun x hx => ?_, fun ys p hp hq hn => ?_⟩)
        · obtain ⟨_, b, e1, e2⟩ := kOf_eq (k2 x hx)
          exact ⟨b, e1, e2⟩
        · have e2 : ys.map (kOf H) = srtT ts := srtT_eq (by rw [← k1]; exact hp.map _) (List.pairwise_map.mpr (hq.imp fun {a b} h => by unfold lexLe; rw [h]; rfl))
          have r2 := repL_kOf (G := G) (S := S) (α := α) (H := H) (ys := ys) fun y hy => k2 y (hp.mem_iff.mp hy)
          rw [e2] at r2
          exact q _ _ (got_lst hn w r2)
      · cases hz
end
end DL

set_option maxHeartbeats 4000000
namespace DL
open PySem PySem.Spec PyProof.Rows L2 Bs
def UnOk (κ : Kd) (G : Gm) (r : V → Hp → VK → Prop) (g : D → Option D) : Prop := ∀ (S : Addr → Prop) (α : List Addr) (H : Hp) (st : Sto) (x : D) (vx : V) (z : D) (Q : VK), World G S α H st → View G S α H x vx → g x = some z → (∀ v H1, Got κ G S α H z st v H1 → Q v H1) → r vx H Q
def dUn (g : D → Option D) (fa : EF) : EF := fun env st => (fa env st).bind fun x st1 => dOpt (g (deref st1 x)) st1
section
variable {X : Cx} {cl : String → Addr} {W : WX} {e a b c : Expr} {es rest : List Expr} {f fa fb fc : EF} {tf tg : TF} {af : AF} {κ : Kd} {r : V → Hp → VK → Prop} {g : D → Option D} {pos : Pos}
theorem de_un (h : ∀ ta, PE X a ta → PE X e (tUn r ta)) (ok : UnOk κ ⟨X.K, cl⟩ r g) (ha : DE .brw X cl W a fa) : DE κ X cl W e (dUn g fa) := by
  obtain ⟨ta, h1, h2⟩ := ha.ex
  refine ⟨_, h ta h1, fun S α H σ env st Q p q => ?_⟩
  refine h2 S α H σ env st _ p ?_
  unfold dUn at q
  cases r1 : fa env st with
  | bad => rw [r1] at q; exact q
  | exc c fs st' => rw [r1] at q; exact q
  | ok x st1 =>
    rw [r1] at q
    rintro v H1 ⟨S1, α1, e1, w1, b1⟩
    replace q : PostE κ _ W S α H σ (dOpt (g (deref st1 x)) st1) Q := q
    have q' := PostE.step e1 q
    cases rz : g (deref st1 x) with
    | none => rw [rz] at q'; exact q'.elim
    | some z =>
      rw [rz] at q'
      exact ok S1 α1 H1 st1 _ v z Q w1 (BRep.view w1 b1) rz q'
def truth : D → Option Bool
  | .non => some false
  | .bl b => some b
  | .int i => some (i != 0)
  | .str y => if y.length ≤ lim then some ((y.length : Int) != 0) else none
  | .lst l => some (!l.isEmpty)
  | .tup l => some (!l.isEmpty)
  | .rdl l => some (!l.isEmpty)
  | .dic false ks _ => some (!ks.isEmpty)
  | _ => none
theorem isEmpty_len {l : List D} {xs : List V} (h : xs.length = l.length) : xs.isEmpty = l.isEmpty := by
  cases l <;> cases xs <;> simp_all
theorem View.tru {G : Gm} {S : Addr → Prop} {α : List Addr} {H : Hp} {d : D} {v : V} {k : Bool} (h : View G S α H d v) (e : truth d = some k) : TruV G.K v H k := by
  cases d with
  | non => cases e; rw [h.non]; rfl
  | bl b => cases e; rw [h.bl]; rfl
  | int i => cases e; rw [h.int]; rfl
  | str y =>
    replace e : (if y.length ≤ lim then some ((y.length : Int) != 0) else none) = some k := e
    split at e
    · rename_i hl; cases e; rw [h.str]; exact ⟨lim_le hl, rfl⟩
    · cases e
  | tup l => cases e; obtain ⟨a, xs, rfl, _, h1, hr⟩ := h.tup; exact .inr (.inl ⟨xs, SqT.of h1, by rw [isEmpty_len hr.len]⟩)
  | lst l => cases e; obtain ⟨a, xs, rfl, h1, hr⟩ := h.lst; exact .inl ⟨xs, SqL.of h1, by rw [isEmpty_len hr.len]⟩
  | rdl l => cases e; obtain ⟨a, xs, rfl, _, h1, hr⟩ := h.rdl; exact .inl ⟨xs, h1, by rw [isEmpty_len hr.len]⟩
  | dic t ks vs =>
    cases t with
    | true => cases e
    | false =>
      cases e
      obtain ⟨a, kvs, rfl, h1, hk, _⟩ := h.dK
      refine .inr (.inr ⟨kvs, h1, ?_⟩)
      rw [hk]
      cases kvs <;> rfl
  | ins _ _ _ => cases e
  | ref _ => cases e
def tOpt (o : Option Bool) (st : Sto) : R Bool := match o with
  | some z => .ok z st
  | none => .bad
def dT (fa : EF) : TF := fun env st => (fa env st).bind fun x st1 => tOpt (truth (deref st1 x)) st1
theorem dt_truth (ha : DE .brw X cl W a fa) (he : ∀ whole, isTrue a X.env whole = (do let v ← whole; standAt a.pos; holding [v] (truthy v)) := by intro _; rfl) : DT X cl W a (dT fa) := by
  obtain ⟨ta, h1, h2⟩ := ha.ex
  refine ⟨_, pt_truth h1 he, fun S α H σ env st Q p q => ?_⟩
  refine h2 S α H σ env st _ p ?_
  unfold dT at q
  cases r1 : fa env st with
  | bad => rw [r1] at q; exact q
  | exc c fs st' => rw [r1] at q; exact q
  | ok x st1 =>
    rw [r1] at q
    rintro v H1 ⟨S1, α1, e1, w1, b1⟩
    replace q : PostT _ W S α H σ (tOpt (truth (deref st1 x)) st1) Q := q
    cases rz : truth (deref st1 x) with
    | none => rw [rz] at q; exact q.elim
    | some z =>
      rw [rz] at q
      exact ⟨z, View.tru (BRep.view w1 b1) rz, q H1 ⟨S1, α1, e1, w1⟩⟩
def dNot (tf : TF) : TF := fun env st => (tf env st).bind fun b st1 => .ok (!b) st1
def dAnd (tf tg : TF) : TF := fun env st => (tf env st).bind fun b st1 => if b then tg env st1 else .ok false st1
def dOr (tf tg : TF) : TF := fun env st => (tf env st).bind fun b st1 => if b then .ok true st1 else tg env st1
theorem PostT.mk {G : Gm} {S : Addr → Prop} {α : List Addr} {H : Hp} {σ : Slots} {Q : Bool → Hp → Prop} {r1 : R Bool} {k : Bool → Sto → R Bool} (q : PostT G W S α H σ (r1.bind k) Q)
    {Q' : Bool → Hp → Prop} (h : ∀ b st1 H1 S1 α1, r1 = .ok b st1 → StepE S α H S1 α1 H1 → World G S1 α1 H1 st1 → PostT G W S1 α1 H1 σ (k b st1) Q → Q' b H1) : PostT G W S α H σ r1 Q' := by
  cases r1 with
  | bad => exact q
  | exc c fs st' => exact q
  | ok b st1 => exact fun H1 ⟨S1, α1, e1, w1⟩ => h b st1 H1 S1 α1 rfl e1 w1 (PostT.step e1 q)
theorem dt_not (ha : DT X cl W a tf) : DT X cl W (.UnaryOp .Not a pos) (dNot tf) := by
  obtain ⟨ta, h1, h2⟩ := ha.ex
  refine ⟨_, pt_not h1, fun S α H σ env st Q p q => ?_⟩
  refine h2 S α H σ env st _ p (PostT.mk q fun b st1 H1 S1 α1 _ e1 w1 q1 => ?_)
  exact q1 H1 ⟨S1, α1, .refl, w1⟩
theorem dw_and1 (ha : DT X cl W a tf) : DW X cl W (.BoolOp .And [a] pos) tf := by
  obtain ⟨ta, h1, h2⟩ := ha.ex
  exact ⟨_, pw_and1 h1, h2⟩
theorem dw_or1 (ha : DT X cl W a tf) : DW X cl W (.BoolOp .Or [a] pos) tf := by
  obtain ⟨ta, h1, h2⟩ := ha.ex
  exact ⟨_, pw_or1 h1, h2⟩
theorem dw_and (ha : DT X cl W a tf) (hb : DW X cl W (.BoolOp .And (b :: rest) pos) tg) : DW X cl W (.BoolOp .And (a :: b :: rest) pos) (dAnd tf tg) := by
  obtain ⟨ta, h1, h2⟩ := ha.ex
  obtain ⟨tb, k1, k2⟩ := hb.ex
  refine ⟨_, pw_and h1 k1, fun S α H σ env st Q p q => ?_⟩
  refine h2 S α H σ env st _ p (PostT.mk q fun b st1 H1 S1 α1 _ e1 w1 q1 => ?_)
  cases b with
  | true => exact iteT (k2 S1 α1 H1 σ env st1 Q (p.step e1 w1) q1)
  | false => exact iteF (q1 H1 ⟨S1, α1, .refl, w1⟩)
theorem dw_or (ha : DT X cl W a tf) (hb : DW X cl W (.BoolOp .Or (b :: rest) pos) tg) : DW X cl W (.BoolOp .Or (a :: b :: rest) pos) (dOr tf tg) := by
  obtain ⟨ta, h1, h2⟩ := ha.ex
  obtain ⟨tb, k1, k2⟩ := hb.ex
  refine ⟨_, pw_or h1 k1, fun S α H σ env st Q p q => ?_⟩
  refine h2 S α H σ env st _ p (PostT.mk q fun b st1 H1 S1 α1 _ e1 w1 q1 => ?_)
  cases b with
  | true => exact iteT (q1 H1 ⟨S1, α1, .refl, w1⟩)
  | false => exact iteF (k2 S1 α1 H1 σ env st1 Q (p.step e1 w1) q1)
theorem DW.dt (h : DW X cl W a tf) : DT X cl W a tf := by
  obtain ⟨ta, h1, h2⟩ := h.ex
  exact ⟨_, h1.pt, h2⟩
def dAndV (fa fb : EF) : EF := fun env st => (fa env st).bind fun x st1 => match truth (deref st1 x) with
  | some true => fb env st1
  | some false => .ok x st1
  | none => .bad
def dOrV (fa fb : EF) : EF := fun env st => (fa env st).bind fun x st1 => match truth (deref st1 x) with
  | some false => fb env st1
  | some true => .ok x st1
  | none => .bad
theorem de_one {op} (h : DE κ X cl W a fa) : DE κ X cl W (.BoolOp op [a] pos) fa := by
  obtain ⟨ta, h1, h2⟩ := h.ex
  exact ⟨_, pe_one h1, h2⟩
theorem de_and (ha : DE .val X cl W a fa) (hb : DE .val X cl W (.BoolOp .And (b :: rest) pos) fb) : DE .val X cl W (.BoolOp .And (a :: b :: rest) pos) (dAndV fa fb) := by
  obtain ⟨ta, h1, h2⟩ := ha.ex
  obtain ⟨tb, k1, k2⟩ := hb.ex
  refine ⟨_, pe_andT h1 k1, fun S α H σ env st Q p q => ?_⟩
  refine h2 S α H σ env st _ p ?_
  unfold dAndV at q
  cases r1 : fa env st with
  | bad => rw [r1] at q; exact q
  | exc c fs st' => rw [r1] at q; exact q
  | ok x st1 =>
    rw [r1] at q
    rintro v H1 ⟨S1, α1, e1, w1, b1⟩
    replace q : PostE .val _ W S α H σ (match truth (deref st1 x) with
      | some true => fb env st1
      | some false => .ok x st1
      | none => .bad) Q := q
    have q' := PostE.step e1 q
    cases rz : truth (deref st1 x) with
    | none => rw [rz] at q'; exact q'.elim
    | some z =>
      rw [rz] at q'
      refine ⟨z, View.tru (BRep.view w1 (.inl b1)) rz, ?_⟩
      cases z with
      | true => exact iteT (k2 S1 α1 H1 σ env st1 Q (p.step e1 w1) q')
      | false => exact iteF (q' v H1 (got_refl w1 b1))
theorem de_or (ha : DE .val X cl W a fa) (hb : DE .val X cl W (.BoolOp .Or (b :: rest) pos) fb) : DE .val X cl W (.BoolOp .Or (a :: b :: rest) pos) (dOrV fa fb) := by
  obtain ⟨ta, h1, h2⟩ := ha.ex
  obtain ⟨tb, k1, k2⟩ := hb.ex
  refine ⟨_, pe_orT h1 k1, fun S α H σ env st Q p q => ?_⟩
  refine h2 S α H σ env st _ p ?_
  unfold dOrV at q
  cases r1 : fa env st with
  | bad => rw [r1] at q; exact q
  | exc c fs st' => rw [r1] at q; exact q
  | ok x st1 =>
    rw [r1] at q
    rintro v H1 ⟨S1, α1, e1, w1, b1⟩
    replace q : PostE .val _ W S α H σ (match truth (deref st1 x) with
      | some false => fb env st1
      | some true => .ok x st1
      | none => .bad) Q := q
    have q' := PostE.step e1 q
    cases rz : truth (deref st1 x) with
    | none => rw [rz] at q'; exact q'.elim
    | some z =>
      rw [rz] at q'
      refine ⟨z, View.tru (BRep.view w1 (.inl b1)) rz, ?_⟩
      cases z with
      | true => exact iteT (q' v H1 (got_refl w1 b1))
      | false => exact iteF (k2 S1 α1 H1 σ env st1 Q (p.step e1 w1) q')
def gNot (d : D) : Option D := (truth d).map fun k => .bl (!k)
theorem ok_not {G : Gm} : UnOk .val G (fun x H Q => ∃ k, TruV G.K x H k ∧ Q (.bl (!k)) H) gNot := fun S α H st x vx z Q w bx hz q => by
  unfold gNot at hz
  cases e : truth x with
  | none => rw [e] at hz; cases hz
  | some k => rw [e] at hz; cases hz; exact ⟨k, bx.tru e, q _ _ (got_refl w rfl)⟩
theorem de_not (ha : DE .brw X cl W a fa) : DE .val X cl W (.UnaryOp .Not a pos) (dUn gNot fa) := de_un (fun ta h => pe_notT h) ok_not ha
def gNeg : D → Option D
  | .int i => some (.int (-i))
  | _ => none
theorem ok_neg {G : Gm} : UnOk .val G (rU fun i => .int (-i)) gNeg := fun S α H st x vx z Q w bx hz q => by
  unfold gNeg at hz
  split at hz
  · cases hz; exact ⟨_, bx.int, q _ _ (got_refl w rfl)⟩
  · cases hz
def gInv : D → Option D
  | .int i => some (.int (Builtin.bitNot i))
  | _ => none
theorem ok_inv {G : Gm} : UnOk .val G (rU fun i => .int (Builtin.bitNot i)) gInv := fun S α H st x vx z Q w bx hz q => by
  unfold gInv at hz
  split at hz
  · cases hz; exact ⟨_, bx.int, q _ _ (got_refl w rfl)⟩
  · cases hz
theorem de_neg (ha : DE .brw X cl W a fa) : DE .val X cl W (.UnaryOp .USub a pos) (dUn gNeg fa) := de_un (fun ta h => pe_un un_neg h) ok_neg ha
theorem de_inv (ha : DE .brw X cl W a fa) : DE .val X cl W (.UnaryOp .Invert a pos) (dUn gInv fa) := de_un (fun ta h => pe_un un_inv h) ok_inv ha
def gBits : D → Option D
  | .int i => some (.int (Builtin.Int.intBits i : Nat))
  | _ => none
theorem ok_bits {G : Gm} : UnOk .val G (fun x H Q => ∃ i, x = .int i ∧ Q (.int (Builtin.Int.intBits i : Nat)) H) gBits := fun S α H st x vx z Q w bx hz q => by
  unfold gBits at hz
  split at hz
  · cases hz; exact ⟨_, bx.int, q _ _ (got_refl w rfl)⟩
  · cases hz
def lkp (f : Str) : List Str → List D → Option D
  | n :: ns, d :: l => if f == n then some d else lkp f ns l
  | _, _ => none
def gFld (cs : List String) (f : Str) : D → Option D
  | .ins c ns l => if cs.contains c then lkp f ns l else none
  | _ => none
def FldOk (K : PySem.W.Frag) (cl : String → Addr) (cs : List String) (f : Str) : Prop := ∀ c, cs.contains c = true → Cls K (cl c) ∧ NoAttr K (cl c) f
theorem lkp_rep {G : Gm} {S : Addr → Prop} {α : List Addr} {H : Hp} {f : Str} : ∀ {fs : List (Str × V)} {l : List D} {d : D}, RepL G S α H l (fs.map (·.2)) → lkp f (fs.map (·.1)) l = some d → ∃ v, fs.lookup f = some v ∧ Rep G S α H d v
  | [], l, d, hr, h => by
    cases l <;> cases h
  | (n, v) :: fs, [], d, hr, h => by cases h
  | (n, v) :: fs, x :: l, d, hr, h => by
    obtain ⟨v', r, e, h1, h2⟩ := hr
    rw [List.map_cons] at e
    injection e with e1 e2
    subst e2
    have e1 : v = v' := e1
    subst e1
    rw [List.map_cons] at h
    unfold lkp at h
    rw [List.lookup_cons]
    by_cases q : (f == n) = true
    · rw [if_pos q] at h
      cases h
      rw [q]
      exact ⟨v, rfl, h1⟩
    · have q' : (f == n) = false := by cases z : (f == n) <;> simp_all
      rw [if_neg q] at h
      rw [q']
      exact lkp_rep h2 h
theorem ok_fld {K : PySem.W.Frag} {cs : List String} {f : Str} (F : FldOk K cl cs f) : UnOk .val ⟨K, cl⟩ (fun x H1 Q => ∃ a C dx fs v, x = .ref a ∧ H1 a = some (.ins C dx fs) ∧ Cls K C ∧ NoAttr K C f ∧ fs.lookup f = some v ∧ Q v H1) (gFld cs f) := fun S α H st x vx z Q w bx hz q => by
  unfold gFld at hz
  split at hz
  · split at hz
    · rename_i c ns l hc
      obtain ⟨a, dx, fs, rfl, h1, hn, hr⟩ := bx.ins
      rw [← hn] at hz
      obtain ⟨v, hv, rv⟩ := lkp_rep hr hz
      obtain ⟨k1, k2⟩ := F c hc
      exact ⟨a, cl c, dx, fs, v, rfl, h1, k1, k2, hv, q _ _ (got_refl w rv)⟩
    · cases hz
  · cases hz
theorem de_fld {cs : List String} {n : Str} (F : FldOk X.K cl cs n) (ha : DE .brw X cl W a fa) (hb : attributeBase a n X.env (eval a X.env) = eval a X.env := by rfl) : DE .val X cl W (.Attribute a n pos) (dUn (gFld cs n) fa) := de_un (fun ta h => pe_fld h hb) (ok_fld F) ha
def dTup (af : AF) : EF := fun env st => (af env st).bind fun l st1 => if l.length ≤ 1000 then .ok (.tup l) st1 else .bad
def dLst (af : AF) : EF := fun env st => (af env st).bind fun l st1 => if l.length ≤ 1000 then .ok (.lst l) st1 else .bad
theorem PostA.mk {κ : Kd} {G : Gm} {S : Addr → Prop} {α : List Addr} {H : Hp} {σ : Slots} {Q : VK} {r1 : R (List D)} {k : List D → Sto → R D} {κ' : Kd} (q : PostE κ' G W S α H σ (r1.bind k) Q)
    {Q' : List V → Hp → Prop} (h : ∀ l st1 vs H1 S1 α1, r1 = .ok l st1 → StepE S α H S1 α1 H1 → World G S1 α1 H1 st1 → KRepL κ G H S1 α1 H1 l vs → PostE κ' G W S1 α1 H1 σ (k l st1) Q → Q' vs H1) : PostA κ G W S α H σ r1 Q' := by
  cases r1 with
  | bad => exact q
  | exc c fs st' => exact q
  | ok l st1 => exact fun vs H1 ⟨S1, α1, e1, w1, b1⟩ => h l st1 vs H1 S1 α1 rfl e1 w1 b1 (PostE.step e1 q)
theorem de_tup {k : Nat} (ha : DA .val X cl W es af) : DE .val X cl W (.Tuple es k pos) (dTup af) := by
  obtain ⟨ta, h1, h2⟩ := ha.ex
  refine ⟨_, pe_tup h1, fun S α H σ env st Q p q => ?_⟩
  refine h2 S α H σ env st _ p (PostA.mk q fun l st1 vs H1 S1 α1 _ e1 w1 b1 q1 => ?_)
  split at q1
  · rename_i hl
    have hr := b1.val
    exact ⟨by rw [hr.len]; exact Nat.le_trans hl (by decide), fun p hp => q1 _ _ (got_tup hp w1 hr)⟩
  · exact q1.elim
theorem df_lst (ha : DA .val X cl W es af) : DE .fresh X cl W (.List es pos) (dLst af) := by
  obtain ⟨ta, h1, h2⟩ := ha.ex
  refine ⟨_, pe_lst h1, fun S α H σ env st Q p q => ?_⟩
  refine h2 S α H σ env st _ p (PostA.mk q fun l st1 vs H1 S1 α1 _ e1 w1 b1 q1 => ?_)
  split at q1
  · rename_i hl
    have hr := b1.val
    exact ⟨by rw [hr.len]; exact Nat.le_trans hl (by decide), fun p hp => q1 _ _ (got_lst hp w1 hr)⟩
  · exact q1.elim
def dIf (tf : TF) (fa fb : EF) : EF := fun env st => (tf env st).bind fun b st1 => if b then fa env st1 else fb env st1
theorem de_if (hc : DT X cl W c tf) (ha : DE κ X cl W a fa) (hb : DE κ X cl W b fb) : DE κ X cl W (.IfExp c a b pos) (dIf tf fa fb) := by
  obtain ⟨tc, h1, h2⟩ := hc.ex
  obtain ⟨ta, k1, k2⟩ := ha.ex
  obtain ⟨tb, j1, j2⟩ := hb.ex
  refine ⟨_, pe_ifExp h1 k1 j1, fun S α H σ env st Q p q => ?_⟩
  refine h2 S α H σ env st _ p ?_
  unfold dIf at q
  cases r1 : tf env st with
  | bad => rw [r1] at q; exact q
  | exc c fs st' => rw [r1] at q; exact q
  | ok x st1 =>
    rw [r1] at q
    rintro H1 ⟨S1, α1, e1, w1⟩
    have q' := PostE.step e1 q
    cases x with
    | true => exact iteT (k2 S1 α1 H1 σ env st1 Q (p.step e1 w1) q')
    | false => exact iteF (j2 S1 α1 H1 σ env st1 Q (p.step e1 w1) q')
def dChain (g g' : Sto → D → D → Option D) (fa fb fc : EF) : EF := fun env st => (fa env st).bind fun x st1 => (fb env st1).bind fun y st2 => match g st2 x y with
  | some (.bl true) => (fc env st2).bind fun z st3 => dOpt (g' st3 y z) st3
  | some (.bl false) => .ok (.bl false) st2
  | _ => .bad
theorem chain_core {r r' : R2} {g g' : Sto → D → D → Option D} {ta tb tc : TE} (ok : OpOk .val ⟨X.K, cl⟩ r g) (ok' : OpOk .val ⟨X.K, cl⟩ r' g') (h2 : OkE .brw ⟨X.K, cl⟩ W fa ta) (k2 : OkE .brw ⟨X.K, cl⟩ W fb tb) (j2 : OkE .brw ⟨X.K, cl⟩ W fc tc) : OkE .val ⟨X.K, cl⟩ W (dChain g g' fa fb fc) (tChain r r' ta tb tc) := by
  intro S α H σ env st Q p q
  refine h2 S α H σ env st _ p ?_
  unfold dChain at q
  cases r1 : fa env st with
  | bad => rw [r1] at q; exact q
  | exc c fs st' => rw [r1] at q; exact q
  | ok x st1 =>
    rw [r1] at q
    rintro v H1 ⟨S1, α1, e1, w1, b1⟩
    refine k2 S1 α1 H1 σ env st1 _ (p.step e1 w1) ?_
    have q' := PostE.step e1 q
    cases r2 : fb env st1 with
    | bad => simp only [R.bind, r2] at q'; exact q'
    | exc c fs st' => simp only [R.bind, r2] at q'; exact q'
    | ok y st2 =>
      simp only [R.bind, r2] at q'
      rintro u H2 ⟨S2, α2, e2, w2, b2⟩
      have q2 := PostE.step e2 q'
      have b1' := b1.step e2 w1
      cases rz : g st2 x y with
      | none => rw [rz] at q2; exact q2.elim
      | some z =>
        rw [rz] at q2
        cases z with
        | bl k =>
          refine ok S2 α2 H2 st2 x y v u _ _ w2 b1' b2 rz fun v3 H3 g3 => ⟨k, ?_, ?_⟩
          · obtain ⟨_, _, _, _, r⟩ := g3; exact r
          · obtain ⟨S3, α3, e3, w3, _⟩ := g3
            have q3 := PostE.step e3 q2
            cases k with
            | false => exact iteF (q3 _ _ (got_refl w3 rfl))
            | true =>
              refine iteT (j2 S3 α3 H3 σ env st2 _ (((p.step e1 w1).step e2 w2).step e3 w3) ?_)
              dsimp only at q3
              cases r4 : fc env st2 with
              | bad => rw [r4] at q3; exact q3
              | exc c fs st' => rw [r4] at q3; exact q3
              | ok z st4 =>
                rw [r4] at q3
                rintro u4 H4 ⟨S4, α4, e4, w4, b4⟩
                have q4 := PostE.step e4 q3
                replace q4 : PostE .val _ W S4 α4 H4 σ (dOpt (g' st4 y z) st4) Q := q4
                cases rz4 : g' st4 y z with
                | none => rw [rz4] at q4; exact q4.elim
                | some z4 =>
                  rw [rz4] at q4
                  exact ok' S4 α4 H4 st4 y z u u4 z4 Q w4 ((b2.step e3 w2).step e4 w3) b4 rz4 q4
        | _ => exact q2.elim
theorem de_chain {r r' : R2} {g g' : Sto → D → D → Option D} (h : ∀ ta tb tc, PE X a ta → PE X b tb → PE X c tc → PE X e (tChain r r' ta tb tc)) (ok : OpOk .val ⟨X.K, cl⟩ r g) (ok' : OpOk .val ⟨X.K, cl⟩ r' g') (ha : DE .brw X cl W a fa) (hb : DE .brw X cl W b fb) (hc : DE .brw X cl W c fc) : DE .val X cl W e (dChain g g' fa fb fc) := by
  obtain ⟨ta, h1, h2⟩ := ha.ex
  obtain ⟨tb, k1, k2⟩ := hb.ex
  obtain ⟨tc, j1, j2⟩ := hc.ex
  exact ⟨_, h ta tb tc h1 k1 j1, chain_core ok ok' h2 k2 j2⟩
def dTB (f : EF) : TF := fun env st => (f env st).bind fun d st1 => tOfD st1 d
theorem OkE.tb {f : EF} {t : TE} (h : OkE .val ⟨X.K, cl⟩ W f t) : OkT ⟨X.K, cl⟩ W (dTB f) (tTest t) := by
  intro S α H σ env st Q p q
  refine h S α H σ env st _ p ?_
  unfold dTB at q
  cases r1 : f env st with
  | bad => rw [r1] at q; exact q
  | exc c fs st' => rw [r1] at q; exact q
  | ok x st1 =>
    rw [r1] at q
    rintro v H1 ⟨S1, α1, e1, w1, b1⟩
    cases x with
    | bl b => exact ⟨b, b1, q H1 ⟨S1, α1, e1, w1⟩⟩
    | _ => exact q.elim
def PostF (G : Gm) (S : Addr → Prop) (α : List Addr) (H : Hp) (r : R D) (Q : VK) (E : XK) : Prop := match r with
  | .ok d st' => ∀ v H1, Got .val G S α H d st' v H1 → Q v H1
  | .exc c fs st' => ∀ dx H1, GotX G S α ØO H fs st' dx H1 → E (.ref (G.cl c)) dx H1
  | .bad => False
def spF (G : Gm) (F : FF) : Sp := fun vs H Q E => ∃ (S : Addr → Prop) (α : List Addr) (st : Sto) (ds : List D), World G S α H st ∧ RepL G S α H ds vs ∧ PostF G S α H (F ds st) Q E
structure DCal (P : Program) (w : PySem.World) (K : PySem.W.Frag) (mg : Str → Option Value) (base : Heap) (cl : String → Addr) (k : Nat) (x : Str) (ps : List Str) (F : FF) : Prop where
  ex : ∃ (f : Addr) (fd : FuncData), FnOk P w K mg base (L2.CX P w) k f fd ps (spF ⟨K, cl⟩ F) ∧ mg x = some (.ref f) ∧ PySem.W.keepIn K (.ref f) = true ∧ Binds K fd ps []
abbrev Lets (X : Cx) (W : WX) : Prop := ∀ σ, PassesAt (L2.CX X.prog X.w) X σ (WE W σ)
def dCall (F : FF) (af : AF) : EF := fun env st => (af env st).bind fun l st1 => F l st1
theorem de_call {k : Nat} {x : Str} {ps : List Str} {F : FF} {p : Pos} (c : DCal X.prog X.w X.K X.mg X.base cl k x ps F) (hr : Room k X.A) (lt : Lets X W) (ha : DA .val X cl W (a :: es) af) (hg : Gl X x := by rfl)
    (hdb : (x == ("__debug__" : Str)) = false := by decide) (he : starEach (a :: es) X.env = (false, eval a X.env) :: starEach es X.env := by rfl) (hpl : (backTo pos (starEach es X.env)).any (·.1) = false := by rfl) :
    DE .val X cl W (.Call (.Name x p) (a :: es) [] pos) (dCall F af) := by
  obtain ⟨f, fd, Fn, hm, hk, hb⟩ := c.ex
  obtain ⟨ta, h1, h2⟩ := ha.ex
  refine ⟨_, pe_callS Fn hr hg hm hk hb lt h1 hdb he hpl, fun S α H σ env st Q p q => ?_⟩
  refine h2 S α H σ env st _ p (PostA.mk q fun l st1 vs H1 S1 α1 _ e1 w1 b1 q1 => ?_)
  refine ⟨S1, α1, st1, l, w1, b1.val, ?_⟩
  cases r : F l st1 with
  | bad => rw [r] at q1; exact q1
  | exc c fs st' => rw [r] at q1; exact q1
  | ok d st' => rw [r] at q1; exact q1
end
end DL

set_option maxHeartbeats 4000000
namespace DL
open PySem PySem.Spec PyProof.Rows L2 Bs
def PostS (G : Gm) (W : WX) (S : Addr → Prop) (α : List Addr) (O : Addr → Prop) (H : Hp) (De : Ends) (r : RS) : Prop := match r with
  | .nx env' st' => ∀ S' α' H' σ', Step S α O H S' α' (Ow σ' env') H' → Pre G S' α' H' σ' env' st' → De.nx σ' H'
  | .ret d st' => ∀ S' α' H' v, Step S α O H S' α' ØO H' → World G S' α' H' st' → Rep G S' α' H' d v → De.rt v H'
  | .brk env' st' => ∀ S' α' H' σ', Step S α O H S' α' (Ow σ' env') H' → Pre G S' α' H' σ' env' st' → De.bk σ' H'
  | .ct env' st' => ∀ S' α' H' σ', Step S α O H S' α' (Ow σ' env') H' → Pre G S' α' H' σ' env' st' → De.ct σ' H'
  | .exc c fs env' st' => ∀ S' α' H' σ' dx, Step S α O H S' α' (Ow σ' env') H' → Pre G S' α' H' σ' env' st' → ExR G S' α' H' fs dx → W (.ref (G.cl c)) dx σ' H'
  | .bad => False
def OkS (G : Gm) (W : WX) (f : SF) (t : TS) : Prop := ∀ (S : Addr → Prop) (α : List Addr) (H : Hp) (σ : Slots) (env : En) (st : Sto) (De : Ends), Pre G S α H σ env st → PostS G W S α (Ow σ env) H De (f env st) → t De σ H
structure DS (X : Cx) (cl : String → Addr) (W : WX) (s : Stmt) (f : SF) : Prop where
  ex : ∃ t, PS X s t ∧ OkS ⟨X.K, cl⟩ W f t
structure DSs (X : Cx) (cl : String → Addr) (W : WX) (s : List Stmt) (f : SF) : Prop where
  ex : ∃ t, PSs X s t ∧ OkS ⟨X.K, cl⟩ W f t
section
variable {G : Gm} {S S' S1 : Addr → Prop} {α α' α1 : List Addr} {H H' H1 : Hp} {O O' O1 : Addr → Prop} {st st' : Sto} {σ σ' : Slots} {env env' : En} {W : WX} {De : Ends} {r : RS}
theorem PostS.step (e : Step S α O H S' α' O' H') (q : PostS G W S α O H De r) : PostS G W S' α' O' H' De r := by
  cases r with
  | nx env st => exact fun S1 α1 H1 σ1 e1 p1 => q S1 α1 H1 σ1 (e.trans e1) p1
  | ret d st => exact fun S1 α1 H1 v e1 w1 r1 => q S1 α1 H1 v (e.trans e1) w1 r1
  | brk env st => exact fun S1 α1 H1 σ1 e1 p1 => q S1 α1 H1 σ1 (e.trans e1) p1
  | ct env st => exact fun S1 α1 H1 σ1 e1 p1 => q S1 α1 H1 σ1 (e.trans e1) p1
  | exc c fs env st => exact fun S1 α1 H1 σ1 dx e1 p1 x1 => q S1 α1 H1 σ1 dx (e.trans e1) p1 x1
  | bad => exact q
theorem Step.sub (e : Step S α O H S' α' O' H') (h : ∀ a, O1 a → O' a ∨ H a = none) : Step S α O H S' α' O1 H' :=
  ⟨e.s, e.al, e.keep, e.sn, e.an, fun a q => (h a q).elim (e.on a) .inr, e.live, e.tp⟩
theorem Pre.own_nS (p : Pre G S α H σ env st) {a : Addr} (h : Ow σ env a) : ¬ S a ∧ a ∉ α ∧ H a ≠ none := by
  obtain ⟨i, d, h1, h2⟩ := h
  obtain ⟨b, k1, k2, k3, k4⟩ := p.sl i _ h1
  rw [h2] at k1
  cases k1
  exact ⟨k2, k3, k4.live⟩
theorem Pre.ext (p : Pre G S α H σ env st) (e : Step S α (Ow σ env) H S' α' O' H') : Ext S α H S' α' H' := Step.ext e p.w fun a h => (p.own_nS h).1
theorem Pre.setFz (p : Pre G S α H σ env st) {i : Nat} {d : D} {v : V} (r : Rep G S α H d v) : Pre G S α H (σ.set i (some v)) (env.set i (.fz d)) st where
  w := p.w
  len := by rw [List.length_set, List.length_set]; exact p.len
  sl := fun j s h => by
    rw [List.getElem?_set] at h ⊢
    rw [p.len]
    by_cases e : i = j
    · rw [if_pos e] at h ⊢
      by_cases hl : i < env.length
      · rw [if_pos hl] at h ⊢
        cases h
        exact ⟨v, rfl, r⟩
      · rw [if_neg hl] at h; cases h
    · rw [if_neg e] at h ⊢
      exact p.sl j s h
  ap := fun j k a x y n h1 h2 h3 h4 => by
    have q1 : ∀ {m z}, (env.set i (.fz d))[m]? = some (Slot.ow z) → i ≠ m ∧ env[m]? = some (Slot.ow z) := fun {m z} h => by
      rw [List.getElem?_set] at h
      by_cases e : i = m
      · rw [if_pos e] at h; split at h <;> cases h
      · rw [if_neg e] at h; exact ⟨e, h⟩
    obtain ⟨n1, g1⟩ := q1 h1
    obtain ⟨n2, g2⟩ := q1 h2
    rw [List.getElem?_set, if_neg n1] at h3
    rw [List.getElem?_set, if_neg n2] at h4
    exact p.ap j k a x y n g1 g2 h3 h4
theorem ow_setFz {i : Nat} {d : D} {v : V} {a : Addr} (h : Ow (σ.set i (some v)) (env.set i (.fz d)) a) : Ow σ env a := by
  obtain ⟨j, x, h1, h2⟩ := h
  rw [List.getElem?_set] at h1 h2
  by_cases e : i = j
  · rw [if_pos e] at h1; split at h1 <;> cases h1
  · rw [if_neg e] at h1 h2; exact ⟨j, x, h1, h2⟩
theorem Pre.setOw (p : Pre G S α H σ env st) {i : Nat} {d : D} {b : Addr} (n1 : ¬ S b) (n2 : b ∉ α) (n3 : ¬ Ow σ env b) (r : Own G S α H b d) : Pre G S α H (σ.set i (some (.ref b))) (env.set i (.ow d)) st where
  w := p.w
  len := by rw [List.length_set, List.length_set]; exact p.len
  sl := fun j s h => by
    rw [List.getElem?_set] at h ⊢
    rw [p.len]
    by_cases e : i = j
    · rw [if_pos e] at h ⊢
      by_cases hl : i < env.length
      · rw [if_pos hl] at h ⊢
        cases h
        exact ⟨b, rfl, n1, n2, r⟩
      · rw [if_neg hl] at h; cases h
    · rw [if_neg e] at h ⊢
      exact p.sl j s h
  ap := fun j k a x y n h1 h2 h3 h4 => by
    rw [List.getElem?_set] at h1 h2 h3 h4
    by_cases e1 : i = j
    · have e2 : ¬ i = k := fun z => n (e1.symm.trans z)
      rw [if_neg e2] at h2 h4
      rw [if_pos e1] at h3
      split at h3
      · cases h3; exact n3 ⟨k, y, h2, h4⟩
      · cases h3
    · rw [if_neg e1] at h1 h3
      by_cases e2 : i = k
      · rw [if_pos e2] at h4
        split at h4
        · cases h4; exact n3 ⟨j, x, h1, h3⟩
        · cases h4
      · rw [if_neg e2] at h2 h4
        exact p.ap j k a x y n h1 h2 h3 h4
theorem ow_setOw {i : Nat} {d : D} {b a : Addr} (h : Ow (σ.set i (some (.ref b))) (env.set i (.ow d)) a) : Ow σ env a ∨ a = b := by
  obtain ⟨j, x, h1, h2⟩ := h
  rw [List.getElem?_set] at h1 h2
  by_cases e : i = j
  · rw [if_pos e] at h2
    split at h2
    · cases h2; exact .inr rfl
    · cases h2
  · rw [if_neg e] at h1 h2; exact .inl ⟨j, x, h1, h2⟩
def frz1 : Slot → Slot
  | .ow d => .fz d
  | s => s
def frzAt (i : Nat) (env : En) : En := match env[i]? with
  | some s => env.set i (frz1 s)
  | none => env
def frz : List Nat → En → En
  | [], env => env
  | i :: L, env => frz L (frzAt i env)
theorem Pre.frzOne (p : Pre G S α H σ env st) {i : Nat} {d : D} (hi : env[i]? = some (Slot.ow d)) : ∃ S', Step S α (Ow σ env) H S' α (Ow σ (env.set i (.fz d))) H ∧ Pre G S' α H σ (env.set i (.fz d)) st := by
  obtain ⟨b, k1, k2, k3, k4⟩ := p.sl i _ hi
  have hO : Ow σ env b := ⟨i, d, hi, k1⟩
  have il : i < env.length := (List.getElem?_eq_some_iff.mp hi).1
  have back : ∀ {a}, Ow σ (env.set i (.fz d)) a → Ow σ env a := fun {a} ⟨j, x, h1, h2⟩ => by
    rw [List.getElem?_set] at h1
    by_cases e : i = j
    · rw [if_pos e] at h1; split at h1 <;> cases h1
    · rw [if_neg e] at h1; exact ⟨j, x, h1, h2⟩
  refine ⟨FzS S b, ⟨fun _ h => .inl h, fun _ _ h => h, fun _ _ h _ _ _ => h, fun a h => h.elim .inl fun e => .inr (.inl (e ▸ hO)), fun _ h => .inl h, fun a h => .inl (back h), fun _ h => h, fun _ h => .inr h⟩, ?_⟩
  have x : Ext S α H (FzS S b) α H := fz_ext
  refine ⟨fz_world p.w k3 k4.live k4.soft, by rw [List.length_set]; exact p.len, fun j s h => ?_, fun j k a y z n h1 h2 h3 h4 => ?_⟩
  · rw [List.getElem?_set] at h
    by_cases e : i = j
    · rw [if_pos e, if_pos il] at h
      cases h
      rw [← e, k1]
      exact ⟨_, rfl, Own.rep (.inr rfl) (k4.mono x rfl)⟩
    · rw [if_neg e] at h
      have q := p.sl j s h
      cases s with
      | no => trivial
      | fz d' => obtain ⟨v, h1, h2⟩ := q; exact ⟨v, h1, h2.mono x _ _⟩
      | ow d' =>
        obtain ⟨a, h1, h2, h3, h4⟩ := q
        refine ⟨a, h1, fun z => z.elim h2 fun z => ?_, h3, h4.mono x rfl⟩
        subst z
        exact p.ap i j a d d' e hi h k1 h1
  · have q1 : ∀ {m w}, (env.set i (.fz d))[m]? = some (Slot.ow w) → env[m]? = some (Slot.ow w) := fun {m w} h => by
      rw [List.getElem?_set] at h
      by_cases e : i = m
      · rw [if_pos e] at h; split at h <;> cases h
      · rw [if_neg e] at h; exact h
    exact p.ap j k a y z n (q1 h1) (q1 h2) h3 h4
theorem set_same {α : Type} {l : List α} {i : Nat} {x : α} (h : l[i]? = some x) : l.set i x = l := List.ext_getElem? fun j => by
  rw [List.getElem?_set]
  by_cases e : i = j
  · rw [if_pos e, if_pos (List.getElem?_eq_some_iff.mp h).1, ← e, h]
  · rw [if_neg e]
theorem Pre.frzAt' (p : Pre G S α H σ env st) (i : Nat) : ∃ S', Step S α (Ow σ env) H S' α (Ow σ (frzAt i env)) H ∧ Pre G S' α H σ (frzAt i env) st := by
  unfold frzAt
  cases hi : env[i]? with
  | none => exact ⟨S, .refl, p⟩
  | some s =>
    cases s with
    | no => dsimp only [frz1]; rw [set_same hi]; exact ⟨S, .refl, p⟩
    | fz d => dsimp only [frz1]; rw [set_same hi]; exact ⟨S, .refl, p⟩
    | ow d => exact p.frzOne hi
theorem Pre.frzAll : ∀ (L : List Nat) {S : Addr → Prop} {env : En}, Pre G S α H σ env st → ∃ S', Step S α (Ow σ env) H S' α (Ow σ (frz L env)) H ∧ Pre G S' α H σ (frz L env) st
  | [], S, env, p => ⟨S, .refl, p⟩
  | i :: L, S, env, p => by
    obtain ⟨S1, e1, p1⟩ := p.frzAt' i
    obtain ⟨S2, e2, p2⟩ := Pre.frzAll L p1
    exact ⟨S2, e1.trans e2, p2⟩
end
def sSeq (f g : SF) : SF := fun env st => match f env st with
  | .nx env1 st1 => g env1 st1
  | r => r
def sFrz (L : List Nat) (f : SF) : SF := fun env st => f (frz L env) st
def sE (f : EF) (k : D → SF) : SF := fun env st => match f env st with
  | .ok d st1 => k d env st1
  | .exc c fs st1 => .exc c fs env st1
  | .bad => .bad
def sDrop (f : EF) : SF := sE f fun _ env st => .nx env st
def sSet (i : Nat) (f : EF) : SF := sE f fun d env st => .nx (env.set i (.fz d)) st
def sSetO (i : Nat) (f : EF) : SF := sE f fun d env st => .nx (env.set i (.ow d)) st
def sRet (f : EF) : SF := sE f fun d _ st => .ret d st
def sPass : SF := fun env st => .nx env st
def sIf (tf : TF) (f g : SF) : SF := fun env st => match tf env st with
  | .ok true st1 => f env st1
  | .ok false st1 => g env st1
  | .exc c fs st1 => .exc c fs env st1
  | .bad => .bad
section
variable {X : Cx} {cl : String → Addr} {W : WX} {e a b c : Expr} {s : Stmt} {ss sb sc : List Stmt} {f : EF} {tf : TF} {sf sg : SF} {pos : Pos} {κ : Kd}
theorem dss_nil : DSs X cl W [] sPass := ⟨_, pss_nil, fun S α H σ env st De p q => q S α H σ .refl p⟩
theorem dss_one (h : DS X cl W s sf) : DSs X cl W [s] sf := by
  obtain ⟨t, h1, h2⟩ := h.ex
  exact ⟨_, pss_one h1, h2⟩
theorem dss_cons (h : DS X cl W s sf) (k : DSs X cl W ss sg) : DSs X cl W (s :: ss) (sSeq sf sg) := by
  obtain ⟨t, h1, h2⟩ := h.ex
  obtain ⟨u, k1, k2⟩ := k.ex
  refine ⟨_, pss_cons h1 k1, fun S α H σ env st De p q => ?_⟩
  refine h2 S α H σ env st _ p ?_
  unfold sSeq at q
  cases r : sf env st with
  | nx env1 st1 =>
    rw [r] at q
    exact fun S' α' H' σ' e' p' => k2 S' α' H' σ' env1 st1 De p' (PostS.step e' q)
  | ret d st1 => rw [r] at q; exact q
  | brk env1 st1 => rw [r] at q; exact q
  | ct env1 st1 => rw [r] at q; exact q
  | exc c fs env1 st1 => rw [r] at q; exact q
  | bad => rw [r] at q; exact q
theorem ds_frz (L : List Nat) (h : DS X cl W s sf) : DS X cl W s (sFrz L sf) := by
  obtain ⟨t, h1, h2⟩ := h.ex
  refine ⟨t, h1, fun S α H σ env st De p q => ?_⟩
  obtain ⟨S', e', p'⟩ := p.frzAll L
  exact h2 S' α H σ (frz L env) st De p' (PostS.step e' q)
theorem sE_core {t : TE} {k : D → SF} {De : Ends} {G : Gm} {S : Addr → Prop} {α : List Addr} {H : Hp} {σ : Slots} {env : En} {st : Sto} {Q : VK} (h : OkE κ G W f t) (p : Pre G S α H σ env st) (q : PostS G W S α (Ow σ env) H De (sE f k env st))
    (hk : ∀ d st1 v S1 α1 H1, f env st = .ok d st1 → StepE S α H S1 α1 H1 → Pre G S1 α1 H1 σ env st1 → KRep κ G H S1 α1 H1 d v → PostS G W S1 α1 (Ow σ env) H1 De (k d env st1) → Q v H1) : t σ H Q := by
  refine h S α H σ env st Q p ?_
  unfold sE at q
  cases r : f env st with
  | bad => rw [r] at q; exact q
  | exc c fs st1 =>
    rw [r] at q
    rintro dx H1 ⟨S1, α1, e1, w1, x1⟩
    exact q S1 α1 H1 σ dx (Step.lift e1) (p.step e1 w1) x1
  | ok d st1 =>
    rw [r] at q
    rintro v H1 ⟨S1, α1, e1, w1, r1⟩
    exact hk d st1 v S1 α1 H1 r e1 (p.step e1 w1) r1 (PostS.step (Step.lift e1) q)
theorem ds_drop (h : DE κ X cl W e f) (hs : swapsWith e none pos.line X.env = pure false := by rfl) : DS X cl W (.Expr e pos) (sDrop f) := by
  obtain ⟨t, h1, h2⟩ := h.ex
  refine ⟨_, ps_expr h1 hs, fun S α H σ env st De p q => ?_⟩
  exact sE_core (k := fun _ env st => .nx env st) h2 p q fun d st1 v S1 α1 H1 _ e1 p1 r1 q1 => q1 S1 α1 H1 σ .refl p1
theorem ds_ret (h : DE .val X cl W e f) : DS X cl W (.Return (some e) pos) (sRet f) := by
  obtain ⟨t, h1, h2⟩ := h.ex
  refine ⟨_, ps_ret h1, fun S α H σ env st De p q => ?_⟩
  exact sE_core (k := fun d _ st => .ret d st) h2 p q fun d st1 v S1 α1 H1 _ e1 p1 r1 q1 => q1 S1 α1 H1 v (Step.sub .refl fun _ h => h.elim) p1.w r1
theorem ds_set {i : Nat} (hp : ∀ te, PE X e te → PS X s (tAsg te (gName i))) (h : DE .val X cl W e f) : DS X cl W s (sSet i f) := by
  obtain ⟨t, h1, h2⟩ := h.ex
  refine ⟨_, hp t h1, fun S α H σ env st De p q => ?_⟩
  exact sE_core (k := fun d env st => .nx (env.set i (.fz d)) st) h2 p q fun d st1 v S1 α1 H1 _ e1 p1 r1 q1 => q1 S1 α1 H1 _ (Step.sub .refl fun a h => .inl (ow_setFz h)) (p1.setFz r1)
theorem ds_setO {i : Nat} (hp : ∀ te, PE X e te → PS X s (tAsg te (gName i))) (h : DE .fresh X cl W e f) : DS X cl W s (sSetO i f) := by
  obtain ⟨t, h1, h2⟩ := h.ex
  refine ⟨_, hp t h1, fun S α H σ env st De p q => ?_⟩
  refine h2 S α H σ env st _ p ?_
  unfold sSetO sE at q
  cases r : f env st with
  | bad => rw [r] at q; exact q
  | exc c fs st1 =>
    rw [r] at q
    rintro dx H1 ⟨S1, α1, e1, w1, x1⟩
    exact q S1 α1 H1 σ dx (Step.lift e1) (p.step e1 w1) x1
  | ok d st1 =>
    rw [r] at q
    rintro v H1 ⟨S1, α1, e1, w1, b, rfl, n1, n2, n3, ow⟩
    have p1 := p.step e1 w1
    refine q S1 α1 H1 _ (Step.sub (Step.lift e1) fun a h => ?_) (p1.setOw n1 n2 (fun h => (p.own_nS h).2.2 n3) ow)
    rcases ow_setOw h with h | rfl
    · exact .inl h
    · exact .inr n3
theorem ds_if (hc : DT X cl W c tf) (ha : DSs X cl W sb sf) (hb : DSs X cl W sc sg) : DS X cl W (.If c sb sc pos) (sIf tf sf sg) := by
  obtain ⟨tc, h1, h2⟩ := hc.ex
  obtain ⟨ta, k1, k2⟩ := ha.ex
  obtain ⟨tb, j1, j2⟩ := hb.ex
  refine ⟨_, ps_if h1 k1 j1, fun S α H σ env st De p q => ?_⟩
  refine h2 S α H σ env st _ p ?_
  unfold sIf at q
  cases r : tf env st with
  | bad => rw [r] at q; exact q
  | exc c fs st1 =>
    rw [r] at q
    rintro dx H1 ⟨S1, α1, e1, w1, x1⟩
    exact q S1 α1 H1 σ dx (Step.lift e1) (p.step e1 w1) x1
  | ok b st1 =>
    rw [r] at q
    rintro H1 ⟨S1, α1, e1, w1⟩
    cases b with
    | true => exact iteT (k2 S1 α1 H1 σ env st1 De (p.step e1 w1) (PostS.step (Step.lift e1) q))
    | false => exact iteF (j2 S1 α1 H1 σ env st1 De (p.step e1 w1) (PostS.step (Step.lift e1) q))
abbrev GF := D → En → Option En
def Out (T : List Nat) (σ σ' : Slots) : Prop := σ'.length = σ.length ∧ ∀ j, j ∉ T → σ'[j]? = σ[j]?
def OkG (G : Gm) (T : List Nat) (g : GF) (t : TG) : Prop := ∀ (S : Addr → Prop) (α : List Addr) (H : Hp) (σ : Slots) (env : En) (st : Sto) (d : D) (v : V) (Q : Slots → Hp → Prop), Pre G S α H σ env st → Rep G S α H d v →
  (match g d env with
    | some env' => ∀ σ', Pre G S α H σ' env' st → (∀ a, Ow σ' env' a → Ow σ env a) → Out T σ σ' → Q σ' H
    | none => False) → t v σ H Q
structure DG (X : Cx) (cl : String → Addr) (T : List Nat) (tg : Expr) (g : GF) : Prop where
  ex : ∃ t, PG X tg t ∧ OkG ⟨X.K, cl⟩ T g t
def OkGs (G : Gm) (T : List Nat) (g : List D → En → Option En) (t : TGs) : Prop := ∀ (S : Addr → Prop) (α : List Addr) (H : Hp) (σ : Slots) (env : En) (st : Sto) (l : List D) (vs : List V) (Q : Slots → Hp → Prop), Pre G S α H σ env st → RepL G S α H l vs →
  (match g l env with
    | some env' => ∀ σ', Pre G S α H σ' env' st → (∀ a, Ow σ' env' a → Ow σ env a) → Out T σ σ' → Q σ' H
    | none => False) → t vs σ H Q
structure DGs (X : Cx) (cl : String → Addr) (T : List Nat) (tgs : List Expr) (g : List D → En → Option En) : Prop where
  ex : ∃ t, PGs X tgs t ∧ OkGs ⟨X.K, cl⟩ T g t
def tgName (i : Nat) : GF := fun d env => some (env.set i (.fz d))
def tgNil : List D → En → Option En := fun l env => match l with
  | [] => some env
  | _ => none
def tgCons (g : GF) (h : List D → En → Option En) : List D → En → Option En := fun l env => match l with
  | d :: r => (g d env).bind (h r)
  | [] => none
def tgTup (h : List D → En → Option En) : GF := fun d env => match d with
  | .tup l => h l env
  | _ => none
theorem dg_name {i : Nat} {tg : Expr} (h : PG X tg (gName i)) : DG X cl [i] tg (tgName i) := ⟨_, h, fun S α H σ env st d v Q p r q => q _ (p.setFz r) (fun a h => ow_setFz h) ⟨List.length_set .., fun j hj => by rw [List.getElem?_set, if_neg (fun z => hj (by simp [z]))]⟩⟩
theorem dgs_nil : DGs X cl [] [] tgNil := ⟨_, pgs_nil, fun S α H σ env st l vs Q p r q => by
  unfold tgNil at q
  split at q
  · rename_i env' e
    split at e
    · cases e; exact ⟨r, q σ p (fun _ h => h) ⟨rfl, fun _ _ => rfl⟩⟩
    · cases e
  · exact q.elim⟩
theorem dgs_cons {tg : Expr} {tgs : List Expr} {T1 T2 : List Nat} {g : GF} {h : List D → En → Option En} (a1 : DG X cl T1 tg g) (a2 : DGs X cl T2 tgs h) (hs : (assignEach (tg :: tgs) X.env).map (·.2) = assign tg X.env :: (assignEach tgs X.env).map (·.2) := by rfl) : DGs X cl (T1 ++ T2) (tg :: tgs) (tgCons g h) := by
  obtain ⟨t, h1, h2⟩ := a1.ex
  obtain ⟨u, k1, k2⟩ := a2.ex
  refine ⟨_, pgs_cons h1 k1 hs, fun S α H σ env st l vs Q p r q => ?_⟩
  cases l with
  | nil => exact q.elim
  | cons d l =>
    obtain ⟨v, r', rfl, r1, r2⟩ := r
    refine ⟨v, r', rfl, h2 S α H σ env st d v _ p r1 ?_⟩
    unfold tgCons at q
    dsimp only at q
    cases e : g d env with
    | none => rw [e] at q; exact q
    | some env1 =>
      rw [e] at q
      exact fun σ1 p1 o1 u1 => k2 S α H σ1 env1 st l r' Q p1 r2 (by
        rw [Option.bind_some] at q
        cases e2 : h l env1 with
        | none => rw [e2] at q; exact q
        | some env2 => rw [e2] at q; exact fun σ2 p2 o2 u2 => q σ2 p2 (fun a z => o1 a (o2 a z)) ⟨u2.1.trans u1.1, fun j hj => (u2.2 j fun z => hj (List.mem_append_right _ z)).trans (u1.2 j fun z => hj (List.mem_append_left _ z))⟩)
theorem dg_tup {tgs : List Expr} {k n : Nat} {T : List Nat} {h : List D → En → Option En} (hc : X.calm = true) (a : DGs X cl T tgs h) (hl : ∀ l env env', h l env = some env' → l.length = n) (hn : (assignEach tgs X.env).length = n := by rfl) (hst : (assignEach tgs X.env).findIdx? (·.1) = none := by rfl) : DG X cl T (.Tuple tgs k pos) (tgTup h) := by
  obtain ⟨t, h1, h2⟩ := a.ex
  refine ⟨_, pg_tup hc h1 hn hst, fun S α H σ env st d v Q p r q => ?_⟩
  unfold tgTup at q
  cases d with
  | tup l =>
    obtain ⟨b, xs, rfl, sb, hb, hr⟩ := r
    dsimp only at q
    cases e : h l env with
    | none => rw [e] at q; exact q.elim
    | some env' => exact ⟨b, xs, rfl, SqT.of hb, by rw [hr.len]; exact hl l env env' e, h2 S α H σ env st l xs Q p hr q⟩
  | _ => exact q.elim
theorem tgNil_len {l : List D} {env env' : En} (h : tgNil l env = some env') : l.length = 0 := by
  unfold tgNil at h
  split at h
  · rfl
  · cases h
theorem tgCons_len {g : GF} {h : List D → En → Option En} {n : Nat} (hl : ∀ l env env', h l env = some env' → l.length = n) {l : List D} {env env' : En} (q : tgCons g h l env = some env') : l.length = n + 1 := by
  unfold tgCons at q
  split at q
  · rename_i d r
    cases e : g d env with
    | none => rw [e] at q; cases q
    | some env1 => rw [e] at q; rw [List.length_cons, hl r env1 env' q]
  · cases q
def sAsg (f : EF) (g : GF) : SF := sE f fun d env st => match g d env with
  | some env' => .nx env' st
  | none => .bad
theorem ds_asg {tg : Expr} {T : List Nat} {g : GF} (h : DE .val X cl W e f) (hg : DG X cl T tg g) (hs : swapsWithSole [tg] e pos.line X.env = pure false := by rfl) (hw : swappedStores [tg] e X.env = pure none := by rfl)
    (ha : (assignEach [tg] X.env).map (·.2) = [assign tg X.env] := by rfl) : DS X cl W (.Assign [tg] e pos) (sAsg f g) := by
  obtain ⟨t, h1, h2⟩ := h.ex
  obtain ⟨u, k1, k2⟩ := hg.ex
  refine ⟨_, ps_asg h1 k1 hs hw ha, fun S α H σ env st De p q => ?_⟩
  refine sE_core (k := fun d env st => match g d env with | some env' => .nx env' st | none => .bad) h2 p q fun d st1 v S1 α1 H1 _ e1 p1 r1 q1 => ?_
  refine k2 S1 α1 H1 σ env st1 d v _ p1 r1 ?_
  cases e' : g d env with
  | none => rw [e'] at q1; exact q1
  | some env' =>
    rw [e'] at q1
    exact fun σ' p' o' _ => q1 S1 α1 H1 σ' (Step.sub .refl fun a z => .inl (o' a z)) p'
end
end DL

set_option maxHeartbeats 4000000
namespace DL
open PySem PySem.Spec PyProof.Rows L2 Bs
def ItOk (G : Gm) (S : Addr → Prop) (α : List Addr) (H : Hp) (J : It) (ds : List D) : Prop := ∀ (S' : Addr → Prop) (α' : List Addr) (H' : Hp) (st' : Sto), Ext S α H S' α' H' → World G S' α' H' st' →
  (∀ (i : Nat) (d : D), ds[i]? = some d → J.go i H' ∧ ∀ x H'', J.yld i H' x H'' → Got .val G S' α' H' d st' x H'') ∧ J.stop ds.length H'
abbrev IF := En → Sto → R (List D)
def PostI (G : Gm) (W : WX) (S : Addr → Prop) (α : List Addr) (H : Hp) (σ : Slots) (r : R (List D)) (Q : It → Hp → Prop) : Prop := match r with
  | .ok ds st' => ∀ J H1 S1 α1, StepE S α H S1 α1 H1 → World G S1 α1 H1 st' → ItOk G S1 α1 H1 J ds → Q J H1
  | .exc c fs st' => ∀ dx H1, GotX G S α ØO H fs st' dx H1 → W (.ref (G.cl c)) dx σ H1
  | .bad => False
def OkI (G : Gm) (W : WX) (f : IF) (t : TI) : Prop := ∀ (S : Addr → Prop) (α : List Addr) (H : Hp) (σ : Slots) (env : En) (st : Sto) (Q : It → Hp → Prop), Pre G S α H σ env st → PostI G W S α H σ (f env st) Q → t σ H Q
structure DI (X : Cx) (cl : String → Addr) (W : WX) (tg e : Expr) (f : IF) : Prop where
  ex : ∃ t, PI X tg e t ∧ OkI ⟨X.K, cl⟩ W f t
section
variable {X : Cx} {cl : String → Addr} {W : WX} {e a b c tg : Expr} {s : Stmt} {ss sb sc : List Stmt} {f fa : EF} {fi : IF} {tf : TF} {sf sg : SF} {pos : Pos} {κ : Kd} {g : GF} {af : AF}
theorem pi_or {l : Expr} {i1 i2 : TI} (a : PI X tg l i1) (b : PI X tg l i2) : PI X tg l (fun σ H R => i1 σ H R ∨ i2 σ H R) :=
  ⟨fun pins s σ H R I h => h.elim (a.run pins s σ H R I) (b.run pins s σ H R I)⟩
theorem it_walk {G : Gm} {S : Addr → Prop} {α : List Addr} {H : Hp} {J : It} {n : Nat} {GG : Hp → Prop} {Y : Nat → Hp → V → Hp → Prop} {ds : List D} (w : Walk J n GG Y) (hn : n = ds.length)
    (hG : ∀ S' α' H', Ext S α H S' α' H' → GG H') (hY : ∀ S' α' H' st' i d x H'', Ext S α H S' α' H' → World G S' α' H' st' → ds[i]? = some d → Y i H' x H'' → Got .val G S' α' H' d st' x H'') : ItOk G S α H J ds := by
  intro S' α' H' st' e1 w1
  refine ⟨fun i d hd => ⟨?_, fun x H'' y => ?_⟩, ?_⟩
  · have hi := (List.getElem?_eq_some_iff.mp hd).1
    exact w.goes i H' (by omega) (hG S' α' H' e1)
  · have hi := (List.getElem?_eq_some_iff.mp hd).1
    exact hY S' α' H' st' i d x H'' e1 w1 hd (w.yields i H' x H'' (by omega) (hG S' α' H' e1) y)
  · rw [← hn]; exact w.stops H' (hG S' α' H' e1)
def iSeq (f : EF) : IF := fun env st => (f env st).bind fun d st1 => match items d with
  | some l => .ok l st1
  | none => .bad
theorem di_seq (h : DE .val X cl W e f) : DI X cl W tg e (iSeq f) := by
  obtain ⟨t, h1, h2⟩ := h.ex
  refine ⟨_, PI.mk (wi := fun σ H R => t σ H fun x H1 => (∃ a, x = .ref a ∧ (∃ xs, SqL X.K H1 a xs) ∧ R (Itl X.K a) H1) ∨ (∃ a, x = .ref a ∧ (∃ xs, SqT X.K H1 a xs) ∧ R (Itt X.K a) H1)) ?_, fun S α H σ env st Q p q => ?_⟩
  · intro pins s σ H R I hh
    have two : ∀ {x : V} {v : Value} {s1 : Shared} {H1 : Hp}, Inv X pins σ H1 s1 → RelV x v → ((∃ a, x = .ref a ∧ (∃ xs, SqL X.K H1 a xs) ∧ R (Itl X.K a) H1) ∨ (∃ a, x = .ref a ∧ (∃ xs, SqT X.K H1 a xs) ∧ R (Itt X.K a) H1)) → wpAny (model X.prog X.w) X.A (pyIter v) (PIE X pins σ tg R) X.xe s1 := by
      intro x v s1 H1 I1 r1 q1
      rcases q1 with ⟨a, rfl, ⟨xs, hq⟩, q⟩ | ⟨a, rfl, ⟨xs, hq⟩, q⟩
      · cases r1
        obtain ⟨its, rv, p, hz⟩ := I1.list hq
        refine wpAny_pyIter_list p.isList ?_
        refine ⟨s1.heap.objs.size, [s1.heap.objs.size], _, _, H1, rfl, I1.kept (t' := s1.toks) fun b o e => Heap.get?_push_of_some _ e, turn_list a _, ⟨_, Heap.get?_push_size _ rfl, rfl, rfl⟩, fun b hb => ?_, q⟩
        have e : b = s1.heap.objs.size := by simpa using hb
        subst e
        exact I1.fpOk (Nat.le_refl _) (I1.hok.fresh (Nat.le_refl _))
      · cases r1
        obtain ⟨its, rv, p, hz⟩ := I1.tuple hq
        refine wpAny_pyIter_tuple (show s1.heap.IsTuple a its.toArray from p) ?_
        refine ⟨s1.heap.objs.size, [s1.heap.objs.size], _, _, H1, rfl, I1.kept (t' := s1.toks) fun b o e => Heap.get?_push_of_some _ e, turn_tuple a _, ⟨_, Heap.get?_push_size _ rfl, rfl, rfl⟩, fun b hb => ?_, q⟩
        have e : b = s1.heap.objs.size := by simpa using hb
        subst e
        exact I1.fpOk (Nat.le_refl _) (I1.hok.fresh (Nat.le_refl _))
    exact thn (h1.run pins s σ H _ I hh) fun v s1 ⟨x, H1, I1, r1, q1⟩ => two I1 r1 q1
  · refine h2 S α H σ env st _ p ?_
    unfold iSeq at q
    cases r : f env st with
    | bad => rw [r] at q; exact q
    | exc c fs st1 => rw [r] at q; exact q
    | ok d st1 =>
      rw [r] at q
      rintro v H1 ⟨S1, α1, e1, w1, r1⟩
      replace q : PostI _ W S α H σ (match items d with | some l => R.ok l st1 | none => R.bad) Q := q
      cases hl : items d with
      | none => rw [hl] at q; exact q.elim
      | some l =>
        rw [hl] at q
        have YL : ∀ {xs : List V}, RepL ⟨X.K, cl⟩ S1 α1 H1 l xs → ∀ S' α' H' st' i d x H'', Ext S1 α1 H1 S' α' H' → World ⟨X.K, cl⟩ S' α' H' st' → l[i]? = some d → YAt xs i H' x H'' → Got .val ⟨X.K, cl⟩ S' α' H' d st' x H'' := fun {xs} hr S' α' H' st' i d x H'' e2 w2 hd y => by
          obtain ⟨rfl, hx⟩ := y
          obtain ⟨v, hv, rv⟩ := (hr.mono e2).get hd
          rw [hx] at hv
          cases hv
          exact got_refl w2 rv
        have fin : ∀ {J : It}, ItOk ⟨X.K, cl⟩ S1 α1 H1 J l → Q J H1 := fun {J} ok => q J H1 S1 α1 e1 w1 ok
        cases d with
        | lst m =>
          cases hl
          obtain ⟨b, xs, rfl, sb, hb, hr⟩ := r1
          exact .inl ⟨b, rfl, ⟨xs, SqL.of hb⟩, fin (it_walk walk_list hr.len (fun S' α' H' e2 => SqL.of ((e2.eq b sb).trans hb)) (YL hr))⟩
        | tup m =>
          cases hl
          obtain ⟨b, xs, rfl, sb, hb, hr⟩ := r1
          exact .inr ⟨b, rfl, ⟨xs, SqT.of hb⟩, fin (it_walk walk_tup hr.len (fun S' α' H' e2 => SqT.of ((e2.eq b sb).trans hb)) (YL hr))⟩
        | rdl m =>
          cases hl
          obtain ⟨b, xs, rfl, hb, hr⟩ := r1
          exact .inl ⟨b, rfl, ⟨xs, hb.1⟩, fin (it_walk walk_list hr.len (fun S' α' H' e2 => (e2.holdL hb).1) (YL hr))⟩
        | _ => cases hl
def rgD (lo : Int) (n : Nat) : List D := (List.range n).map fun i => .int (lo + (i : Nat))
theorem rgD_len (lo : Int) (n : Nat) : (rgD lo n).length = n := by unfold rgD; rw [List.length_map, List.length_range]
theorem rgD_get {lo : Int} {n i : Nat} {d : D} (h : (rgD lo n)[i]? = some d) : i < n ∧ d = .int (lo + (i : Nat)) := by
  unfold rgD at h
  rw [List.getElem?_map] at h
  cases e : (List.range n)[i]? with
  | none => rw [e] at h; cases h
  | some j =>
    rw [e] at h
    cases h
    have := List.getElem?_eq_some_iff.mp e
    obtain ⟨h1, h2⟩ := this
    rw [List.getElem_range] at h2
    rw [List.length_range] at h1
    exact ⟨h1, by rw [h2]⟩
def sm62 (k : Int) : Bool := decide (-(2 ^ 62) ≤ k) && decide (k < 2 ^ 62)
def iRange1 (af : AF) : IF := fun env st => (af env st).bind fun l st1 => match l with
  | [.int j] => if sm62 j then .ok (rgD 0 j.toNat) st1 else .bad
  | _ => .bad
def iRange2 (af : AF) : IF := fun env st => (af env st).bind fun l st1 => match l with
  | [.int i, .int j] => if sm62 i && sm62 j then .ok (rgD i (j - i).toNat) st1 else .bad
  | _ => .bad
theorem it_range {G : Gm} {S : Addr → Prop} {α : List Addr} {H : Hp} {lo : Int} {n : Nat} : ItOk G S α H (Itr lo n) (rgD lo n) :=
  it_walk walk_range (rgD_len lo n).symm (fun _ _ _ _ => trivial) fun S' α' H' st' i d x H'' e2 w2 hd y => by
    obtain ⟨rfl, rfl⟩ := y
    rw [(rgD_get hd).2]
    exact got_refl w2 rfl
theorem PostA.mkI {κ : Kd} {G : Gm} {S : Addr → Prop} {α : List Addr} {H : Hp} {σ : Slots} {Q : It → Hp → Prop} {r1 : R (List D)} {k : List D → Sto → R (List D)} (q : PostI G W S α H σ (r1.bind k) Q)
    {Q' : List V → Hp → Prop} (h : ∀ l st1 vs H1 S1 α1, r1 = .ok l st1 → StepE S α H S1 α1 H1 → World G S1 α1 H1 st1 → KRepL κ G H S1 α1 H1 l vs → PostI G W S α H σ (k l st1) Q → Q' vs H1) : PostA κ G W S α H σ r1 Q' := by
  cases r1 with
  | bad => exact q
  | exc c fs st' => exact q
  | ok l st1 => exact fun vs H1 ⟨S1, α1, e1, w1, b1⟩ => h l st1 vs H1 S1 α1 rfl e1 w1 b1 q
theorem di_range1 {es : List Expr} (hp : ∀ ta, PA X es ta → PI X tg e (iRng1 ta)) (ha : DA .val X cl W es af) : DI X cl W tg e (iRange1 af) := by
  obtain ⟨t, h1, h2⟩ := ha.ex
  refine ⟨_, hp t h1, fun S α H σ env st Q p q => ?_⟩
  refine h2 S α H σ env st _ p (PostA.mkI q fun l st1 vs H1 S1 α1 hr0 e1 w1 b1 q1 => ?_)
  split at q1
  · split at q1
    · rename_i j hj
      obtain ⟨v, r, rfl, rv, er⟩ := b1.val
      unfold sm62 at hj
      simp only [Bool.and_eq_true, decide_eq_true_eq] at hj
      rw [show r = [] from er, show v = V.int j from rv]
      exact ⟨j, rfl, hj.1, hj.2, q1 _ _ S1 α1 e1 w1 it_range⟩
    · exact q1.elim
  · exact q1.elim
theorem di_range2 {es : List Expr} (hp : ∀ ta, PA X es ta → PI X tg e (iRng2 ta)) (ha : DA .val X cl W es af) : DI X cl W tg e (iRange2 af) := by
  obtain ⟨t, h1, h2⟩ := ha.ex
  refine ⟨_, hp t h1, fun S α H σ env st Q p q => ?_⟩
  refine h2 S α H σ env st _ p (PostA.mkI q fun l st1 vs H1 S1 α1 hr0 e1 w1 b1 q1 => ?_)
  split at q1
  · split at q1
    · rename_i i j hj
      obtain ⟨v, r, rfl, rv, u, r2, rfl, ru, er⟩ := b1.val
      unfold sm62 at hj
      simp only [Bool.and_eq_true, decide_eq_true_eq] at hj
      rw [show r2 = [] from er, show v = V.int i from rv, show u = V.int j from ru]
      exact ⟨i, j, rfl, ⟨hj.1.1, hj.1.2, hj.2.1, hj.2.2⟩, q1 _ _ S1 α1 e1 w1 it_range⟩
    · exact q1.elim
  · exact q1.elim
theorem got_pair {G : Gm} {S : Addr → Prop} {α : List Addr} {H : Hp} {st : Sto} {T : Addr} {x y : D} {vx vy : V} (hT : H T = none) (w : World G S α H st) (rx : Rep G S α H x vx) (ry : Rep G S α H y vy) : Got .val G S α H (.tup [x, y]) st (.ref T) (upd H T (.tup [vx, vy])) :=
  got_tup hT w ⟨vx, [vy], rfl, rx, .one ry⟩
def enumD (l : List D) : List D := l.mapIdx fun i d => .tup [.int (i : Nat), d]
theorem enumD_get {l : List D} {i : Nat} {d : D} (h : (enumD l)[i]? = some d) : ∃ x, l[i]? = some x ∧ d = .tup [.int (i : Nat), x] := by
  unfold enumD at h
  rw [List.getElem?_mapIdx] at h
  cases e : l[i]? with
  | none => rw [e] at h; cases h
  | some x => rw [e] at h; cases h; exact ⟨x, rfl, rfl⟩
theorem enumD_len (l : List D) : (enumD l).length = l.length := List.length_mapIdx ..
def iEnumA (af : AF) : IF := fun env st => (af env st).bind fun l st1 => match l with
  | [d] => match items d with
    | some m => .ok (enumD m) st1
    | none => .bad
  | _ => .bad
theorem di_enum {es : List Expr} (hp : ∀ ta, PA X es ta → PI X tg e (iEnum X.K ta)) (hp2 : ∀ ta, PA X es ta → PI X tg e (iEnumT X.K ta)) (ha : DA .val X cl W es af) : DI X cl W tg e (iEnumA af) := by
  obtain ⟨t, h1, h2⟩ := ha.ex
  refine ⟨_, pi_or (hp t h1) (hp2 t h1), fun S α H σ env st Q p q => ?_⟩
  have key : ∀ (d : D) (m : List D) (st1 : Sto), af env st = .ok [d] st1 → items d = some m → iEnum X.K t σ H Q ∨ iEnumT X.K t σ H Q := fun d m st1 r hm => by
    unfold iEnumA at q
    rw [r] at q
    replace q : PostI _ W S α H σ (match items d with | some m => R.ok (enumD m) st1 | none => R.bad) Q := q
    rw [hm] at q
    have PA' : ∀ {Q' : List V → Hp → Prop}, (∀ vs H1 S1 α1, StepE S α H S1 α1 H1 → World ⟨X.K, cl⟩ S1 α1 H1 st1 → KRepL .val ⟨X.K, cl⟩ H S1 α1 H1 [d] vs → Q' vs H1) → PostA .val ⟨X.K, cl⟩ W S α H σ (af env st) Q' := fun {Q'} h => by
      rw [r]
      exact fun vs H1 ⟨S1, α1, e1, w1, b1⟩ => h vs H1 S1 α1 e1 w1 b1
    have YE : ∀ {xs : List V} {S1 : Addr → Prop} {α1 : List Addr} {H1 : Hp}, RepL ⟨X.K, cl⟩ S1 α1 H1 m xs → ∀ S' α' H' st' i d x H'', Ext S1 α1 H1 S' α' H' → World ⟨X.K, cl⟩ S' α' H' st' → (enumD m)[i]? = some d → YPair (fun i => some (.int (i : Nat))) (fun i => xs[i]?) i H' x H'' → Got .val ⟨X.K, cl⟩ S' α' H' d st' x H'' := fun {xs S1 α1 H1} hr S' α' H' st' i d x H'' e2 w2 hd y => by
      obtain ⟨T, u, v, rfl, hT, rfl, hu, hv⟩ := y
      obtain ⟨z, hz, rfl⟩ := enumD_get hd
      cases hu
      obtain ⟨v', hv', rv⟩ := (hr.mono e2).get hz
      replace hv : xs[i]? = some v := hv
      rw [hv] at hv'
      cases hv'
      exact got_pair hT w2 rfl rv
    cases d with
    | lst m' =>
      cases hm
      refine .inl (h2 S α H σ env st _ p (PA' fun vs H1 S1 α1 e1 w1 b1 => ?_))
      obtain ⟨v, r', rfl, ⟨b, xs, rfl, sb, hb, hr⟩, er⟩ := b1.val
      rw [show r' = [] from er]
      exact ⟨b, xs, rfl, SqL.of hb, q _ H1 S1 α1 e1 w1 (it_walk walk_enum (by rw [enumD_len]; exact hr.len) (fun S' α' H' e2 => SqL.of ((e2.eq b sb).trans hb)) (YE hr))⟩
    | rdl m' =>
      cases hm
      refine .inl (h2 S α H σ env st _ p (PA' fun vs H1 S1 α1 e1 w1 b1 => ?_))
      obtain ⟨v, r', rfl, ⟨b, xs, rfl, hb, hr⟩, er⟩ := b1.val
      rw [show r' = [] from er]
      exact ⟨b, xs, rfl, hb.1, q _ H1 S1 α1 e1 w1 (it_walk walk_enum (by rw [enumD_len]; exact hr.len) (fun S' α' H' e2 => (e2.holdL hb).1) (YE hr))⟩
    | tup m' =>
      cases hm
      refine .inr (h2 S α H σ env st _ p (PA' fun vs H1 S1 α1 e1 w1 b1 => ?_))
      obtain ⟨v, r', rfl, ⟨b, xs, rfl, sb, hb, hr⟩, er⟩ := b1.val
      rw [show r' = [] from er]
      have wk : Walk (IteT X.K b) xs.length (fun H => SqT X.K H b xs) (YPair (fun i => some (.int (i : Nat))) (fun i => xs[i]?)) := by
        refine ⟨fun i _ hi q => ⟨xs, xs[i], q, by simp [hi]⟩, fun _ q => ⟨xs, q, Nat.le_refl _⟩, fun i H v H' _ q y => ?_⟩
        obtain ⟨T, x, h1, h2, h3, h4⟩ := y
        exact ⟨T, .int (i : Nat), x, h1, h2, h3, rfl, h4 xs q⟩
      exact ⟨b, xs, rfl, SqT.of hb, q _ H1 S1 α1 e1 w1 (it_walk wk (by rw [enumD_len]; exact hr.len) (fun S' α' H' e2 => SqT.of ((e2.eq b sb).trans hb)) (YE hr))⟩
    | _ => cases hm
  unfold iEnumA at q
  cases r : af env st with
  | bad =>
    rw [r] at q
    exact q.elim
  | exc c fs st1 =>
    refine .inl (h2 S α H σ env st _ p ?_)
    rw [r] at q ⊢
    exact q
  | ok l st1 =>
    rw [r] at q
    cases l with
    | nil => exact q.elim
    | cons d l =>
      cases l with
      | cons _ _ => exact q.elim
      | nil =>
        cases hm : items d with
        | none =>
          replace q : PostI _ W S α H σ (match items d with | some m => R.ok (enumD m) st1 | none => R.bad) Q := q
          rw [hm] at q
          exact q.elim
        | some m => exact key d m st1 r hm
def sForL (g : GF) (body : SF) : List D → SF
  | [], env, st => .nx env st
  | d :: ds, env, st => match g d env with
    | none => .bad
    | some env1 => match body env1 st with
      | .nx env2 st2 => sForL g body ds env2 st2
      | .ct env2 st2 => sForL g body ds env2 st2
      | .brk env2 st2 => .nx env2 st2
      | r => r
def sFor (fi : IF) (g : GF) (body : SF) : SF := fun env st => match fi env st with
  | .ok ds st1 => sForL g body ds env st1
  | .exc c fs st1 => .exc c fs env st1
  | .bad => .bad
theorem ds_for {T : List Nat} (hp : PassesOwn (model X.prog X.w) X.A X.env X.xe) (hc : X.calm = true) (hi : DI X cl W tg e fi) (hg : DG X cl T tg g) (hb : DSs X cl W sb sf) (hs : ∀ x, foldedSetIterable e X.env x = pure x := by intro _; rfl) :
    DS X cl W (.For tg e sb [] pos) (sFor fi g sf) := by
  obtain ⟨wi, i1, i2⟩ := hi.ex
  obtain ⟨tg', g1, g2⟩ := hg.ex
  obtain ⟨tb, b1, b2⟩ := hb.ex
  refine ⟨_, ps_for hp hc i1 g1 b1 hs, fun S α H σ env st De p q => ?_⟩
  refine i2 S α H σ env st _ p ?_
  unfold sFor at q
  cases r : fi env st with
  | bad => rw [r] at q; exact q
  | exc c fs st1 =>
    rw [r] at q
    rintro dx H1 ⟨S1, α1, e1, w1, x1⟩
    exact q S1 α1 H1 σ dx (Step.lift e1) (p.step e1 w1) x1
  | ok ds st1 =>
    rw [r] at q
    intro J H1 S1 α1 e1 w1 ok
    have p1 := p.step e1 w1
    have q1 := PostS.step (Step.lift e1) q
    refine ⟨fun i m σ' H' => m = ds.length - i ∧ i ≤ ds.length ∧ ∃ S' α' env' st', Step S1 α1 (Ow σ env) H1 S' α' (Ow σ' env') H' ∧ Pre ⟨X.K, cl⟩ S' α' H' σ' env' st' ∧ PostS ⟨X.K, cl⟩ W S' α' (Ow σ' env') H' De (sForL g sf (ds.drop i) env' st'), ⟨ds.length, by simp, Nat.zero_le _, S1, α1, env, st1, .refl, p1, q1⟩, ?_⟩
    rintro i m σ' H' ⟨rfl, hle, S', α', env', st', e2, p2, q2⟩
    have okx := ok S' α' H' st' (p1.ext e2) p2.w
    by_cases hlt : i < ds.length
    · have hd : ds[i]? = some ds[i] := List.getElem?_eq_getElem hlt
      obtain ⟨go, yl⟩ := okx.1 i ds[i] hd
      refine .inr ⟨go, fun σ3 H3 => ∃ S' α' env' st', Step S1 α1 (Ow σ env) H1 S' α' (Ow σ3 env') H3 ∧ Pre ⟨X.K, cl⟩ S' α' H3 σ3 env' st' ∧ PostS ⟨X.K, cl⟩ W S' α' (Ow σ3 env') H3 De (sForL g sf (ds.drop (i + 1)) env' st'), fun σ3 H3 h => ⟨ds.length - (i + 1), by omega, rfl, hlt, h⟩, fun x H3 y => ?_⟩
      obtain ⟨S3, α3, e3, w3, r3⟩ := yl x H3 y
      have p3 := p2.step e3 w3
      have q3 := PostS.step (Step.lift e3) q2
      rw [List.drop_eq_getElem_cons hlt] at q3
      unfold sForL at q3
      refine g2 S3 α3 H3 σ' env' st' ds[i] x _ p3 r3 ?_
      cases eg : g ds[i] env' with
      | none => rw [eg] at q3; exact q3
      | some env4 =>
        rw [eg] at q3
        dsimp only at q3 ⊢
        intro σ4 p4 o4 _
        have e4 : Step S3 α3 (Ow σ' env') H3 S3 α3 (Ow σ4 env4) H3 := Step.sub .refl fun a z => .inl (o4 a z)
        have q4 := PostS.step e4 q3
        have e14 := (e2.trans (Step.lift e3)).trans e4
        refine b2 S3 α3 H3 σ4 env4 st' _ p4 ?_
        cases eb : sf env4 st' with
        | nx env5 st5 => rw [eb] at q4; exact fun S5 α5 H5 σ5 e5 p5 => ⟨S5, α5, env5, st5, e14.trans e5, p5, PostS.step e5 q4⟩
        | ct env5 st5 => rw [eb] at q4; exact fun S5 α5 H5 σ5 e5 p5 => ⟨S5, α5, env5, st5, e14.trans e5, p5, PostS.step e5 q4⟩
        | brk env5 st5 => rw [eb] at q4; exact q4
        | ret d st5 => rw [eb] at q4; exact q4
        | exc c fs env5 st5 => rw [eb] at q4; exact q4
        | bad => rw [eb] at q4; exact q4
    · have ei : i = ds.length := by omega
      subst ei
      rw [List.drop_length] at q2
      exact .inl ⟨okx.2, q2 S' α' H' σ' .refl p2⟩
def sWhile (tf : TF) (body : SF) : Nat → SF
  | 0, _, _ => .bad
  | n + 1, env, st => match tf env st with
    | .ok true st1 => match body env st1 with
      | .nx env2 st2 => sWhile tf body n env2 st2
      | .ct env2 st2 => sWhile tf body n env2 st2
      | .brk env2 st2 => .nx env2 st2
      | r => r
    | .ok false st1 => .nx env st1
    | .exc c fs st1 => .exc c fs env st1
    | .bad => .bad
theorem ds_while {n : Nat} (hp : PassesOwn (model X.prog X.w) X.A X.env X.xe) (hc : DT X cl W c tf) (hb : DSs X cl W sb sf) : DS X cl W (.While c sb [] pos) (sWhile tf sf n) := by
  obtain ⟨tc, c1, c2⟩ := hc.ex
  obtain ⟨tb, b1, b2⟩ := hb.ex
  refine ⟨_, ps_while hp c1 b1, fun S α H σ env st De p q => ?_⟩
  refine ⟨fun m σ' H' => ∃ S' α' env' st', Pre ⟨X.K, cl⟩ S' α' H' σ' env' st' ∧ PostS ⟨X.K, cl⟩ W S' α' (Ow σ' env') H' De (sWhile tf sf m env' st'), ⟨n, S, α, env, st, p, q⟩, ?_⟩
  rintro m σ' H' ⟨S', α', env', st', p', q'⟩
  refine c2 S' α' H' σ' env' st' _ p' ?_
  cases m with
  | zero => exact q'.elim
  | succ m =>
    unfold sWhile at q'
    cases r : tf env' st' with
    | bad => rw [r] at q'; exact q'
    | exc c fs st1 =>
      rw [r] at q'
      rintro dx H1 ⟨S1, α1, e1, w1, x1⟩
      exact q' S1 α1 H1 σ' dx (Step.lift e1) (p'.step e1 w1) x1
    | ok b st1 =>
      rw [r] at q'
      rintro H1 ⟨S1, α1, e1, w1⟩
      have p1 := p'.step e1 w1
      cases b with
      | false => exact iteF ((PostS.step (Step.lift e1) q') S1 α1 H1 σ' .refl p1)
      | true =>
        refine iteT ⟨fun σ3 H3 => ∃ S' α' env' st', Pre ⟨X.K, cl⟩ S' α' H3 σ3 env' st' ∧ PostS ⟨X.K, cl⟩ W S' α' (Ow σ3 env') H3 De (sWhile tf sf m env' st'), fun σ3 H3 h => ⟨m, by omega, h⟩, ?_⟩
        have q1 := PostS.step (Step.lift e1) q'
        refine b2 S1 α1 H1 σ' env' st1 _ p1 ?_
        dsimp only at q1
        cases eb : sf env' st1 with
        | nx env5 st5 => rw [eb] at q1; exact fun S5 α5 H5 σ5 e5 p5 => ⟨S5, α5, env5, st5, p5, PostS.step e5 q1⟩
        | ct env5 st5 => rw [eb] at q1; exact fun S5 α5 H5 σ5 e5 p5 => ⟨S5, α5, env5, st5, p5, PostS.step e5 q1⟩
        | brk env5 st5 => rw [eb] at q1; exact q1
        | ret d st5 => rw [eb] at q1; exact q1
        | exc c fs env5 st5 => rw [eb] at q1; exact q1
        | bad => rw [eb] at q1; exact q1
end
end DL

set_option maxHeartbeats 4000000
namespace DL
open PySem PySem.Spec PyProof.Rows L2 Bs
def wipeE (env : En) : List Nat → En
  | [] => env
  | v :: vs => (wipeE env vs).set v .no
def lcL (g : GF) (tt : TF) (te : EF) (env0 : En) : List D → Sto → R (List D)
  | [], st => .ok [] st
  | d :: ds, st => match g d env0 with
    | none => .bad
    | some env1 => (tt env1 st).bind fun b st1 => if b then (te env1 st1).bind fun y st2 => (lcL g tt te env0 ds st2).bind fun l st3 => .ok (y :: l) st3 else lcL g tt te env0 ds st1
def noX {α : Type} : R α → R α
  | .exc _ _ _ => .bad
  | r => r
def dLc (fi : IF) (vs : List Nat) (g : GF) (tt : TF) (te : EF) : EF := fun env st => (fi env st).bind fun ds st1 => if ds.length < lim then (noX (lcL g tt te (wipeE env vs) ds st1)).bind fun l st2 => .ok (.lst l) st2 else .bad
def dYes : TF := fun _ st => .ok true st
structure DTs (X : Cx) (cl : String → Addr) (W : WX) (ifs : List Expr) (f : TF) : Prop where
  ex : ∃ t, PTs X ifs t ∧ OkT ⟨X.K, cl⟩ W f t
abbrev Wno : WX := fun _ _ _ _ => False
section
variable {G : Gm} {S S' S1 : Addr → Prop} {α α' α1 : List Addr} {H H' H1 : Hp} {O O' O1 : Addr → Prop} {st st' : Sto} {σ σ' : Slots} {env env' : En} {W : WX}
theorem wipeE_len (env : En) : ∀ vs : List Nat, (wipeE env vs).length = env.length
  | [] => rfl
  | v :: vs => by unfold wipeE; rw [List.length_set, wipeE_len env vs]
theorem wipeE_get {i : Nat} {s : Slot} : ∀ {vs : List Nat}, (wipeE env vs)[i]? = some s → s = .no ∨ (i ∉ vs ∧ env[i]? = some s)
  | [], h => .inr ⟨by simp, h⟩
  | v :: vs, h => by
    unfold wipeE at h
    rw [List.getElem?_set] at h
    by_cases e : v = i
    · rw [if_pos e] at h
      split at h
      · cases h; exact .inl rfl
      · cases h
    · rw [if_neg e] at h
      rcases wipeE_get h with q | ⟨q1, q2⟩
      · exact .inl q
      · exact .inr ⟨by simp only [List.mem_cons, not_or]; exact ⟨fun z => e z.symm, q1⟩, q2⟩
theorem Pre.wipe (p : Pre G S α H σ env st) (vs : List Nat) : Pre G S α H (wipe σ vs) (wipeE env vs) st where
  w := p.w
  len := by rw [wipe_length, wipeE_len]; exact p.len
  sl := fun i s h => by
    rcases wipeE_get h with rfl | ⟨h1, h2⟩
    · trivial
    · rw [wipe_out h1]; exact p.sl i s h2
  ap := fun i j a d e n h1 h2 h3 h4 => by
    rcases wipeE_get h1 with q | ⟨q1, q2⟩
    · cases q
    · rcases wipeE_get h2 with r | ⟨r1, r2⟩
      · cases r
      · rw [wipe_out q1] at h3
        rw [wipe_out r1] at h4
        exact p.ap i j a d e n q2 r2 h3 h4
theorem wipe_in {i : Nat} : ∀ {vs : List Nat}, i ∈ vs → (wipe σ vs)[i]? = if i < σ.length then some none else none
  | [], h => by cases h
  | v :: vs, h => by
    unfold L2.wipe
    rw [List.getElem?_set, wipe_length]
    by_cases e : v = i
    · rw [if_pos e, e]
    · rw [if_neg e]
      rcases List.mem_cons.mp h with z | z
      · exact absurd z.symm e
      · exact wipe_in z
theorem wipe_wipe {T vs : List Nat} (u : Out T (wipe σ vs) σ') (hT : ∀ j ∈ T, j ∈ vs) : wipe σ' vs = wipe σ vs := List.ext_getElem? fun i => by
  have hl : σ'.length = σ.length := u.1.trans (wipe_length σ vs)
  by_cases h : i ∈ vs
  · rw [wipe_in h, wipe_in h, hl]
  · rw [wipe_out h, wipe_out h, u.2 i fun z => h (hT i z), wipe_out h]
theorem ext_upd {b : Addr} {o : HO} (h : ¬ S b) : Ext S α H S α (upd H b o) := ⟨fun _ h => h, fun _ _ h => h, fun a ha => upd_ne fun z => h (z ▸ ha)⟩
theorem live_upd {a b : Addr} {o : HO} (h : H a ≠ none) : (upd H b o) a ≠ none := by
  by_cases e : a = b
  · rw [e, upd_same]; simp
  · rw [upd_ne e]; exact h
theorem World.upd {b : Addr} {o : HO} (w : World G S α H st) (h1 : ¬ S b) (h2 : b ∉ α) (h4 : Soft H b) : World G S α (L2.upd H b o) st :=
  ⟨fun a ha => live_upd (w.live a ha), w.len, w.nd, w.ns, fun n a d e1 e2 => (w.sto n a d e1 e2).mono (ext_upd h1) (upd_ne fun z => h2 (z ▸ List.mem_of_getElem? e1)), fun a h o e => w.so a h o (by rw [← e, upd_ne (show a ≠ b from fun z => h1 (z ▸ h))]), w.tb.upd h4⟩
theorem Pre.upd {b : Addr} {o : HO} (p : Pre G S α H σ env st) (h1 : ¬ S b) (h2 : b ∉ α) (h3 : ¬ Ow σ env b) (h4 : Soft H b) : Pre G S α (L2.upd H b o) σ env st where
  w := p.w.upd h1 h2 h4
  len := p.len
  sl := fun i s h => by
    have q := p.sl i s h
    cases s with
    | no => trivial
    | fz d => obtain ⟨v, k1, k2⟩ := q; exact ⟨v, k1, k2.mono (ext_upd h1) _ _⟩
    | ow d =>
      obtain ⟨a, k1, k2, k3, k4⟩ := q
      exact ⟨a, k1, k2, k3, k4.mono (ext_upd h1) (upd_ne fun z => h3 (z ▸ ⟨i, d, h, k1⟩))⟩
  ap := p.ap
end
section
variable {X : Cx} {cl : String → Addr} {W : WX} {e a b c tg iter elt : Expr} {ifs : List Expr} {s : Stmt} {ss sb sc : List Stmt} {f fa te : EF} {fi : IF} {tt : TF} {sf sg : SF} {pos : Pos} {κ : Kd} {g : GF} {af : AF} {T vs : List Nat}
theorem dts_nil : DTs X cl W [] dYes := ⟨_, pts_nil, fun S α H σ env st Q p q => q H ⟨S, α, .refl, p.w⟩⟩
theorem dts_one (h : DT X cl W c tt) : DTs X cl W [c] tt := by
  obtain ⟨t, h1, h2⟩ := h.ex
  exact ⟨_, pts_one h1, h2⟩
def ItAt (G : Gm) (S : Addr → Prop) (α : List Addr) (H : Hp) (J : It) (ds : List D) : Prop := ∀ (S' : Addr → Prop) (α' : List Addr) (O' : Addr → Prop) (H' : Hp) (st' : Sto), Step S α ØO H S' α' O' H' → World G S' α' H' st' →
  (∀ (i : Nat) (d : D), ds[i]? = some d → J.go i H' ∧ ∀ x H'', J.yld i H' x H'' → Got .val G S' α' H' d st' x H'') ∧ J.stop ds.length H'
theorem ItOk.at_ {G : Gm} {S : Addr → Prop} {α : List Addr} {H : Hp} {J : It} {ds : List D} {st : Sto} (h : ItOk G S α H J ds) (w : World G S α H st) : ItAt G S α H J ds := fun S' α' O' H' st' e w' => h S' α' H' st' (Step.ext e w fun _ z => z.elim) w'
theorem lc_go {g' : TG} {tt' : TT} {te' : TE} {S S1 : Addr → Prop} {α α1 : List Addr} {H H1 : Hp} {σ : Slots} {env : En} {st st1 : Sto} {Q : VK} {J : It} {ds : List D} (hT : ∀ j ∈ T, j ∈ vs) (g2 : OkG ⟨X.K, cl⟩ T g g') (t2 : OkT ⟨X.K, cl⟩ Wno tt tt') (e2 : OkE .val ⟨X.K, cl⟩ Wno te te') (p : Pre ⟨X.K, cl⟩ S α H σ env st) (e1 : StepE S α H S1 α1 H1) (w1 : World ⟨X.K, cl⟩ S1 α1 H1 st1) (okJ : ItAt ⟨X.K, cl⟩ S1 α1 H1 J ds)
    (q : PostE .fresh ⟨X.K, cl⟩ W S α H σ (if ds.length < lim then (noX (lcL g tt te (wipeE env vs) ds st1)).bind fun l st2 => .ok (.lst l) st2 else .bad) Q) : tLc (fun _ _ R => R J H1) g' tt' te' vs σ H Q := by
  unfold tLc
  intro D hD
  have p1 := (p.step e1 w1).wipe vs
  by_cases hlim : ds.length < lim
  · rw [if_pos hlim] at q
    cases rl : lcL g tt te (wipeE env vs) ds st1 with
    | bad => rw [rl] at q; exact q.elim
    | exc c fs st2 => rw [rl] at q; exact q.elim
    | ok L stF =>
      rw [rl] at q
      replace q : PostE .fresh ⟨X.K, cl⟩ W S α H σ (.ok (.lst L) stF) Q := q
      have hD0 : H D = none := by
        cases z : H D with
        | none => rfl
        | some o => exact absurd hD (e1.live D (by rw [z]; simp))
      have nS : ¬ S1 D := not_S hD w1
      have nα : D ∉ α1 := not_al hD w1
      have nO : ¬ Ow (wipe σ vs) (wipeE env vs) D := fun z => (p1.own_nS z).2.2 hD
      -- the state at a turn
      refine ⟨fun i m H2 => m = ds.length - i ∧ i ≤ ds.length ∧ ∃ S2 α2 st2 acc xs l, Step S1 α1 ØO H1 S2 α2 (fun a => a = D) H2 ∧ ¬ S2 D ∧ D ∉ α2 ∧ H2 D = some (.lst xs) ∧ RepL ⟨X.K, cl⟩ S2 α2 H2 acc xs ∧ Pre ⟨X.K, cl⟩ S2 α2 H2 (wipe σ vs) (wipeE env vs) st2 ∧ acc.length ≤ i ∧ lcL g tt te (wipeE env vs) (ds.drop i) st2 = .ok l stF ∧ acc ++ l = L,
        ⟨ds.length, by simp, Nat.zero_le _, S1, α1, st1, [], [], L, ?_, nS, nα, upd_same, rfl, p1.upd nS nα nO (soft_none hD), Nat.le_refl _, rl, rfl⟩, ?_⟩
      · exact Step.sub (step_new hD) fun a z => .inr (z ▸ hD)
      rintro i m H2 ⟨rfl, hle, S2, α2, st2, acc, xs, l, s2, nS2, nα2, hD2, racc, p2, hacc, hl, hL⟩
      have x12 : Ext S1 α1 H1 S2 α2 H2 := Step.ext s2 w1 fun _ z => z.elim
      have okx := okJ S2 α2 _ H2 st2 s2 p2.w
      by_cases hlt : i < ds.length
      · have hd : ds[i]? = some ds[i] := List.getElem?_eq_getElem hlt
        obtain ⟨go, yl⟩ := okx.1 i ds[i] hd
        refine .inr ⟨go, fun H5 => i + 1 ≤ ds.length ∧ ∃ S2 α2 st2 acc xs l, Step S1 α1 ØO H1 S2 α2 (fun a => a = D) H5 ∧ ¬ S2 D ∧ D ∉ α2 ∧ H5 D = some (.lst xs) ∧ RepL ⟨X.K, cl⟩ S2 α2 H5 acc xs ∧ Pre ⟨X.K, cl⟩ S2 α2 H5 (wipe σ vs) (wipeE env vs) st2 ∧ acc.length ≤ i + 1 ∧ lcL g tt te (wipeE env vs) (ds.drop (i + 1)) st2 = .ok l stF ∧ acc ++ l = L, fun H5 h => ⟨ds.length - (i + 1), by omega, rfl, h.1, h.2⟩, fun x H3 y => ?_⟩
        obtain ⟨S3, α3, e3, w3, r3⟩ := yl x H3 y
        have p3 := p2.step e3 w3
        rw [List.drop_eq_getElem_cons hlt] at hl
        unfold lcL at hl
        refine g2 S3 α3 H3 (wipe σ vs) (wipeE env vs) st2 ds[i] x _ p3 r3 ?_
        cases eg : g ds[i] (wipeE env vs) with
        | none => rw [eg] at hl; cases hl
        | some env4 =>
          rw [eg] at hl
          dsimp only at hl ⊢
          intro σ4 p4 o4 u4
          have hw := wipe_wipe u4 hT
          refine ⟨hw, ?_⟩
          refine t2 S3 α3 H3 σ4 env4 st2 _ p4 ?_
          cases et : tt env4 st2 with
          | bad => rw [et] at hl; cases hl
          | exc c fs st5 => rw [et] at hl; cases hl
          | ok b st5 =>
            rw [et] at hl
            rintro H5 ⟨S5, α5, e5, w5⟩
            have p5 := p3.step e5 w5
            have e35 := e3.trans e5
            obtain ⟨m1, m2, m3, _⟩ := own_step (G := ⟨X.K, cl⟩) (d := .lst acc) e35 p2.w nS2 nα2 ⟨xs, hD2, racc⟩
            have s5 : Step S1 α1 ØO H1 S5 α5 (fun a => a = D) H5 := s2.trans (Step.sub (Step.lift e35) fun a z => .inl z)
            have r5 := racc.mono (StepE.ext e35 p2.w) _ _
            replace hl : (if b = true then (te env4 st5).bind fun y st2 => (lcL g tt te (wipeE env vs) (ds.drop (i + 1)) st2).bind fun l st3 => .ok (y :: l) st3 else lcL g tt te (wipeE env vs) (ds.drop (i + 1)) st5) = R.ok l stF := hl
            cases b with
            | false =>
              rw [if_neg Bool.false_ne_true] at hl
              exact iteF ⟨by omega, S5, α5, st5, acc, xs, l, s5, m1, m2, m3.trans hD2, r5, p5, by omega, hl, hL⟩
            | true =>
              rw [if_pos rfl] at hl
              refine iteT ?_
              refine e2 S5 α5 H5 σ4 env4 st5 _ (p4.step e5 w5) ?_
              cases ee : te env4 st5 with
              | bad => rw [ee] at hl; cases hl
              | exc c fs st6 => rw [ee] at hl; cases hl
              | ok y st6 =>
                rw [ee] at hl
                rintro v H6 ⟨S6, α6, e6, w6, r6⟩
                have p6 := p5.step e6 w6
                obtain ⟨k1, k2, k3, _⟩ := own_step (G := ⟨X.K, cl⟩) (d := .lst acc) e6 p5.w m1 m2 ⟨xs, m3.trans hD2, r5⟩
                have hx : xs.length = acc.length := racc.len
                have r7 := r5.mono (StepE.ext e6 p5.w) _ _
                have s6 : Step S1 α1 ØO H1 S6 α6 (fun a => a = D) H6 := s5.trans (Step.sub (Step.lift e6) fun a z => .inl z)
                refine ⟨xs, k3.trans (m3.trans hD2), by rw [hx]; exact Nat.lt_of_le_of_lt hacc (Nat.lt_trans hlt (Nat.lt_trans hlim lim_line)), ?_⟩
                cases el : lcL g tt te (wipeE env vs) (ds.drop (i + 1)) st6 with
                | bad => replace hl : (lcL g tt te (wipeE env vs) (ds.drop (i + 1)) st6).bind (fun l st3 => .ok (y :: l) st3) = R.ok l stF := hl; rw [el] at hl; cases hl
                | exc c fs st7 => replace hl : (lcL g tt te (wipeE env vs) (ds.drop (i + 1)) st6).bind (fun l st3 => .ok (y :: l) st3) = R.ok l stF := hl; rw [el] at hl; cases hl
                | ok l' st7 =>
                  replace hl : (lcL g tt te (wipeE env vs) (ds.drop (i + 1)) st6).bind (fun l st3 => .ok (y :: l) st3) = R.ok l stF := hl
                  rw [el] at hl
                  cases hl
                  have nO6 : ¬ Ow (wipe σ vs) (wipeE env vs) D := fun z => by
                    obtain ⟨j, d, h1, h2⟩ := z
                    exact nO ⟨j, d, h1, h2⟩
                  have sD : Step S6 α6 (fun a => a = D) H6 S6 α6 (fun a => a = D) (L2.upd H6 D (.lst (xs ++ [v]))) :=
                    ⟨fun _ h => h, fun _ _ h => h, fun a o h _ h2 _ => by rw [upd_ne h2]; exact h, fun _ h => .inl h, fun _ h => .inl h, fun _ h => .inl h, fun a h => live_upd h, fun a h => .inr (h.upd_no fun _ z => by cases z)⟩
                  exact ⟨by omega, S6, α6, st6, acc ++ [y], xs ++ [v], l', s6.trans sD, k1, k2, upd_same, (r7.append (.one r6)).mono (ext_upd k1) _ _, p6.upd k1 k2 nO6 (soft_at (k3.trans (m3.trans hD2)) trivial), by rw [List.length_append]; simp only [List.length_singleton]; omega, el, by rw [List.append_assoc]; exact hL⟩
      · have ei : i = ds.length := by omega
        subst ei
        rw [List.drop_length] at hl
        cases hl
        rw [List.append_nil] at hL
        subst hL
        refine .inl ⟨okx.2, q (.ref D) H2 ⟨S2, α2, Step.sub (e1.trans s2) fun _ z => z.elim, p2.w, D, rfl, nS2, nα2, hD0, xs, hD2, racc⟩⟩
  · rw [if_neg hlim] at q; exact q.elim
theorem lc_ok {wi : TI} {g' : TG} {tt' : TT} {te' : TE} (hT : ∀ j ∈ T, j ∈ vs) (i2 : OkI ⟨X.K, cl⟩ W fi wi) (g2 : OkG ⟨X.K, cl⟩ T g g') (t2 : OkT ⟨X.K, cl⟩ Wno tt tt') (e2 : OkE .val ⟨X.K, cl⟩ Wno te te') : OkE .fresh ⟨X.K, cl⟩ W (dLc fi vs g tt te) (tLc wi g' tt' te' vs) := by
  intro S α H σ env st Q p q
  refine i2 S α H σ env st _ p ?_
  unfold dLc at q
  cases r : fi env st with
  | bad => rw [r] at q; exact q
  | exc c fs st1 => rw [r] at q; exact q
  | ok ds st1 =>
    rw [r] at q
    intro J H1 S1 α1 e1 w1 okJ
    exact lc_go hT g2 t2 e2 p e1 w1 (okJ.at_ w1) q
theorem df_lc {scope : Scope} {own : List (Str × Nat)} (hc : X.calm = true) (hN : X.N.Nodup) (hi : DI X cl W tg iter fi) (ok : BlkOk X.N X.env.scope scope own) (hT : ∀ j ∈ T, j ∈ own.map (·.2))
    (hg : ∃ t, (∀ (s : Shared) (H : Hp) (C : Addr) (cl' : List (Str × Addr)) (fp : List Addr), PG (X.blk s H scope (compEnvC scope cl' C X.env) fp) tg t) ∧ OkG ⟨X.K, cl⟩ T g t)
    (ht : ∃ t, (∀ (s : Shared) (H : Hp) (C : Addr) (cl' : List (Str × Addr)) (fp : List Addr), PTs (X.blk s H scope (compEnvC scope cl' C X.env) fp) ifs t) ∧ OkT ⟨X.K, cl⟩ Wno tt t)
    (he : ∃ t, (∀ (s : Shared) (H : Hp) (C : Addr) (cl' : List (Str × Addr)) (fp : List Addr), PE (X.blk s H scope (compEnvC scope cl' C X.env) fp) elt t) ∧ OkE .val ⟨X.K, cl⟩ Wno te t) (hs : ∀ x, foldedSetIterable iter X.env x = pure x := by intro _; rfl) :
    DE .fresh X cl W (.ListComp elt [⟨tg, iter, ifs, 0⟩] scope pos) (dLc fi (own.map (·.2)) g tt te) := by
  obtain ⟨wi, i1, i2⟩ := hi.ex
  obtain ⟨g', g1, g2⟩ := hg
  obtain ⟨tt', t1, t2⟩ := ht
  obtain ⟨te', e1, e2⟩ := he
  exact ⟨_, pe_lc hc hN i1 ok g1 t1 e1 hs, lc_ok hT i2 g2 t2 e2⟩
end
end DL

set_option maxHeartbeats 4000000
namespace DL
open PySem PySem.Spec PyProof.Rows L2 Bs
def canE (κ : Kd) (G : Gm) (W : WX) (f : EF) : TE := fun σ H Q => ∃ S α env st, Pre G S α H σ env st ∧ PostE κ G W S α H σ (f env st) Q
def canT (G : Gm) (W : WX) (f : TF) : TT := fun σ H Q => ∃ S α env st, Pre G S α H σ env st ∧ PostT G W S α H σ (f env st) Q
def canG (G : Gm) (T : List Nat) (g : GF) : TG := fun v σ H Q => ∃ S α env st d, Pre G S α H σ env st ∧ Rep G S α H d v ∧ (match g d env with
    | some env' => ∀ σ', Pre G S α H σ' env' st → (∀ a, Ow σ' env' a → Ow σ env a) → Out T σ σ' → Q σ' H
    | none => False)
section
variable {X : Cx} {cl : String → Addr} {W : WX} {e a b c o tg iter elt : Expr} {es ifs : List Expr} {s : Stmt} {ss sb sc : List Stmt} {f fa te fk : EF} {fi : IF} {tt : TF} {sf sg : SF} {pos : Pos} {κ : Kd} {g : GF} {af : AF} {T vs : List Nat}
theorem DE.can (h : DE κ X cl W e f) : PE X e (canE κ ⟨X.K, cl⟩ W f) := ⟨fun pins s σ H Q I hq => by
  obtain ⟨S, α, env, st, p, q⟩ := hq
  obtain ⟨t, h1, h2⟩ := h.ex
  exact h1.run pins s σ H Q I (h2 S α H σ env st Q p q)⟩
theorem DTs.can (h : DTs X cl W ifs tt) : PTs X ifs (canT ⟨X.K, cl⟩ W tt) := ⟨fun pins s σ H Q I hq => by
  obtain ⟨S, α, env, st, p, q⟩ := hq
  obtain ⟨t, h1, h2⟩ := h.ex
  exact h1.run pins s σ H Q I (h2 S α H σ env st Q p q)⟩
theorem DG.can (h : DG X cl T tg g) : PG X tg (canG ⟨X.K, cl⟩ T g) := ⟨fun pins s σ H v u Q I r hq => by
  obtain ⟨S, α, env, st, d, p, rd, q⟩ := hq
  obtain ⟨t, h1, h2⟩ := h.ex
  exact h1.run pins s σ H v u Q I r (h2 S α H σ env st d v Q p rd q)⟩
theorem df_lcA {scope : Scope} {own : List (Str × Nat)} (hc : X.calm = true) (hN : X.N.Nodup) (hi : DI X cl W tg iter fi) (ok : BlkOk X.N X.env.scope scope own) (hT : ∀ j ∈ T, j ∈ own.map (·.2))
    (hg : ∀ (s : Shared) (H : Hp) (C : Addr) (cl' : List (Str × Addr)) (fp : List Addr), DG (X.blk s H scope (compEnvC scope cl' C X.env) fp) cl T tg g)
    (ht : ∀ (s : Shared) (H : Hp) (C : Addr) (cl' : List (Str × Addr)) (fp : List Addr), DTs (X.blk s H scope (compEnvC scope cl' C X.env) fp) cl Wno ifs tt)
    (he : ∀ (s : Shared) (H : Hp) (C : Addr) (cl' : List (Str × Addr)) (fp : List Addr), DE .val (X.blk s H scope (compEnvC scope cl' C X.env) fp) cl Wno elt te) (hs : ∀ x, foldedSetIterable iter X.env x = pure x := by intro _; rfl) :
    DE .fresh X cl W (.ListComp elt [⟨tg, iter, ifs, 0⟩] scope pos) (dLc fi (own.map (·.2)) g tt te) :=
  df_lc hc hN hi ok hT ⟨canG ⟨X.K, cl⟩ T g, fun s H C cl' fp => (hg s H C cl' fp).can, fun S α H σ env st d v Q p r q => ⟨S, α, env, st, d, p, r, q⟩⟩ ⟨canT ⟨X.K, cl⟩ Wno tt, fun s H C cl' fp => (ht s H C cl' fp).can, fun S α H σ env st Q p q => ⟨S, α, env, st, p, q⟩⟩
    ⟨canE .val ⟨X.K, cl⟩ Wno te, fun s H C cl' fp => (he s H C cl' fp).can, fun S α H σ env st Q p q => ⟨S, α, env, st, p, q⟩⟩ hs
theorem ps_lcA {i : Nat} {y : Str} {py spos : Pos} {scope : Scope} {own : List (Str × Nat)} (hc : X.calm = true) (hN : X.N.Nodup) (hy : X.N[i]? = some y) (hyl : X.env.scope.names.lookup y = some .local)
    (hsw : swapsWith (.ListComp elt [⟨tg, iter, ifs, 0⟩] scope pos) (some (.Name y py)) spos.line X.env = pure true) (hi : DI X cl W tg iter fi) (ok : BlkOk X.N X.env.scope scope own) (hT : ∀ j ∈ T, j ∈ own.map (·.2))
    (hg : ∀ (s : Shared) (H : Hp) (C : Addr) (cl' : List (Str × Addr)) (fp : List Addr), DG (X.blk s H scope (compEnvC scope cl' C X.env) fp) cl T tg g)
    (ht : ∀ (s : Shared) (H : Hp) (C : Addr) (cl' : List (Str × Addr)) (fp : List Addr), DTs (X.blk s H scope (compEnvC scope cl' C X.env) fp) cl Wno ifs tt)
    (he : ∀ (s : Shared) (H : Hp) (C : Addr) (cl' : List (Str × Addr)) (fp : List Addr), DE .val (X.blk s H scope (compEnvC scope cl' C X.env) fp) cl Wno elt te) (hs : ∀ x, foldedSetIterable iter X.env x = pure x := by intro _; rfl) :
    ∃ t, PS X (.Assign [.Name y py] (.ListComp elt [⟨tg, iter, ifs, 0⟩] scope pos) spos) (tAsg t (gName i)) ∧ OkE .fresh ⟨X.K, cl⟩ W (dLc fi (own.map (·.2)) g tt te) t := by
  obtain ⟨wi, i1, i2⟩ := hi.ex
  exact ⟨_, ps_setLc (g := canG ⟨X.K, cl⟩ T g) (tt := canT ⟨X.K, cl⟩ Wno tt) (te := canE .val ⟨X.K, cl⟩ Wno te) hc hN hy hyl hsw i1 ok (fun s H C cl' fp => (hg s H C cl' fp).can) (fun s H C cl' fp => (ht s H C cl' fp).can) (fun s H C cl' fp => (he s H C cl' fp).can) hs,
    lc_ok hT i2 (fun S α H σ env st d v Q p r q => ⟨S, α, env, st, d, p, r, q⟩) (fun S α H σ env st Q p q => ⟨S, α, env, st, p, q⟩) (fun S α H σ env st Q p q => ⟨S, α, env, st, p, q⟩)⟩
theorem ds_setOf {i : Nat} (h : ∃ t, PS X s (tAsg t (gName i)) ∧ OkE .fresh ⟨X.K, cl⟩ W f t) : DS X cl W s (sSetO i f) := by
  obtain ⟨t, h1, h2⟩ := h
  refine ⟨_, h1, fun S α H σ env st De p q => ?_⟩
  refine h2 S α H σ env st _ p ?_
  unfold sSetO sE at q
  cases r : f env st with
  | bad => rw [r] at q; exact q
  | exc c fs st1 =>
    rw [r] at q
    rintro dx H1 ⟨S1, α1, e1, w1, x1⟩
    exact q S1 α1 H1 σ dx (Step.lift e1) (p.step e1 w1) x1
  | ok d st1 =>
    rw [r] at q
    rintro v H1 ⟨S1, α1, e1, w1, b, rfl, n1, n2, n3, ow⟩
    have p1 := p.step e1 w1
    refine q S1 α1 H1 _ (Step.sub (Step.lift e1) fun a h => ?_) (p1.setOw n1 n2 (fun h => (p.own_nS h).2.2 n3) ow)
    rcases ow_setOw h with h | rfl
    · exact .inl h
    · exact .inr n3
theorem ds_setFOf {i : Nat} (h : ∃ t, PS X s (tAsg t (gName i)) ∧ OkE .fresh ⟨X.K, cl⟩ W f t) : DS X cl W s (sSet i f) := by
  obtain ⟨t, h1, h2⟩ := h
  refine ⟨_, h1, fun S α H σ env st De p q => ?_⟩
  have h2' : OkE .val ⟨X.K, cl⟩ W f t := fun S α H σ env st Q p q => h2 S α H σ env st Q p (by
    cases r : f env st with
    | ok d st' => rw [r] at q; exact fun v H1 g => q v H1 g.ofFresh
    | exc c fs st' => rw [r] at q; exact q
    | bad => rw [r] at q; exact q)
  exact sE_core (k := fun d env st => .nx (env.set i (.fz d)) st) h2' p q fun d st1 v S1 α1 H1 _ e1 p1 r1 q1 => q1 S1 α1 H1 _ (Step.sub .refl fun a h => .inl (ow_setFz h)) (p1.setFz r1)
def runDef (m n : Nat) (body : SF) : FF := fun ds st => if ds.length = m then match body (ds.map .fz ++ List.replicate (n - m) .no) st with
  | .nx _ st' => .ok .non st'
  | .ret d st' => .ok d st'
  | .exc c fs _ st' => .exc c fs st'
  | _ => .bad else .bad
theorem pre_args {G : Gm} {S : Addr → Prop} {α : List Addr} {H : Hp} {st : Sto} : ∀ {ds : List D} {vs : List V}, RepL G S α H ds vs → ∀ (i : Nat) (s : Slot), (ds.map Slot.fz)[i]? = some s → SlotOk G S α H ((vs.map some)[i]?) s := fun {ds vs} hr i s h => by
  rw [List.getElem?_map] at h
  cases e : ds[i]? with
  | none => rw [e] at h; cases h
  | some d =>
    rw [e] at h
    cases h
    obtain ⟨v, hv, rv⟩ := hr.get e
    exact ⟨v, by rw [List.getElem?_map, hv]; rfl, rv⟩
theorem no_ow {ds : List D} {k : Nat} {i : Nat} {d : D} (h : (ds.map Slot.fz ++ List.replicate k .no)[i]? = some (.ow d)) : False := by
  rw [List.getElem?_append] at h
  split at h
  · rw [List.getElem?_map] at h
    cases e : ds[i]? with
    | none => rw [e] at h; cases h
    | some d => rw [e] at h; cases h
  · have := List.mem_of_getElem? h
    rw [List.mem_replicate] at this
    cases this.2
theorem pre_start {G : Gm} {S : Addr → Prop} {α : List Addr} {H : Hp} {st : Sto} {N : List Str} {ds : List D} {vs : List V} (w : World G S α H st) (hr : RepL G S α H ds vs) : Pre G S α H (L2.start N vs) (ds.map Slot.fz ++ List.replicate (N.length - ds.length) .no) st where
  w := w
  len := by
    unfold L2.start
    simp only [List.length_append, List.length_map, List.length_replicate, hr.len]
  sl := fun i s h => by
    unfold L2.start
    rw [List.getElem?_append] at h ⊢
    rw [List.length_map] at h ⊢
    rw [hr.len]
    by_cases hi : i < ds.length
    · rw [if_pos hi] at h ⊢
      exact pre_args (st := st) hr i s h
    · rw [if_neg hi] at h ⊢
      have := List.mem_of_getElem? h
      rw [List.mem_replicate] at this
      rw [this.2]
      trivial
  ap := fun i j a d e n h1 _ _ _ => (no_ow h1).elim
theorem Step.ofNo {S S' : Addr → Prop} {α α' : List Addr} {H H' : Hp} {O O' : Addr → Prop} (hO : ∀ a, ¬ O a) (e : Step S α O H S' α' O' H') : StepE S α H S' α' H' :=
  ⟨e.s, e.al, fun a o h h1 _ hn => e.keep a o h h1 (hO a) hn, fun a h => by
    rcases e.sn a h with q | q | q
    · exact .inl q
    · exact (hO a q).elim
    · exact .inr (.inr q), fun a h => by
    rcases e.an a h with q | q | q
    · exact .inl q
    · exact (hO a q).elim
    · exact .inr (.inr q), fun _ h => h.elim, e.live, e.tp⟩
theorem dcal_of {P : Program} {w : PySem.World} {K : PySem.W.Frag} {mg : Str → Option Value} {base : Heap} {x qual : Str} {st : Stmt} {f : Addr} {fd : FuncData} {N ps : List Str} {k m : Nat} {sf : SF} (F : Fun K x qual st f fd) (S : FnScope N ps (defScope st)) (hm : mg x = some (.ref f)) (hb : Binds K fd ps [])
    (hml : ps.length = m) (body : ∀ (cdv : Value) (A : Around) (outer : List Env) (s : Shared) (H : Hp) (E : XK), Room k (A.deeper (envOfC qual (defScope st) s.heap.objs.size f cdv)) → DSs (cxOf (L2.CX P w) P w K mg base N qual (defScope st) f cdv A outer s H E) cl (fun cls d _ H => E cls d H) (defBody st) sf) :
    DCal P w K mg base cl (k + 1) x ps (runDef m N.length sf) := by
  refine ⟨f, fd, F.okX S (fun vs H Q E h => ?_) (fun cdv A outer s H vs Q E hr h => ?_), hm, F.kp, hb⟩
  · obtain ⟨S', α, st', ds, w', r, q⟩ := h
    unfold runDef at q
    split at q
    · rename_i hl
      rw [r.len, hl, hml]
    · exact q.elim
  · obtain ⟨S', α, st', ds, w', r, q⟩ := h
    obtain ⟨t, h1, h2⟩ := (body cdv A outer s H E hr).ex
    refine ⟨t, h1, ?_⟩
    unfold runDef at q
    split at q
    · rename_i hl
      have p := pre_start (N := N) w' r
      rw [hl] at p
      have nO : ∀ a, ¬ Ow (L2.start N vs) (ds.map Slot.fz ++ List.replicate (N.length - m) .no) a := fun a ⟨i, d, h1, _⟩ => no_ow h1
      refine h2 S' α H (L2.start N vs) _ st' _ p ?_
      cases e : sf (ds.map Slot.fz ++ List.replicate (N.length - m) .no) st' with
      | nx env1 st1 => rw [e] at q; exact fun S1 α1 H1 σ1 e1 p1 => q _ _ ⟨S1, α1, Step.ofNo nO e1, p1.w, rfl⟩
      | ret d st1 => rw [e] at q; exact fun S1 α1 H1 v e1 w1 r1 => q _ _ ⟨S1, α1, Step.ofNo nO e1, w1, r1⟩
      | exc c fs env1 st1 => rw [e] at q; exact fun S1 α1 H1 σ1 dx e1 p1 x1 => q _ _ ⟨S1, α1, Step.ofNo nO e1, p1.w, x1⟩
      | brk env1 st1 => rw [e] at q; exact False.elim q
      | ct env1 st1 => rw [e] at q; exact False.elim q
      | bad => rw [e] at q; exact q
    · exact q.elim
theorem Pre.own_upd {G : Gm} {S : Addr → Prop} {α : List Addr} {H : Hp} {σ : Slots} {env : En} {st : Sto} {i : Nat} {d d' : D} {b : Addr} {ho : HO} (p : Pre G S α H σ env st) (hi : env[i]? = some (.ow d)) (hσ : σ[i]? = some (some (.ref b))) (new : Own G S α (L2.upd H b ho) b d') :
    Pre G S α (L2.upd H b ho) σ (env.set i (.ow d')) st ∧ Step S α (Ow σ env) H S α (Ow σ (env.set i (.ow d'))) (L2.upd H b ho) := by
  obtain ⟨b', k1, k2, k3, k4⟩ := p.sl i _ hi
  rw [hσ] at k1
  cases k1
  have il : i < env.length := (List.getElem?_eq_some_iff.mp hi).1
  have hO : Ow σ env b := ⟨i, d, hi, hσ⟩
  have back : ∀ {j : Nat} {y : D}, (env.set i (.ow d'))[j]? = some (.ow y) → ∃ z, env[j]? = some (.ow z) := fun {j y} h => by
    rw [List.getElem?_set] at h
    by_cases e : i = j
    · exact ⟨d, by rw [← e]; exact hi⟩
    · rw [if_neg e] at h; exact ⟨y, h⟩
  refine ⟨⟨p.w.upd k2 k3 k4.soft, by rw [List.length_set]; exact p.len, fun j s h => ?_, fun j l a y z n h1 h2 h3 h4 => ?_⟩, ⟨fun _ h => h, fun _ _ h => h, fun a o h h1 h2 _ => by rw [upd_ne (show a ≠ b from fun z => h2 (z ▸ hO))]; exact h, fun _ h => .inl h, fun _ h => .inl h, fun a h => ?_, fun a h => live_upd h, fun a h => .inr (h.own_upd new.noTup)⟩⟩
  · rw [List.getElem?_set] at h
    by_cases e : i = j
    · rw [if_pos e, if_pos il] at h
      cases h
      rw [← e]
      exact ⟨b, hσ, k2, k3, new⟩
    · rw [if_neg e] at h
      have q := p.sl j s h
      cases s with
      | no => trivial
      | fz d => obtain ⟨v, h1, h2⟩ := q; exact ⟨v, h1, h2.mono (ext_upd k2) _ _⟩
      | ow x =>
        obtain ⟨a, h1, h2, h3, h4⟩ := q
        have ne : a ≠ b := fun z => by subst z; exact p.ap i j a d x e hi h hσ h1
        exact ⟨a, h1, h2, h3, h4.mono (ext_upd k2) (upd_ne ne)⟩
  · obtain ⟨z1, g1⟩ := back h1
    obtain ⟨z2, g2⟩ := back h2
    exact p.ap j l a z1 z2 n g1 g2 h3 h4
  · obtain ⟨j, x, h1, h2⟩ := h
    obtain ⟨z, g⟩ := back h1
    exact .inl ⟨j, z, g, h2⟩
def sAppO (i : Nat) (fa : EF) : SF := fun env st => match env[i]? with
  | some (.ow (.lst _)) => sE fa (fun d env st => match env[i]? with
    | some (.ow (.lst l)) => if l.length < lim then .nx (env.set i (.ow (.lst (l ++ [d])))) st else .bad
    | _ => .bad) env st
  | _ => .bad
theorem own_at {G : Gm} {S : Addr → Prop} {α : List Addr} {H : Hp} {σ : Slots} {env : En} {st : Sto} {i : Nat} {l : List D} (p : Pre G S α H σ env st) (hi : env[i]? = some (.ow (.lst l))) : ∃ b xs, σ[i]? = some (some (.ref b)) ∧ ¬ S b ∧ b ∉ α ∧ H b = some (.lst xs) ∧ RepL G S α H l xs := by
  obtain ⟨b, k1, k2, k3, xs, k4, k5⟩ := p.sl i _ hi
  exact ⟨b, xs, k1, k2, k3, k4, k5⟩
theorem ds_appO {i : Nat} (hp : ∀ to ta, PE X o to → PE X a ta → PS X s (tDrop (tBM X.K "list" rAppend to (tCons ta tNil)))) (ho : PE X o (tVar i)) (ha : DE .val X cl W a fa) : DS X cl W s (sAppO i fa) := by
  obtain ⟨ta, h1, h2⟩ := ha.ex
  refine ⟨_, hp _ _ ho h1, fun S α H σ env st De p q => ?_⟩
  unfold sAppO at q
  split at q
  · rename_i l0 hi
    obtain ⟨b, xs, k1, k2, k3, k4, k5⟩ := own_at p hi
    refine ⟨_, k1, .inl ⟨rfl, _, SqL.of k4⟩, ?_⟩
    refine sE_core (k := fun d env st => match env[i]? with
      | some (.ow (.lst l)) => if l.length < lim then .nx (env.set i (.ow (.lst (l ++ [d])))) st else .bad
      | _ => .bad) h2 p q fun d st1 v S1 α1 H1 _ e1 p1 r1 q1 => ?_
    rw [hi] at q1
    dsimp only at q1
    split at q1
    · rename_i hl
      obtain ⟨b', ys, j1, j2, j3, j4, j5⟩ := own_at p1 hi
      rw [k1] at j1
      cases j1
      refine ⟨b, ys, v, rfl, rfl, j4, by rw [j5.len]; exact Nat.lt_trans hl lim_line, ?_⟩
      obtain ⟨p2, s2⟩ := p1.own_upd (d' := .lst (l0 ++ [d])) (ho := .lst (ys ++ [v])) hi k1 ⟨_, upd_same, (j5.append (.one r1)).mono (ext_upd j2) _ _⟩
      exact q1 S1 α1 _ σ s2 p2
    · exact q1.elim
  · exact q.elim
def sAugO (i : Nat) (g : Sto → D → D → Option D) (fk fa : EF) : SF := fun env st => match env[i]? with
  | some (.ow (.lst _)) => sE fk (fun kd env st => match env[i]?, kd with
    | some (.ow (.lst l)), .int k => match decide (0 ≤ k), l[k.toNat]? with
      | true, some x => sE fa (fun y env st => match g st x y with
        | some z => .nx (env.set i (.ow (.lst (l.set k.toNat z)))) st
        | none => .bad) env st
      | _, _ => .bad
    | _, _ => .bad) env st
  | _ => .bad
theorem ds_augO {i : Nat} {r : R2} {g : Sto → D → D → Option D} (hp : ∀ to tk ta, PE X o to → PE X b tk → PE X a ta → PS X s (tAugS to tk ta (gGetL X.K) r rSetL)) (ok : OpOk .val ⟨X.K, cl⟩ r g) (ho : PE X o (tVar i)) (hk : DE .val X cl W b fk) (ha : DE .val X cl W a fa) : DS X cl W s (sAugO i g fk fa) := by
  obtain ⟨ta, h1, h2⟩ := ha.ex
  obtain ⟨tk, k1, k2⟩ := hk.ex
  refine ⟨_, hp _ _ _ ho k1 h1, fun S α H σ env st De p q => ?_⟩
  unfold sAugO at q
  split at q
  · rename_i l0 hi
    obtain ⟨b0, xs, j1, j2, j3, j4, j5⟩ := own_at p hi
    refine ⟨_, j1, ?_⟩
    refine sE_core (k := fun kd env st => match env[i]?, kd with
      | some (.ow (.lst l)), .int k => match decide (0 ≤ k), l[k.toNat]? with
        | true, some x => sE fa (fun y env st => match g st x y with
          | some z => .nx (env.set i (.ow (.lst (l.set k.toNat z)))) st
          | none => .bad) env st
        | _, _ => .bad
      | _, _ => .bad) k2 p q fun kd st2 u S2 α2 H2 _ e2 p2 r2 q2 => ?_
    rw [hi] at q2
    cases kd with
    | int k =>
      dsimp only at q2
      cases hk0 : decide (0 ≤ k) with
      | false => rw [hk0] at q2; exact q2.elim
      | true =>
        cases hx : l0[k.toNat]? with
        | none => rw [hk0, hx] at q2; exact q2.elim
        | some x =>
          rw [hk0, hx] at q2
          obtain ⟨b', ys, m1, m2, m3, m4, m5⟩ := own_at p2 hi
          rw [j1] at m1
          cases m1
          obtain ⟨vx, hvx, rx⟩ := m5.get hx
          have k0 : 0 ≤ k := of_decide_eq_true hk0
          refine ⟨b0, ys, k, vx, rfl, r2, SqL.of m4, k0, hvx, ?_⟩
          refine sE_core (k := fun y env st => match g st x y with
            | some z => .nx (env.set i (.ow (.lst (l0.set k.toNat z)))) st
            | none => .bad) h2 p2 q2 fun y st3 vy S3 α3 H3 _ e3 p3 r3 q3 => ?_
          cases hz : g st3 x y with
          | none => rw [hz] at q3; exact q3.elim
          | some z =>
            rw [hz] at q3
            refine ok S3 α3 H3 st3 x y vx vy z _ p3.w (.inl (rx.mono (StepE.ext e3 p2.w) _ _)) (.inl r3) hz fun vz H4 g4 => ?_
            obtain ⟨S4, α4, e4, w4, r4⟩ := g4
            have p4 := p3.step e4 w4
            obtain ⟨b', zs, n1, n2, n3, n4, n5⟩ := own_at p4 hi
            rw [j1] at n1
            cases n1
            have hkl : k.toNat < l0.length := (List.getElem?_eq_some_iff.mp hx).1
            refine ⟨b0, zs, k, k.toNat, rfl, r2, n4, ?_, ?_⟩
            · unfold ixN
              rw [if_pos k0, n5.len, if_pos (by omega)]
            · obtain ⟨p5, s5⟩ := p4.own_upd (d' := .lst (l0.set k.toNat z)) (ho := .lst (zs.set k.toNat vz)) hi j1 ⟨_, upd_same, (RepL.set r4 k.toNat n5).mono (ext_upd n2) _ _⟩
              exact q3 S4 α4 _ σ ((Step.lift e4).trans s5) p5
    | _ => exact q2.elim
  · exact q.elim
def sAug (i : Nat) (g : Sto → D → D → Option D) (fa : EF) : SF := fun env st => match env[i]? with
  | some (.fz x) => sE fa (fun y env st => match g st x y with
    | some z => .nx (env.set i (.fz z)) st
    | none => .bad) env st
  | _ => .bad
theorem ds_aug {i : Nat} {r : R2} {g : Sto → D → D → Option D} (hp : ∀ ta, PE X a ta → PS X s (tAug i ta r)) (ok : OpOk .val ⟨X.K, cl⟩ r g) (ha : DE .val X cl W a fa) : DS X cl W s (sAug i g fa) := by
  obtain ⟨ta, h1, h2⟩ := ha.ex
  refine ⟨_, hp _ h1, fun S α H σ env st De p q => ?_⟩
  unfold sAug at q
  split at q
  · rename_i x hi
    obtain ⟨vx, hv, rx⟩ := p.sl i _ hi
    refine ⟨vx, hv, ?_⟩
    refine sE_core (k := fun y env st => match g st x y with
      | some z => .nx (env.set i (.fz z)) st
      | none => .bad) h2 p q fun y st1 vy S1 α1 H1 _ e1 p1 r1 q1 => ?_
    cases hz : g st1 x y with
    | none => rw [hz] at q1; exact q1.elim
    | some z =>
      rw [hz] at q1
      refine ok S1 α1 H1 st1 x y vx vy z _ p1.w (.inl (rx.mono (StepE.ext e1 p.w) _ _)) (.inl r1) hz fun vz H4 g4 => ?_
      obtain ⟨S4, α4, e4, w4, r4⟩ := g4
      have p4 := p1.step e4 w4
      exact q1 S4 α4 H4 _ ((Step.lift e4).trans (Step.sub .refl fun a h => .inl (ow_setFz h))) (p4.setFz r4)
  · exact q.elim
end
end DL

set_option maxHeartbeats 4000000
namespace DL
open PySem PySem.Spec PyProof.Rows L2 Bs
abbrev Op2 := Sto → D → D → Option D
def oAdd : Op2 := fun st x y => gAdd st (deref st x) (deref st y)
def oRep : Op2 := fun st x y => gRep st (deref st x) (deref st y)
def oMul : Op2 := fun st x y => gMul st (deref st x) (deref st y)
def oSub : Op2 := fun st x y => i2 (fun i j => some (.int (i - j))) st (deref st x) (deref st y)
def oAnd : Op2 := fun st x y => i2 (fun i j => some (.int (Builtin.bitAnd i j))) st (deref st x) (deref st y)
def oOr : Op2 := fun st x y => i2 (fun i j => some (.int (Builtin.bitOr i j))) st (deref st x) (deref st y)
def oXor : Op2 := fun st x y => i2 (fun i j => some (.int (Builtin.bitXor i j))) st (deref st x) (deref st y)
def oDiv : Op2 := fun st x y => i2 gDiv st (deref st x) (deref st y)
def oMod : Op2 := fun st x y => i2 gMod st (deref st x) (deref st y)
def oPow : Op2 := fun st x y => i2 gPow st (deref st x) (deref st y)
def oShl : Op2 := fun st x y => i2 gShl st (deref st x) (deref st y)
def oEq : Op2 := fun st x y => gEq false st (deref st x) (deref st y)
def oNe : Op2 := fun st x y => gEq true st (deref st x) (deref st y)
def oIn : Op2 := fun st x y => gIn false st (deref st x) (deref st y)
def oIs : Op2 := fun st x y => gIs false st (deref st x) (deref st y)
def oIsNot : Op2 := fun st x y => gIs true st (deref st x) (deref st y)
def oLt : Op2 := fun st x y => gLt st (deref st x) (deref st y)
def oLe : Op2 := fun st x y => gLe st (deref st x) (deref st y)
def oGt : Op2 := fun st x y => i2 (fun i j => some (.bl (decide (j < i)))) st (deref st x) (deref st y)
def oGe : Op2 := fun st x y => i2 (fun i j => some (.bl (decide (j ≤ i)))) st (deref st x) (deref st y)
def oIx : Op2 := fun st x y => gIx st (deref st x) (deref st y)
section
variable {X : Cx} {cl : String → Addr} {W : WX} {e a b c o tg iter elt : Expr} {es ifs : List Expr} {s : Stmt} {ss sb sc : List Stmt} {f fa fb fc te fk : EF} {fi : IF} {tt : TF} {sf sg : SF} {pos p : Pos} {κ : Kd} {g : GF} {af : AF} {T vs : List Nat} {k : Nat}
theorem de_add (ha : DE .brw X cl W a fa) (hb : DE .brw X cl W b fb) : DE .val X cl W (.BinOp a .Add b pos) (dBin oAdd fa fb) := de_op (fun _ _ => pe_op op_addA) ok_add ha hb
theorem df_rep (ha : DE .brw X cl W a fa) (hb : DE .brw X cl W b fb) : DE .fresh X cl W (.BinOp a .Mult b pos) (dBin oRep fa fb) := de_op (fun _ _ => pe_op op_rep) ok_rep ha hb
theorem de_mul (ha : DE .brw X cl W a fa) (hb : DE .brw X cl W b fb) : DE .val X cl W (.BinOp a .Mult b pos) (dBin oMul fa fb) := de_op (fun _ _ => pe_op op_mulA) ok_mul ha hb
theorem de_sub (ha : DE .brw X cl W a fa) (hb : DE .brw X cl W b fb) : DE .val X cl W (.BinOp a .Sub b pos) (dBin oSub fa fb) := de_op (fun _ _ => pe_op op_sub) ok_sub ha hb
theorem de_band (ha : DE .brw X cl W a fa) (hb : DE .brw X cl W b fb) : DE .val X cl W (.BinOp a .BitAnd b pos) (dBin oAnd fa fb) := de_op (fun _ _ => pe_op op_and) ok_and ha hb
theorem de_bor (ha : DE .brw X cl W a fa) (hb : DE .brw X cl W b fb) : DE .val X cl W (.BinOp a .BitOr b pos) (dBin oOr fa fb) := de_op (fun _ _ => pe_op op_or) ok_or ha hb
theorem de_div (ha : DE .brw X cl W a fa) (hb : DE .brw X cl W b fb) : DE .val X cl W (.BinOp a .FloorDiv b pos) (dBin oDiv fa fb) := de_op (fun _ _ => pe_op op_fdivN) ok_div ha hb
theorem de_mod (ha : DE .brw X cl W a fa) (hb : DE .brw X cl W b fb) : DE .val X cl W (.BinOp a .Mod b pos) (dBin oMod fa fb) := de_op (fun _ _ => pe_op op_modN) ok_mod ha hb
theorem de_pow (ha : DE .brw X cl W a fa) (hb : DE .brw X cl W b fb) : DE .val X cl W (.BinOp a .Pow b pos) (dBin oPow fa fb) := de_op (fun _ _ => pe_op op_pow) ok_pow ha hb
theorem de_shl (ha : DE .brw X cl W a fa) (hb : DE .brw X cl W b fb) : DE .val X cl W (.BinOp a .LShift b pos) (dBin oShl fa fb) := de_op (fun _ _ => pe_op op_shl) ok_shl ha hb
theorem u65 {k : Nat} {A : Around} (hr : Room k A) : A.units + 65 < cLine := by have := hr.un; omega
theorem de_eq (hr : Room k X.A) (ha : DE .brw X cl W a fa) (hb : DE .brw X cl W b fb) : DE .val X cl W (.Compare a [.Eq] [b] pos) (dBin oEq fa fb) := de_op (fun _ _ h1 h2 => pe_cmpR (op_eqD hr.units) h1 h2 (nomark _)) ok_eq ha hb
theorem dt_eq (hr : Room k X.A) (ha : DE .brw X cl W a fa) (hb : DE .brw X cl W b fb) : DT X cl W (.Compare a [.Eq] [b] pos) (dBinT oEq fa fb) := dt_op (fun _ _ h1 h2 => pt_cmpR (op_eqD hr.units) h1 h2 (nomark _)) ok_eq ha hb
theorem dt_ne (hr : Room k X.A) (ha : DE .brw X cl W a fa) (hb : DE .brw X cl W b fb) : DT X cl W (.Compare a [.NotEq] [b] pos) (dBinT oNe fa fb) := dt_op (fun _ _ h1 h2 => pt_cmpR (op_neD hr.units) h1 h2 (nomark _)) ok_ne ha hb
theorem de_lt (hr : Room k X.A) (ha : DE .brw X cl W a fa) (hb : DE .brw X cl W b fb) : DE .val X cl W (.Compare a [.Lt] [b] pos) (dBin oLt fa fb) := de_op (fun _ _ h1 h2 => pe_cmpR (op_ltA hr.units0) h1 h2 (nomark _)) ok_lt ha hb
theorem dt_lt (hr : Room k X.A) (ha : DE .brw X cl W a fa) (hb : DE .brw X cl W b fb) : DT X cl W (.Compare a [.Lt] [b] pos) (dBinT oLt fa fb) := dt_op (fun _ _ h1 h2 => pt_cmpR (op_ltA hr.units0) h1 h2 (nomark _)) ok_lt ha hb
theorem dt_le (hr : Room k X.A) (ha : DE .brw X cl W a fa) (hb : DE .brw X cl W b fb) : DT X cl W (.Compare a [.LtE] [b] pos) (dBinT oLe fa fb) := dt_op (fun _ _ h1 h2 => pt_cmpR (op_leA hr.units0) h1 h2 (nomark _)) ok_le ha hb
theorem dt_gt (ha : DE .brw X cl W a fa) (hb : DE .brw X cl W b fb) : DT X cl W (.Compare a [.Gt] [b] pos) (dBinT oGt fa fb) := dt_op (fun _ _ h1 h2 => pt_cmpR op_gt h1 h2 (nomark _)) ok_gt ha hb
theorem dt_ge (ha : DE .brw X cl W a fa) (hb : DE .brw X cl W b fb) : DT X cl W (.Compare a [.GtE] [b] pos) (dBinT oGe fa fb) := dt_op (fun _ _ h1 h2 => pt_cmpR op_ge h1 h2 (nomark _)) ok_ge ha hb
theorem de_is (ha : DE .brw X cl W a fa) (hb : DE .brw X cl W b fb) : DE .val X cl W (.Compare a [.Is] [b] pos) (dBin oIs fa fb) := de_op (fun _ _ h1 h2 => pe_cmpR op_isA h1 h2 (nomark _)) ok_is ha hb
theorem dt_isnot (ha : DE .brw X cl W a fa) (hb : DE .brw X cl W b fb) : DT X cl W (.Compare a [.IsNot] [b] pos) (dBinT oIsNot fa fb) := dt_op (fun _ _ h1 h2 => pt_cmpR op_isNotA h1 h2 (nomark _)) ok_is ha hb
theorem de_in (hr : Room k X.A) (ha : DE .brw X cl W a fa) (hb : DE .brw X cl W b fb) (hm : behindInMarks .In b = false := by rfl) : DE .val X cl W (.Compare a [.In] [b] pos) (dBin oIn fa fb) := de_op (fun _ _ h1 h2 => pe_cmpR (op_inA (u65 hr)) h1 h2 hm) ok_in ha hb
theorem de_chLL (hr : Room k X.A) (ha : DE .brw X cl W a fa) (hb : DE .brw X cl W b fb) (hc : DE .brw X cl W c fc) (hm : lastMarks [.LtE, .LtE] [b, c] = false := by with_unfolding_all rfl) : DE .val X cl W (.Compare a [.LtE, .LtE] [b, c] pos) (dChain oLe oLe fa fb fc) := de_chain (fun _ _ _ h1 h2 h3 => pe_chain (op_leA hr.units0) (op_leA hr.units0) h1 h2 h3 hm) ok_le ok_le ha hb hc
theorem de_ix (ha : DE .brw X cl W a fa) (hb : DE .brw X cl W b fb) (hs : PlainIx b := by exact (fun _ _ => rfl)) : DE .val X cl W (.Subscript a b pos) (dBin oIx fa fb) := de_op (fun _ _ h1 h2 => pe_ix ix_any h1 h2 hs) ok_ix ha hb
theorem de_len (hm : X.mg "len" = none) (ha : DA .brw X cl W (a :: es) af) (hg : Gl X "len" := by rfl) (he : starEach (a :: es) X.env = (false, eval a X.env) :: starEach es X.env := by rfl) (hpl : (backTo pos (starEach es X.env)).any (·.1) = false := by rfl) : DE .val X cl W (.Call (.Name "len" p) (a :: es) [] pos) (dFn (fn1 gLen) af) :=
  de_fn (fun _ h => pe_callB cr_len hg hm (by decide +kernel) h (by decide) (by decide) he hpl) ok_len ha
theorem df_sorted (hr : Room k X.A) (hm : X.mg "sorted" = none) (ha : DA .brw X cl W (a :: es) af) (hg : Gl X "sorted" := by rfl) (he : starEach (a :: es) X.env = (false, eval a X.env) :: starEach es X.env := by rfl) (hpl : (backTo pos (starEach es X.env)).any (·.1) = false := by rfl) : DE .fresh X cl W (.Call (.Name "sorted" p) (a :: es) [] pos) (dFn (fn1 gSort) af) :=
  de_fn (fun _ h => pe_callB (cr_sort hr.units) hg hm (by decide +kernel) h (by decide) (by decide) he hpl) ok_sort ha
theorem df_list (hm : X.mg "list" = none) (ha : DA .brw X cl W (a :: es) af) (hg : Gl X "list" := by rfl) (he : starEach (a :: es) X.env = (false, eval a X.env) :: starEach es X.env := by rfl) (hpl : (backTo pos (starEach es X.env)).any (·.1) = false := by rfl) : DE .fresh X cl W (.Call (.Name "list" p) (a :: es) [] pos) (dFn (fn1 gList) af) :=
  de_fn (fun _ h => pe_callTy call_list_of hg hm (by decide +kernel) h (by decide) (by decide) he hpl) ok_list ha
theorem de_tuple (hm : X.mg "tuple" = none) (ha : DA .brw X cl W (a :: es) af) (hg : Gl X "tuple" := by rfl) (he : starEach (a :: es) X.env = (false, eval a X.env) :: starEach es X.env := by rfl) (hpl : (backTo pos (starEach es X.env)).any (·.1) = false := by rfl) : DE .val X cl W (.Call (.Name "tuple" p) (a :: es) [] pos) (dFn (fn1 gTuple) af) :=
  de_fn (fun _ h => pe_callTy call_tuple_of hg hm (by decide +kernel) h (by decide) (by decide) he hpl) ok_tuple ha
def gMin2 : D → D → Option D := fun x y => match x, y with
  | .int i, .int j => some (.int (min i j))
  | _, _ => none
def gMax2 : D → D → Option D := fun x y => match x, y with
  | .int i, .int j => some (.int (max i j))
  | _, _ => none
theorem ok_min2 {G : Gm} : CallOk .val G (fun xs H Q => ∃ i j, xs = [.int i, .int j] ∧ Q (.int (if j < i then j else i)) H) (fn2 gMin2) := callok2 fun S α H st x y vx vy z Q w bx byy hz q => by
  unfold gMin2 at hz
  split at hz
  · rename_i i j
    cases hz
    refine ⟨i, j, by rw [bx.int, byy.int], ?_⟩
    have e : (if j < i then j else i) = min i j := by split <;> omega
    rw [e]
    exact q _ _ (got_refl w rfl)
  · cases hz
theorem ok_max2 {G : Gm} : CallOk .val G (fun xs H Q => ∃ i j, xs = [.int i, .int j] ∧ Q (.int (if j > i then j else i)) H) (fn2 gMax2) := callok2 fun S α H st x y vx vy z Q w bx byy hz q => by
  unfold gMax2 at hz
  split at hz
  · rename_i i j
    cases hz
    refine ⟨i, j, by rw [bx.int, byy.int], ?_⟩
    have e : (if j > i then j else i) = max i j := by split <;> omega
    rw [e]
    exact q _ _ (got_refl w rfl)
  · cases hz
theorem de_min2 (hc : X.calm = true) (hm : X.mg "min" = none) (ha : DA .brw X cl W (a :: es) af) (hg : Gl X "min" := by rfl) (he : starEach (a :: es) X.env = (false, eval a X.env) :: starEach es X.env := by rfl) (hpl : (backTo pos (starEach es X.env)).any (·.1) = false := by rfl) : DE .val X cl W (.Call (.Name "min" p) (a :: es) [] pos) (dFn (fn2 gMin2) af) :=
  de_fn (fun _ h => pe_callB (call_min2 hc) hg hm (by decide +kernel) h (by decide) (by decide) he hpl) ok_min2 ha
theorem de_max2 (hc : X.calm = true) (hm : X.mg "max" = none) (ha : DA .brw X cl W (a :: es) af) (hg : Gl X "max" := by rfl) (he : starEach (a :: es) X.env = (false, eval a X.env) :: starEach es X.env := by rfl) (hpl : (backTo pos (starEach es X.env)).any (·.1) = false := by rfl) : DE .val X cl W (.Call (.Name "max" p) (a :: es) [] pos) (dFn (fn2 gMax2) af) :=
  de_fn (fun _ h => pe_callB (call_max2 hc) hg hm (by decide +kernel) h (by decide) (by decide) he hpl) ok_max2 ha
def gInt : D → Option D
  | .int i => some (.int i)
  | .bl k => some (.int (if k then 1 else 0))
  | _ => none
theorem ok_int {G : Gm} : CallOk .val G (fun xs H Q => (∃ i, xs = [.int i] ∧ Q (.int i) H) ∨ ∃ k, xs = [.bl k] ∧ Q (.int (if k then 1 else 0)) H) (fn1 gInt) := callok1 fun S α H st x vx z Q w bx hz q => by
  unfold gInt at hz
  split at hz
  · cases hz; exact .inl ⟨_, by rw [bx.int], q _ _ (got_refl w rfl)⟩
  · cases hz; exact .inr ⟨_, by rw [bx.bl], q _ _ (got_refl w rfl)⟩
  · cases hz
theorem de_int1 (hm : X.mg "int" = none) (ha : DA .brw X cl W (a :: es) af) (hg : Gl X "int" := by rfl) (he : starEach (a :: es) X.env = (false, eval a X.env) :: starEach es X.env := by rfl) (hpl : (backTo pos (starEach es X.env)).any (·.1) = false := by rfl) : DE .val X cl W (.Call (.Name "int" p) (a :: es) [] pos) (dFn (fn1 gInt) af) :=
  de_fn (fun _ h => pe_callTy call_int1 hg hm (by decide +kernel) h (by decide) (by decide) he hpl) ok_int ha
end
end DL

set_option maxHeartbeats 4000000
namespace DL
open PySem PySem.Spec PyProof.Rows L2 Bs
section
variable {G : Gm} {S S' S1 : Addr → Prop} {α α' α1 : List Addr} {H H' H1 : Hp} {O O' O1 : Addr → Prop} {st st' : Sto} {σ σ' : Slots} {env env' : En} {W : WX}
theorem Pre.sto_upd {n : Nat} {a : Addr} {d d' : D} {ho : HO} (p : Pre G S α H σ env st) (ha : α[n]? = some a) (hd : st[n]? = some d) (new : Own G S α (L2.upd H a ho) a d') :
    Pre G S α (L2.upd H a ho) σ env (st.set n d') ∧ Step S α O H S α O (L2.upd H a ho) := by
  have am : a ∈ α := List.mem_of_getElem? ha
  have nS : ¬ S a := p.w.ns a am
  refine ⟨⟨⟨fun b h => live_upd (p.w.live b h), by rw [List.length_set]; exact p.w.len, p.w.nd, p.w.ns, fun m b x e1 e2 => ?_, fun b h o e => p.w.so b h o (by rw [← e, upd_ne (show b ≠ a from fun z => nS (z ▸ h))]), p.w.tb.upd (p.w.sto n a d ha hd).soft⟩, p.len, fun i s h => ?_, p.ap⟩, ⟨fun _ h => h, fun _ _ h => h, fun b o h h1 _ _ => by rw [upd_ne (show b ≠ a from fun z => h1 (z ▸ am))]; exact h, fun _ h => .inl h, fun _ h => .inl h, fun _ h => .inl h, fun b h => live_upd h, fun b h => .inr (h.own_upd new.noTup)⟩⟩
  · rw [List.getElem?_set] at e2
    by_cases e : n = m
    · rw [if_pos e] at e2
      split at e2
      · cases e2
        subst e
        rw [ha] at e1
        cases e1
        exact new
      · cases e2
    · rw [if_neg e] at e2
      have ne : b ≠ a := fun z => by
        subst z
        obtain ⟨h1, e3⟩ := List.getElem?_eq_some_iff.mp ha
        obtain ⟨h2, e4⟩ := List.getElem?_eq_some_iff.mp e1
        exact e ((List.getElem_inj p.w.nd).mp (e3.trans e4.symm))
      exact (p.w.sto m b x e1 e2).mono (ext_upd nS) (upd_ne ne)
  · have q := p.sl i s h
    cases s with
    | no => trivial
    | fz x => obtain ⟨v, k1, k2⟩ := q; exact ⟨v, k1, k2.mono (ext_upd nS) _ _⟩
    | ow x =>
      obtain ⟨b, k1, k2, k3, k4⟩ := q
      exact ⟨b, k1, k2, k3, k4.mono (ext_upd nS) (upd_ne (show b ≠ a from fun z => k3 (z ▸ am)))⟩
theorem Got.alloc {d : D} {v : V} (g : Got .fresh G S α H d st' v H1) : Got .val G S α H (.ref st'.length) (st' ++ [d]) v H1 := by
  obtain ⟨S1, α1, e, w, a, rfl, n1, n2, n3, ow⟩ := g
  have x : Ext S1 α1 H1 S1 (α1 ++ [a]) H1 := ⟨fun _ h => h, fun n b h => by rw [List.getElem?_append, if_pos (List.getElem?_eq_some_iff.mp h).1]; exact h, fun _ _ => rfl⟩
  refine ⟨S1, α1 ++ [a], ⟨e.s, fun n b h => x.al n b (e.al n b h), e.keep, e.sn, fun b h => ?_, e.on, e.live, e.tp⟩, ⟨w.live, by rw [List.length_append, List.length_append, w.len]; rfl, ?_, fun b h => ?_, fun n b y e1 e2 => ?_, w.so, w.tb⟩, a, rfl, ?_⟩
  · rcases List.mem_append.mp h with h | h
    · exact e.an b h
    · rw [List.mem_singleton] at h
      exact .inr (.inr (h ▸ n3))
  · rw [List.nodup_append]
    refine ⟨w.nd, by simp, fun b hb c hc z => ?_⟩
    rw [List.mem_singleton] at hc
    exact n2 (hc ▸ z ▸ hb)
  · rcases List.mem_append.mp h with h | h
    · exact w.ns b h
    · rw [List.mem_singleton] at h
      exact h ▸ n1
  · rw [List.getElem?_append] at e1 e2
    rw [w.len] at e1
    by_cases hl : n < st'.length
    · rw [if_pos hl] at e1 e2
      exact (w.sto n b y e1 e2).mono x rfl
    · rw [if_neg hl] at e1 e2
      have h0 : n - st'.length = 0 := by
        have := (List.getElem?_eq_some_iff.mp e2).1
        simp at this
        exact this
      rw [h0] at e1 e2
      cases e1
      cases e2
      exact ow.mono x rfl
  · rw [List.getElem?_append, w.len, if_neg (Nat.lt_irrefl _), Nat.sub_self]
    rfl
end
def dAlloc (f : EF) : EF := fun env st => (f env st).bind fun d st1 => .ok (.ref st1.length) (st1 ++ [d])
section
variable {X : Cx} {cl : String → Addr} {W : WX} {e a b c o tg iter elt : Expr} {es ifs : List Expr} {s : Stmt} {ss sb sc : List Stmt} {f fa fb fc te fk fo : EF} {fi : IF} {tt : TF} {sf sg : SF} {pos p : Pos} {κ : Kd} {g : GF} {af : AF} {T vs : List Nat} {k : Nat}
theorem de_alloc (h : DE .fresh X cl W e f) : DE .val X cl W e (dAlloc f) := by
  obtain ⟨t, h1, h2⟩ := h.ex
  refine ⟨t, h1, fun S α H σ env st Q p q => h2 S α H σ env st Q p ?_⟩
  unfold dAlloc at q
  cases r : f env st with
  | bad => rw [r] at q; exact q
  | exc c fs st1 => rw [r] at q; exact q
  | ok d st1 =>
    rw [r] at q
    exact fun v H1 g => q v H1 g.alloc
theorem sto_at {G : Gm} {S : Addr → Prop} {α : List Addr} {H : Hp} {st : Sto} {n : Nat} {v : V} {l : List D} (w : World G S α H st) (r : Rep G S α H (.ref n) v) (hs : st[n]? = some (.lst l)) : ∃ b xs, v = .ref b ∧ α[n]? = some b ∧ H b = some (.lst xs) ∧ RepL G S α H l xs := by
  obtain ⟨b, rfl, hb⟩ := r
  obtain ⟨xs, h1, h2⟩ := w.sto n b _ hb hs
  exact ⟨b, xs, rfl, hb, h1, h2⟩
def sAppR (fo fa : EF) : SF := sE fo fun o env st => match o with
  | .ref n => match st[n]? with
    | some (.lst _) => sE fa (fun d env st => match st[n]? with
      | some (.lst l) => if l.length < lim then .nx env (st.set n (.lst (l ++ [d]))) else .bad
      | _ => .bad) env st
    | _ => .bad
  | _ => .bad
theorem ds_appR (hp : ∀ to ta, PE X o to → PE X a ta → PS X s (tDrop (tBM X.K "list" rAppend to (tCons ta tNil)))) (ho : DE .val X cl W o fo) (ha : DE .val X cl W a fa) : DS X cl W s (sAppR fo fa) := by
  obtain ⟨to, o1, o2⟩ := ho.ex
  obtain ⟨ta, h1, h2⟩ := ha.ex
  refine ⟨_, hp _ _ o1 h1, fun S α H σ env st De p q => ?_⟩
  show to σ H (fun x H1 => tyV X.K "list" x H1 ∧ tCons ta tNil σ H1 fun xs H2 => rAppend x xs H2 (fun _ H3 => De.nx σ H3))
  refine sE_core (k := fun o env st => match o with
    | .ref n => match st[n]? with
      | some (.lst _) => sE fa (fun d env st => match st[n]? with
        | some (.lst l) => if l.length < lim then .nx env (st.set n (.lst (l ++ [d]))) else .bad
        | _ => .bad) env st
      | _ => .bad
    | _ => .bad) o2 p q fun d0 st0 v0 S0 α0 H0 _ e0 p0 r0 q0 => ?_
  cases d0 with
  | ref n =>
    dsimp only at q0
    split at q0
    · rename_i l0 hs0
      obtain ⟨b, xs, rfl, hb, h3, h4⟩ := sto_at p0.w r0 hs0
      refine ⟨.inl ⟨rfl, _, SqL.of h3⟩, ?_⟩
      refine sE_core (k := fun d env st => match st[n]? with
        | some (.lst l) => if l.length < lim then .nx env (st.set n (.lst (l ++ [d]))) else .bad
        | _ => .bad) h2 p0 q0 fun d st1 v S1 α1 H1 _ e1 p1 r1 q1 => ?_
      split at q1
      · rename_i l hs1
        split at q1
        · rename_i hl
          obtain ⟨b', ys, eb, hb', j3, j4⟩ := sto_at p1.w (Rep.mono (StepE.ext e1 p0.w) _ _ r0) hs1
          cases eb
          refine ⟨b, ys, v, rfl, rfl, j3, by rw [j4.len]; exact Nat.lt_trans hl lim_line, ?_⟩
          obtain ⟨p2, s2⟩ := p1.sto_upd (O := Ow σ env) (d' := .lst (l ++ [d])) (ho := .lst (ys ++ [v])) hb' hs1 ⟨_, upd_same, (j4.append (.one r1)).mono (ext_upd (p1.w.ns b (List.mem_of_getElem? hb'))) _ _⟩
          exact q1 S1 α1 _ σ s2 p2
        · exact q1.elim
      · exact q1.elim
    · exact q0.elim
  | _ => exact q0.elim
def sSubR (fo fk fa : EF) : SF := sE fa fun d env st => sE fo (fun o env st => sE fk (fun kd env st => match o, kd with
  | .ref n, .int k => match st[n]? with
    | some (.lst l) => match ixN l.length k with
      | some j => .nx env (st.set n (.lst (l.set j d)))
      | none => .bad
    | _ => .bad
  | _, _ => .bad) env st) env st
theorem ds_subR (hp : ∀ to tk ta, PE X o to → PE X b tk → PE X a ta → PS X s (tAsg ta (gSub to tk rSetL))) (ho : DE .val X cl W o fo) (hk : DE .val X cl W b fk) (ha : DE .val X cl W a fa) : DS X cl W s (sSubR fo fk fa) := by
  obtain ⟨to, o1, o2⟩ := ho.ex
  obtain ⟨ta, h1, h2⟩ := ha.ex
  obtain ⟨tk, k1, k2⟩ := hk.ex
  refine ⟨_, hp _ _ _ o1 k1 h1, fun S α H σ env st De p q => ?_⟩
  refine sE_core (k := fun d env st => sE fo (fun o env st => sE fk (fun kd env st => match o, kd with
    | .ref n, .int k => match st[n]? with
      | some (.lst l) => match ixN l.length k with
        | some j => .nx env (st.set n (.lst (l.set j d)))
        | none => .bad
      | _ => .bad
    | _, _ => .bad) env st) env st) h2 p q fun d st1 v S1 α1 H1 _ e1 p1 r1 q1 => ?_
  refine sE_core (k := fun o env st => sE fk (fun kd env st => match o, kd with
    | .ref n, .int k => match st[n]? with
      | some (.lst l) => match ixN l.length k with
        | some j => .nx env (st.set n (.lst (l.set j d)))
        | none => .bad
      | _ => .bad
    | _, _ => .bad) env st) o2 p1 q1 fun od st2 vo S2 α2 H2 _ e2 p2 r2 q2 => ?_
  refine sE_core (k := fun kd env st => match (generalizing := false) od, kd with
    | .ref n, .int k => match st[n]? with
      | some (.lst l) => match ixN l.length k with
        | some j => .nx env (st.set n (.lst (l.set j d)))
        | none => .bad
      | _ => .bad
    | _, _ => .bad) k2 p2 q2 fun kd st3 vk S3 α3 H3 _ e3 p3 r3 q3 => ?_
  cases od with
  | ref n =>
    cases kd with
    | int kk =>
      dsimp only at q3
      split at q3
      · rename_i l hs
        split at q3
        · rename_i j hj
          obtain ⟨b0, ys, eb, hb, j3, j4⟩ := sto_at p3.w (Rep.mono (StepE.ext e3 p2.w) _ _ r2) hs
          refine ⟨b0, ys, kk, j, eb, r3, j3, by rw [j4.len]; exact hj, ?_⟩
          have rd := Rep.mono (StepE.ext e3 p2.w) _ _ (Rep.mono (StepE.ext e2 p1.w) _ _ r1)
          obtain ⟨p4, s4⟩ := p3.sto_upd (O := Ow σ env) (d' := .lst (l.set j d)) (ho := .lst (ys.set j v)) hb hs ⟨_, upd_same, (RepL.set rd j j4).mono (ext_upd (p3.w.ns b0 (List.mem_of_getElem? hb))) _ _⟩
          exact q3 S3 α3 _ σ s4 p4
        · exact q3.elim
      · exact q3.elim
    | _ => exact q3.elim
  | _ => exact q3.elim
abbrev OF := En → Sto → R (Option Int)
def dNoPart : OF := fun _ st => .ok none st
def dPart (f : EF) : OF := fun env st => (f env st).bind fun d st1 => match d with
  | .int i => .ok (some i) st1
  | _ => .bad
def OkO (G : Gm) (W : WX) (f : OF) (t : TO) : Prop := ∀ (S : Addr → Prop) (α : List Addr) (H : Hp) (σ : Slots) (env : En) (st : Sto) (Q : Option Int → Hp → Prop), Pre G S α H σ env st →
  (match f env st with
    | .ok i st' => ∀ H1, (∃ S1 α1, StepE S α H S1 α1 H1 ∧ World G S1 α1 H1 st') → Q i H1
    | .exc c fs st' => ∀ dx H1, GotX G S α ØO H fs st' dx H1 → W (.ref (G.cl c)) dx σ H1
    | .bad => False) → t σ H Q
structure DO (X : Cx) (cl : String → Addr) (W : WX) (e : Option Expr) (f : OF) : Prop where
  ex : ∃ t, PO X e t ∧ OkO ⟨X.K, cl⟩ W f t
theorem do_none : DO X cl W none dNoPart := ⟨_, po_none, fun S α H σ env st Q p q => q H ⟨S, α, .refl, p.w⟩⟩
theorem do_some (h : DE .val X cl W a fa) : DO X cl W (some a) (dPart fa) := by
  obtain ⟨t, h1, h2⟩ := h.ex
  refine ⟨_, po_some h1, fun S α H σ env st Q p q => ?_⟩
  refine h2 S α H σ env st _ p ?_
  unfold dPart at q
  cases r : fa env st with
  | bad => rw [r] at q; exact q
  | exc c fs st1 => rw [r] at q; exact q
  | ok d st1 =>
    rw [r] at q
    rintro v H1 ⟨S1, α1, e1, w1, r1⟩
    cases d with
    | int i => exact ⟨i, r1, q H1 ⟨S1, α1, e1, w1⟩⟩
    | _ => exact q.elim
def cutD (l : List D) (lo hi : Option Int) : List D := (l.drop (HT.sIx l.length 0 lo)).take (HT.sIx l.length l.length hi - HT.sIx l.length 0 lo)
def gSl (d : D) (lo hi : Option Int) : Option D := match d with
  | .lst l => some (.lst (cutD l lo hi))
  | .rdl l => some (.lst (cutD l lo hi))
  | .tup l => some (.tup (cutD l lo hi))
  | _ => none
def dSl (fa : EF) (fl fh : OF) : EF := fun env st => (fa env st).bind fun x st1 => (fl env st1).bind fun l st2 => (fh env st2).bind fun h st3 => dOpt (gSl (deref st3 x) l h) st3
theorem cut_rep {G : Gm} {S : Addr → Prop} {α : List Addr} {H : Hp} {l : List D} {xs : List V} (h : RepL G S α H l xs) (lo hi : Option Int) : RepL G S α H (cutD l lo hi) (cutV xs lo hi) := by
  unfold cutD cutV
  rw [h.len]
  exact (h.drop _).take _
theorem cut_whole {l : List D} {lo hi : Option Int} (h : HT.sIx l.length 0 lo = 0 ∧ HT.sIx l.length l.length hi = l.length) : cutD l lo hi = l := by
  unfold cutD
  rw [h.1, h.2, List.drop_zero, Nat.sub_zero, List.take_length]
theorem de_slice {lo hi : Option Expr} {fl fh : OF} {p2 : Pos} (ha : DE .brw X cl W a fa) (hl : DO X cl W lo fl) (hh : DO X cl W hi fh) : DE .val X cl W (.Subscript a (.Slice lo hi none p2) pos) (dSl fa fl fh) := by
  obtain ⟨ta, a1, a2⟩ := ha.ex
  obtain ⟨tl, l1, l2⟩ := hl.ex
  obtain ⟨th, h1, h2⟩ := hh.ex
  refine ⟨_, pe_slice (.or sl_list sl_tupA) a1 l1 h1, fun S α H σ env st Q p q => ?_⟩
  refine a2 S α H σ env st _ p ?_
  unfold dSl at q
  cases ra : fa env st with
  | bad => rw [ra] at q; exact q
  | exc c fs st1 => rw [ra] at q; exact q
  | ok x st1 =>
    rw [ra] at q
    rintro v H1 ⟨S1, α1, e1, w1, b1⟩
    have q1 := PostE.step e1 q
    refine l2 S1 α1 H1 σ env st1 _ (p.step e1 w1) ?_
    simp only [R.bind] at q1
    cases rl : fl env st1 with
    | bad => rw [rl] at q1; exact q1
    | exc c fs st2 => rw [rl] at q1; exact q1
    | ok l st2 =>
      rw [rl] at q1
      rintro H2 ⟨S2, α2, e2, w2⟩
      have q2 := PostE.step e2 q1
      refine h2 S2 α2 H2 σ env st2 _ ((p.step e1 w1).step e2 w2) ?_
      dsimp only at q2
      cases rh : fh env st2 with
      | bad => rw [rh] at q2; exact q2
      | exc c fs st3 => rw [rh] at q2; exact q2
      | ok h st3 =>
        rw [rh] at q2
        rintro H3 ⟨S3, α3, e3, w3⟩
        have q3 := PostE.step e3 q2
        have vw := BRep.view w3 ((BRep.step b1 e2 w1).step e3 w2)
        dsimp only at q3
        cases hx : deref st3 x with
        | lst m =>
          rw [hx] at q3 vw
          obtain ⟨b0, xs, rfl, g1, g2⟩ := vw.lst
          exact .inl ⟨b0, xs, rfl, SqL.of g1, fun p hp => q3 _ _ (got_lst hp w3 (cut_rep g2 l h)).ofFresh⟩
        | rdl m =>
          rw [hx] at q3 vw
          obtain ⟨b0, xs, rfl, _, g1, g2⟩ := vw.rdl
          exact .inl ⟨b0, xs, rfl, g1, fun p hp => q3 _ _ (got_lst hp w3 (cut_rep g2 l h)).ofFresh⟩
        | tup m =>
          rw [hx] at q3 vw
          obtain ⟨b0, xs, rfl, sb, g1, g2⟩ := vw.tup
          refine .inr ⟨b0, xs, rfl, SqT.of g1, fun hw => ?_, fun _ p hp => q3 _ _ (got_tup hp w3 (cut_rep g2 l h))⟩
          rw [g2.len] at hw
          have q4 : ∀ v H1, Got .val ⟨X.K, cl⟩ S3 α3 H3 (.tup (cutD m l h)) st3 v H1 → Q v H1 := q3
          rw [cut_whole hw] at q4
          exact q4 _ _ (got_refl w3 ⟨b0, xs, rfl, sb, g1, g2⟩)
        | _ => rw [hx] at q3; exact q3.elim
def tyD : D → Option String
  | .non => some "NoneType"
  | .bl _ => some "bool"
  | .int _ => some "int"
  | .str _ => some "str"
  | .tup _ => some "tuple"
  | .lst _ => some "list"
  | .dic _ _ _ => some "dict"
  | _ => none
def isaD (T : String) (tb : List (String × Bool)) (d : D) : Option Bool := match d with
  | .ins c _ _ => tb.lookup c
  | d => (tyD d).bind fun t => kitB t T
structure ClsI (K : PySem.W.Frag) (C : Addr) : Prop where
  cl : Cls K C
  ha : PySem.W.findIn K (.ref C) "__class__" = some (some (.builtin "object.__class__"))
  hn : PySem.W.specialIn K (.builtin "object.__class__") "__get__" = some (some (.builtin "getset_descriptor.__get__"))
  ht : PySem.W.takesIn K (.builtin "object.__class__") = some true
  hm : PySem.W.mroIn K C (.type "object") = some true
def IsaOk (K : PySem.W.Frag) (cl : String → Addr) (u : Value) (tb : List (String × Bool)) : Prop := ∀ c b, tb.lookup c = some b → ClsI K (cl c) ∧ PySem.W.kitOne K (.ref (cl c)) u = some b
theorem View.tyX {K : PySem.W.Frag} {S : Addr → Prop} {α : List Addr} {H : Hp} {d : D} {v : V} {t : String} (h : View ⟨K, cl⟩ S α H d v) (e : tyD d = some t) : TyX K H v (.type t) := by
  cases d with
  | non => cases e; rw [h.non]; exact .base .non
  | bl b => cases e; rw [h.bl]; exact .base (.bl b)
  | int i => cases e; rw [h.int]; exact .base (.int i)
  | str x => cases e; rw [h.str]; exact .base (.str x)
  | tup l => cases e; obtain ⟨a, xs, rfl, _, h1, _⟩ := h.tup; exact .base (.tup h1)
  | lst l => cases e; obtain ⟨a, xs, rfl, h1, _⟩ := h.lst; exact .base (.lst h1)
  | dic t ks vs =>
    cases e
    cases t with
    | true => obtain ⟨a, xs, rfl, h1, _⟩ := h.dT; exact .base (.dT h1)
    | false => obtain ⟨a, xs, rfl, h1, _⟩ := h.dK; exact .base (.dK h1)
  | _ => cases e
theorem isa_ok {K : PySem.W.Frag} {S : Addr → Prop} {α : List Addr} {H : Hp} {d : D} {v : V} {T : String} {tb : List (String × Bool)} {b : Bool} (F : IsaOk K cl (.type T) tb) (h : View ⟨K, cl⟩ S α H d v) (e : isaD T tb d = some b) : ∃ t, TyX K H v t ∧ PySem.W.kitOne K t (.type T) = some b := by
  have go : ∀ {o : Option String}, tyD d = o → (o.bind fun t => kitB t T) = some b → ∃ t, TyX K H v t ∧ PySem.W.kitOne K t (.type T) = some b := fun {o} ho hb => by
    cases o with
    | none => cases hb
    | some t => exact ⟨_, h.tyX ho, kit_ty hb⟩
  cases d with
  | ins c ns l =>
    obtain ⟨I, hk⟩ := F c b e
    obtain ⟨a, dx, fs, rfl, h1, _⟩ := h.ins
    exact ⟨_, .base (.ins h1 I.cl I.ha I.hn I.ht I.hm), hk⟩
  | _ => exact go rfl e
def gIsa (T : String) (tb : List (String × Bool)) : D → Option D := fun d => (isaD T tb d).map .bl
theorem de_isa {T : String} {tb : List (String × Bool)} (hm : X.mg "isinstance" = none) (F : IsaOk X.K cl (.type T) tb) (ha : DE .brw X cl W a fa) (hT : PE X b (tC (.ty T))) (hg : Gl X "isinstance" := by rfl)
    (he : starEach [a, b] X.env = (false, eval a X.env) :: starEach [b] X.env := by rfl) (he2 : starEach [b] X.env = (false, eval b X.env) :: starEach [] X.env := by rfl) (hpl : (backTo pos (starEach [b] X.env)).any (·.1) = false := by rfl) :
    DE .val X cl W (.Call (.Name "isinstance" p) [a, b] [] pos) (dUn (gIsa T tb) fa) := by
  refine de_un (r := fun x H Q => rIsi X.K [x, .ty T] H Q) (fun ta h => ?_) (fun S α H st x vx z Q w bx hz q => ?_) ha
  · exact pe_callB call_isi hg hm (by decide +kernel) (pa_cons h (pa_cons hT pa_nil he2) he) (by decide) (by decide) he hpl
  · unfold gIsa at hz
    cases e : isaD T tb x with
    | none => rw [e] at hz; cases hz
    | some r =>
      rw [e] at hz
      cases hz
      obtain ⟨t, k1, k2⟩ := isa_ok F bx e
      exact ⟨vx, .ty T, t, .type T, r, rfl, .ty T, k1, k2, q _ _ (got_refl w rfl)⟩
def isaD2 (T U : String) (tb tc : List (String × Bool)) (d : D) : Option Bool := match isaD T tb d, isaD U tc d with
  | some a, some b => some (a || b)
  | _, _ => none
theorem ty_same {K : PySem.W.Frag} {S : Addr → Prop} {α : List Addr} {H : Hp} {d : D} {v : V} {T U : String} {tb tc : List (String × Bool)} {r1 r2 : Bool} (F : IsaOk K cl (.type T) tb) (F2 : IsaOk K cl (.type U) tc) (h : View ⟨K, cl⟩ S α H d v) (e1 : isaD T tb d = some r1) (e2 : isaD U tc d = some r2) : ∃ t, TyX K H v t ∧ PySem.W.kitOne K t (.type T) = some r1 ∧ PySem.W.kitOne K t (.type U) = some r2 := by
  have go : ∀ {o : Option String}, tyD d = o → (o.bind fun t => kitB t T) = some r1 → (o.bind fun t => kitB t U) = some r2 → ∃ t, TyX K H v t ∧ PySem.W.kitOne K t (.type T) = some r1 ∧ PySem.W.kitOne K t (.type U) = some r2 := fun {o} ho h1 h2 => by
    cases o with
    | none => cases h1
    | some t => exact ⟨_, h.tyX ho, kit_ty h1, kit_ty h2⟩
  cases d with
  | ins c ns l =>
    obtain ⟨I, hk⟩ := F c r1 e1
    obtain ⟨_, hk2⟩ := F2 c r2 e2
    obtain ⟨a, dx, fs, rfl, h1, _⟩ := h.ins
    exact ⟨_, .base (.ins h1 I.cl I.ha I.hn I.ht I.hm), hk, hk2⟩
  | _ => exact go rfl e1 e2
def gIsa2 (T U : String) (tb tc : List (String × Bool)) : D → Option D := fun d => (isaD2 T U tb tc d).map .bl
theorem de_isa2 {T U : String} {tb tc : List (String × Bool)} {b2 : Expr} {kk : Nat} {pt : Pos} (hm : X.mg "isinstance" = none) (F : IsaOk X.K cl (.type T) tb) (F2 : IsaOk X.K cl (.type U) tc) (ha : DE .brw X cl W a fa) (hT : PE X b (tC (.ty T))) (hU : PE X b2 (tC (.ty U))) (hg : Gl X "isinstance" := by rfl)
    (he : starEach [a, .Tuple [b, b2] kk pt] X.env = (false, eval a X.env) :: starEach [.Tuple [b, b2] kk pt] X.env := by rfl) (he2 : starEach [.Tuple [b, b2] kk pt] X.env = (false, eval (.Tuple [b, b2] kk pt) X.env) :: starEach [] X.env := by rfl)
    (he3 : starEach [b, b2] X.env = (false, eval b X.env) :: starEach [b2] X.env := by rfl) (he4 : starEach [b2] X.env = (false, eval b2 X.env) :: starEach [] X.env := by rfl) (hpl : (backTo pos (starEach [.Tuple [b, b2] kk pt] X.env)).any (·.1) = false := by rfl) :
    DE .val X cl W (.Call (.Name "isinstance" p) [a, .Tuple [b, b2] kk pt] [] pos) (dUn (gIsa2 T U tb tc) fa) := by
  refine de_un (r := fun x H Q => ∀ tp, H tp = none → 2 ≤ sizeLine ∧ rIsiT X.K [x, .ref tp] (upd H tp (.tup [.ty T, .ty U])) Q) (fun ta h => ?_) (fun S α H st x vx z Q w bx hz q => ?_) ha
  · have h2 := pe_callB (p := p) (call_isiT (X := X)) hg hm (by decide +kernel) (pa_cons h (pa_cons (pe_tup (x1 := kk) (pos := pt) (pa_cons hT (pa_cons hU pa_nil he4) he3)) pa_nil he2) he) (by decide) (by decide) he hpl
    refine ⟨fun pins s σ H Q I hw => h2.run pins s σ H Q I ?_⟩
    refine (?_ : ta σ H _)
    have h3 : ∀ (x : V) (H1 : Hp), (∀ tp, H1 tp = none → 2 ≤ sizeLine ∧ rIsiT X.K [x, .ref tp] (upd H1 tp (.tup [.ty T, .ty U])) Q) → ([V.ty T, V.ty U].length ≤ sizeLine ∧ ∀ p, H1 p = none → rIsiT X.K [x, .ref p] (upd H1 p (.tup [V.ty T, V.ty U])) Q) := fun x H1 h => ⟨by show 2 ≤ sizeLine; decide, fun p hp => (h p hp).2⟩
    have e : (fun (x : V) (H1 : Hp) => ∀ tp, H1 tp = none → 2 ≤ sizeLine ∧ rIsiT X.K [x, .ref tp] (upd H1 tp (.tup [.ty T, .ty U])) Q) = (fun (x : V) (H1 : Hp) => ([V.ty T, V.ty U].length ≤ sizeLine ∧ ∀ p, H1 p = none → rIsiT X.K [x, .ref p] (upd H1 p (.tup [V.ty T, V.ty U])) Q)) := by
      funext x H1
      exact propext ⟨h3 x H1, fun h tp ht => ⟨by decide, h.2 tp ht⟩⟩
    have hw' : ta σ H (fun (x : V) (H1 : Hp) => ∀ tp, H1 tp = none → 2 ≤ sizeLine ∧ rIsiT X.K [x, .ref tp] (upd H1 tp (.tup [.ty T, .ty U])) Q) := hw
    rw [e] at hw'
    exact hw'
  · unfold gIsa2 isaD2 at hz
    cases e1 : isaD T tb x with
    | none => rw [e1] at hz; cases hz
    | some r1 =>
      cases e2 : isaD U tc x with
      | none => rw [e1, e2] at hz; cases hz
      | some r2 =>
        rw [e1, e2] at hz
        cases hz
        intro tp htp
        have w2 := world_new (o := HO.tup [.ty T, .ty U]) htp w
        have bx2 : View ⟨X.K, cl⟩ S α (upd H tp (.tup [.ty T, .ty U])) x vx := by
          rcases bx with bx | ⟨b0, rfl, bx⟩
          · exact .inl (bx.mono (StepE.ext (step_new htp) w) _ _)
          · exact .inr ⟨b0, rfl, own_new htp w bx⟩
        obtain ⟨t, k1, k2, k3⟩ := ty_same F F2 bx2 e1 e2
        refine ⟨by decide, vx, tp, _, t, [.type T, .type U], (r1 || r2), rfl, upd_same, .cons (.ty T) (.cons (.ty U) .nil), k1, ?_, q _ _ ⟨S, α, step_new htp, w2, rfl⟩⟩
        exact kitAny_cons k2 (fun h => by subst h; exact kitAny_cons k3 (fun h => by subst h; exact kitAny_nil) (fun h => by subst h; rfl)) (fun h => by subst h; rfl)
end
end DL

set_option maxHeartbeats 4000000
namespace DL
open PySem PySem.Spec PyProof.Rows L2 Bs
mutual
def rl (n : Nat) : D → Bool
  | .tup l => rlL n l
  | .lst l => rlL n l
  | .rdl l => rlL n l
  | .dic _ _ vs => rlL n vs
  | .ins _ _ l => rlL n l
  | .ref m => decide (m < n)
  | .non => true
  | .bl _ => true
  | .int _ => true
  | .str _ => true
def rlL (n : Nat) : List D → Bool
  | [] => true
  | d :: l => rl n d && rlL n l
end
section
variable {G : Gm} {S S' S1 : Addr → Prop} {α α' α1 : List Addr} {H H' H1 : Hp} {O O' O1 : Addr → Prop} {st st' : Sto} {σ σ' : Slots} {env env' : En} {W : WX} {n : Nat}
mutual
theorem Rep.cut : ∀ (d : D) (v : V), rl n d = true → Rep G S α H d v → Rep G S (α.take n) H d v
  | .non, v, _, h => h
  | .bl _, v, _, h => h
  | .int _, v, _, h => h
  | .str _, v, _, h => h
  | .tup l, v, r, h => by
    obtain ⟨a, xs, hv, h0, h1, h2⟩ := h
    exact ⟨a, xs, hv, h0, h1, RepL.cut l xs (by simpa only [rl] using r) h2⟩
  | .lst l, v, r, h => by
    obtain ⟨a, xs, hv, h0, h1, h2⟩ := h
    exact ⟨a, xs, hv, h0, h1, RepL.cut l xs (by simpa only [rl] using r) h2⟩
  | .rdl l, v, r, h => by
    obtain ⟨a, xs, hv, h1, h2⟩ := h
    exact ⟨a, xs, hv, h1, RepL.cut l xs (by simpa only [rl] using r) h2⟩
  | .dic true ks vs, v, r, h => by
    obtain ⟨a, kvs, hv, h0, h1, hk, h2⟩ := h
    exact ⟨a, kvs, hv, h0, h1, hk, RepL.cut vs _ (by simpa only [rl] using r) h2⟩
  | .dic false ks vs, v, r, h => by
    obtain ⟨a, kvs, hv, h0, h1, hk, h2⟩ := h
    exact ⟨a, kvs, hv, h0, h1, hk, RepL.cut vs _ (by simpa only [rl] using r) h2⟩
  | .ins c ns l, v, r, h => by
    obtain ⟨a, dx, fs, hv, h0, h1, hk, h2⟩ := h
    exact ⟨a, dx, fs, hv, h0, h1, hk, RepL.cut l _ (by simpa only [rl] using r) h2⟩
  | .ref m, v, r, h => by
    obtain ⟨a, hv, h1⟩ := h
    have hm : m < n := by simpa [rl] using r
    exact ⟨a, hv, by rw [List.getElem?_take, if_pos hm]; exact h1⟩
theorem RepL.cut : ∀ (l : List D) (vs : List V), rlL n l = true → RepL G S α H l vs → RepL G S (α.take n) H l vs
  | [], vs, _, h => h
  | d :: l, vs, r, h => by
    obtain ⟨v, t, hv, h1, h2⟩ := h
    simp only [rlL, Bool.and_eq_true] at r
    exact ⟨v, t, hv, Rep.cut d v r.1 h1, RepL.cut l t r.2 h2⟩
end
theorem Own.cut {a : Addr} : ∀ {d : D}, rl n d = true → Own G S α H a d → Own G S (α.take n) H a d
  | .lst l, r, h => by obtain ⟨xs, h1, h2⟩ := h; exact ⟨xs, h1, h2.cut _ _ (by simpa only [rl] using r)⟩
  | .dic true ks vs, r, h => by obtain ⟨kvs, h1, hk, h2⟩ := h; exact ⟨kvs, h1, hk, h2.cut _ _ (by simpa only [rl] using r)⟩
  | .dic false ks vs, r, h => by obtain ⟨kvs, h1, hk, h2⟩ := h; exact ⟨kvs, h1, hk, h2.cut _ _ (by simpa only [rl] using r)⟩
  | .ins c ns l, r, h => by obtain ⟨dx, fs, h1, hk, h2⟩ := h; exact ⟨dx, fs, h1, hk, h2.cut _ _ (by simpa only [rl] using r)⟩
end
def dMk (c : String) (F : FF) (af : AF) : EF := fun env st => (af env st).bind fun ds st1 => (F (.ref st1.length :: ds) (st1 ++ [.ins c [] []])).bind fun r st2 =>
  match isNon r && decide (st2.length = st1.length + 1) && st2.all (rl st1.length), st2[st1.length]? with
  | true, some d => .ok d (st2.take st1.length)
  | _, _ => .bad
structure DMk (P : Program) (w : PySem.World) (K : PySem.W.Frag) (mg : Str → Option Value) (base : Heap) (cl : String → Addr) (k : Nat) (x : Str) (c : String) (ps : List Str) (F : FF) : Prop where
  ex : ∃ (f : Addr) (fd : FuncData), Mk K (cl c) f ∧ FnOk P w K mg base (L2.CX P w) k f fd ps (spF ⟨K, cl⟩ F) ∧ mg x = some (.ref (cl c)) ∧ Binds K fd ps []
section
variable {X : Cx} {cl : String → Addr} {W : WX} {e a b c o tg iter elt : Expr} {es ifs : List Expr} {s : Stmt} {ss sb sc : List Stmt} {f fa fb fc te fk fo : EF} {fi : IF} {tt : TF} {sf sg : SF} {pos p : Pos} {κ : Kd} {g : GF} {af : AF} {T vs : List Nat} {k : Nat}
theorem made_world {G : Gm} {S : Addr → Prop} {α : List Addr} {H : Hp} {st : Sto} {x dx : Addr} {cn : String} (w : World G S α H st) (hx : H x = none) (hdx : H dx = none) (ne : dx ≠ x) :
    World G S (α ++ [x]) (upd (upd H dx (.own x)) x (.ins (G.cl cn) dx [])) (st ++ [.ins cn [] []]) ∧ Ext S α H S (α ++ [x]) (upd (upd H dx (.own x)) x (.ins (G.cl cn) dx [])) := by
  have w1 := world_new (o := HO.own x) hdx w
  have hx1 : (upd H dx (.own x)) x = none := by rw [upd_ne (Ne.symm ne)]; exact hx
  have w2 := world_new (o := HO.ins (G.cl cn) dx []) hx1 w1
  have e1 := StepE.ext (step_new (S := S) (α := α) (o := HO.own x) hdx) w
  have e2 := StepE.ext (step_new (S := S) (α := α) (o := HO.ins (G.cl cn) dx []) hx1) w1
  have x3 : Ext S α (upd (upd H dx (.own x)) x (.ins (G.cl cn) dx [])) S (α ++ [x]) (upd (upd H dx (.own x)) x (.ins (G.cl cn) dx [])) := ⟨fun _ h => h, fun n b h => by rw [List.getElem?_append, if_pos (List.getElem?_eq_some_iff.mp h).1]; exact h, fun _ _ => rfl⟩
  refine ⟨⟨w2.live, by rw [List.length_append, List.length_append, w.len]; rfl, ?_, fun b h => ?_, fun n b y q1 q2 => ?_, w2.so, w2.tb⟩, (e1.trans e2).trans x3⟩
  · rw [List.nodup_append]
    refine ⟨w.nd, by simp, fun b hb c hc z => ?_⟩
    rw [List.mem_singleton] at hc
    exact not_al hx w (hc ▸ z ▸ hb)
  · rcases List.mem_append.mp h with h | h
    · exact w.ns b h
    · rw [List.mem_singleton] at h
      exact h ▸ not_S hx w
  · rw [List.getElem?_append] at q1 q2
    rw [w.len] at q1
    by_cases hl : n < st.length
    · rw [if_pos hl] at q1 q2
      exact (w2.sto n b y q1 q2).mono x3 rfl
    · rw [if_neg hl] at q1 q2
      have h0 : n - st.length = 0 := by
        have := (List.getElem?_eq_some_iff.mp q2).1
        simp at this
        exact this
      rw [h0] at q1 q2
      cases q1
      cases q2
      exact ⟨dx, [], upd_same, rfl, rfl⟩
theorem mk_core {cn : String} {F : FF} {ta : TA} {sp : Sp} (hsp : sp = spF ⟨X.K, cl⟩ F) (h2 : OkA .val ⟨X.K, cl⟩ W af ta) : OkE .fresh ⟨X.K, cl⟩ W (dMk cn F af) (tMakeS (cl cn) sp (WE W) ta) := by
  subst hsp
  intro S α H σ env st Q p q
  refine h2 S α H σ env st _ p (PostA.mk q fun ds st1 vs H1 S1 α1 _ e1 w1 b1 q1 => ?_)
  intro x dx hx hdx ne
  obtain ⟨w2, x2⟩ := made_world (cn := cn) w1 hx hdx ne
  have hn : (α1 ++ [x])[st1.length]? = some x := by rw [List.getElem?_append, w1.len, if_neg (Nat.lt_irrefl _), Nat.sub_self]; rfl
  refine ⟨S1, α1 ++ [x], st1 ++ [.ins cn [] []], .ref st1.length :: ds, w2, ⟨.ref x, vs, rfl, ⟨x, rfl, hn⟩, b1.val.mono x2 _ _⟩, ?_⟩
  cases r : F (.ref st1.length :: ds) (st1 ++ [.ins cn [] []]) with
  | bad => rw [r] at q1; exact q1
  | exc c fs st2 =>
    rw [r] at q1
    rintro d3 H3 ⟨S3, α3, e3, w3, x3⟩
    refine q1 d3 H3 ⟨S3, α3, ⟨e3.s, fun n b h => e3.al n b (x2.al n b h), fun a u h h1 h3 hn => e3.keep a u (by rw [upd_ne (ne_of_none h hx), upd_ne (ne_of_none h hdx)]; exact h) (fun z => ?_) h3 hn, fun a h => ?_, fun a h => ?_, fun _ h => h.elim, fun a h => e3.live a (live_upd (live_upd h)), fun a h => tp_back (e3.tp a h) (fun o q => by rw [upd_ne (ne_of_none q hx), upd_ne (ne_of_none q hdx)]; exact q)⟩, w3, x3⟩
    · rcases List.mem_append.mp z with z | z
      · exact h1 z
      · rw [List.mem_singleton] at z
        rw [z, hx] at h; cases h
    · rcases e3.sn a h with z | z | z
      · exact .inl z
      · exact .inr (.inl z)
      · exact .inr (.inr (tp_back z (fun o q => by rw [upd_ne (ne_of_none q hx), upd_ne (ne_of_none q hdx)]; exact q)))
    · rcases e3.an a h with z | z | z
      · rcases List.mem_append.mp z with z | z
        · exact .inl z
        · rw [List.mem_singleton] at z
          exact .inr (.inr (z ▸ hx))
      · exact .inr (.inl z)
      · refine .inr (.inr ?_)
        cases hh : H1 a with
        | none => rfl
        | some o => exact absurd z (live_upd (live_upd (by rw [hh]; simp)))
  | ok d st2 =>
    rw [r] at q1
    rintro v H3 ⟨S3, α3, e3, w3, r3⟩
    replace q1 : PostE .fresh ⟨X.K, cl⟩ W S1 α1 H1 σ (match isNon d && decide (st2.length = st1.length + 1) && st2.all (rl st1.length), st2[st1.length]? with
      | true, some d => .ok d (st2.take st1.length)
      | _, _ => .bad) Q := q1
    cases hc : isNon d && decide (st2.length = st1.length + 1) && st2.all (rl st1.length) with
    | false => rw [hc] at q1; exact q1.elim
    | true =>
      cases hs : st2[st1.length]? with
      | none => rw [hc, hs] at q1; exact q1.elim
      | some dd =>
        rw [hc, hs] at q1
        rw [Bool.and_eq_true, Bool.and_eq_true, decide_eq_true_eq, List.all_eq_true] at hc
        obtain ⟨⟨hnn, hl⟩, hall⟩ := hc
        have hv : v = .non := by
          cases d with
          | non => exact r3
          | _ => cases hnn
        have l3 : α3.length = st1.length + 1 := w3.len.trans hl
        have x3n : α3[st1.length]? = some x := e3.al _ _ hn
        have tk : α3.take st1.length = α1 := List.ext_getElem? fun i => by
          rw [List.getElem?_take]
          by_cases hi : i < st1.length
          · rw [if_pos hi]
            have hi' : i < α1.length := by rw [w1.len]; exact hi
            rw [List.getElem?_eq_getElem hi', e3.al i _ (x2.al i _ (List.getElem?_eq_getElem hi'))]
          · rw [if_neg hi, List.getElem?_eq_none (by rw [w1.len]; omega)]
        have xin : x ∈ α3 := List.mem_of_getElem? x3n
        have ownx : Own ⟨X.K, cl⟩ S3 α1 H3 x dd := by
          have := Own.cut (n := st1.length) (hall dd (List.mem_of_getElem? hs)) (w3.sto _ _ _ x3n hs)
          rw [tk] at this
          exact this
        have n2 : x ∉ α1 := not_al hx w1
        refine ⟨hv, q1 (.ref x) H3 ⟨S3, α1, ⟨e3.s, fun _ _ h => h, fun a u h h1 h3 hn => e3.keep a u (by rw [upd_ne (ne_of_none h hx), upd_ne (ne_of_none h hdx)]; exact h) (fun z => ?_) h3 hn, fun a h => ?_, fun a h => .inl h, fun _ h => h.elim, fun a h => e3.live a (live_upd (live_upd h)), fun a h => tp_back (e3.tp a h) (fun o q => by rw [upd_ne (ne_of_none q hx), upd_ne (ne_of_none q hdx)]; exact q)⟩, ⟨w3.live, by rw [List.length_take, hl, w1.len]; omega, w1.nd, fun a h => w3.ns a ?_, fun n a y q2 q3 => ?_, w3.so, w3.tb⟩, x, rfl, w3.ns x xin, n2, hx, ownx⟩⟩
        · rcases List.mem_append.mp z with z | z
          · exact h1 z
          · rw [List.mem_singleton] at z
            rw [z, hx] at h; cases h
        · rcases e3.sn a h with z | z | z
          · exact .inl z
          · exact .inr (.inl z)
          · exact .inr (.inr (tp_back z (fun o q => by rw [upd_ne (ne_of_none q hx), upd_ne (ne_of_none q hdx)]; exact q)))
        · rw [← tk] at h; exact List.mem_of_mem_take h
        · rw [List.getElem?_take] at q3
          split at q3
          · rename_i hi
            have q2' : α3[n]? = some a := by
              rw [← tk, List.getElem?_take, if_pos hi] at q2
              exact q2
            have := Own.cut (n := st1.length) (hall y (List.mem_of_getElem? q3)) (w3.sto _ _ _ q2' q3)
            rw [tk] at this
            exact this
          · cases q3
theorem df_mk {x : Str} {cn : String} {ps : List Str} {F : FF} (m : DMk X.prog X.w X.K X.mg X.base cl k x cn ps F) (hr : Room (k + 1) X.A) (lt : Lets X W) (ha : DA .val X cl W (a :: es) af) (hg : Gl X x := by rfl) (hdb : (x == ("__debug__" : Str)) = false := by decide)
    (he : starEach (a :: es) X.env = (false, eval a X.env) :: starEach es X.env := by rfl) (hpl : (backTo pos (starEach es X.env)).any (·.1) = false := by rfl) : DE .fresh X cl W (.Call (.Name x p) (a :: es) [] pos) (dMk cn F af) := by
  obtain ⟨f, fd, M, Fn, hm, hb⟩ := m.ex
  obtain ⟨ta, h1, h2⟩ := ha.ex
  exact ⟨_, pe_makeS M Fn hr hm hb lt h1 hg hdb he hpl, mk_core rfl h2⟩
def putD (f : Str) (d : D) : List Str → List D → List D
  | n :: ns, x :: l => if f == n then d :: l else x :: putD f d ns l
  | [], [] => [d]
  | _, l => l
def putN (f : Str) : List Str → List Str
  | [] => [f]
  | n :: ns => if f == n then n :: ns else n :: putN f ns
theorem putF_rep {G : Gm} {S : Addr → Prop} {α : List Addr} {H : Hp} {f : Str} {d : D} {v : V} (rd : Rep G S α H d v) : ∀ {fs : List (Str × V)} {l : List D}, RepL G S α H l (fs.map (·.2)) → (putF f v fs).map (·.1) = putN f (fs.map (·.1)) ∧ RepL G S α H (putD f d (fs.map (·.1)) l) ((putF f v fs).map (·.2))
  | [], l, hr => by
    have hl := hr.len
    cases l with
    | nil => exact ⟨rfl, .one rd⟩
    | cons _ _ => simp at hl
  | (n, x) :: fs, [], hr => by have hl := hr.len; simp at hl
  | (n, x) :: fs, y :: l, hr => by
    obtain ⟨v', r, e, h1, h2⟩ := hr
    rw [List.map_cons] at e
    injection e with e1 e2
    subst e2
    have e1 : x = v' := e1
    subst e1
    obtain ⟨k1, k2⟩ := putF_rep rd h2
    have hp : putF f v ((n, x) :: fs) = if n = f then (n, v) :: fs else (n, x) :: putF f v fs := by
      first
      | rfl
      | (unfold putF; rfl)
      | (unfold putF; simp only [beq_iff_eq])
    rw [hp]
    by_cases q : n = f
    · subst q
      rw [if_pos rfl]
      simp only [List.map_cons, putN, putD, beq_self_eq_true, if_true]
      exact ⟨trivial, v, _, rfl, rd, h2⟩
    · have q' : (f == n) = false := by
        cases z : (f == n) with
        | false => rfl
        | true => exact absurd (eq_of_beq z).symm q
      rw [if_neg q]
      simp only [List.map_cons, putN, putD, q', Bool.false_eq_true, if_false]
      exact ⟨by rw [k1], x, _, rfl, h1, k2⟩
def sFldR (cs : List String) (f : Str) (fo fe : EF) : SF := sE fe fun d env st => sE fo (fun o env st => match o with
  | .ref n => match st[n]? with
    | some (.ins c ns l) => if cs.contains c && decide (ns.length < 1000) then .nx env (st.set n (.ins c (putN f ns) (putD f d ns l))) else .bad
    | _ => .bad
  | _ => .bad) env st
theorem ds_fldR {cs : List String} {n : Str} (F : FldOk X.K cl cs n) (hp : ∀ to tv, PE X o to → PE X e tv → PS X s (sFld X.K to tv n)) (ho : DE .val X cl W o fo) (he : DE .val X cl W e f) : DS X cl W s (sFldR cs n fo f) := by
  obtain ⟨t, h1, h2⟩ := he.ex
  obtain ⟨to, o1, o2⟩ := ho.ex
  refine ⟨_, hp _ _ o1 h1, fun S α H σ env st De p q => ?_⟩
  refine sE_core (k := fun d env st => sE fo (fun o env st => match o with
    | .ref m => match st[m]? with
      | some (.ins c ns l) => if cs.contains c && decide (ns.length < 1000) then .nx env (st.set m (.ins c (putN n ns) (putD n d ns l))) else .bad
      | _ => .bad
    | _ => .bad) env st) h2 p q fun d st1 v S1 α1 H1 _ e1 p1 r1 q1 => ?_
  refine sE_core (k := fun o env st => match o with
    | .ref m => match st[m]? with
      | some (.ins c ns l) => if cs.contains c && decide (ns.length < 1000) then .nx env (st.set m (.ins c (putN n ns) (putD n d ns l))) else .bad
      | _ => .bad
    | _ => .bad) o2 p1 q1 fun od st2 vo S2 α2 H2 _ e2 p2 r2 q2 => ?_
  cases od with
  | ref m =>
    dsimp only at q2
    split at q2
    · split at q2
      · rename_i c ns l hs hc
        rw [Bool.and_eq_true, decide_eq_true_eq] at hc
        obtain ⟨b, rfl, hb⟩ := r2
        obtain ⟨dx, fs, k4, k5, k6⟩ := p2.w.sto m b _ hb hs
        obtain ⟨c1, c2⟩ := F c hc.1
        subst k5
        refine ⟨b, cl c, dx, fs, rfl, k4, c1, c2, by rw [List.length_map] at hc; exact hc.2, ?_⟩
        obtain ⟨m1, m2⟩ := putF_rep (f := n) (r1.mono (StepE.ext e2 p1.w) _ _) k6
        obtain ⟨p3, s3⟩ := p2.sto_upd (O := Ow σ env) (d' := .ins c (putN n (fs.map (·.1))) (putD n d (fs.map (·.1)) l)) (ho := .ins (cl c) dx (putF n v fs)) hb hs ⟨dx, _, upd_same, m1, m2.mono (ext_upd (p2.w.ns b (List.mem_of_getElem? hb))) _ _⟩
        exact q2 S2 α2 _ σ s3 p3
      · exact q2.elim
    · exact q2.elim
  | _ => exact q2.elim
end
end DL

set_option maxHeartbeats 4000000
namespace DL
open PySem PySem.Spec PyProof.Rows L2 Bs
section
variable {G : Gm} {S S' S1 : Addr → Prop} {α α' α1 : List Addr} {H H' H1 : Hp} {O O' O1 : Addr → Prop} {st st' : Sto} {σ σ' : Slots} {env env' : En} {W : WX}
theorem ext_same (e : L2.Same H H') (w : World G S α H st) : Ext S α H S α H' := ⟨fun _ h => h, fun _ _ h => h, fun a h => by
  cases q : H a with
  | none => exact absurd q (w.live a h)
  | some o => exact e a o q⟩
theorem live_same (e : L2.Same H H') {a : Addr} (h : H a ≠ none) : H' a ≠ none := by
  cases q : H a with
  | none => exact absurd q h
  | some o => rw [e a o q]; simp
theorem eq_same (e : L2.Same H H') {a : Addr} (h : H a ≠ none) : H' a = H a := by
  cases q : H a with
  | none => exact absurd q h
  | some o => exact e a o q
theorem World.same (e : L2.Same H H') (w : World G S α H st) : World G S α H' st :=
  ⟨fun a h => live_same e (w.live a h), w.len, w.nd, w.ns, fun n a d h1 h2 => (w.sto n a d h1 h2).mono (ext_same e w) (eq_same e (w.sto n a d h1 h2).live), fun a h o q => w.so a h o (by rw [← q, eq_same e (w.live a h)]), w.tb.ext e⟩
theorem Pre.same (e : L2.Same H H') (p : Pre G S α H σ env st) : Pre G S α H' σ env st where
  w := p.w.same e
  len := p.len
  sl := fun i s h => by
    have q := p.sl i s h
    cases s with
    | no => trivial
    | fz d => obtain ⟨v, h1, h2⟩ := q; exact ⟨v, h1, h2.mono (ext_same e p.w) _ _⟩
    | ow d =>
      obtain ⟨a, h1, h2, h3, h4⟩ := q
      exact ⟨a, h1, h2, h3, h4.mono (ext_same e p.w) (eq_same e h4.live)⟩
  ap := p.ap
theorem Step.same (e : L2.Same H H') : Step S α O H S α O H' :=
  ⟨fun _ h => h, fun _ _ h => h, fun a o h _ _ _ => e a o h, fun _ h => .inl h, fun _ h => .inl h, fun _ h => .inl h, fun a h => live_same e h, fun a h => h.back (e a)⟩
end
def sp_init0 : Sp := fun vs H Q _ => ∃ a, vs = [.ref a] ∧ Q .non H
structure Err0 (P : Program) (w : PySem.World) (K : PySem.W.Frag) (mg : Str → Option Value) (base : Heap) (x : Str) (CE : Addr) : Prop where
  ex : ∃ (fI : Addr) (fd : FuncData), OexC K CE ∧ mg x = some (.ref CE) ∧ PySem.W.findIn K (.ref CE) "__init__" = some (some (.ref fI)) ∧ PySem.W.typeIn K (.ref fI) = some (.type "function") ∧ FnOk P w K mg base CX0 1 fI fd ["self"] sp_init0 ∧ Binds K fd ["self"] []
def sp_bad1 (K : PySem.W.Frag) (f : Str) : Sp := fun vs H Q _ => ∃ (a CB : Addr) (y : V), vs = [.ref a, y] ∧ OexC K CB ∧ PySem.W.findIn K (.ref CB) f = some none ∧ H a = some (exo a CB none) ∧ ∀ dx, H dx = none → dx ≠ a → Q .non (upd (upd H dx (exd dx [(f, y)])) a (exo a CB (some dx)))
structure Err1 (P : Program) (w : PySem.World) (K : PySem.W.Frag) (mg : Str → Option Value) (base : Heap) (x f : Str) (CE : Addr) : Prop where
  ex : ∃ (fI : Addr) (fd : FuncData), OexC K CE ∧ PySem.W.findIn K (.ref CE) f = some none ∧ mg x = some (.ref CE) ∧ PySem.W.findIn K (.ref CE) "__init__" = some (some (.ref fI)) ∧ PySem.W.typeIn K (.ref fI) = some (.type "function") ∧ FnOk P w K mg base CX0 1 fI fd ["self", f] (sp_bad1 K f) ∧ Binds K fd ["self", f] []
section
variable {X : Cx} {cl : String → Addr} {W : WX} {e a b c o tg iter elt : Expr} {es ifs : List Expr} {s : Stmt} {ss sb sc : List Stmt} {f fa fb fc te fk fo : EF} {fi : IF} {tt : TF} {sf sg : SF} {pos p pos2 : Pos} {κ : Kd} {g : GF} {af : AF} {T vs : List Nat} {k : Nat}
end
end DL

set_option maxHeartbeats 4000000
namespace DL
open PySem PySem.Spec PyProof.Rows L2 Bs
def sp_lawD (K : PySem.W.Frag) (cl : String → Addr) : Sp := fun vs H Q _ => ∃ (a : Addr) (ns : List Int), vs = [.ref a] ∧ SqL K H a (ns.map V.int) ∧ ns.length ≤ 63 ∧ TabsOk ⟨K, cl⟩ H ∧ ∀ H', Q (.bl true) H'
theorem cx_no {P : Program} {w : PySem.World} {H : Hp} {s : Shared} {e : Value} {s' : Shared} (h : L2.CX P w [] H s (fun _ _ _ => False) e s') : False := by
  obtain ⟨_, _, _, _, _, _, _, _, _, _, _, _, z⟩ := h
  exact z
theorem lets_of {X : Cx} {W : WX} (tk : Takes X W) : Lets X W := fun σ => passAt tk σ
theorem lets_no {X : Cx} : Lets X Wno := fun σ pins H s e s' I h => by
  obtain ⟨_, _, _, _, _, _, _, _, _, _, _, _, z⟩ := h
  exact z.elim
section
variable {X : Cx} {cl : String → Addr} {W : WX} {k : Nat} {x : Str} {ps : List Str} {F : FF} {p pos : Pos}
end
end DL

set_option maxHeartbeats 4000000
namespace DL
open PySem PySem.Spec PyProof.Rows L2 Bs
section
variable {κ : Type} [DecidableEq κ]
end
section
variable {X : Cx} {cl : String → Addr} {W : WX} {e a b c o tg iter elt : Expr} {es ifs : List Expr} {s : Stmt} {ss sb sc : List Stmt} {f fa fb fc te fk fo : EF} {fi : IF} {tt : TF} {sf sg : SF} {pos p pos2 : Pos} {κ : Kd} {g g' : Op2} {af : AF} {T vs : List Nat} {k : Nat}
end
end DL

set_option maxHeartbeats 4000000
namespace DL
open PySem PySem.Spec PyProof.Rows L2 Bs
section
variable {X : Cx} {cl : String → Addr} {W : WX} {e a b c o tg iter elt : Expr} {es ifs : List Expr} {s : Stmt} {ss sb sc : List Stmt} {f fa fb fc te fk fo : EF} {fi : IF} {tt : TF} {sf sg : SF} {pos p pos2 : Pos} {κ : Kd} {g g' : Op2} {af : AF} {T vs : List Nat} {k : Nat}
def dd : List Int → Nat
  | [] => 0
  | a :: r => dd r + if a ∈ r then 0 else 1
theorem de_cst {x : Str} {n : Int} (hm : ∃ t, X.mg x = some (.int n t)) (hg : Gl X x := by rfl) (hdb : (x == ("__debug__" : Str)) = false := by decide) : DE .val X cl W (.Name x p) (dC (.int n)) := by
  obtain ⟨t, hm⟩ := hm
  exact de_int (pe_glob hg hm ⟨t, rfl⟩ hdb)
end
end DL

set_option maxHeartbeats 4000000
namespace DL
open PySem PySem.Spec PyProof.Rows L2 Bs
section
variable {G : Gm} {S S1 : Addr → Prop} {α α1 : List Addr} {H H1 : Hp} {st st1 : Sto}
end
end DL

set_option maxHeartbeats 4000000
namespace DL
open PySem PySem.Spec PyProof.Rows L2 Bs
def sNever : SF := fun _ _ => .bad
theorem ds_never {X : Cx} {cl : String → Addr} {W : WX} {s : Stmt} : DS X cl W s sNever := ⟨fun _ _ _ => False, ⟨fun _ _ _ _ _ _ h => h.elim⟩, fun _ _ _ _ _ _ _ _ q => q⟩
theorem fn_of {P : Program} {w : PySem.World} {K : PySem.W.Frag} {mg : Str → Option Value} {base : Heap} {cl : String → Addr} {x qual : Str} {st : Stmt} {f : Addr} {fd : FuncData} {N ps : List Str} {k m : Nat} {sf : SF} (F : Fun K x qual st f fd) (S : FnScope N ps (defScope st))
    (hml : ps.length = m) (body : ∀ (cdv : Value) (A : Around) (outer : List Env) (s : Shared) (H : Hp) (E : XK), Room k (A.deeper (envOfC qual (defScope st) s.heap.objs.size f cdv)) → DSs (cxOf (L2.CX P w) P w K mg base N qual (defScope st) f cdv A outer s H E) cl (fun cls d _ H => E cls d H) (defBody st) sf) :
    FnOk P w K mg base (L2.CX P w) (k + 1) f fd ps (spF ⟨K, cl⟩ (runDef m N.length sf)) := by
  refine F.okX S (fun vs H Q E h => ?_) (fun cdv A outer s H vs Q E hr h => ?_)
  · obtain ⟨S', α, st', ds, w', r, q⟩ := h
    unfold runDef at q
    split at q
    · rename_i hl
      rw [r.len, hl, hml]
    · exact q.elim
  · obtain ⟨S', α, st', ds, w', r, q⟩ := h
    obtain ⟨t, h1, h2⟩ := (body cdv A outer s H E hr).ex
    refine ⟨t, h1, ?_⟩
    unfold runDef at q
    split at q
    · rename_i hl
      have p := pre_start (N := N) w' r
      rw [hl] at p
      have nO : ∀ a, ¬ Ow (L2.start N vs) (ds.map Slot.fz ++ List.replicate (N.length - m) .no) a := fun a ⟨i, d, h1, _⟩ => no_ow h1
      refine h2 S' α H (L2.start N vs) _ st' _ p ?_
      cases e : sf (ds.map Slot.fz ++ List.replicate (N.length - m) .no) st' with
      | nx env1 st1 => rw [e] at q; exact fun S1 α1 H1 σ1 e1 p1 => q _ _ ⟨S1, α1, Step.ofNo nO e1, p1.w, rfl⟩
      | ret d st1 => rw [e] at q; exact fun S1 α1 H1 v e1 w1 r1 => q _ _ ⟨S1, α1, Step.ofNo nO e1, w1, r1⟩
      | exc c fs env1 st1 => rw [e] at q; exact fun S1 α1 H1 σ1 dx e1 p1 x1 => q _ _ ⟨S1, α1, Step.ofNo nO e1, p1.w, x1⟩
      | brk env1 st1 => rw [e] at q; exact False.elim q
      | ct env1 st1 => rw [e] at q; exact False.elim q
      | bad => rw [e] at q; exact q
    · exact q.elim
section
variable {X : Cx} {cl : String → Addr} {W : WX} {a b : Expr} {fa fb : EF} {pos : Pos} {k : Nat}
end
end DL

set_option maxHeartbeats 4000000
namespace DL
open PySem PySem.Spec PyProof.Rows L2 Bs
theorem u1 {k : Nat} {A : Around} (hr : Room k A) : A.units + 1 < cLine := by have := hr.un; omega
section
variable {X : Cx} {pins : List (Addr × Obj)} {σ : L2.St} {H : Hp} {s : Shared} {h' : Heap} {m : Str → Option Value}
end
section
variable {X : Cx} {cl : String → Addr} {W : WX} {a : Expr} {fa : EF} {pos p p2 kp : Pos} {k : Nat} {ta : TE}
end
theorem isa_mk {K : PySem.W.Frag} {cl : String → Addr} {u : Value} {tb : List (String × Bool)} (h : ∀ p ∈ tb, ClsI K (cl p.1) ∧ PySem.W.kitOne K (.ref (cl p.1)) u = some p.2) : IsaOk K cl u tb := fun c b e => by
  have : (c, b) ∈ tb := by
    clear h
    induction tb with
    | nil => cases e
    | cons p r ih =>
      obtain ⟨x, y⟩ := p
      rw [List.lookup_cons] at e
      cases q : (c == x) with
      | true => rw [q] at e; cases e; rw [eq_of_beq q]; exact .head _
      | false => rw [q] at e; exact .tail _ (ih e)
  exact h (c, b) this
theorem fld_mk {K : PySem.W.Frag} {cl : String → Addr} {cs : List String} {f : Str} (h : ∀ c ∈ cs, Cls K (cl c) ∧ NoAttr K (cl c) f) : FldOk K cl cs f := fun c hc => h c (by simpa using hc)
theorem kitD {K : PySem.W.Frag} {C : Addr} {T : String} {b : Bool} (hm : PySem.W.kitMeta T = true) (h : PySem.W.subIn K (.ref C) (.type T) = some b) : PySem.W.kitOne K (.ref C) (.type T) = some b := by
  unfold PySem.W.kitOne
  rw [if_neg (by simp)]
  show (if PySem.W.kitMeta T = true then _ else _) = _
  rw [if_pos hm]
  exact h
end DL

set_option maxHeartbeats 4000000
namespace DL
open PySem PySem.Spec PyProof.Rows L2 Bs
section
variable {X : Cx} {CX : CXT} {k : Nat} {f C : Addr} {fd : FuncData} {ps : List Str} {sp : Sp} {E : L2.St → XK} {m : Str} {p pos apos : Pos} {o e : Expr} {es : List Expr} {t : TA} {to : TE} {pl : Sem Bool}
end
structure DMe (P : Program) (w : PySem.World) (K : PySem.W.Frag) (mg : Str → Option Value) (base : Heap) (cl : String → Addr) (k : Nat) (c : String) (m : Str) (ps : List Str) (F : FF) : Prop where
  ex : ∃ (f : Addr) (fd : FuncData), Cls K (cl c) ∧ Meth K (cl c) m f ∧ FnOk P w K mg base (L2.CX P w) k f fd ps (spF ⟨K, cl⟩ F) ∧ Binds K fd ps []
section
variable {X : Cx} {cl : String → Addr} {W : WX} {o e : Expr} {es : List Expr} {fo fa : EF} {af : AF} {pos apos : Pos} {k : Nat} {c : String} {m : Str} {ps : List Str} {F : FF} {pl : Sem Bool}
end
section
variable {X : Cx} {cl : String → Addr} {W : WX} {a : Expr} {es : List Expr} {af : AF} {pos p : Pos} {k : Nat}
end
end DL

set_option maxHeartbeats 4000000
namespace DL
open PySem PySem.Spec PyProof.Rows L2 Bs
def zipD (l m : List D) : List D := (l.zip m).map fun p => .tup [p.1, p.2]
theorem zipD_len (l m : List D) : (zipD l m).length = min l.length m.length := by unfold zipD; rw [List.length_map, List.length_zip]
theorem zipD_get {l m : List D} {i : Nat} {d : D} (h : (zipD l m)[i]? = some d) : ∃ x y, l[i]? = some x ∧ m[i]? = some y ∧ d = .tup [x, y] := by
  unfold zipD at h
  rw [List.getElem?_map] at h
  cases e : (l.zip m)[i]? with
  | none => rw [e] at h; cases h
  | some p =>
    rw [e] at h
    cases h
    rw [List.getElem?_zip_eq_some] at e
    exact ⟨p.1, p.2, e.1, e.2, rfl⟩
section
variable {X : Cx} {cl : String → Addr} {W : WX} {tg e : Expr} {es : List Expr} {af : AF}
end
end DL

set_option maxHeartbeats 4000000
namespace DL
open PySem PySem.Spec PyProof.Rows L2 Bs
section
variable {X : Cx} {cl : String → Addr} {W : WX} {e a b c tg iter elt : Expr} {ifs : List Expr} {s : Stmt} {ss sb sc : List Stmt} {f fa te fo : EF} {fi : IF} {tt : TF} {sf sg : SF} {pos : Pos} {κ : Kd} {g : GF} {af : AF} {T vs : List Nat}
end
end DL

set_option maxHeartbeats 4000000
namespace DL
open PySem PySem.Spec PyProof.Rows L2 Bs
section
variable {X : Cx} {cl : String → Addr} {W : WX} {e a b c o : Expr} {es : List Expr} {s : Stmt} {f fa fb fk fo : EF} {af : AF} {pos : Pos} {k : Nat}
def sPar (i j : Nat) (af : AF) : SF := fun env st => match af env st with
  | .ok [x, y] st1 => .nx ((env.set i (.fz x)).set j (.fz y)) st1
  | .ok _ _ => .bad
  | .exc c fs st1 => .exc c fs env st1
  | .bad => .bad
end
end DL

set_option maxHeartbeats 4000000
namespace DL
open PySem PySem.Spec PyProof.Rows L2 Bs
section
variable {X : Cx} {cl : String → Addr} {W : WX} {e a b c tg iter kx vx : Expr} {ifs : List Expr} {f fa te : EF} {fi : IF} {tt : TF} {fk fv : EF} {pos : Pos} {g : GF} {T vs : List Nat}
end
end DL

set_option maxHeartbeats 4000000
namespace DL
open PySem PySem.Spec PyProof.Rows L2 Bs
def canI (G : Gm) (W : WX) (f : IF) : TI := fun σ H R => ∃ S α env st, Pre G S α H σ env st ∧ PostI G W S α H σ (f env st) R
section
variable {X : Cx} {cl : String → Addr} {W : WX} {e a b c tg iter tg1 iter1 elt : Expr} {ifs ifs1 : List Expr} {f fa te : EF} {fi fi1 : IF} {tt tt1 : TF} {pos : Pos} {g g1 : GF} {T T1 vs vs1 : List Nat}
theorem DI.can (h : DI X cl W tg e fi) : PI X tg e (canI ⟨X.K, cl⟩ W fi) := by
  obtain ⟨t, h1, h2⟩ := h.ex
  exact ⟨fun pins s σ H R I hq => by
    obtain ⟨S, α, env, st, p, q⟩ := hq
    exact h1.run pins s σ H R I (h2 S α H σ env st R p q)⟩
end
end DL

set_option maxHeartbeats 4000000
namespace PySem
open Sem (wp)
section
variable {prog : Program} {w : World} {A : Around} {E : Value → Shared → Prop} {s : Shared}
end
end PySem
namespace DL
open PySem PySem.Spec PyProof.Rows L2 Bs
section
variable {X : Cx} {cl : String → Addr} {W : WX} {o le : Expr} {s : Stmt} {fo : EF} {fl : OF}
end
end DL

set_option maxHeartbeats 4000000
namespace DL
open PySem PySem.Spec PyProof.Rows L2 Bs
section
variable {X : Cx} {cl : String → Addr} {W : WX} {o e a : Expr} {es : List Expr} {fo : EF} {af : AF} {p pos : Pos}
theorem de_bits {fa : EF} {apos : Pos} (ha : DE .brw X cl W a fa) (hbase : attributeBase a "bit_length" X.env (eval a X.env) = eval a X.env := by rfl) (hline : (apos.endLine == pos.line) = true := by rfl) : DE .val X cl W (.Call (.Attribute a "bit_length" apos) [] [] pos) (dUn gBits fa) :=
  de_un (fun ta h => pe_bits h hbase hline) ok_bits ha
end
end DL

set_option maxHeartbeats 4000000
namespace DL
open PySem PySem.Spec PyProof.Rows L2 Bs
section
variable {G : Gm} {S S' S1 : Addr → Prop} {α α' α1 : List Addr} {H H' H1 : Hp} {O O' O1 : Addr → Prop} {st st' : Sto} {σ σ' : Slots} {env env' : En} {W : WX}
end
section
variable {X : Cx} {cl : String → Addr} {x n : Str} {c : Value} {i : Nat} {body suite : List Stmt} {b₀ : Stmt} {np pos pos' : Pos} {Wout : WX} {sf : SF} {cs : List String} {h : String → List (Str × D) → SF}
structure ErrC (K : PySem.W.Frag) (C CW : Addr) : Prop where
  ec : ExcC K C
  kw : PySem.W.kitOne K (.ref C) (.ref CW) = some true
  kv : PySem.W.kitOne K (.ref C) (.type "ValueError") = some true
end
structure TryK (K : PySem.W.Frag) (mg : Str → Option Value) (x : Str) (C : Addr) : Prop where
  mx : mg x = some (.ref C)
  ex : PySem.W.exmOne K (.ref C) (.ref C) = some true
  w : ∃ CW, mg "WebError" = some (.ref CW) ∧ ErrC K C CW
section
variable {X : Cx} {cl : String → Addr} {x n y : Str} {cn : String} {i j : Nat} {body : List Stmt} {np pos pos' : Pos} {Wout : WX} {sf : SF} {A B : Expr} {fA : EF} {e1 e2 m1 m2 v1 v2 p1 p2 p3 p4 p5 p6 : Pos}
end
section
variable {X : Cx} {cl : String → Addr} {W : WX} {a : Expr} {fa : EF} {pos : Pos}
end
end DL

set_option maxHeartbeats 4000000
namespace DL
open PySem PySem.Spec PyProof.Rows L2 Bs
section
variable {G : Gm} {S : Addr → Prop} {α : List Addr} {H : Hp}
end
section
variable {X : Cx} {cl : String → Addr} {W : WX} {o a : Expr} {fo fa : EF} {apos pos : Pos}
end
section
variable {X : Cx} {cl : String → Addr} {W : WX} {a : Expr} {fa : EF} {p pos : Pos}
end
section
variable {X : Cx} {cl : String → Addr} {W : WX} {o : Expr} {s : Stmt}
end
end DL

set_option maxHeartbeats 4000000
namespace DL
open PySem PySem.Spec PyProof.Rows L2 Bs
section
variable {G : Gm} {S : Addr → Prop} {α : List Addr} {H : Hp}
end
section
variable {X : Cx} {cl : String → Addr} {W : WX} {a : Expr} {es : List Expr} {af : AF} {pos p : Pos}
end
end DL

set_option maxHeartbeats 4000000
namespace Bs
open PySem PySem.Spec PyProof.Rows L2
section
variable {P : Program} {w : World} {A : Around} {E : Value → Shared → Prop} {s : Shared}
end
end Bs

set_option maxHeartbeats 4000000
namespace Bs
open PySem PySem.Spec PyProof.Rows L2
section
variable {P : Program} {w : World} {A : Around} {E : Value → Shared → Prop} {s : Shared}
set_option maxRecDepth 100000 in
set_option maxHeartbeats 3200000 in
end
end Bs

set_option maxHeartbeats 4000000
namespace DL
open PySem PySem.Spec PyProof.Rows L2 Bs
section
variable {X : Cx} {cl : String → Addr} {W : WX} {a : Expr} {af : AF} {pos : Pos}
end
end DL

set_option maxHeartbeats 4000000
namespace DL
open PySem PySem.Spec PyProof.Rows L2 Bs LamX NdefX
section
variable {X : Cx} {pins : List (Addr × Obj)} {σ : Slots} {H : Hp} {s : Shared}
end
def Far (X : Cx) (pins : List (Addr × Obj)) (b : Addr) : Prop := X.s_0.heap.objs.size ≤ b ∧ (∀ x c, X.env.cells.lookup x = some c → c ≠ b) ∧ ∀ p ∈ X.pn ++ pins, p.1 ≠ b
section
variable {X : Cx} {pins : List (Addr × Obj)} {σ : Slots} {H : Hp} {s : Shared}
theorem Far.more {b : Addr} {pre : List (Addr × Obj)} (h : Far X pins b) (hp : ∀ p ∈ pre, p.1 ≠ b) : Far X (pre ++ pins) b := ⟨h.1, h.2.1, fun p z => by
  rcases List.mem_append.mp z with z | z
  · exact h.2.2 p (List.mem_append_left _ z)
  · rcases List.mem_append.mp z with z | z
    · exact hp p z
    · exact h.2.2 p (List.mem_append_right _ z)⟩
end
structure LamSt (T : List (Addr × Str)) (q : Str) (c' : Addr) (H H1 : Hp) : Prop where
  ext : ExtN H H1
  tabs : Tabs T H1
  live : ∀ b, H b ≠ none → H1 b ≠ none
  tp : ∀ b, IsTup H1 b → H b = none ∨ IsTup H b
  co : H1 c' = some (CodeO c' q)
section
variable {X : Cx} {pins : List (Addr × Obj)} {σ : Slots} {H : Hp} {s : Shared}
end
section
variable {X : Cx} {a : Expr} {ta t : TE} {k : Nat} {pos p kp lpos : Pos} {params : Arguments} {body : Expr} {scope : Scope} {N fr : List Str} {js : List Nat} {x : Str} {T : List (Addr × Str)} {c P : Addr}
end
structure TabK (base : Heap) (mg : Str → Option Value) (cl : String → Addr) (c : Addr) (q : String) : Prop where
  tb : TabB base mg c (cl q)
  mem : q ∈ tabNames
  nz : cl q ≠ 0
  un : ∀ q', q' ∈ tabNames → cl q' ≠ 0 → cl q' = cl q → q' = q
def tabL (cl : String → Addr) : List (Addr × Str) := (tabNames.filter fun q => decide (cl q ≠ 0)).map fun q => (cl q, Str.ofString q)
section
variable {G : Gm} {S S' S1 : Addr → Prop} {α α' α1 : List Addr} {H H' H1 : Hp} {st : Sto} {q : Str} {c' : Addr}
theorem noTb_ne {o : HO} (h : NoTb o) : ∀ ps, o ≠ .tbl ps := fun ps z => by rw [z] at h; exact h
theorem LamSt.step (L : LamSt (tabL G.cl) q c' H H1) : StepE S α H S α H1 :=
  ⟨fun _ h => h, fun _ _ h => h, fun a o h _ _ hn => L.ext a o h (noTb_ne hn), fun _ h => .inl h, fun _ h => .inl h, fun _ h => .inl h, fun a h => L.live a h, fun a h => L.tp a h⟩
theorem LamSt.same (L : LamSt (tabL G.cl) q c' H H1) {a : Addr} (h : Soft H a) (h2 : H a ≠ none) : H1 a = H a := by
  cases e : H a with
  | none => exact absurd e h2
  | some o => exact L.ext a o e (noTb_ne (h o e).noTb)
end
section
variable {X : Cx} {cl : String → Addr} {W : WX} {a : Expr} {fa fk : EF} {k : Nat} {pos p kp lpos : Pos} {params : Arguments} {body : Expr} {scope : Scope} {N fr : List Str} {js : List Nat} {x : Str} {c : Addr}
end
structure FunL (K : PySem.W.Frag) (x qual : Str) (st : Stmt) (f : Addr) (fd : FuncData) (c : Addr) : Prop where
  ex : ∃ (oc : Value) (od : Option Addr) (kV doc pm : Value) (an : Option Addr) (ct : Value) (osl : Array (Option Value)),
    fd = PySem.W.fnOf x qual (defArgs st) (defBody st) (defScope st) .none kV doc pm an (.ref c) ct ∧ K.lookup f = some ⟨oc, od, .func fd, osl⟩ ∧ PySem.W.codeIn K (.ref c) qual = true
  kp : PySem.W.keepIn K (.ref f) = true
theorem FunL.to {K : PySem.W.Frag} {x qual : Str} {st : Stmt} {f : Addr} {fd : FuncData} {c : Addr} (F : FunL K x qual st f fd c) : Fun K x qual st f fd := by
  obtain ⟨oc, od, kV, doc, pm, an, ct, osl, h1, h2, h3⟩ := F.ex
  exact ⟨⟨oc, od, kV, doc, pm, an, .ref c, ct, osl, h1, h2, h3⟩, F.kp⟩
end DL

set_option maxHeartbeats 4000000
namespace DL
open PySem PySem.Spec PyProof.Rows L2 Bs
section
variable {X : Cx} {cl : String → Addr} {W : WX} {o a b : Expr} {s : Stmt} {fk fa : EF}
end
end DL

set_option maxHeartbeats 4000000
namespace DL
open PySem PySem.Spec PyProof.Rows L2 Bs
section
variable {G : Gm} {S S1 : Addr → Prop} {α α1 : List Addr} {H H1 : Hp} {st st1 : Sto} {σ : Slots} {env : En} {b : Addr} {od : Obj} {kvs : List (Key × V)}
end
section
variable {X : Cx} {cl : String → Addr} {W : WX} {o elt tg : Expr} {pos : Pos} {te : EF} {g : GF} {T vs : List Nat}
end
section
variable {X : Cx} {cl : String → Addr} {W : WX} {a : Expr} {fa : EF}
end
end DL

set_option maxHeartbeats 4000000
namespace DL
open PySem PySem.Spec PyProof.Rows L2 Bs
section
variable {X : Cx} {cl : String → Addr} {W : WX} {a : Expr} {es : List Expr} {af : AF} {pos p : Pos}
end
end DL

set_option maxHeartbeats 4000000
namespace DL
open PySem PySem.Spec PyProof.Rows L2 Bs
section
variable {X : Cx} {cl : String → Addr} {W : WX} {e a b c tg iter elt : Expr} {ifs : List Expr} {es : List Expr} {te : EF} {fi : IF} {tt : TF} {pos : Pos} {g : GF} {af : AF} {T vs : List Nat}
end
end DL

set_option maxHeartbeats 4000000
namespace DL
open PySem PySem.Spec PyProof.Rows L2 Bs
theorem tabs_some {K : PySem.W.Frag} {cl : String → Addr} {H : Hp} {cs : List (Addr × Addr)} (h : ∀ q, q ∈ tabNames → cl q = 0 ∨ ∃ c, (c, cl q) ∈ cs) (ht : ∀ p ∈ cs, H p.2 = some (.tbl #[])) : TabsOk ⟨K, cl⟩ H := fun q hq hz => by
  rcases h q hq with z | ⟨c, hc⟩
  · exact absurd z hz
  · exact LamX.TabS.nil (ht _ hc)
structure LawT (P : Program) (w : PySem.World) (K : PySem.W.Frag) (mg : Str → Option Value) (k : Nat) (fa : Addr) (ts : List Addr) : Prop where
  ex : ∃ (fd : FuncData) (cs : List (Addr × Addr)) (cl : String → Addr), (∀ p ∈ cs, p.2 ∈ ts ∧ K.lookup p.2 = none ∧ PySem.W.codeHdIn K p.1 p.2 = true) ∧ (∀ (s : Shared) (v : Value), BindsTo s fd ⟨[v], []⟩ [("script", v)]) ∧
    (∀ H : Hp, (∀ p ∈ cs, H p.2 = some (.tbl #[])) → TabsOk ⟨K, cl⟩ H) ∧ ∀ base : Heap, K.In base → base.Ns mainGlobals mg → (∀ p ∈ cs, LamX.TabB base mg p.1 p.2) → FnOk P w K mg base (L2.CX P w) k fa fd ["script"] (sp_lawD K cl)
end DL

set_option maxHeartbeats 4000000
namespace DL
open PySem PySem.Spec PyProof.Rows L2 Bs
end DL

set_option maxHeartbeats 4000000
namespace DL
open PySem PySem.Spec PyProof.Rows L2 Bs
section
variable {β : Type} [DecidableEq β]
end
variable {G : Gm} {S : Addr → Prop} {α : List Addr} {H : Hp} {st : Sto}
section
variable {X : Cx} {cl : String → Addr} {W : WX} {a : Expr} {af : AF} {pos : Pos}
end
end DL

set_option maxHeartbeats 4000000
namespace DL
open PySem PySem.Spec PyProof.Rows L2 Bs
variable {X : Cx} {cl : String → Addr} {W : WX} {a : Expr} {fa : EF} {p pos p2 : Pos} {x : Str} {CC : Addr}
end DL

set_option maxHeartbeats 4000000
namespace Bs
open PySem PySem.Spec PyProof.Rows L2
section
variable {prog : Program} {w : World} {A : Around} {E : Value → Shared → Prop} {s : Shared} {K : PySem.W.Frag} {x C : Addr} {ox : Obj} {od : Option Obj} {f : Addr} {y tb : Value}
end
inductive OthV (K : PySem.W.Frag) (C : Addr) (H : Hp) : V → Prop where
  | same {b dy : Addr} {gs : List (Str × V)} (h : H b = some (.ins C dy gs)) : OthV K C H (.ref b)
  | ins {b D dy : Addr} {gs : List (Str × V)} (h : H b = some (.ins D dy gs)) (hs : PySem.W.subIn K (.ref D) (.ref C) = some false) : OthV K C H (.ref b)
  | tup {b : Addr} {xs : List V} (h : H b = some (.tup xs)) : OthV K C H (.ref b)
  | int (i : Int) : OthV K C H (.int i)
  | non : OthV K C H .non
end Bs

set_option maxHeartbeats 4000000
namespace DL
open PySem PySem.Spec PyProof.Rows L2 Bs
structure DEq (P : Program) (w : PySem.World) (K : PySem.W.Frag) (mg : Str → Option Value) (base : Heap) (cl : String → Addr) (k : Nat) (c : String) (ps : List Str) (F : FF) : Prop where
  ex : ∃ (f : Addr) (fd : FuncData), OwnNe K (cl c) f ∧ FnOk P w K mg base (L2.CX P w) k f fd ps (spF ⟨K, cl⟩ F) ∧ Binds K fd ps []
variable {X : Cx} {cl : String → Addr} {W : WX} {a b : Expr} {fa fb : EF} {pos : Pos} {k : Nat} {c : String} {ps : List Str} {F : FF}
end DL

set_option maxHeartbeats 4000000
namespace DL
open PySem PySem.Spec PyProof.Rows L2 Bs
section
variable {X : Cx} {cl : String → Addr} {W : WX} {o a : Expr} {fo fa : EF} {apos pos : Pos}
end
end DL

set_option maxHeartbeats 4000000
namespace DL
open PySem PySem.Spec PyProof.Rows L2 Bs
section
variable {X : Cx} {cl : String → Addr} {W : WX} {a : Expr} {es : List Expr} {af : AF} {pos p : Pos}
end
end DL

set_option maxHeartbeats 4000000
namespace DL
open PySem PySem.Spec PyProof.Rows L2 Bs
section
variable {X : Cx} {cl : String → Addr} {W : WX} {a b : Expr} {fa fb : EF} {p pos : Pos}
end
end DL

set_option maxHeartbeats 4000000
namespace DL
open PySem PySem.Spec PyProof.Rows L2 Bs
section
variable {X : Cx}
end
end DL

set_option maxHeartbeats 4000000
namespace DL
open PySem PySem.Spec PyProof.Rows L2 Bs
section
variable {X : Cx}
end
end DL

set_option maxHeartbeats 4000000
namespace DL
open PySem PySem.Spec PyProof.Rows L2 Bs
section
variable {X : Cx} {cl : String → Addr} {W : WX} {e a b c tg iter kx vx : Expr} {ifs : List Expr} {f fa te : EF} {fi : IF} {tt : TF} {fk fv : EF} {pos : Pos} {g : GF} {T vs : List Nat}
end
end DL

set_option maxHeartbeats 1000000
namespace DL
open PySem PySem.Spec PyProof.Rows L2 Bs
end DL

set_option maxHeartbeats 4000000
namespace DL
open PySem PySem.Spec PyProof.Rows L2 Bs
section
variable {X : Cx} {cl : String → Addr} {W : WX} {o e f : Expr} {fo fk fz : EF} {apos cpos : Pos}
end
end DL

set_option maxHeartbeats 1000000
namespace DL
open PySem PySem.Spec PyProof.Rows L2 Bs
section
variable {X : Cx} {cl : String → Addr} {W : WX} {es : List Expr} {s : Stmt} {af : AF}
end
end DL

set_option maxHeartbeats 4000000
namespace Cmb
open PySem
section
variable {prog : Program} {w : World} {A : Around} {E : Value → Shared → Prop} {s : Shared}
open PySem.Sem (wp)
open PySem.Builtin.Itertools
end
end Cmb

set_option maxHeartbeats 4000000
namespace L2
open PySem PySem.Spec PyProof.Rows
end L2
namespace L2
open PySem PySem.Spec PyProof.Rows
section
variable {X : Cx} {tg er ek : Expr} {es : List Expr} {ta tk : TE} {taa : TA} {p p2 pos pos2 : Pos}
end
end L2
namespace DL
open PySem PySem.Spec PyProof.Rows L2 Bs
section
variable {X : Cx} {cl : String → Addr} {W : WX} {tg e en ek : Expr} {es : List Expr} {af : AF} {fn fk : EF}
end
end DL

set_option maxHeartbeats 4000000
namespace L2
open PySem PySem.Spec PyProof.Rows
section
variable {X : Cx}
end
end L2
namespace DL
open PySem PySem.Spec PyProof.Rows L2 Bs
section
variable {X : Cx} {cl : String → Addr} {W : WX} {o a : Expr} {s : Stmt} {fo fa : EF} {G : Gm} {S : Addr → Prop} {α : List Addr} {H : Hp}
end
end DL

set_option maxHeartbeats 4000000
namespace L2
open PySem PySem.Spec PyProof.Rows
theorem DpAll.len {K : PySem.W.Frag} {H : Hp} : ∀ {vs : List V} {ds : List PyData}, DpAll K H vs ds → vs.length = ds.length
  | _, _, .nil => rfl
  | _, _, .cons _ h => by rw [List.length_cons, List.length_cons, h.len]
section
variable {X : Cx}
end
end L2
namespace DL
open PySem PySem.Spec PyProof.Rows L2 Bs
theorem pyL_map : ∀ l : List D, pyL l = l.map py
  | [] => rfl
  | d :: l => by simp only [pyL, List.map_cons, pyL_map l]
section
variable {G : Gm}
end
section
variable {X : Cx} {cl : String → Addr} {W : WX} {a : Expr} {es : List Expr} {af : AF} {p pos : Pos} {k : Nat}
end
end DL

set_option maxHeartbeats 4000000
namespace DL
open PySem PySem.Spec PyProof.Rows L2 Bs
section
variable {X : Cx} {cl : String → Addr} {W : WX} {o e f : Expr} {s : Stmt} {fo fk fz : EF} {apos cpos : Pos}
end
end DL

set_option maxHeartbeats 800000
namespace DL
open PySem PySem.Spec PyProof.Rows L2 Bs
section
variable {X : Cx} {cl : String → Addr} {W : WX} {e tg : Expr} {af : AF}
end
end DL

set_option maxHeartbeats 4000000
namespace L2
open PySem PySem.Spec PyProof.Rows
section
variable {X : Cx}
end
end L2
namespace DL
open PySem PySem.Spec PyProof.Rows L2 Bs
section
variable {G : Gm}
end
section
variable {X : Cx} {cl : String → Addr} {W : WX} {a : Expr} {es : List Expr} {af : AF} {p pos : Pos} {k : Nat}
end
end DL

set_option maxHeartbeats 4000000
namespace DL
open PySem PySem.Spec PyProof.Rows L2 Bs
section
variable {X : Cx} {cl : String → Addr} {W : WX} {o elt tg : Expr} {pos : Pos} {te : EF} {g : GF} {T vs : List Nat}
end
end DL

set_option maxHeartbeats 4000000
namespace DL
open PySem PySem.Spec PyProof.Rows L2 Bs
section
variable {X : Cx}
end
section
variable {X : Cx} {cl : String → Addr} {W : WX} {kx vx tg iter : Expr} {ifs : List Expr} {pos : Pos} {fk fv : EF} {fi : IF} {tt : TF} {g : GF} {T : List Nat}
end
end DL

set_option maxHeartbeats 4000000
namespace DL
open PySem PySem.Spec PyProof.Rows L2 Bs
section
variable {X : Cx} {cl : String → Addr} {W : WX} {o a : Expr} {fo fa : EF} {apos pos : Pos}
end
end DL

set_option maxHeartbeats 4000000
namespace L2
open PySem PySem.Spec PyProof.Rows
section
variable {X : Cx}
end
end L2
namespace DL
open PySem PySem.Spec PyProof.Rows L2 Bs
section
variable {G : Gm} {S : Addr → Prop} {α : List Addr} {H : Hp}
end
section
variable {X : Cx} {cl : String → Addr} {W : WX} {a : Expr} {es : List Expr} {af : AF} {pos p : Pos} {k : Nat}
end
end DL

set_option maxHeartbeats 4000000
namespace L2
open PySem PySem.Spec PyProof.Rows
section
variable {X : Cx}
def rReprD (K : PySem.W.Frag) : List V → Hp → VK → Prop := fun xs H Q => ∃ (a : Addr) (d : PyData), xs = [.ref a] ∧ Dp K H (.ref a) d ∧ d.showable = true ∧ d.hasDict = false ∧ d.depth ≤ 61 ∧ d.shown.length ≤ sizeLine ∧ Q (.str d.shown) H
theorem cr_reprD (hg : X.A.guards = some []) (hu : X.A.units + 64 < cLine) : CallR X (.builtin "repr") (rReprD X.K) := by
  intro pins s σ H xs us Q I r h
  obtain ⟨a, d, rfl, hd, h1, h2, h3, h4, q⟩ := h
  obtain ⟨u, rfl, ru⟩ := vals1 r
  obtain rfl : u = Value.ref a := ru
  obtain ⟨as, hr⟩ := Dp.reads I d (.ref a) (.ref a) hd rfl
  exact repr_of_reads' hr h1 (fun z => by rw [h2] at z; cases z) hg (by omega) (fun _ _ e => e) (fun h' v tk hk => ⟨.str _, H, I.kept (t' := tk) hk, ⟨v, rfl⟩, q⟩) h4
end
end L2
namespace DL
open PySem PySem.Spec PyProof.Rows L2 Bs
def isSeqD : D → Bool
  | .tup _ => true
  | .lst _ => true
  | _ => false
def gRepr (d : D) : Option D := if isSeqD d && (plain 61 d && ((py d).showable && (!(py d).hasDict && decide ((py d).shown.length ≤ sizeLine)))) then some (.str (py d).shown) else none
section
variable {G : Gm}
theorem ok_repr : CallOk .val G (rReprD G.K) (fn1 gRepr) := callok1 fun S α H st x vx z Q w bx hz q => by
  unfold gRepr at hz
  split at hz
  · rename_i hc
    cases hz
    simp only [Bool.and_eq_true, decide_eq_true_eq, Bool.not_eq_true'] at hc
    obtain ⟨h0, hp, h1, h2, h3⟩ := hc
    have hdp := bx.dp (by
      exact hp)
    have ha : ∃ a, vx = .ref a := by
      cases hx : x with
      | tup l => rw [hx] at bx; obtain ⟨a, _, rfl, _⟩ := bx.tup; exact ⟨a, rfl⟩
      | lst l => rw [hx] at bx; obtain ⟨a, _, rfl, _⟩ := bx.lst; exact ⟨a, rfl⟩
      | _ => rw [hx] at h0; cases h0
    obtain ⟨a, rfl⟩ := ha
    exact ⟨a, py x, rfl, hdp, h1, h2, (plain_ok 61 x hp).2, h3, q _ _ (got_refl w rfl)⟩
  · cases hz
end
section
variable {X : Cx} {cl : String → Addr} {W : WX} {a : Expr} {es : List Expr} {af : AF} {p pos : Pos} {k : Nat}
theorem de_repr (hgu : X.A.guards = some []) (hr : Room k X.A) (hm : X.mg "repr" = none) (ha : DA .brw X cl W (a :: es) af) (hg : Gl X "repr" := by rfl) (he : starEach (a :: es) X.env = (false, eval a X.env) :: starEach es X.env := by rfl) (hpl : (backTo pos (starEach es X.env)).any (·.1) = false := by rfl) : DE .val X cl W (.Call (.Name "repr" p) (a :: es) [] pos) (dFn (fn1 gRepr) af) :=
  de_fn (fun _ h => pe_callB (cr_reprD hgu hr.units) hg hm (by decide +kernel) h (by decide) (by decide) he hpl) ok_repr ha
end
end DL

set_option maxHeartbeats 4000000
namespace DL
open PySem PySem.Spec PyProof.Rows L2 Bs
structure FnG (P : Program) (w : PySem.World) (K : PySem.W.Frag) (mg : Str → Option Value) (base : Heap) (k : Nat) (f : Addr) (fd : FuncData) (ps : List Str) (sp : Sp) : Prop where
  many : ∀ vs H Q E, sp vs H Q E → vs.length = ps.length
  goes : ∀ (A : Around) (outer : List Env) (s : Shared) (H : Hp) (args : Args) (us : List Value) (vs : List V) (Q : VK) (E : XK), Room k A → A.guards = some [] → Env0 P w K mg base A outer s H → BindsTo s fd args (ps.zip us) → Vals vs us → sp vs H Q E → codeAny (model P w) A (.call (.ref f) args) (CR (L2.CX P w) outer P w H s Q E) s
theorem fnG_of {P : Program} {w : PySem.World} {K : PySem.W.Frag} {mg : Str → Option Value} {base : Heap} {x qual : Str} {st : Stmt} {f : Addr} {fd : FuncData} {N ps : List Str} {k : Nat} {sp : Sp} (F : Fun K x qual st f fd) (S : FnScope N ps (defScope st)) (many : ∀ vs H Q E, sp vs H Q E → vs.length = ps.length)
    (body : ∀ (cdv : Value) (A : Around) (outer : List Env) (s : Shared) (H : Hp) (vs : List V) (Q : VK) (E : XK), Room k (A.deeper (envOfC qual (defScope st) s.heap.objs.size f cdv)) → A.guards = some [] → sp vs H Q E → ∃ t, PSs (cxOf (L2.CX P w) P w K mg base N qual (defScope st) f cdv A outer s H E) (defBody st) t ∧ t { nx := fun _ H' => Q .non H', rt := Q } (L2.start N vs) H) : FnG P w K mg base (k + 1) f fd ps sp := by
  obtain ⟨_, _, _, _, _, _, cdv, _, _, rfl, known, coded⟩ := F.ex
  refine ⟨many, fun A outer s H args us vs Q E room quiet e0 binds vals asked => ?_⟩
  have same := many _ _ _ _ asked
  have inK : K.In s.heap := e0.mod.kin.keeps fun b o e => (e0.bs b o e).1
  have free : s.heap.NoLimit := e0.mod.nolimit.keeps fun b o e => (e0.bs b o e).1
  refine codeAny_call_function room.depth (inK _ _ known) rfl S.co S.gen rfl (PySem.W.codeRec_of inK coded) (binds _ _ _ _ (wpAny_newFunctionEnv_cells S.kind (fun y hy => (S.par y.1 (List.of_mem_zip (a := y.1) (b := y.2) hy).1).elim .inl fun z => .inr ⟨z, PySem.W.cellsFrom_some _ _ _ (.inl z)⟩) fun env he s1 grown => ?_))
  cases he
  refine ⟨free.keeps grown.toInCall.keep, codeAny_func ?_⟩
  obtain ⟨t, reads, holds⟩ := body cdv A outer s H vs Q E (room.deeper _) quiet asked
  refine wpAny_mono (reads.run [] s1 (L2.start N vs) H _ (inv_start S room.hd e0 same vals grown) holds) (fun fl s' end_ => ?_) fun _ _ z => z
  match fl, end_ with
  | .ret u, ⟨v, _, H', J, rv, q⟩ => exact ⟨v, H', J.os, J.bare, J.base, J.hok, rv, q⟩
  | .next, ⟨_, H', J, q⟩ => exact ⟨V.non, H', J.os, J.bare, J.base, J.hok, rfl, q⟩
  | .brk, ⟨_, _, _, q⟩ => exact q.elim
  | .cont, ⟨_, _, _, q⟩ => exact q.elim
theorem fn_ofG {P : Program} {w : PySem.World} {K : PySem.W.Frag} {mg : Str → Option Value} {base : Heap} {cl : String → Addr} {x qual : Str} {st : Stmt} {f : Addr} {fd : FuncData} {N ps : List Str} {k m : Nat} {sf : SF} (F : Fun K x qual st f fd) (S : FnScope N ps (defScope st))
    (hml : ps.length = m) (body : ∀ (cdv : Value) (A : Around) (outer : List Env) (s : Shared) (H : Hp) (E : XK), Room k (A.deeper (envOfC qual (defScope st) s.heap.objs.size f cdv)) → (A.deeper (envOfC qual (defScope st) s.heap.objs.size f cdv)).guards = some [] → DSs (cxOf (L2.CX P w) P w K mg base N qual (defScope st) f cdv A outer s H E) cl (fun cls d _ H => E cls d H) (defBody st) sf) :
    FnG P w K mg base (k + 1) f fd ps (spF ⟨K, cl⟩ (runDef m N.length sf)) := by
  refine fnG_of F S (fun vs H Q E h => ?_) (fun cdv A outer s H vs Q E hr hgu h => ?_)
  · obtain ⟨S', α, st', ds, w', r, q⟩ := h
    unfold runDef at q
    split at q
    · rename_i hl
      rw [r.len, hl, hml]
    · exact q.elim
  · obtain ⟨S', α, st', ds, w', r, q⟩ := h
    obtain ⟨t, h1, h2⟩ := (body cdv A outer s H E hr hgu).ex
    refine ⟨t, h1, ?_⟩
    unfold runDef at q
    split at q
    · rename_i hl
      have p := pre_start (N := N) w' r
      rw [hl] at p
      have nO : ∀ a, ¬ Ow (L2.start N vs) (ds.map Slot.fz ++ List.replicate (N.length - m) .no) a := fun a ⟨i, d, h1, _⟩ => no_ow h1
      refine h2 S' α H (L2.start N vs) _ st' _ p ?_
      cases e : sf (ds.map Slot.fz ++ List.replicate (N.length - m) .no) st' with
      | nx env1 st1 => rw [e] at q; exact fun S1 α1 H1 σ1 e1 p1 => q _ _ ⟨S1, α1, Step.ofNo nO e1, p1.w, rfl⟩
      | ret d st1 => rw [e] at q; exact fun S1 α1 H1 v e1 w1 r1 => q _ _ ⟨S1, α1, Step.ofNo nO e1, w1, r1⟩
      | exc c fs env1 st1 => rw [e] at q; exact fun S1 α1 H1 σ1 dx e1 p1 x1 => q _ _ ⟨S1, α1, Step.ofNo nO e1, p1.w, x1⟩
      | brk env1 st1 => rw [e] at q; exact False.elim q
      | ct env1 st1 => rw [e] at q; exact False.elim q
      | bad => rw [e] at q; exact q
    · exact q.elim
end DL

set_option maxHeartbeats 4000000
namespace DL
open PySem PySem.Spec PyProof.Rows L2 Bs LamX
abbrev scrO (vs : List Value) : Obj := { cls := .type "list", data := .seq vs.toArray }
abbrev tabO : Obj := { cls := .none, data := .fields #[] }
structure Entry (h : Heap) (K : PySem.W.Frag) (a : Addr) (vs : List Value) (T : List Addr) (H : Hp) : Prop where
  scr : h.get? a = some (scrO vs)
  tab : ∀ b ∈ T, h.get? b = some tabO
  only : ∀ b, H b ≠ none → b = a ∨ b ∈ T
  kin : K.In h
  ka : H a ≠ none → K.lookup a = none
  kt : ∀ b ∈ T, K.lookup b = none
section
variable {h : Heap} {K : PySem.W.Frag} {a : Addr} {vs : List Value} {T : List Addr} {H : Hp}
theorem Entry.free (e : Entry h K a vs T H) {b : Addr} {o : Obj} (hb : h.get? b = some o) (n1 : ∀ xs n, o.data ≠ .seq xs n) (n2 : o.data ≠ .fields #[]) : H b = none := by
  refine Classical.byContradiction fun hn => ?_
  rcases e.only b hn with rfl | hT
  · have := e.scr.symm.trans hb
    cases this
    exact n1 _ _ rfl
  · have := (e.tab b hT).symm.trans hb
    cases this
    exact n2 rfl
theorem Entry.ns (e : Entry h K a vs T H) {b : Addr} {m : Str → Option Value} (hm : h.Ns b m) : (hidT h H).Ns b m := by
  obtain ⟨o, es, ep, q, d, r⟩ := hm
  exact ⟨o, es, ep, hidT_get q (e.free q (fun _ _ z => by rw [d] at z; cases z) fun z => by rw [d] at z; cases z), d, r⟩
theorem Entry.inK (e : Entry h K a vs T H) : K.In (hidT h H) := fun b o hb => by
  refine hidT_get (e.kin b o hb) (Classical.byContradiction fun hn => ?_)
  rcases e.only b hn with rfl | hT
  · rw [e.ka hn] at hb; cases hb
  · rw [e.kt b hT] at hb; cases hb
theorem Entry.tabB (e : Entry h K a vs T H) {mg : Str → Option Value} (hns : h.Ns mainGlobals mg) (hbm : ∃ (bm : Addr) (ob : Obj), mg "__builtins__" = some (.ref bm) ∧ bm ≠ builtinsNs ∧ h.get? bm = some ob ∧ ob.cls = .type "module" ∧ ob.dict = some builtinsNs ∧ ob.data = .plain)
    {c p : Addr} (hp : p ∈ T) (C : PySem.W.CodeHd h c p) : TabB (hidT h H) mg c p := by
  obtain ⟨og, eg, ng, hg, dg, rg⟩ := hns
  refine ⟨?_, ?_, fun z => ?_⟩
  · obtain ⟨o, us, file, tf, flags, tg, inF, text, tt, q, r1, r2, r3, rest⟩ := C
    refine ⟨o, us, file, tf, flags, tg, inF, text, tt, hidT_get q (e.free q (fun _ _ z => ?_) fun z => ?_), r1, r2, r3, rest⟩
    · rw [r2] at z; cases z
    · rw [r2] at z; cases z; simp at r3
  · obtain ⟨m, ob, g1, g2, g3, g4, g5, g6⟩ := hbm
    refine ⟨m, ob, g1, g2, fun z => ?_, fun z => ?_, hidT_get g3 (e.free g3 (fun _ _ z => ?_) fun z => ?_), g4, g5, g6⟩
    · rw [z, hg] at g3; cases g3; rw [dg] at g6; cases g6
    · rw [z, e.tab p hp] at g3; cases g3; cases g6
    · rw [g6] at z; cases z
    · rw [g6] at z; cases z
  · rw [z, e.tab p hp] at hg; cases hg; cases dg
end
section
variable {P : Program} {w : PySem.World} {K : PySem.W.Frag} {mg mb : Str → Option Value} {k : Nat} {fa a : Addr} {cs : List (Addr × Addr)} {fd : FuncData} {x : Str} {sp : Sp} {s : Shared} {vs : List Value} {ns : List Int}
theorem callG_at (hns : s.heap.Ns mainGlobals mg) (hb : s.heap.Ns builtinsNs mb) (hbb : ∀ x : Str, x ≠ "__name__" → mb x = bootBuiltins x) (hlim : s.heap.NoLimit) (hg : s.gens = #[]) (C : ∀ p ∈ cs, PySem.W.CodeHd s.heap p.1 p.2)
    (hbm : ∃ (bm : Addr) (ob : Obj), mg "__builtins__" = some (.ref bm) ∧ bm ≠ builtinsNs ∧ s.heap.get? bm = some ob ∧ ob.cls = .type "module" ∧ ob.dict = some builtinsNs ∧ ob.data = .plain)
    (hr : Room k callerA) (F : ∀ base : Heap, K.In base → base.Ns mainGlobals mg → (∀ p ∈ cs, TabB base mg p.1 p.2) → FnG P w K mg base k fa fd [x] sp) (hbind : ∀ (s : Shared) (u : Value), BindsTo s fd ⟨[u], []⟩ [(x, u)])
    {H : Hp} (e : Entry s.heap K a vs (cs.map (·.2)) H) (hok : HOk P w H s.heap) (hH : ∀ p ∈ cs, H p.2 = some (.tbl #[])) (hfz : ∀ b, H b = none ∨ b ∈ cs.map (·.2) ∨ ∃ o xs, H b = some (.frz o (.lst xs))) (hsp : sp [.ref a] H (fun v _ => v = .bl true) fun _ _ _ => False) :
    codeAny (model P w) callerA (.call (.ref fa) ⟨[.ref a], []⟩) (fun r s' => r = .ok (.ret (.bool true)) ∧ PySem.OldK s.heap s'.heap ∧ s'.os = s.os ∧ AllBare s'.gens) s := by
  have hmem : ∀ p ∈ cs, p.2 ∈ cs.map (·.2) := fun p hp => List.mem_map_of_mem hp
  have md : L2.Mod K mg (hidT s.heap H) := by
    obtain ⟨mc, c1, c2⟩ := hlim
    exact ⟨e.inK, e.ns hns, ⟨mb, e.ns hb, hbb⟩, mc, e.ns c1, c2⟩
  have ev0 : Env0 P w K mg (hidT s.heap H) callerA [] s H := ⟨rfl, md, fun _ _ q => of_hidT q, Nat.le_of_eq (hidT_size _ _), trivial, fun _ q => absurd q List.not_mem_nil, hok, .of_eq hg⟩
  have run := (F _ e.inK (e.ns hns) fun p hp => e.tabB hns hbm (hmem p hp) (C p hp)).goes callerA [] s H ⟨[.ref a], []⟩ [.ref a] [.ref a] _ _ hr rfl ev0 (hbind s (.ref a)) (.cons rfl .nil) hsp
  refine codeAny_mono run fun r s' q => ?_
  match r, q with
  | .error _, q => exact (cx_no q).elim
  | .ok .next, q => exact q.elim
  | .ok .brk, q => exact q.elim
  | .ok .cont, q => exact q.elim
  | .ok (.ret u), ⟨v, H', qos, qb, un, hok', rv, qv⟩ =>
    obtain rfl : v = .bl true := qv
    obtain rfl : u = Value.bool true := rv
    have stays : ∀ b o, b ∉ cs.map (·.2) → s.heap.get? b = some o → s'.heap.get? b = some o := fun b o nb hb' => by
      rcases hfz b with z | z | ⟨ob, xs, z⟩
      · exact un.keep b o hb' z List.not_mem_nil List.not_mem_nil
      · exact absurd z nb
      · have q1 := (hok b _ z).1
        have q2 := (hok' b _ (un.frzs b ob _ z)).1
        rw [hb'] at q1
        cases q1
        exact q2
    have tabs : ∀ b ∈ cs.map (·.2), ∃ p ∈ cs, p.2 = b := fun b hb' => by
      obtain ⟨p, hp, z⟩ := List.mem_map.mp hb'
      exact ⟨p, hp, z⟩
    have grew : ∀ p ∈ cs, ∃ more : Array Value, s'.heap.get? p.2 = some { cls := .none, data := .fields more } := fun p hp => by
      obtain ⟨more, z⟩ := un.tbls p.2 #[] (hH p hp)
      exact ⟨_, hok' p.2 _ z⟩
    refine ⟨rfl, ⟨fun b o hb' => ?_, fun b o hb' => ?_⟩, qos, qb⟩
    · by_cases hm : b ∈ cs.map (·.2)
      · obtain ⟨p, hp, rfl⟩ := tabs b hm
        obtain ⟨more, z⟩ := grew p hp
        have q0 := e.tab p.2 hm
        rw [hb'] at q0
        cases q0
        exact .inr (.inl ⟨((C p hp).tab (e.tab p.2 hm)).isCodeTable, rfl, #[], more, rfl, by rw [Array.empty_append]; exact z⟩)
      · exact .inl (stays b o hm hb')
    · by_cases hm : b ∈ cs.map (·.2)
      · obtain ⟨p, hp, rfl⟩ := tabs b hm
        obtain ⟨more, z⟩ := grew p hp
        exact ⟨_, z⟩
      · exact ⟨o, stays b o hm hb'⟩
theorem callG (KX : K.In s.heap) (hns : s.heap.Ns mainGlobals mg) (hb : s.heap.Ns builtinsNs mb) (hbb : ∀ x : Str, x ≠ "__name__" → mb x = bootBuiltins x) (hlim : s.heap.NoLimit) (hg : s.gens = #[])
    (hT : ∀ p ∈ cs, s.heap.get? p.2 = some tabO) (nT : ∀ p ∈ cs, K.lookup p.2 = none) (C : ∀ p ∈ cs, PySem.W.CodeHd s.heap p.1 p.2)
    (hbm : ∃ (bm : Addr) (ob : Obj), mg "__builtins__" = some (.ref bm) ∧ bm ≠ builtinsNs ∧ s.heap.get? bm = some ob ∧ ob.cls = .type "module" ∧ ob.dict = some builtinsNs ∧ ob.data = .plain)
    (ha : s.heap.get? a = some (scrO vs)) (hi : IntsAre vs ns) (hl : ns.length ≤ sizeLine) (hr : Room k callerA)
    (F : ∀ base : Heap, K.In base → base.Ns mainGlobals mg → (∀ p ∈ cs, TabB base mg p.1 p.2) → FnG P w K mg base k fa fd [x] sp) (hbind : ∀ (s : Shared) (u : Value), BindsTo s fd ⟨[u], []⟩ [(x, u)])
    (hsp : ∀ H : Hp, (∀ p ∈ cs, H p.2 = some (.tbl #[])) → SqL K H a (ns.map V.int) → sp [.ref a] H (fun v _ => v = .bl true) fun _ _ _ => False) :
    codeAny (model P w) callerA (.call (.ref fa) ⟨[.ref a], []⟩) (fun r s' => r = .ok (.ret (.bool true)) ∧ PySem.OldK s.heap s'.heap ∧ s'.os = s.os ∧ AllBare s'.gens) s := by
  have tabs : ∀ b ∈ cs.map (·.2), s.heap.get? b = some tabO ∧ K.lookup b = none := fun b hb' => by
    obtain ⟨p, hp, rfl⟩ := List.mem_map.mp hb'
    exact ⟨hT p hp, nT p hp⟩
  have hmem : ∀ p ∈ cs, p.2 ∈ cs.map (·.2) := fun p hp => List.mem_map_of_mem hp
  have aT : a ∉ cs.map (·.2) := fun z => by
    have q := (tabs a z).1
    rw [ha] at q
    cases q
  have lenV := hi.length
  by_cases hk : K.lookup a = none
  · -- the list is tracked
    let H : Hp := fun b => if b = a then some (.frz (scrO vs) (.lst (ns.map V.int))) else if b ∈ cs.map (·.2) then some (.tbl #[]) else none
    have Ha : H a = some (.frz (scrO vs) (.lst (ns.map V.int))) := if_pos rfl
    have Ht : ∀ b ∈ cs.map (·.2), H b = some (.tbl #[]) := fun b hb' => by
      have n : ¬ b = a := fun z => aT (z ▸ hb')
      exact (if_neg n).trans (if_pos hb')
    have Hn : ∀ b, b ≠ a → b ∉ cs.map (·.2) → H b = none := fun b n1 n2 => (if_neg n1).trans (if_neg n2)
    refine callG_at (H := H) hns hb hbb hlim hg C hbm hr F hbind ⟨ha, fun b q => (tabs b q).1, fun b q => ?_, KX, fun _ => hk, fun b q => (tabs b q).2⟩ (fun b u z => ?_) (fun p hp => Ht _ (hmem p hp)) (fun b => ?_) (hsp H (fun p hp => Ht _ (hmem p hp)) (.inl (.inr ⟨_, Ha⟩)))
    · by_cases n1 : b = a
      · exact .inl n1
      · by_cases n2 : b ∈ cs.map (·.2)
        · exact .inr n2
        · exact absurd (Hn b n1 n2) q
    · by_cases n1 : b = a
      · subst n1
        rw [Ha] at z
        cases z
        exact ⟨ha, by rw [List.length_map]; exact hl, vs, _, vals_ints hi, ha⟩
      · by_cases n2 : b ∈ cs.map (·.2)
        · rw [Ht b n2] at z
          cases z
          exact (tabs b n2).1
        · rw [Hn b n1 n2] at z
          cases z
    · by_cases n1 : b = a
      · subst n1
        exact .inr (.inr ⟨_, _, Ha⟩)
      · by_cases n2 : b ∈ cs.map (·.2)
        · exact .inr (.inl n2)
        · exact .inl (Hn b n1 n2)
  · -- the list is one that K knows
    obtain ⟨o, ho⟩ := Option.ne_none_iff_exists'.mp hk
    have q := KX a o ho
    rw [ha] at q
    cases q
    let H : Hp := fun b => if b ∈ cs.map (·.2) then some (.tbl #[]) else none
    have Ht : ∀ b ∈ cs.map (·.2), H b = some (.tbl #[]) := fun b hb' => if_pos hb'
    have Hn : ∀ b, b ∉ cs.map (·.2) → H b = none := fun b n2 => if_neg n2
    refine callG_at (H := H) hns hb hbb hlim hg C hbm hr F hbind ⟨ha, fun b q => (tabs b q).1, fun b q => ?_, KX, fun q => absurd (Hn a aT) q, fun b q => (tabs b q).2⟩ (fun b u z => ?_) (fun p hp => Ht _ (hmem p hp)) (fun b => ?_)
      (hsp H (fun p hp => Ht _ (hmem p hp)) (.inr ⟨_, vs.toArray, _, ho, rfl, rfl, rfl, by rw [List.size_toArray, lenV]; exact hl, by simpa using vals_ints hi⟩))
    · by_cases n2 : b ∈ cs.map (·.2)
      · exact .inr n2
      · exact absurd (Hn b n2) q
    · by_cases n2 : b ∈ cs.map (·.2)
      · rw [Ht b n2] at z
        cases z
        exact (tabs b n2).1
      · rw [Hn b n2] at z
        cases z
    · by_cases n2 : b ∈ cs.map (·.2)
      · exact .inr (.inl n2)
      · exact .inl (Hn b n2)
end
theorem FnG.imp {P : Program} {w : PySem.World} {K : PySem.W.Frag} {mg : Str → Option Value} {base : Heap} {k : Nat} {f : Addr} {fd : FuncData} {ps : List Str} {sp sp' : Sp} (h : FnG P w K mg base k f fd ps sp) (hi : ∀ vs H Q E, sp' vs H Q E → sp vs H Q E) : FnG P w K mg base k f fd ps sp' :=
  ⟨fun vs H Q E q => h.many vs H Q E (hi _ _ _ _ q), fun A outer s H args us vs Q E hr hu e b v q => h.goes A outer s H args us vs Q E hr hu e b v (hi _ _ _ _ q)⟩
theorem law_ofG {P : Program} {w : PySem.World} {K : PySem.W.Frag} {mg : Str → Option Value} {base : Heap} {cl : String → Addr} {k : Nat} {f : Addr} {fd : FuncData} {F : FF} (h : FnG P w K mg base k f fd ["script"] (spF ⟨K, cl⟩ F))
    (hF : ∀ ns : List Int, ns.length ≤ 63 → ∃ st, F [.rdl (ns.map D.int)] [] = .ok (.bl true) st) : FnG P w K mg base k f fd ["script"] (sp_lawD K cl) :=
  h.imp fun vs H Q E ⟨a, ns, hv, hs, hl, htb, hq⟩ => by
    obtain ⟨st, hst⟩ := hF ns hl
    have nz : ∀ b, b = a ∧ Rd H a (.lst (ns.map V.int)) → ∃ o, H b = some o ∧ SoftO o := fun b hb => by
      obtain ⟨rfl, r | ⟨o, r⟩⟩ := hb
      · exact ⟨_, r, trivial⟩
      · exact ⟨_, r, trivial⟩
    refine ⟨fun b => b = a ∧ Rd H a (.lst (ns.map V.int)), [], [], [.rdl (ns.map D.int)], ⟨fun b hb => ?_, rfl, List.nodup_nil, fun b hb => (List.not_mem_nil hb).elim, fun n b d h1 _ => by simp at h1, fun b hb => ?_, htb⟩, ?_, ?_⟩
    · obtain ⟨o, q, _⟩ := nz b hb
      rw [q]; simp
    · obtain ⟨o, q, z⟩ := nz b hb
      exact soft_at q z
    · rw [hv]
      refine ⟨.ref a, [], rfl, ⟨a, ns.map V.int, rfl, ⟨hs, ?_⟩, RepL.ofInts ns⟩, rfl⟩
      rcases hs with hs | hs
      · exact .inl ⟨rfl, hs⟩
      · exact .inr fun H' => .inr hs
    · rw [hst]
      rintro v H1 ⟨S1, α1, e1, w1, r1⟩
      rw [show v = .bl true from r1]
      exact hq H1
structure LawG (P : Program) (w : PySem.World) (K : PySem.W.Frag) (mg : Str → Option Value) (k : Nat) (fa : Addr) (ts : List Addr) : Prop where
  ex : ∃ (fd : FuncData) (cs : List (Addr × Addr)) (cl : String → Addr), (∀ p ∈ cs, p.2 ∈ ts ∧ K.lookup p.2 = none ∧ PySem.W.codeHdIn K p.1 p.2 = true) ∧ (∀ (s : Shared) (v : Value), BindsTo s fd ⟨[v], []⟩ [("script", v)]) ∧
    (∀ H : Hp, (∀ p ∈ cs, H p.2 = some (.tbl #[])) → TabsOk ⟨K, cl⟩ H) ∧ ∀ base : Heap, K.In base → base.Ns mainGlobals mg → (∀ p ∈ cs, LamX.TabB base mg p.1 p.2) → FnG P w K mg base k fa fd ["script"] (sp_lawD K cl)
theorem walkG {l : PySem.W.OpenLaw} {q : Program} {loose : List Str} {XP : (Str → Option Value) → Heap → Prop} {d : DefRec} {k : Nat} {as : List Addr} {fn : List He.FnD} {tf : List He.Defn} {ex : PySem.W.Frag → Bool} (hn : l.most = some 63) (hdf : d.params.defaults = []) (hr : Room k callerA)
    (F : ∀ (w : PySem.World) (mg : Str → Option Value) (fa : Addr) (h : Heap) (K : PySem.W.Frag), K.In h → h.Ns mainGlobals mg → mg d.name = some (.ref fa) → SaysL fn tf ex h K → LawG l.prog w K mg k fa (tf.map fun p => (He.cT K p).2)) :
    PySem.W.WalkO q loose XP (hookL as fn tf ex).says l.row.toRowW d [] (fun f vs => PySem.call f vs) := by
  refine Att.attach_callB hn hdf fun w s₀ s mg mb fa o pm cd doc a vs ns G Y _ _ _ hmg hobj hints hlen _ hg => ?_
  obtain ⟨K, KX, c⟩ := Y
  obtain ⟨fd, cs, cl, h1, h2, h3, h4⟩ := (F w mg fa s.heap K KX G.T.g hmg c).ex
  refine callG (cs := cs) KX G.T.g G.T.b G.T.builtins G.T.nolimit hg (fun p hp => ?_) (fun p hp => (h1 p hp).2.1) (fun p hp => PySem.W.codeHd_of_K KX (h1 p hp).2.2) G.T.bmain hobj hints (Nat.le_trans hlen (by decide)) hr h4 h2 fun H ht hS => ⟨a, ns, rfl, hS, hlen, h3 H ht, fun _ => rfl⟩
  obtain ⟨q', hq, e⟩ := List.mem_map.mp (h1 p hp).1
  rw [← e]
  exact c.empty q' hq
structure DCalG (P : Program) (w : PySem.World) (K : PySem.W.Frag) (mg : Str → Option Value) (base : Heap) (cl : String → Addr) (k : Nat) (x : Str) (ps : List Str) (F : FF) : Prop where
  ex : ∃ (f : Addr) (fd : FuncData), FnG P w K mg base k f fd ps (spF ⟨K, cl⟩ F) ∧ mg x = some (.ref f) ∧ PySem.W.keepIn K (.ref f) = true ∧ Binds K fd ps []
section
variable {X : Cx} {k : Nat} {f : Addr} {fd : FuncData} {x : Str} {ps : List Str} {sp : Sp} {E : L2.St → XK} {a : Expr} {es : List Expr} {p pos : Pos} {t : TA}
end
section
variable {X : Cx} {cl : String → Addr} {W : WX} {a : Expr} {es : List Expr} {af : AF} {pos p : Pos} {k : Nat} {x : Str} {ps : List Str} {F : FF}
end
end DL

set_option maxHeartbeats 4000000
namespace DL
open PySem PySem.Spec PyProof.Rows L2 Bs
def ItM (K : PySem.W.Frag) (a b : Addr) : It :=
  ⟨fun k G => ∃ l m : List V, SqT K G a l ∧ SqL K G b m ∧ k < l.length ∧ k < m.length,
   fun k G v G' => ∃ c u t, v = .ref c ∧ G c = none ∧ G' = upd G c (.tup [u, t]) ∧ (∀ l, SqT K G a l → l[k]? = some u) ∧ ∀ m, SqL K G b m → m[k]? = some t,
   fun k G => ∃ l m : List V, SqT K G a l ∧ SqL K G b m ∧ k = min l.length m.length⟩
theorem sep_of {z TI TO i1 i2 a b : Addr} (A : ZipApart z TI TO i1 i2 a b) : ZipSep2 z TI TO i1 i2 [i1, a] [i2, b] :=
  { TIz := A.TIz, TOz := A.TOz, TITO := A.TITO, TIi1 := A.TIi1, mem1 := .head _, TIi2 := A.TIi2, mem2 := .head _,
    zf1 := by simp only [List.mem_cons, List.not_mem_nil, or_false]; exact fun h => h.elim (fun h => A.i1z h.symm) fun h => A.l1z h.symm
    Tf1 := by simp only [List.mem_cons, List.not_mem_nil, or_false]; exact fun h => h.elim (fun h => A.TOi1 h) fun h => A.l1TO h.symm
    zf2 := by simp only [List.mem_cons, List.not_mem_nil, or_false]; exact fun h => h.elim (fun h => A.i2z h.symm) fun h => A.l2z h.symm
    Tf2 := by simp only [List.mem_cons, List.not_mem_nil, or_false]; exact fun h => h.elim (fun h => A.TOi2 h) fun h => A.l2TO h.symm
    sep1_2 := by simp only [List.mem_cons, List.not_mem_nil, or_false]; exact fun h => h.elim (fun h => A.i12 h) fun h => A.l2i1 h.symm
    sep2_1 := by simp only [List.mem_cons, List.not_mem_nil, or_false]; exact fun h => h.elim (fun h => A.i12 h.symm) fun h => A.l1i2 h.symm }
def MidZ (z TI TO i1 i2 a b : Addr) (k : Nat) (g : Heap) : Prop :=
  IsZip g z TI TO .none ∧ IsPair g TI (.ref i1) (.ref i2) ∧ (∃ u t, IsPair g TO u t) ∧ g.IsTupleIter i1 a k ∧ g.IsListIter i2 b k
theorem five {z TI TO i1 i2 c : Addr} (h : c ∈ [z, TI, TO, i1, i2]) : c = z ∨ c = TI ∨ c = TO ∨ c = i1 ∨ c = i2 := by simpa using h
theorem turn_M {P : Program} {w : PySem.World} {K : PySem.W.Frag} {elts : List Expr} {kk : Nat} {tpos : Pos} {a b z TI TO i1 i2 : Addr} (A : ZipApart z TI TO i1 i2 a b) :
    Turn P w K (.Tuple elts kk tpos) (ItM K a b) [z, TI, TO, i1, i2] z (MidZ z TI TO i1 i2 a b) := by
  refine ⟨.head _, fun k g m c hc => ?_, fun k g g' m kp => ?_, ?_, ?_, fun A' k s Q E m h => wpAny_pyIter_zip m.1 h⟩
  · obtain ⟨m1, m2, ⟨u, t, m3⟩, ⟨o1, e1, _, d1⟩, ⟨o2, e2, _, d2⟩⟩ := m
    rcases five hc with e | e | e | e | e <;> subst e
    · exact ⟨_, m1, fun v q => nomatch q⟩
    · exact ⟨_, m2, fun v q => nomatch q⟩
    · exact ⟨_, m3, fun v q => nomatch q⟩
    · exact ⟨o1, e1, fun v q => by rw [d1] at q; cases q⟩
    · exact ⟨o2, e2, fun v q => by rw [d2] at q; cases q⟩
  · obtain ⟨m1, m2, ⟨u, t, m3⟩, m4, m5⟩ := m
    exact ⟨kp _ (by simp) _ m1, kp _ (by simp) _ m2, ⟨u, t, kp _ (by simp) _ m3⟩, m4.at fun o e => kp _ (by simp) o e, m5.at fun o e => kp _ (by simp) o e⟩
  · intro X eP ew eK calm k pins s σ G E I fr m go
    subst eP; subst ew; subst eK
    obtain ⟨m1, m2, ⟨u0, t0, m3⟩, m4, m5⟩ := m
    obtain ⟨l, r, gl, gr, kl, kr⟩ := go
    obtain ⟨la, ra, pa, _⟩ := I.tuple gl
    obtain ⟨lb, rb, pb, _⟩ := I.list gr
    obtain ⟨u, hu, ru⟩ := ra.get (List.getElem?_eq_getElem kl)
    obtain ⟨t, ht, rt⟩ := rb.get (List.getElem?_eq_getElem kr)
    have hh := I.ok.hd calm
    have zl : z < s.heap.objs.size := Heap.lt_size m1
    refine wpAny_pyNext_zipD2_item (sep_of A) (Draws.tuple (A := X.A.in1) hh i1 a A.l1i1 la.toArray) (Draws.list (A := X.A.in1) hh i2 b A.l2i2 lb.toArray) m1 m2 m3 ⟨m4, pa⟩ ⟨m5, pb.isList⟩ (by have := ra.length; simp; omega) (by have := rb.length; simp; omega) fun x1 x2 g' tk y1 y2 n1 n2 n3 n4 n5 n6 n7 => ?_
    have e1 : x1 = u := by
      rw [List.getElem?_toArray, hu] at y1
      exact (Option.some.inj y1).symm
    have e2 : x2 = t := by
      rw [List.getElem?_toArray, ht] at y2
      exact (Option.some.inj y2).symm
    subst e1; subst e2
    refine ⟨_, rfl, wpAny_letOwnedTupleGo_zip (s := { s with heap := g', toks := tk }) n1 fun g2 nz sb => ?_⟩
    have old : ∀ c o, c ∉ [z, TI, TO, i1, i2] → s.heap.get? c = some o → g2.get? c = some o := fun c o no e =>
      (sb.2 c fun q => no (q ▸ .head _)).trans (n7 c o (fun q => no (by rw [q]; simp)) (fun q => no (by rw [q]; simp)) (fun q => no (by rw [q]; simp)) (fun q => no (by rw [q]; simp)) e)
    have pr : g2.get? s.heap.objs.size = some { cls := .type "tuple", data := .seq #[x1, x2] } := (sb.2 _ (Nat.ne_of_gt zl)).trans n5
    have new : ObjOk X.prog X.w (upd G s.heap.objs.size (.tup [l[k], r[k]])) g2 s.heap.objs.size (.tup [l[k], r[k]]) :=
      ⟨by show 2 ≤ sizeLine; decide, [x1, x2], .cons ru (.cons rt .nil), ⟨_, pr, rfl, _, rfl⟩⟩
    refine ⟨.ref s.heap.objs.size, _, I.turnedNew (ch := [z, TI, TO, i1, i2]) old fr (Nat.le_refl _) new, rfl, ⟨_, l[k], r[k], rfl, I.hok.fresh (Nat.le_refl _), rfl, fun l' hl' => ?_, fun r' hr' => ?_⟩, ⟨nz, ?_, ⟨x1, x2, ?_⟩, ?_, ?_⟩, fun c hc => ?_⟩
    · rw [I.tuple_inj hl' gl]; exact List.getElem?_eq_getElem kl
    · rw [I.list_inj hr' gr]; exact List.getElem?_eq_getElem kr
    · exact (sb.2 TI A.TIz).trans (n7 TI _ A.TIz A.TITO A.TIi1 A.TIi2 m2)
    · exact (sb.2 TO A.TOz).trans n2
    · exact n3.1.at fun o e => (sb.2 i1 A.i1z).trans e
    · exact n4.1.at fun o e => (sb.2 i2 A.i2z).trans e
    · have lt : c < s.heap.objs.size := by
        rcases five hc with e | e | e | e | e <;> subst e
        · exact zl
        · exact Heap.lt_size m2
        · exact Heap.lt_size m3
        · obtain ⟨_, e, _⟩ := m4; exact Heap.lt_size e
        · obtain ⟨_, e, _⟩ := m5; exact Heap.lt_size e
      rw [upd_ne (Nat.ne_of_lt lt)]
      exact (fr c hc).1
  · intro X eP ew eK calm k pins s σ G E I fr m st
    subst eP; subst ew; subst eK
    obtain ⟨m1, m2, ⟨u0, t0, m3⟩, m4, m5⟩ := m
    obtain ⟨l, r, gl, gr, e⟩ := st
    obtain ⟨la, ra, pa, _⟩ := I.tuple gl
    obtain ⟨lb, rb, pb, _⟩ := I.list gr
    have hh := I.ok.hd calm
    have c1 := ra.length
    have c2 := rb.length
    refine wpAny_pyNext_zipD2_end (sep_of A) (Draws.tuple (A := X.A.in1) hh i1 a A.l1i1 la.toArray) (Draws.list (A := X.A.in1) hh i2 b A.l2i2 lb.toArray) m1 m2 m3 ⟨m4, pa⟩ ⟨m5, pb.isList⟩ (by simp; omega) (by simp; omega) (by simp; omega) fun g' tk kp => ⟨rfl, I.turnedL (ch := [z, TI, TO, i1, i2]) (fun c o no e => kp c o (fun q => no (by rw [q]; simp)) (fun q => no (by rw [q]; simp)) (fun q => no (by rw [q]; simp)) (fun q => no (by rw [q]; simp)) e) fr⟩
def iZipM (K : PySem.W.Frag) (ta : TA) : TI := fun σ G R => ta σ G fun vs G1 => ∃ a b l m, vs = [.ref a, .ref b] ∧ SqT K G1 a l ∧ SqL K G1 b m ∧ R (ItM K a b) G1
theorem pi_zipM {X : Cx} {e e2 : Expr} {ta : TA} {p pos tpos : Pos} {elts : List Expr} {kk : Nat} (hg : Gl X "zip") (hm : X.mg "zip" = none) (ha : PA X [e, e2] ta)
    (hs : starEach [e, e2] X.env = (false, eval e X.env) :: starEach [e2] X.env := by rfl) (hpl : (backTo pos (starEach [e2] X.env)).any (·.1) = false := by rfl) :
    PI X (.Tuple elts kk tpos) (.Call (.Name "zip" p) [e, e2] [] pos) (iZipM X.K ta) := by
  refine ⟨fun pins s σ G R I h => Call_ (ld_blt I hg hm PyProof.Rows.boot_zip (PyProof.Rows.callWith_type1 (thn (ha.run pos pins s σ G _ I h) ?_) hs hpl))⟩
  rintro us s1 ⟨vs, G1, I1, rel, a, b, l, m, rfl, gl, gr, q⟩
  obtain ⟨x, xs, rfl⟩ : ∃ x xs, us = x :: xs := by cases rel; exact ⟨_, _, rfl⟩
  obtain ⟨y, rfl⟩ : ∃ y, xs = [y] := by cases rel with | cons _ r => cases r with | cons _ r => cases r; exact ⟨_, rfl⟩
  obtain ⟨rfl, rfl⟩ : x = .ref a ∧ y = .ref b := by
    cases rel with | cons r1 r => cases r with | cons r2 r => cases r1; cases r2; exact ⟨rfl, rfl⟩
  obtain ⟨la, ra, pa, _⟩ := I1.tuple gl
  obtain ⟨lb, rb, pb, _⟩ := I1.list gr
  have A := PySem.W.ktu_apart s1.heap.objs.size a b (by obtain ⟨o, h, _⟩ := id pa; exact Heap.lt_size h) pb.lt
  refine zip_begins2 (begins_tuple a la.toArray) (begins_list b lb.toArray) (show s1.heap.IsTuple a la.toArray from pa) pb.isList fun g n1 n2 n3 n4 n5 n6 kp => wpAny_pyIter_zip n1 ?_
  refine ⟨_, _, _, _, G1, rfl, I1.kept (t' := s1.toks) kp, turn_M A, ⟨n1, n2, ⟨_, _, n3⟩, ⟨_, n4, rfl, rfl⟩, ⟨_, n5, rfl, rfl⟩⟩, fun c hc => ?_, q⟩
  have le : s1.heap.objs.size ≤ c := by rcases five hc with e | e | e | e | e <;> rw [e] <;> first | exact Nat.le_refl _ | exact Nat.le_add_right _ _
  exact I1.fpOk le (I1.hok.fresh le)
theorem walk_M {K : PySem.W.Frag} {a b : Addr} {xs ys : List V} {n : Nat} (hn : n = min xs.length ys.length) : Walk (ItM K a b) n (fun G => SqT K G a xs ∧ SqL K G b ys) (YPair (fun i => xs[i]?) (fun i => ys[i]?)) := by
  subst hn
  refine ⟨fun i G hi q => ⟨xs, ys, q.1, q.2, by omega, by omega⟩, fun G q => ⟨xs, ys, q.1, q.2, rfl⟩, fun i G v G' _ q y => ?_⟩
  obtain ⟨c, u, t, h1, h2, h3, h4, h5⟩ := y
  exact ⟨c, u, t, h1, h2, h3, h4 _ q.1, h5 _ q.2⟩
def iZipTL (af : AF) : IF := fun env st => (af env st).bind fun l st1 => match l with
  | [.tup l, .lst m] => .ok (zipD l m) st1
  | _ => .bad
section
variable {X : Cx} {cl : String → Addr} {W : WX} {tg e : Expr} {es : List Expr} {af : AF}
theorem di_zipM (hp : ∀ ta, PA X es ta → PI X tg e (iZipM X.K ta)) (ha : DA .val X cl W es af) : DI X cl W tg e (iZipTL af) := by
  obtain ⟨t, h1, h2⟩ := ha.ex
  refine ⟨_, hp t h1, fun S α G σ env st Q p q => ?_⟩
  refine h2 S α G σ env st _ p (PostA.mkI q fun l st1 vs G1 S1 α1 hr0 e1 w1 b1 q1 => ?_)
  split at q1
  · rename_i l m
    obtain ⟨v, r, rfl, rv, u, r2, rfl, ru, er⟩ := b1.val
    rw [show r2 = [] from er]
    obtain ⟨a, xs, rfl, sa, hla, hra⟩ := rv
    obtain ⟨b, ys, rfl, sb, hlb, hrb⟩ := ru
    refine ⟨a, b, xs, ys, rfl, SqT.of hla, SqL.of hlb, q1 _ G1 S1 α1 e1 w1 (it_walk (walk_M rfl) (by rw [zipD_len, hra.len, hrb.len]) (fun S' α' G' e2 => ⟨SqT.of ((e2.eq a sa).trans hla), SqL.of ((e2.eq b sb).trans hlb)⟩) ?_)⟩
    intro S' α' G' st' i d x G'' e2 w2 hd y
    obtain ⟨c, u, t, rfl, hc, rfl, hu, ht⟩ := y
    obtain ⟨d1, d2, g1, g2, rfl⟩ := zipD_get hd
    obtain ⟨u', hu', ru⟩ := (hra.mono e2).get g1
    obtain ⟨t', ht', rt⟩ := (hrb.mono e2).get g2
    have eu : u' = u := Option.some.inj (hu'.symm.trans hu)
    have et : t' = t := Option.some.inj (ht'.symm.trans ht)
    subst eu; subst et
    exact got_pair hc w2 ru rt
  · exact q1.elim
end
end DL

set_option maxHeartbeats 4000000
namespace DL
open PySem PySem.Spec PyProof.Rows L2 Bs
def topS (i : Nat) : Stmt := PySem.Challenge.pw_silencers_k70_whole_logs_that_fit_or_not.main.body.getD i (.Pass ⟨0, 0, 0, 0⟩)
def tbF : List (String × Bool) := [("Web", false)]
section
variable {P : Program} {w : PySem.World} {K : PySem.W.Frag} {mg : Str → Option Value} {base : Heap} {cl : String → Addr}
abbrev s_is_integer : Stmt := (topS 9)
theorem sc_is_integer : FnScope ["thing"] ["thing"] (defScope s_is_integer) := ⟨rfl, rfl, rfl, by decide +kernel, rfl, by decide +kernel, by decide +kernel⟩
noncomputable def F_is_integer : FF := runDef 1 1 ((sRet (dAndV (dUn (gIsa "int" tbF) (dVar 0)) (dUn gNot (dUn (gIsa "bool" tbF) (dVar 0))))))
theorem ok_is_integer {f : Addr} {fd : FuncData} (F : Fun K "is_integer" "is_integer" s_is_integer f fd) (hm : mg "is_integer" = some (.ref f)) (z_bool : mg "bool" = none) (z_int : mg "int" = none) (z_isinstance : mg "isinstance" = none) (is_bool : IsaOk K cl (.type "bool") tbF) (is_int : IsaOk K cl (.type "int") tbF) : DCal P w K mg base cl 1 "is_integer" ["thing"] F_is_integer :=
  dcal_of F sc_is_integer hm (F.binds (ps := ["thing"]) fun _ _ _ _ _ _ us hl => match us, hl with | [_], _ => rfl) rfl fun cdv A outer s H E hr => (dss_one (ds_ret (de_and (de_isa z_isinstance is_int (DE.brw (de_var (pv 0))) (pe_bltn (v := .ty "int") (by rfl) z_int (by decide +kernel) rfl)) (de_one (de_not (DE.brw (de_isa z_isinstance is_bool (DE.brw (de_var (pv 0))) (pe_bltn (v := .ty "bool") (by rfl) z_bool (by decide +kernel) rfl))))))))
abbrev s_is_number : Stmt := (topS 10)
theorem sc_is_number : FnScope ["thing", "least", "most"] ["thing", "least", "most"] (defScope s_is_number) := ⟨rfl, rfl, rfl, by decide +kernel, rfl, by decide +kernel, by decide +kernel⟩
noncomputable def F_is_number : FF := runDef 3 3 ((sRet (dAndV (dCall F_is_integer (dCons (dVar 0) dNil)) (dChain oLe oLe (dVar 1) (dVar 0) (dVar 2)))))
theorem ok_is_number {f : Addr} {fd : FuncData} (F : Fun K "is_number" "is_number" s_is_number f fd) (hm : mg "is_number" = some (.ref f)) (c_is_integer : DCal P w K mg base cl 1 "is_integer" ["thing"] F_is_integer) : DCal P w K mg base cl 2 "is_number" ["thing", "least", "most"] F_is_number :=
  dcal_of F sc_is_number hm (F.binds (ps := ["thing", "least", "most"]) fun _ _ _ _ _ _ us hl => match us, hl with | [_, _, _], _ => rfl) rfl fun cdv A outer s H E hr => (dss_one (ds_ret (de_and (de_call c_is_integer (hr.mono (by decide)) (lets_of (takes_of rfl rfl rfl rfl)) (da_cons (de_var (pv 0)) da_nil)) (de_one (de_chLL hr (DE.brw (de_var (pv 1))) (DE.brw (de_var (pv 0))) (DE.brw (de_var (pv 2))))))))
abbrev s_is_tie : Stmt := (topS 27)
theorem sc_is_tie : FnScope ["size", "thing", "a", "b"] ["size", "thing"] (defScope s_is_tie) := ⟨rfl, rfl, rfl, by decide +kernel, rfl, by decide +kernel, by decide +kernel⟩
noncomputable def F_is_tie : FF := runDef 2 4 ((sSeq (sIf (dOr (dNot (dT (dUn (gIsa "tuple" tbF) (dVar 1)))) (dBinT oNe (dFn (fn1 gLen) (dCons (dVar 1) dNil)) (dC (.int 2))))
  (sRet (dC (.bl false)))
  sPass)
  (sSeq (sAsg (dVar 1) (tgTup (tgCons (tgName 2) (tgCons (tgName 3) tgNil))))
  (sRet (dAndV (dCall F_is_number (dCons (dVar 2) (dCons (dC (.int 0)) (dCons (dBin oSub (dVar 0) (dC (.int 1))) dNil)))) (dCall F_is_number (dCons (dVar 3) (dCons (dBin oAdd (dVar 2) (dC (.int 1))) (dCons (dBin oSub (dVar 0) (dC (.int 1))) dNil)))))))))
theorem ok_is_tie {f : Addr} {fd : FuncData} (F : Fun K "is_tie" "is_tie" s_is_tie f fd) (hm : mg "is_tie" = some (.ref f)) (z_isinstance : mg "isinstance" = none) (z_len : mg "len" = none) (z_tuple : mg "tuple" = none) (is_tuple : IsaOk K cl (.type "tuple") tbF) (c_is_number : DCal P w K mg base cl 2 "is_number" ["thing", "least", "most"] F_is_number) : DCal P w K mg base cl 3 "is_tie" ["size", "thing"] F_is_tie :=
  dcal_of F sc_is_tie hm (F.binds (ps := ["size", "thing"]) fun _ _ _ _ _ _ us hl => match us, hl with | [_, _], _ => rfl) rfl fun cdv A outer s H E hr => (dss_cons (ds_if (DW.dt (dw_or (dt_not (dt_truth (DE.brw (de_isa z_isinstance is_tuple (DE.brw (de_var (pv 1))) (pe_bltn (v := .ty "tuple") (by rfl) z_tuple (by decide +kernel) rfl))))) (dw_or1 (dt_ne hr (DE.brw (de_len z_len (da_cons (DE.brw (de_var (pv 1))) da_nil))) (DE.brw (de_int pe_int))))))
  (dss_one (ds_ret (de_bl pe_bl)))
  dss_nil)
  (dss_cons (ds_asg (de_var (pv 1)) (dg_tup rfl (dgs_cons (dg_name (pg_name (i := 2) sc_is_tie.nd rfl (by first | exact Or.inl rfl | exact Or.inr rfl))) (dgs_cons (dg_name (pg_name (i := 3) sc_is_tie.nd rfl (by first | exact Or.inl rfl | exact Or.inr rfl))) dgs_nil)) (fun _ _ _ h => tgCons_len (fun _ _ _ h => tgCons_len (fun _ _ _ h => tgNil_len h) h) h)))
  (dss_one (ds_ret (de_and (de_call c_is_number (hr.mono (by decide)) (lets_of (takes_of rfl rfl rfl rfl)) (da_cons (de_var (pv 2)) (da_cons (de_int pe_int) (da_cons (de_sub (DE.brw (de_var (pv 0))) (DE.brw (de_int pe_int))) da_nil)))) (de_one (de_call c_is_number (hr.mono (by decide)) (lets_of (takes_of rfl rfl rfl rfl)) (da_cons (de_var (pv 3)) (da_cons (de_add (DE.brw (de_var (pv 2))) (DE.brw (de_int pe_int))) (da_cons (de_sub (DE.brw (de_var (pv 0))) (DE.brw (de_int pe_int))) da_nil))))))))))
abbrev s_wrong_tie : Stmt := (topS 28)
theorem sc_wrong_tie : FnScope ["size", "ties", "last", "at", "pair"] ["size", "ties"] (defScope s_wrong_tie) := ⟨rfl, rfl, rfl, by decide +kernel, rfl, by decide +kernel, by decide +kernel⟩
noncomputable def F_wrong_tie : FF := runDef 2 5 ((sSeq (sSet 2 (dTup dNil))
  (sSeq (sFor (iEnumA (dCons (dVar 1) dNil)) (tgTup (tgCons (tgName 3) (tgCons (tgName 4) tgNil)))
  (sSeq (sIf (dOr (dNot (dT (dCall F_is_tie (dCons (dVar 0) (dCons (dVar 4) dNil))))) (dBinT oLe (dVar 4) (dVar 2)))
  (sRet (dVar 3))
  sPass)
  (sSet 2 (dVar 4))))
  (sRet (dC .non)))))
theorem ok_wrong_tie {f : Addr} {fd : FuncData} (F : Fun K "wrong_tie" "wrong_tie" s_wrong_tie f fd) (hm : mg "wrong_tie" = some (.ref f)) (z_enumerate : mg "enumerate" = none) (c_is_tie : DCal P w K mg base cl 3 "is_tie" ["size", "thing"] F_is_tie) : DCal P w K mg base cl 4 "wrong_tie" ["size", "ties"] F_wrong_tie :=
  dcal_of F sc_wrong_tie hm (F.binds (ps := ["size", "ties"]) fun _ _ _ _ _ _ us hl => match us, hl with | [_, _], _ => rfl) rfl fun cdv A outer s H E hr => (dss_cons (ds_set (i := 2) (fun _ h => ps_set (i := 2) sc_wrong_tie.nd rfl (by first | exact Or.inl rfl | exact Or.inr rfl) h) (de_tup da_nil))
  (dss_cons (ds_for (passes_of rfl) rfl (di_enum (fun _ h => pi_enum (by rfl) z_enumerate h) (fun _ h => pi_enumT (by rfl) z_enumerate h) (da_cons (de_var (pv 1)) da_nil)) (dg_tup rfl (dgs_cons (dg_name (pg_name (i := 3) sc_wrong_tie.nd rfl (by first | exact Or.inl rfl | exact Or.inr rfl))) (dgs_cons (dg_name (pg_name (i := 4) sc_wrong_tie.nd rfl (by first | exact Or.inl rfl | exact Or.inr rfl))) dgs_nil)) (fun _ _ _ h => tgCons_len (fun _ _ _ h => tgCons_len (fun _ _ _ h => tgNil_len h) h) h))
  (dss_cons (ds_if (DW.dt (dw_or (dt_not (dt_truth (DE.brw (de_call c_is_tie (hr.mono (by decide)) (lets_of (takes_of rfl rfl rfl rfl)) (da_cons (de_var (pv 0)) (da_cons (de_var (pv 4)) da_nil)))))) (dw_or1 (dt_le hr (DE.brw (de_var (pv 4))) (DE.brw (de_var (pv 2)))))))
  (dss_one (ds_ret (de_var (pv 3))))
  dss_nil)
  (dss_one (ds_set (i := 2) (fun _ h => ps_set (i := 2) sc_wrong_tie.nd rfl (by first | exact Or.inl rfl | exact Or.inr rfl) h) (de_var (pv 4))))))
  (dss_one (ds_ret (de_non pe_non)))))
abbrev s_Web_init : Stmt := (inClass (topS 26) 0)
theorem sc_Web_init : FnScope ["self", "size", "ties", "wrong"] ["self", "size", "ties"] (defScope s_Web_init) := ⟨rfl, rfl, rfl, by decide +kernel, rfl, by decide +kernel, by decide +kernel⟩
noncomputable def F_Web_init : FF := runDef 3 4 ((sSeq (sIf (dNot (dT (dCall F_is_number (dCons (dVar 1) (dCons (dC (.int 1)) (dCons (dC (.int 24)) dNil))))))
  sNever
  sPass)
  (sSeq (sIf (dNot (dT (dUn (gIsa "tuple" tbF) (dVar 2))))
  sNever
  sPass)
  (sSeq (sSet 3 (dCall F_wrong_tie (dCons (dVar 1) (dCons (dVar 2) dNil))))
  (sSeq (sIf (dBinT oIsNot (dVar 3) (dC .non))
  sNever
  sPass)
  (sSeq (sFldR ["Web"] "size" (dVar 0) (dVar 1))
  (sFldR ["Web"] "ties" (dVar 0) (dVar 2))))))))
theorem ok_Web_init {f : Addr} {fd : FuncData} (F : Fun K "__init__" "Web.__init__" s_Web_init f fd) (z_isinstance : mg "isinstance" = none) (z_tuple : mg "tuple" = none) (h_MOST_PARTS : ∃ t, mg "MOST_PARTS" = some (.int 24 t)) (fo_size : FldOk K cl ["Web"] "size") (fo_ties : FldOk K cl ["Web"] "ties") (is_tuple : IsaOk K cl (.type "tuple") tbF) (c_is_number : DCal P w K mg base cl 2 "is_number" ["thing", "least", "most"] F_is_number) (c_wrong_tie : DCal P w K mg base cl 4 "wrong_tie" ["size", "ties"] F_wrong_tie) : FnOk P w K mg base (L2.CX P w) 5 f fd ["self", "size", "ties"] (spF ⟨K, cl⟩ F_Web_init) :=
  fn_of F sc_Web_init rfl fun cdv A outer s H E hr => (dss_cons (ds_if (dt_not (dt_truth (DE.brw (de_call c_is_number (hr.mono (by decide)) (lets_of (takes_of rfl rfl rfl rfl)) (da_cons (de_var (pv 1)) (da_cons (de_int pe_int) (da_cons (de_cst h_MOST_PARTS) da_nil)))))))
  (dss_one ds_never)
  dss_nil)
  (dss_cons (ds_if (dt_not (dt_truth (DE.brw (de_isa z_isinstance is_tuple (DE.brw (de_var (pv 2))) (pe_bltn (v := .ty "tuple") (by rfl) z_tuple (by decide +kernel) rfl)))))
  (dss_one ds_never)
  dss_nil)
  (dss_cons (ds_set (i := 3) (fun _ h => ps_set (i := 3) sc_Web_init.nd rfl (by first | exact Or.inl rfl | exact Or.inr rfl) h) (de_call c_wrong_tie (hr.mono (by decide)) (lets_of (takes_of rfl rfl rfl rfl)) (da_cons (de_var (pv 1)) (da_cons (de_var (pv 2)) da_nil))))
  (dss_cons (ds_if (dt_isnot (DE.brw (de_var (pv 3))) (DE.brw (de_non pe_non)))
  (dss_one ds_never)
  dss_nil)
  (dss_cons (ds_fldR fo_size (fun _ _ ho hv => ps_fld ho hv rfl) (de_var (pv 0)) (de_var (pv 1)))
  (dss_one (ds_fldR fo_ties (fun _ _ ho hv => ps_fld ho hv rfl) (de_var (pv 0)) (de_var (pv 2)))))))))
abbrev s__law_tied : Stmt := (topS 47)
theorem sc__law_tied : FnScope ["web", "one", "other"] ["web", "one", "other"] (defScope s__law_tied) := ⟨rfl, rfl, rfl, by decide +kernel, rfl, by decide +kernel, by decide +kernel⟩
noncomputable def F__law_tied : FF := runDef 3 3 ((sRet (dBin oIn (dTup (dCons (dFn (fn2 gMin2) (dCons (dVar 1) (dCons (dVar 2) dNil))) (dCons (dFn (fn2 gMax2) (dCons (dVar 1) (dCons (dVar 2) dNil))) dNil))) (dBin oIx (dVar 0) (dC (.int 1))))))
theorem ok__law_tied {f : Addr} {fd : FuncData} (F : Fun K "_law_tied" "_law_tied" s__law_tied f fd) (hm : mg "_law_tied" = some (.ref f)) (z_max : mg "max" = none) (z_min : mg "min" = none) : DCal P w K mg base cl 1 "_law_tied" ["web", "one", "other"] F__law_tied :=
  dcal_of F sc__law_tied hm (F.binds (ps := ["web", "one", "other"]) fun _ _ _ _ _ _ us hl => match us, hl with | [_, _, _], _ => rfl) rfl fun cdv A outer s H E hr => (dss_one (ds_ret (de_in hr (DE.brw (de_tup (da_cons (de_min2 rfl z_min (da_cons (DE.brw (de_var (pv 1))) (da_cons (DE.brw (de_var (pv 2))) da_nil))) (da_cons (de_max2 rfl z_max (da_cons (DE.brw (de_var (pv 1))) (da_cons (DE.brw (de_var (pv 2))) da_nil))) da_nil)))) (DE.brw (de_ix (DE.brw (de_var (pv 0))) (DE.brw (de_int pe_int)))))))
abbrev s__law_says : Stmt := (topS 48)
theorem sc__law_says : FnScope ["web", "stand", "part", "other"] ["web", "stand", "part"] (defScope s__law_says) := ⟨rfl, rfl, rfl, by decide +kernel, rfl, by decide +kernel, by decide +kernel⟩
noncomputable def F__law_says : FF := runDef 3 4 ((sRet (dBin oEq (dFn (fn1 gLen) (dCons (dLc (iSeq (dVar 1)) [3] (tgName 3) (dAnd (dBinT oNe (dVar 3) (dVar 2)) (dT (dCall F__law_tied (dCons (dVar 0) (dCons (dVar 2) (dCons (dVar 3) dNil)))))) (dVar 3)) dNil)) (dC (.int 0)))))
theorem ok__law_says {f : Addr} {fd : FuncData} (F : Fun K "_law_says" "_law_says" s__law_says f fd) (hm : mg "_law_says" = some (.ref f)) (z_len : mg "len" = none) (c__law_tied : DCal P w K mg base cl 1 "_law_tied" ["web", "one", "other"] F__law_tied) : DCal P w K mg base cl 2 "_law_says" ["web", "stand", "part"] F__law_says :=
  dcal_of F sc__law_says hm (F.binds (ps := ["web", "stand", "part"]) fun _ _ _ _ _ _ us hl => match us, hl with | [_, _, _], _ => rfl) rfl fun cdv A outer s H E hr => (dss_one (ds_ret (de_eq hr (DE.brw (de_len z_len (da_cons (DE.frb (df_lcA (own := [("other", 3)]) (by rfl) sc__law_says.nd (di_seq (de_var (pv 1))) (blkOk_by (own := [("other", 3)]) (N := ["web", "stand", "part", "other"]) (sc := defScope s__law_says) (by decide +kernel)) (by decide) (fun _ _ _ _ _ => (dg_name (pg_name (i := 3) sc__law_says.nd rfl (by first | exact Or.inl rfl | exact Or.inr rfl)))) (fun _ _ _ _ _ => (dts_one (DW.dt (dw_and (dt_ne hr (DE.brw (de_var (pv 3))) (DE.brw (de_var (pv 2)))) (dw_and1 (dt_truth (DE.brw (de_call c__law_tied (hr.mono (by decide)) lets_no (da_cons (de_var (pv 0)) (da_cons (de_var (pv 2)) (da_cons (de_var (pv 3)) da_nil))))))))))) (fun _ _ _ _ _ => (de_var (pv 3))))) da_nil))) (DE.brw (de_int pe_int)))))
abbrev s__law_called : Stmt := (topS 49)
theorem sc__law_called : FnScope ["web", "stand", "part", "other", "found"] ["web", "stand", "part"] (defScope s__law_called) := ⟨rfl, rfl, rfl, by decide +kernel, rfl, by decide +kernel, by decide +kernel⟩
noncomputable def F__law_called : FF := runDef 3 5 ((sSeq (sSetO 4 (dLc (iSeq (dVar 1)) [3] (tgName 3) (dBinT oNe (dVar 3) (dVar 2)) (dVar 3)))
  (sSeq (sIf (dT (dCall F__law_says (dCons (dVar 0) (dCons (dVar 1) (dCons (dVar 2) dNil)))))
  (sAppO 4 (dVar 2))
  sPass)
  (sRet (dFn (fn1 gTuple) (dCons (dFn (fn1 gSort) (dCons (dVarB 4) dNil)) dNil))))))
theorem ok__law_called {f : Addr} {fd : FuncData} (F : Fun K "_law_called" "_law_called" s__law_called f fd) (hm : mg "_law_called" = some (.ref f)) (z_sorted : mg "sorted" = none) (z_tuple : mg "tuple" = none) (c__law_says : DCal P w K mg base cl 2 "_law_says" ["web", "stand", "part"] F__law_says) : DCal P w K mg base cl 3 "_law_called" ["web", "stand", "part"] F__law_called :=
  dcal_of F sc__law_called hm (F.binds (ps := ["web", "stand", "part"]) fun _ _ _ _ _ _ us hl => match us, hl with | [_, _, _], _ => rfl) rfl fun cdv A outer s H E hr => (dss_cons (ds_setOf (i := 4) (ps_lcA (i := 4) (own := [("other", 3)]) (by rfl) sc__law_called.nd rfl rfl (sw_true rfl rfl rfl (by decide +kernel)) (di_seq (de_var (pv 1))) (blkOk_by (own := [("other", 3)]) (N := ["web", "stand", "part", "other", "found"]) (sc := defScope s__law_called) (by decide +kernel)) (by decide) (fun _ _ _ _ _ => (dg_name (pg_name (i := 3) sc__law_called.nd rfl (by first | exact Or.inl rfl | exact Or.inr rfl)))) (fun _ _ _ _ _ => (dts_one (dt_ne hr (DE.brw (de_var (pv 3))) (DE.brw (de_var (pv 2)))))) (fun _ _ _ _ _ => (de_var (pv 3)))))
  (dss_cons (ds_if (dt_truth (DE.brw (de_call c__law_says (hr.mono (by decide)) (lets_of (takes_of rfl rfl rfl rfl)) (da_cons (de_var (pv 0)) (da_cons (de_var (pv 1)) (da_cons (de_var (pv 2)) da_nil))))))
  (dss_one (ds_appO (i := 4) (fun _ _ ho ha => ps_expr (pe_bm PySem.F.plainAttrs_list PySem.F.slot_list_append PySem.F.type_list_append mt_append ho (pa_cons ha pa_nil))) (pv 4) (de_var (pv 2))))
  dss_nil)
  (dss_one (ds_ret (de_tuple z_tuple (da_cons (DE.frb (df_sorted hr z_sorted (da_cons (db_var (pv 4)) da_nil))) da_nil))))))
abbrev s__law_flag : Stmt := (topS 56)
theorem sc__law_flag : FnScope ["told", "due"] ["told", "due"] (defScope s__law_flag) := ⟨rfl, rfl, rfl, by decide +kernel, rfl, by decide +kernel, by decide +kernel⟩
noncomputable def F__law_flag : FF := runDef 2 2 ((sRet (dAndV (dUn (gIsa "bool" tbF) (dVar 0)) (dBin oEq (dVar 0) (dVar 1)))))
theorem ok__law_flag {f : Addr} {fd : FuncData} (F : Fun K "_law_flag" "_law_flag" s__law_flag f fd) (hm : mg "_law_flag" = some (.ref f)) (z_bool : mg "bool" = none) (z_isinstance : mg "isinstance" = none) (is_bool : IsaOk K cl (.type "bool") tbF) : DCal P w K mg base cl 1 "_law_flag" ["told", "due"] F__law_flag :=
  dcal_of F sc__law_flag hm (F.binds (ps := ["told", "due"]) fun _ _ _ _ _ _ us hl => match us, hl with | [_, _], _ => rfl) rfl fun cdv A outer s H E hr => (dss_one (ds_ret (de_and (de_isa z_isinstance is_bool (DE.brw (de_var (pv 0))) (pe_bltn (v := .ty "bool") (by rfl) z_bool (by decide +kernel) rfl)) (de_one (de_eq hr (DE.brw (de_var (pv 0))) (DE.brw (de_var (pv 1))))))))
abbrev s__law_pick : Stmt := (topS 45)
theorem sc__law_pick : FnScope ["tape", "size", "digit", "cell", "mixed"] ["tape", "size"] (defScope s__law_pick) := ⟨rfl, rfl, rfl, by decide +kernel, rfl, by decide +kernel, by decide +kernel⟩
noncomputable def F__law_pick : FF := runDef 2 5 ((sSeq (sIf (dBinT oGt (dBin oIx (dVar 0) (dC (.int 2))) (dC (.int 1)))
  (sSeq (sSet 2 (dBin oMod (dFn (fn1 gInt) (dCons (dBin oIx (dVar 0) (dC (.int 2))) dNil)) (dVar 1)))
  (sSeq (sSubR (dVar 0) (dC (.int 2)) (dBin oDiv (dBin oIx (dVar 0) (dC (.int 2))) (dVar 1)))
  (sRet (dVar 2))))
  sPass)
  (sSeq (sSubR (dVar 0) (dC (.int 4)) (dBin oAdd (dBin oIx (dVar 0) (dC (.int 4))) (dC (.int 1))))
  (sSeq (sSet 3 (dC (.int 0)))
  (sSeq (sIf (dBinT oLt (dBin oIx (dVar 0) (dC (.int 1))) (dFn (fn1 gLen) (dCons (dBin oIx (dVar 0) (dC (.int 0))) dNil)))
  (sSeq (sSet 3 (dBin oIx (dBin oIx (dVar 0) (dC (.int 0))) (dBin oIx (dVar 0) (dC (.int 1)))))
  (sSubR (dVar 0) (dC (.int 1)) (dBin oAdd (dBin oIx (dVar 0) (dC (.int 1))) (dC (.int 1)))))
  sPass)
  (sSeq (sIf (dBinT oGe (dVar 3) (dBin oPow (dC (.int 10)) (dC (.int 18))))
  (sSeq (sSubR (dVar 0) (dC (.int 2)) (dBin oDiv (dVar 3) (dVar 1)))
  (sRet (dBin oMod (dFn (fn1 gInt) (dCons (dVar 3) dNil)) (dVar 1))))
  sPass)
  (sSeq (sSet 4 (dBin oMod (dFn (fn1 gInt) (dCons (dBin oAdd (dBin oAdd (dBin oMul (dBin oIx (dVar 0) (dC (.int 3))) (dC (.int 48271))) (dBin oMod (dFn (fn1 gInt) (dCons (dVar 3) dNil)) (dC (.int 2147483629)))) (dBin oMul (dBin oIx (dVar 0) (dC (.int 4))) (dC (.int 69621)))) dNil)) (dC (.int 2147483647))))
  (sSeq (sSet 4 (dBin oMod (dFn (fn1 gInt) (dCons (dBin oMul (dVar 4) (dBin oAdd (dBin oDiv (dVar 4) (dC (.int 1009))) (dC (.int 40692)))) dNil)) (dC (.int 2147483399))))
  (sSeq (sSubR (dVar 0) (dC (.int 3)) (dVar 4))
  (sRet (dBin oMod (dFn (fn1 gInt) (dCons (dBin oDiv (dVar 4) (dC (.int 16))) dNil)) (dVar 1))))))))))))
theorem ok__law_pick {f : Addr} {fd : FuncData} (F : Fun K "_law_pick" "_law_pick" s__law_pick f fd) (hm : mg "_law_pick" = some (.ref f)) (z_int : mg "int" = none) (z_len : mg "len" = none) : DCal P w K mg base cl 1 "_law_pick" ["tape", "size"] F__law_pick :=
  dcal_of F sc__law_pick hm (F.binds (ps := ["tape", "size"]) fun _ _ _ _ _ _ us hl => match us, hl with | [_, _], _ => rfl) rfl fun cdv A outer s H E hr => (dss_cons (ds_if (dt_gt (DE.brw (de_ix (DE.brw (de_var (pv 0))) (DE.brw (de_int pe_int)))) (DE.brw (de_int pe_int)))
  (dss_cons (ds_set (i := 2) (fun _ h => ps_set (i := 2) sc__law_pick.nd rfl (by first | exact Or.inl rfl | exact Or.inr rfl) h) (de_mod (DE.brw (de_int1 z_int (da_cons (DE.brw (de_ix (DE.brw (de_var (pv 0))) (DE.brw (de_int pe_int)))) da_nil))) (DE.brw (de_var (pv 1)))))
  (dss_cons (ds_subR (fun _ _ _ ho hk ha => ps_asg ha (pg_sub ho hk set_list)) (de_var (pv 0)) (de_int pe_int) (de_div (DE.brw (de_ix (DE.brw (de_var (pv 0))) (DE.brw (de_int pe_int)))) (DE.brw (de_var (pv 1)))))
  (dss_one (ds_ret (de_var (pv 2))))))
  dss_nil)
  (dss_cons (ds_subR (fun _ _ _ ho hk ha => ps_asg ha (pg_sub ho hk set_list)) (de_var (pv 0)) (de_int pe_int) (de_add (DE.brw (de_ix (DE.brw (de_var (pv 0))) (DE.brw (de_int pe_int)))) (DE.brw (de_int pe_int))))
  (dss_cons (ds_set (i := 3) (fun _ h => ps_set (i := 3) sc__law_pick.nd rfl (by first | exact Or.inl rfl | exact Or.inr rfl) h) (de_int pe_int))
  (dss_cons (ds_if (dt_lt hr (DE.brw (de_ix (DE.brw (de_var (pv 0))) (DE.brw (de_int pe_int)))) (DE.brw (de_len z_len (da_cons (DE.brw (de_ix (DE.brw (de_var (pv 0))) (DE.brw (de_int pe_int)))) da_nil))))
  (dss_cons (ds_set (i := 3) (fun _ h => ps_set (i := 3) sc__law_pick.nd rfl (by first | exact Or.inl rfl | exact Or.inr rfl) h) (de_ix (DE.brw (de_ix (DE.brw (de_var (pv 0))) (DE.brw (de_int pe_int)))) (DE.brw (de_ix (DE.brw (de_var (pv 0))) (DE.brw (de_int pe_int))))))
  (dss_one (ds_subR (fun _ _ _ ho hk ha => ps_asg ha (pg_sub ho hk set_list)) (de_var (pv 0)) (de_int pe_int) (de_add (DE.brw (de_ix (DE.brw (de_var (pv 0))) (DE.brw (de_int pe_int)))) (DE.brw (de_int pe_int))))))
  dss_nil)
  (dss_cons (ds_if (dt_ge (DE.brw (de_var (pv 3))) (DE.brw (de_pow (DE.brw (de_int pe_int)) (DE.brw (de_int pe_int)))))
  (dss_cons (ds_subR (fun _ _ _ ho hk ha => ps_asg ha (pg_sub ho hk set_list)) (de_var (pv 0)) (de_int pe_int) (de_div (DE.brw (de_var (pv 3))) (DE.brw (de_var (pv 1)))))
  (dss_one (ds_ret (de_mod (DE.brw (de_int1 z_int (da_cons (DE.brw (de_var (pv 3))) da_nil))) (DE.brw (de_var (pv 1)))))))
  dss_nil)
  (dss_cons (ds_set (i := 4) (fun _ h => ps_set (i := 4) sc__law_pick.nd rfl (by first | exact Or.inl rfl | exact Or.inr rfl) h) (de_mod (DE.brw (de_int1 z_int (da_cons (DE.brw (de_add (DE.brw (de_add (DE.brw (de_mul (DE.brw (de_ix (DE.brw (de_var (pv 0))) (DE.brw (de_int pe_int)))) (DE.brw (de_int pe_int)))) (DE.brw (de_mod (DE.brw (de_int1 z_int (da_cons (DE.brw (de_var (pv 3))) da_nil))) (DE.brw (de_int pe_int)))))) (DE.brw (de_mul (DE.brw (de_ix (DE.brw (de_var (pv 0))) (DE.brw (de_int pe_int)))) (DE.brw (de_int pe_int)))))) da_nil))) (DE.brw (de_int pe_int))))
  (dss_cons (ds_set (i := 4) (fun _ h => ps_set (i := 4) sc__law_pick.nd rfl (by first | exact Or.inl rfl | exact Or.inr rfl) h) (de_mod (DE.brw (de_int1 z_int (da_cons (DE.brw (de_mul (DE.brw (de_var (pv 4))) (DE.brw (de_add (DE.brw (de_div (DE.brw (de_var (pv 4))) (DE.brw (de_int pe_int)))) (DE.brw (de_int pe_int)))))) da_nil))) (DE.brw (de_int pe_int))))
  (dss_cons (ds_subR (fun _ _ _ ho hk ha => ps_asg ha (pg_sub ho hk set_list)) (de_var (pv 0)) (de_int pe_int) (de_var (pv 4)))
  (dss_one (ds_ret (de_mod (DE.brw (de_int1 z_int (da_cons (DE.brw (de_div (DE.brw (de_var (pv 4))) (DE.brw (de_int pe_int)))) da_nil))) (DE.brw (de_var (pv 1))))))))))))))
abbrev s__law_log : Stmt := (topS 53)
theorem sc__law_log : FnScope ["tape", "web", "most", "part", "stand", "begin", "calls", "spoilt", "turn", "told", "other"] ["tape", "web", "most"] (defScope s__law_log) := ⟨rfl, rfl, rfl, by decide +kernel, rfl, by decide +kernel, by decide +kernel⟩
noncomputable def F__law_log : FF := runDef 3 11 ((sSeq (sSet 4 (dFn (fn1 gTuple) (dCons (dLc (iRange1 (dCons (dBin oIx (dVar 1) (dC (.int 0))) dNil)) [3] (tgName 3) (dBinT oEq (dCall F__law_pick (dCons (dVar 0) (dCons (dC (.int 3)) dNil))) (dC (.int 0))) (dVar 3)) dNil)))
  (sSeq (sSet 5 (dVar 4))
  (sSeq (sSetO 6 (dLst dNil))
  (sSeq (sSet 7 (dBin oEq (dCall F__law_pick (dCons (dVar 0) (dCons (dC (.int 3)) dNil))) (dC (.int 0))))
  (sSeq (sFor (iRange1 (dCons (dCall F__law_pick (dCons (dVar 0) (dCons (dVar 2) dNil))) dNil)) (tgName 8)
  (sSeq (sSet 3 (dCall F__law_pick (dCons (dVar 0) (dCons (dBin oIx (dVar 1) (dC (.int 0))) dNil))))
  (sSeq (sSet 9 (dCall F__law_says (dCons (dVar 1) (dCons (dVar 4) (dCons (dVar 3) dNil)))))
  (sSeq (sIf (dAnd (dT (dVar 7)) (dBinT oEq (dCall F__law_pick (dCons (dVar 0) (dCons (dC (.int 6)) dNil))) (dC (.int 0))))
  (sSet 9 (dUn gNot (dVar 9)))
  sPass)
  (sSeq (sAppO 6 (dTup (dCons (dVar 3) (dCons (dVar 9) dNil))))
  (sSeq (sSet 4 (dFn (fn1 gTuple) (dCons (dLc (iSeq (dVar 4)) [10] (tgName 10) (dBinT oNe (dVar 10) (dVar 3)) (dVar 10)) dNil)))
  (sIf (dT (dVar 9))
  (sSet 4 (dFn (fn1 gTuple) (dCons (dFn (fn1 gSort) (dCons (dBin oAdd (dVar 4) (dTup (dCons (dVar 3) dNil))) dNil)) dNil)))
  sPass)))))))
  (sRet (dTup (dCons (dBin oIx (dVar 1) (dC (.int 0))) (dCons (dVar 5) (dCons (dFn (fn1 gTuple) (dCons (dVarB 6) dNil)) dNil)))))))))))
theorem ok__law_log {f : Addr} {fd : FuncData} (F : Fun K "_law_log" "_law_log" s__law_log f fd) (hm : mg "_law_log" = some (.ref f)) (z_range : mg "range" = none) (z_sorted : mg "sorted" = none) (z_tuple : mg "tuple" = none) (c__law_pick : DCal P w K mg base cl 1 "_law_pick" ["tape", "size"] F__law_pick) (c__law_says : DCal P w K mg base cl 2 "_law_says" ["web", "stand", "part"] F__law_says) : DCal P w K mg base cl 3 "_law_log" ["tape", "web", "most"] F__law_log :=
  dcal_of F sc__law_log hm (F.binds (ps := ["tape", "web", "most"]) fun _ _ _ _ _ _ us hl => match us, hl with | [_, _, _], _ => rfl) rfl fun cdv A outer s H E hr => (dss_cons (ds_set (i := 4) (fun _ h => ps_set (i := 4) sc__law_log.nd rfl (by first | exact Or.inl rfl | exact Or.inr rfl) h) (de_tuple z_tuple (da_cons (DE.frb (df_lcA (own := [("part", 3)]) (by rfl) sc__law_log.nd (di_range1 (fun _ h => pi_range1 (by rfl) z_range h) (da_cons (de_ix (DE.brw (de_var (pv 1))) (DE.brw (de_int pe_int))) da_nil)) (blkOk_by (own := [("part", 3)]) (N := ["tape", "web", "most", "part", "stand", "begin", "calls", "spoilt", "turn", "told", "other"]) (sc := defScope s__law_log) (by decide +kernel)) (by decide) (fun _ _ _ _ _ => (dg_name (pg_name (i := 3) sc__law_log.nd rfl (by first | exact Or.inl rfl | exact Or.inr rfl)))) (fun _ _ _ _ _ => (dts_one (dt_eq hr (DE.brw (de_call c__law_pick (hr.mono (by decide)) lets_no (da_cons (de_var (pv 0)) (da_cons (de_int pe_int) da_nil)))) (DE.brw (de_int pe_int))))) (fun _ _ _ _ _ => (de_var (pv 3))))) da_nil)))
  (dss_cons (ds_set (i := 5) (fun _ h => ps_set (i := 5) sc__law_log.nd rfl (by first | exact Or.inl rfl | exact Or.inr rfl) h) (de_var (pv 4)))
  (dss_cons (ds_setO (i := 6) (fun _ h => ps_set (i := 6) sc__law_log.nd rfl (by first | exact Or.inl rfl | exact Or.inr rfl) h) (df_lst da_nil))
  (dss_cons (ds_set (i := 7) (fun _ h => ps_set (i := 7) sc__law_log.nd rfl (by first | exact Or.inl rfl | exact Or.inr rfl) h) (de_eq hr (DE.brw (de_call c__law_pick (hr.mono (by decide)) (lets_of (takes_of rfl rfl rfl rfl)) (da_cons (de_var (pv 0)) (da_cons (de_int pe_int) da_nil)))) (DE.brw (de_int pe_int))))
  (dss_cons (ds_for (passes_of rfl) rfl (di_range1 (fun _ h => pi_range1 (by rfl) z_range h) (da_cons (de_call c__law_pick (hr.mono (by decide)) (lets_of (takes_of rfl rfl rfl rfl)) (da_cons (de_var (pv 0)) (da_cons (de_var (pv 2)) da_nil))) da_nil)) (dg_name (pg_name (i := 8) sc__law_log.nd rfl (by first | exact Or.inl rfl | exact Or.inr rfl)))
  (dss_cons (ds_set (i := 3) (fun _ h => ps_set (i := 3) sc__law_log.nd rfl (by first | exact Or.inl rfl | exact Or.inr rfl) h) (de_call c__law_pick (hr.mono (by decide)) (lets_of (takes_of rfl rfl rfl rfl)) (da_cons (de_var (pv 0)) (da_cons (de_ix (DE.brw (de_var (pv 1))) (DE.brw (de_int pe_int))) da_nil))))
  (dss_cons (ds_set (i := 9) (fun _ h => ps_set (i := 9) sc__law_log.nd rfl (by first | exact Or.inl rfl | exact Or.inr rfl) h) (de_call c__law_says (hr.mono (by decide)) (lets_of (takes_of rfl rfl rfl rfl)) (da_cons (de_var (pv 1)) (da_cons (de_var (pv 4)) (da_cons (de_var (pv 3)) da_nil)))))
  (dss_cons (ds_if (DW.dt (dw_and (dt_truth (DE.brw (de_var (pv 7)))) (dw_and1 (dt_eq hr (DE.brw (de_call c__law_pick (hr.mono (by decide)) (lets_of (takes_of rfl rfl rfl rfl)) (da_cons (de_var (pv 0)) (da_cons (de_int pe_int) da_nil)))) (DE.brw (de_int pe_int))))))
  (dss_one (ds_set (i := 9) (fun _ h => ps_set (i := 9) sc__law_log.nd rfl (by first | exact Or.inl rfl | exact Or.inr rfl) h) (de_not (DE.brw (de_var (pv 9))))))
  dss_nil)
  (dss_cons (ds_appO (i := 6) (fun _ _ ho ha => ps_expr (pe_bm PySem.F.plainAttrs_list PySem.F.slot_list_append PySem.F.type_list_append mt_append ho (pa_cons ha pa_nil))) (pv 6) (de_tup (da_cons (de_var (pv 3)) (da_cons (de_var (pv 9)) da_nil))))
  (dss_cons (ds_set (i := 4) (fun _ h => ps_set (i := 4) sc__law_log.nd rfl (by first | exact Or.inl rfl | exact Or.inr rfl) h) (de_tuple z_tuple (da_cons (DE.frb (df_lcA (own := [("other", 10)]) (by rfl) sc__law_log.nd (di_seq (de_var (pv 4))) (blkOk_by (own := [("other", 10)]) (N := ["tape", "web", "most", "part", "stand", "begin", "calls", "spoilt", "turn", "told", "other"]) (sc := defScope s__law_log) (by decide +kernel)) (by decide) (fun _ _ _ _ _ => (dg_name (pg_name (i := 10) sc__law_log.nd rfl (by first | exact Or.inl rfl | exact Or.inr rfl)))) (fun _ _ _ _ _ => (dts_one (dt_ne hr (DE.brw (de_var (pv 10))) (DE.brw (de_var (pv 3)))))) (fun _ _ _ _ _ => (de_var (pv 10))))) da_nil)))
  (dss_one (ds_if (dt_truth (DE.brw (de_var (pv 9))))
  (dss_one (ds_set (i := 4) (fun _ h => ps_set (i := 4) sc__law_log.nd rfl (by first | exact Or.inl rfl | exact Or.inr rfl) h) (de_tuple z_tuple (da_cons (DE.frb (df_sorted hr z_sorted (da_cons (DE.brw (de_add (DE.brw (de_var (pv 4))) (DE.brw (de_tup (da_cons (de_var (pv 3)) da_nil))))) da_nil))) da_nil))))
  dss_nil))))))))
  (dss_one (ds_ret (de_tup (da_cons (de_ix (DE.brw (de_var (pv 1))) (DE.brw (de_int pe_int))) (da_cons (de_var (pv 5)) (da_cons (de_tuple z_tuple (da_cons (db_var (pv 6)) da_nil)) da_nil)))))))))))
abbrev s__law_stands : Stmt := (topS 54)
theorem sc__law_stands : FnScope ["log", "stand", "found", "part", "told", "other"] ["log"] (defScope s__law_stands) := ⟨rfl, rfl, rfl, by decide +kernel, rfl, by decide +kernel, by decide +kernel⟩
noncomputable def F__law_stands : FF := runDef 1 6 ((sSeq (sSet 1 (dBin oIx (dVar 0) (dC (.int 1))))
  (sSeq (sSetO 2 (dLst (dCons (dVar 1) dNil)))
  (sSeq (sFor (iSeq (dBin oIx (dVar 0) (dC (.int 2)))) (tgTup (tgCons (tgName 3) (tgCons (tgName 4) tgNil)))
  (sSeq (sSet 1 (dFn (fn1 gTuple) (dCons (dLc (iSeq (dVar 1)) [5] (tgName 5) (dBinT oNe (dVar 5) (dVar 3)) (dVar 5)) dNil)))
  (sSeq (sIf (dT (dVar 4))
  (sSet 1 (dFn (fn1 gTuple) (dCons (dFn (fn1 gSort) (dCons (dBin oAdd (dVar 1) (dTup (dCons (dVar 3) dNil))) dNil)) dNil)))
  sPass)
  (sAppO 2 (dVar 1)))))
  (sFrz [2] (sRet (dVar 2)))))))
theorem ok__law_stands {f : Addr} {fd : FuncData} (F : Fun K "_law_stands" "_law_stands" s__law_stands f fd) (hm : mg "_law_stands" = some (.ref f)) (z_sorted : mg "sorted" = none) (z_tuple : mg "tuple" = none) : DCal P w K mg base cl 1 "_law_stands" ["log"] F__law_stands :=
  dcal_of F sc__law_stands hm (F.binds (ps := ["log"]) fun _ _ _ _ _ _ us hl => match us, hl with | [_], _ => rfl) rfl fun cdv A outer s H E hr => (dss_cons (ds_set (i := 1) (fun _ h => ps_set (i := 1) sc__law_stands.nd rfl (by first | exact Or.inl rfl | exact Or.inr rfl) h) (de_ix (DE.brw (de_var (pv 0))) (DE.brw (de_int pe_int))))
  (dss_cons (ds_setO (i := 2) (fun _ h => ps_set (i := 2) sc__law_stands.nd rfl (by first | exact Or.inl rfl | exact Or.inr rfl) h) (df_lst (da_cons (de_var (pv 1)) da_nil)))
  (dss_cons (ds_for (passes_of rfl) rfl (di_seq (de_ix (DE.brw (de_var (pv 0))) (DE.brw (de_int pe_int)))) (dg_tup rfl (dgs_cons (dg_name (pg_name (i := 3) sc__law_stands.nd rfl (by first | exact Or.inl rfl | exact Or.inr rfl))) (dgs_cons (dg_name (pg_name (i := 4) sc__law_stands.nd rfl (by first | exact Or.inl rfl | exact Or.inr rfl))) dgs_nil)) (fun _ _ _ h => tgCons_len (fun _ _ _ h => tgCons_len (fun _ _ _ h => tgNil_len h) h) h))
  (dss_cons (ds_set (i := 1) (fun _ h => ps_set (i := 1) sc__law_stands.nd rfl (by first | exact Or.inl rfl | exact Or.inr rfl) h) (de_tuple z_tuple (da_cons (DE.frb (df_lcA (own := [("other", 5)]) (by rfl) sc__law_stands.nd (di_seq (de_var (pv 1))) (blkOk_by (own := [("other", 5)]) (N := ["log", "stand", "found", "part", "told", "other"]) (sc := defScope s__law_stands) (by decide +kernel)) (by decide) (fun _ _ _ _ _ => (dg_name (pg_name (i := 5) sc__law_stands.nd rfl (by first | exact Or.inl rfl | exact Or.inr rfl)))) (fun _ _ _ _ _ => (dts_one (dt_ne hr (DE.brw (de_var (pv 5))) (DE.brw (de_var (pv 3)))))) (fun _ _ _ _ _ => (de_var (pv 5))))) da_nil)))
  (dss_cons (ds_if (dt_truth (DE.brw (de_var (pv 4))))
  (dss_one (ds_set (i := 1) (fun _ h => ps_set (i := 1) sc__law_stands.nd rfl (by first | exact Or.inl rfl | exact Or.inr rfl) h) (de_tuple z_tuple (da_cons (DE.frb (df_sorted hr z_sorted (da_cons (DE.brw (de_add (DE.brw (de_var (pv 1))) (DE.brw (de_tup (da_cons (de_var (pv 3)) da_nil))))) da_nil))) da_nil))))
  dss_nil)
  (dss_one (ds_appO (i := 2) (fun _ _ ho ha => ps_expr (pe_bm PySem.F.plainAttrs_list PySem.F.slot_list_append PySem.F.type_list_append mt_append ho (pa_cons ha pa_nil))) (pv 2) (de_var (pv 1)))))))
  (dss_one (ds_frz [2] (ds_ret (de_var (pv 2))))))))
end
end DL

set_option maxHeartbeats 4000000
namespace DL
open PySem PySem.Spec PyProof.Rows L2 Bs
section
variable {P : Program} {w : PySem.World} {K : PySem.W.Frag} {mg : Str → Option Value} {base : Heap} {cl : String → Addr}
abbrev s__law_tape : Stmt := (topS 44)
theorem sc__law_tape : FnScope ["script"] ["script"] (defScope s__law_tape) := ⟨rfl, rfl, rfl, by decide +kernel, rfl, by decide +kernel, by decide +kernel⟩
noncomputable def F__law_tape : FF := runDef 1 1 ((sRet (dAlloc (dLst (dCons (dFn (fn1 gList) (dCons (dVar 0) dNil)) (dCons (dC (.int 0)) (dCons (dC (.int 0)) (dCons (dC (.int 1)) (dCons (dC (.int 0)) dNil)))))))))
theorem ok__law_tape {f : Addr} {fd : FuncData} (F : Fun K "_law_tape" "_law_tape" s__law_tape f fd) (hm : mg "_law_tape" = some (.ref f)) (z_list : mg "list" = none) : DCal P w K mg base cl 1 "_law_tape" ["script"] F__law_tape :=
  dcal_of F sc__law_tape hm (F.binds (ps := ["script"]) fun _ _ _ _ _ _ us hl => match us, hl with | [_], _ => rfl) rfl fun cdv A outer s H E hr => (dss_one (ds_ret (de_alloc (df_lst (da_cons (DE.ofFresh (df_list z_list (da_cons (DE.brw (de_var (pv 0))) da_nil))) (da_cons (de_int pe_int) (da_cons (de_int pe_int) (da_cons (de_int pe_int) (da_cons (de_int pe_int) da_nil)))))))))
abbrev s__law_web : Stmt := (topS 46)
theorem sc__law_web : FnScope ["tape", "most", "size", "kind", "thick", "pairs", "one", "other", "drawn"] ["tape", "most"] (defScope s__law_web) := ⟨rfl, rfl, rfl, by decide +kernel, rfl, by decide +kernel, by decide +kernel⟩
noncomputable def F__law_web : FF := runDef 2 9 ((sSeq (sSet 2 (dBin oAdd (dC (.int 1)) (dCall F__law_pick (dCons (dVar 0) (dCons (dVar 1) dNil)))))
  (sSeq (sSet 3 (dCall F__law_pick (dCons (dVar 0) (dCons (dC (.int 6)) dNil))))
  (sSeq (sSet 4 (dBin oAdd (dC (.int 1)) (dCall F__law_pick (dCons (dVar 0) (dCons (dC (.int 4)) dNil)))))
  (sSeq (sSetO 5 (dLst dNil))
  (sSeq (sFor (iRange1 (dCons (dVar 2) dNil)) (tgName 6)
  (sFor (iRange2 (dCons (dBin oAdd (dVar 6) (dC (.int 1))) (dCons (dVar 2) dNil))) (tgName 7)
  (sSeq (sSet 8 (dBin oLt (dCall F__law_pick (dCons (dVar 0) (dCons (dC (.int 5)) dNil))) (dVar 4)))
  (sSeq (sIf (dBinT oEq (dVar 3) (dC (.int 0)))
  (sSet 8 (dBin oEq (dVar 7) (dBin oAdd (dVar 6) (dC (.int 1)))))
  sPass)
  (sSeq (sIf (dBinT oEq (dVar 3) (dC (.int 1)))
  (sSet 8 (dOrV (dBin oEq (dVar 7) (dBin oAdd (dVar 6) (dC (.int 1)))) (dAndV (dBin oEq (dVar 6) (dC (.int 0))) (dBin oEq (dVar 7) (dBin oSub (dVar 2) (dC (.int 1)))))))
  sPass)
  (sSeq (sIf (dAnd (dBinT oEq (dVar 3) (dC (.int 2))) (dBinT oEq (dVar 4) (dC (.int 1))))
  (sSet 8 (dC (.bl false)))
  sPass)
  (sIf (dT (dVar 8))
  (sAppO 5 (dTup (dCons (dVar 6) (dCons (dVar 7) dNil))))
  sPass)))))))
  (sRet (dTup (dCons (dVar 2) (dCons (dFn (fn1 gTuple) (dCons (dVarB 5) dNil)) dNil))))))))))
theorem ok__law_web {f : Addr} {fd : FuncData} (F : Fun K "_law_web" "_law_web" s__law_web f fd) (hm : mg "_law_web" = some (.ref f)) (z_range : mg "range" = none) (z_tuple : mg "tuple" = none) (c__law_pick : DCal P w K mg base cl 1 "_law_pick" ["tape", "size"] F__law_pick) : DCal P w K mg base cl 2 "_law_web" ["tape", "most"] F__law_web :=
  dcal_of F sc__law_web hm (F.binds (ps := ["tape", "most"]) fun _ _ _ _ _ _ us hl => match us, hl with | [_, _], _ => rfl) rfl fun cdv A outer s H E hr => (dss_cons (ds_set (i := 2) (fun _ h => ps_set (i := 2) sc__law_web.nd rfl (by first | exact Or.inl rfl | exact Or.inr rfl) h) (de_add (DE.brw (de_int pe_int)) (DE.brw (de_call c__law_pick (hr.mono (by decide)) (lets_of (takes_of rfl rfl rfl rfl)) (da_cons (de_var (pv 0)) (da_cons (de_var (pv 1)) da_nil))))))
  (dss_cons (ds_set (i := 3) (fun _ h => ps_set (i := 3) sc__law_web.nd rfl (by first | exact Or.inl rfl | exact Or.inr rfl) h) (de_call c__law_pick (hr.mono (by decide)) (lets_of (takes_of rfl rfl rfl rfl)) (da_cons (de_var (pv 0)) (da_cons (de_int pe_int) da_nil))))
  (dss_cons (ds_set (i := 4) (fun _ h => ps_set (i := 4) sc__law_web.nd rfl (by first | exact Or.inl rfl | exact Or.inr rfl) h) (de_add (DE.brw (de_int pe_int)) (DE.brw (de_call c__law_pick (hr.mono (by decide)) (lets_of (takes_of rfl rfl rfl rfl)) (da_cons (de_var (pv 0)) (da_cons (de_int pe_int) da_nil))))))
  (dss_cons (ds_setO (i := 5) (fun _ h => ps_set (i := 5) sc__law_web.nd rfl (by first | exact Or.inl rfl | exact Or.inr rfl) h) (df_lst da_nil))
  (dss_cons (ds_for (passes_of rfl) rfl (di_range1 (fun _ h => pi_range1 (by rfl) z_range h) (da_cons (de_var (pv 2)) da_nil)) (dg_name (pg_name (i := 6) sc__law_web.nd rfl (by first | exact Or.inl rfl | exact Or.inr rfl)))
  (dss_one (ds_for (passes_of rfl) rfl (di_range2 (fun _ h => pi_range2 (by rfl) z_range h) (da_cons (de_add (DE.brw (de_var (pv 6))) (DE.brw (de_int pe_int))) (da_cons (de_var (pv 2)) da_nil))) (dg_name (pg_name (i := 7) sc__law_web.nd rfl (by first | exact Or.inl rfl | exact Or.inr rfl)))
  (dss_cons (ds_set (i := 8) (fun _ h => ps_set (i := 8) sc__law_web.nd rfl (by first | exact Or.inl rfl | exact Or.inr rfl) h) (de_lt hr (DE.brw (de_call c__law_pick (hr.mono (by decide)) (lets_of (takes_of rfl rfl rfl rfl)) (da_cons (de_var (pv 0)) (da_cons (de_int pe_int) da_nil)))) (DE.brw (de_var (pv 4)))))
  (dss_cons (ds_if (dt_eq hr (DE.brw (de_var (pv 3))) (DE.brw (de_int pe_int)))
  (dss_one (ds_set (i := 8) (fun _ h => ps_set (i := 8) sc__law_web.nd rfl (by first | exact Or.inl rfl | exact Or.inr rfl) h) (de_eq hr (DE.brw (de_var (pv 7))) (DE.brw (de_add (DE.brw (de_var (pv 6))) (DE.brw (de_int pe_int)))))))
  dss_nil)
  (dss_cons (ds_if (dt_eq hr (DE.brw (de_var (pv 3))) (DE.brw (de_int pe_int)))
  (dss_one (ds_set (i := 8) (fun _ h => ps_set (i := 8) sc__law_web.nd rfl (by first | exact Or.inl rfl | exact Or.inr rfl) h) (de_or (de_eq hr (DE.brw (de_var (pv 7))) (DE.brw (de_add (DE.brw (de_var (pv 6))) (DE.brw (de_int pe_int))))) (de_one (de_and (de_eq hr (DE.brw (de_var (pv 6))) (DE.brw (de_int pe_int))) (de_one (de_eq hr (DE.brw (de_var (pv 7))) (DE.brw (de_sub (DE.brw (de_var (pv 2))) (DE.brw (de_int pe_int)))))))))))
  dss_nil)
  (dss_cons (ds_if (DW.dt (dw_and (dt_eq hr (DE.brw (de_var (pv 3))) (DE.brw (de_int pe_int))) (dw_and1 (dt_eq hr (DE.brw (de_var (pv 4))) (DE.brw (de_int pe_int))))))
  (dss_one (ds_set (i := 8) (fun _ h => ps_set (i := 8) sc__law_web.nd rfl (by first | exact Or.inl rfl | exact Or.inr rfl) h) (de_bl pe_bl)))
  dss_nil)
  (dss_one (ds_if (dt_truth (DE.brw (de_var (pv 8))))
  (dss_one (ds_appO (i := 5) (fun _ _ ho ha => ps_expr (pe_bm PySem.F.plainAttrs_list PySem.F.slot_list_append PySem.F.type_list_append mt_append ho (pa_cons ha pa_nil))) (pv 5) (de_tup (da_cons (de_var (pv 6)) (da_cons (de_var (pv 7)) da_nil)))))
  dss_nil)))))))))
  (dss_one (ds_ret (de_tup (da_cons (de_var (pv 2)) (da_cons (de_tuple z_tuple (da_cons (db_var (pv 5)) da_nil)) da_nil))))))))))
abbrev s__law_wrong : Stmt := (topS 55)
theorem sc__law_wrong : FnScope ["web", "log", "stands", "number", "part", "told"] ["web", "log"] (defScope s__law_wrong) := ⟨rfl, rfl, rfl, by decide +kernel, rfl, by decide +kernel, by decide +kernel⟩
noncomputable def F__law_wrong : FF := runDef 2 6 ((sSeq (sSet 2 (dCall F__law_stands (dCons (dVar 1) dNil)))
  (sSeq (sFor (iRange1 (dCons (dFn (fn1 gLen) (dCons (dBin oIx (dVar 1) (dC (.int 2))) dNil)) dNil)) (tgName 3)
  (sSeq (sAsg (dBin oIx (dBin oIx (dVar 1) (dC (.int 2))) (dVar 3)) (tgTup (tgCons (tgName 4) (tgCons (tgName 5) tgNil))))
  (sIf (dBinT oNe (dCall F__law_says (dCons (dVar 0) (dCons (dBin oIx (dVar 2) (dVar 3)) (dCons (dVar 4) dNil)))) (dVar 5))
  (sRet (dVar 3))
  sPass)))
  (sRet (dC .non)))))
theorem ok__law_wrong {f : Addr} {fd : FuncData} (F : Fun K "_law_wrong" "_law_wrong" s__law_wrong f fd) (hm : mg "_law_wrong" = some (.ref f)) (z_len : mg "len" = none) (z_range : mg "range" = none) (c__law_says : DCal P w K mg base cl 2 "_law_says" ["web", "stand", "part"] F__law_says) (c__law_stands : DCal P w K mg base cl 1 "_law_stands" ["log"] F__law_stands) : DCal P w K mg base cl 3 "_law_wrong" ["web", "log"] F__law_wrong :=
  dcal_of F sc__law_wrong hm (F.binds (ps := ["web", "log"]) fun _ _ _ _ _ _ us hl => match us, hl with | [_, _], _ => rfl) rfl fun cdv A outer s H E hr => (dss_cons (ds_set (i := 2) (fun _ h => ps_set (i := 2) sc__law_wrong.nd rfl (by first | exact Or.inl rfl | exact Or.inr rfl) h) (de_call c__law_stands (hr.mono (by decide)) (lets_of (takes_of rfl rfl rfl rfl)) (da_cons (de_var (pv 1)) da_nil)))
  (dss_cons (ds_for (passes_of rfl) rfl (di_range1 (fun _ h => pi_range1 (by rfl) z_range h) (da_cons (de_len z_len (da_cons (DE.brw (de_ix (DE.brw (de_var (pv 1))) (DE.brw (de_int pe_int)))) da_nil)) da_nil)) (dg_name (pg_name (i := 3) sc__law_wrong.nd rfl (by first | exact Or.inl rfl | exact Or.inr rfl)))
  (dss_cons (ds_asg (de_ix (DE.brw (de_ix (DE.brw (de_var (pv 1))) (DE.brw (de_int pe_int)))) (DE.brw (de_var (pv 3)))) (dg_tup rfl (dgs_cons (dg_name (pg_name (i := 4) sc__law_wrong.nd rfl (by first | exact Or.inl rfl | exact Or.inr rfl))) (dgs_cons (dg_name (pg_name (i := 5) sc__law_wrong.nd rfl (by first | exact Or.inl rfl | exact Or.inr rfl))) dgs_nil)) (fun _ _ _ h => tgCons_len (fun _ _ _ h => tgCons_len (fun _ _ _ h => tgNil_len h) h) h)))
  (dss_one (ds_if (dt_ne hr (DE.brw (de_call c__law_says (hr.mono (by decide)) (lets_of (takes_of rfl rfl rfl rfl)) (da_cons (de_var (pv 0)) (da_cons (de_ix (DE.brw (de_var (pv 2))) (DE.brw (de_var (pv 3)))) (da_cons (de_var (pv 4)) da_nil))))) (DE.brw (de_var (pv 5))))
  (dss_one (ds_ret (de_var (pv 3))))
  dss_nil))))
  (dss_one (ds_ret (de_non pe_non)))))
abbrev s_is_lot_below : Stmt := (topS 12)
theorem sc_is_lot_below : FnScope ["size", "thing", "last", "part"] ["size", "thing"] (defScope s_is_lot_below) := ⟨rfl, rfl, rfl, by decide +kernel, rfl, by decide +kernel, by decide +kernel⟩
noncomputable def F_is_lot_below : FF := runDef 2 4 ((sSeq (sIf (dNot (dT (dUn (gIsa "tuple" tbF) (dVar 1))))
  (sRet (dC (.bl false)))
  sPass)
  (sSeq (sSet 2 (dUn gNeg (dC (.int 1))))
  (sSeq (sFor (iSeq (dVar 1)) (tgName 3)
  (sSeq (sIf (dNot (dT (dCall F_is_number (dCons (dVar 3) (dCons (dBin oAdd (dVar 2) (dC (.int 1))) (dCons (dBin oSub (dVar 0) (dC (.int 1))) dNil))))))
  (sRet (dC (.bl false)))
  sPass)
  (sSet 2 (dVar 3))))
  (sRet (dC (.bl true)))))))
theorem ok_is_lot_below {f : Addr} {fd : FuncData} (F : Fun K "is_lot_below" "is_lot_below" s_is_lot_below f fd) (hm : mg "is_lot_below" = some (.ref f)) (z_isinstance : mg "isinstance" = none) (z_tuple : mg "tuple" = none) (is_tuple : IsaOk K cl (.type "tuple") tbF) (c_is_number : DCal P w K mg base cl 2 "is_number" ["thing", "least", "most"] F_is_number) : DCal P w K mg base cl 3 "is_lot_below" ["size", "thing"] F_is_lot_below :=
  dcal_of F sc_is_lot_below hm (F.binds (ps := ["size", "thing"]) fun _ _ _ _ _ _ us hl => match us, hl with | [_, _], _ => rfl) rfl fun cdv A outer s H E hr => (dss_cons (ds_if (dt_not (dt_truth (DE.brw (de_isa z_isinstance is_tuple (DE.brw (de_var (pv 1))) (pe_bltn (v := .ty "tuple") (by rfl) z_tuple (by decide +kernel) rfl)))))
  (dss_one (ds_ret (de_bl pe_bl)))
  dss_nil)
  (dss_cons (ds_set (i := 2) (fun _ h => ps_set (i := 2) sc_is_lot_below.nd rfl (by first | exact Or.inl rfl | exact Or.inr rfl) h) (de_neg (DE.brw (de_int pe_int))))
  (dss_cons (ds_for (passes_of rfl) rfl (di_seq (de_var (pv 1))) (dg_name (pg_name (i := 3) sc_is_lot_below.nd rfl (by first | exact Or.inl rfl | exact Or.inr rfl)))
  (dss_cons (ds_if (dt_not (dt_truth (DE.brw (de_call c_is_number (hr.mono (by decide)) (lets_of (takes_of rfl rfl rfl rfl)) (da_cons (de_var (pv 3)) (da_cons (de_add (DE.brw (de_var (pv 2))) (DE.brw (de_int pe_int))) (da_cons (de_sub (DE.brw (de_var (pv 0))) (DE.brw (de_int pe_int))) da_nil)))))))
  (dss_one (ds_ret (de_bl pe_bl)))
  dss_nil)
  (dss_one (ds_set (i := 2) (fun _ h => ps_set (i := 2) sc_is_lot_below.nd rfl (by first | exact Or.inl rfl | exact Or.inr rfl) h) (de_var (pv 3))))))
  (dss_one (ds_ret (de_bl pe_bl))))))
abbrev s_is_pair : Stmt := (topS 14)
theorem sc_is_pair : FnScope ["thing"] ["thing"] (defScope s_is_pair) := ⟨rfl, rfl, rfl, by decide +kernel, rfl, by decide +kernel, by decide +kernel⟩
noncomputable def F_is_pair : FF := runDef 1 1 ((sRet (dAndV (dUn (gIsa "tuple" tbF) (dVar 0)) (dBin oEq (dFn (fn1 gLen) (dCons (dVar 0) dNil)) (dC (.int 2))))))
theorem ok_is_pair {f : Addr} {fd : FuncData} (F : Fun K "is_pair" "is_pair" s_is_pair f fd) (hm : mg "is_pair" = some (.ref f)) (z_isinstance : mg "isinstance" = none) (z_len : mg "len" = none) (z_tuple : mg "tuple" = none) (is_tuple : IsaOk K cl (.type "tuple") tbF) : DCal P w K mg base cl 1 "is_pair" ["thing"] F_is_pair :=
  dcal_of F sc_is_pair hm (F.binds (ps := ["thing"]) fun _ _ _ _ _ _ us hl => match us, hl with | [_], _ => rfl) rfl fun cdv A outer s H E hr => (dss_one (ds_ret (de_and (de_isa z_isinstance is_tuple (DE.brw (de_var (pv 0))) (pe_bltn (v := .ty "tuple") (by rfl) z_tuple (by decide +kernel) rfl)) (de_one (de_eq hr (DE.brw (de_len z_len (da_cons (DE.brw (de_var (pv 0))) da_nil))) (DE.brw (de_int pe_int)))))))
abbrev s_is_told_call : Stmt := (topS 32)
theorem sc_is_told_call : FnScope ["size", "thing"] ["size", "thing"] (defScope s_is_told_call) := ⟨rfl, rfl, rfl, by decide +kernel, rfl, by decide +kernel, by decide +kernel⟩
noncomputable def F_is_told_call : FF := runDef 2 2 ((sRet (dAndV (dCall F_is_pair (dCons (dVar 1) dNil)) (dAndV (dCall F_is_number (dCons (dBin oIx (dVar 1) (dC (.int 0))) (dCons (dC (.int 0)) (dCons (dBin oSub (dVar 0) (dC (.int 1))) dNil)))) (dUn (gIsa "bool" tbF) (dBin oIx (dVar 1) (dC (.int 1))))))))
theorem ok_is_told_call {f : Addr} {fd : FuncData} (F : Fun K "is_told_call" "is_told_call" s_is_told_call f fd) (hm : mg "is_told_call" = some (.ref f)) (z_bool : mg "bool" = none) (z_isinstance : mg "isinstance" = none) (is_bool : IsaOk K cl (.type "bool") tbF) (c_is_number : DCal P w K mg base cl 2 "is_number" ["thing", "least", "most"] F_is_number) (c_is_pair : DCal P w K mg base cl 1 "is_pair" ["thing"] F_is_pair) : DCal P w K mg base cl 3 "is_told_call" ["size", "thing"] F_is_told_call :=
  dcal_of F sc_is_told_call hm (F.binds (ps := ["size", "thing"]) fun _ _ _ _ _ _ us hl => match us, hl with | [_, _], _ => rfl) rfl fun cdv A outer s H E hr => (dss_one (ds_ret (de_and (de_call c_is_pair (hr.mono (by decide)) (lets_of (takes_of rfl rfl rfl rfl)) (da_cons (de_var (pv 1)) da_nil)) (de_and (de_call c_is_number (hr.mono (by decide)) (lets_of (takes_of rfl rfl rfl rfl)) (da_cons (de_ix (DE.brw (de_var (pv 1))) (DE.brw (de_int pe_int))) (da_cons (de_int pe_int) (da_cons (de_sub (DE.brw (de_var (pv 0))) (DE.brw (de_int pe_int))) da_nil)))) (de_one (de_isa z_isinstance is_bool (DE.brw (de_ix (DE.brw (de_var (pv 1))) (DE.brw (de_int pe_int)))) (pe_bltn (v := .ty "bool") (by rfl) z_bool (by decide +kernel) rfl)))))))
abbrev s_is_log : Stmt := (topS 33)
theorem sc_is_log : FnScope ["thing", "size", "stand", "calls", "call"] ["thing"] (defScope s_is_log) := ⟨rfl, rfl, rfl, by decide +kernel, rfl, by decide +kernel, by decide +kernel⟩
noncomputable def F_is_log : FF := runDef 1 5 ((sSeq (sIf (dOr (dNot (dT (dUn (gIsa "tuple" tbF) (dVar 0)))) (dBinT oNe (dFn (fn1 gLen) (dCons (dVar 0) dNil)) (dC (.int 3))))
  (sRet (dC (.bl false)))
  sPass)
  (sSeq (sAsg (dVar 0) (tgTup (tgCons (tgName 1) (tgCons (tgName 2) (tgCons (tgName 3) tgNil)))))
  (sSeq (sIf (dOr (dNot (dT (dCall F_is_number (dCons (dVar 1) (dCons (dC (.int 1)) (dCons (dC (.int 12)) dNil)))))) (dNot (dT (dCall F_is_lot_below (dCons (dVar 1) (dCons (dVar 2) dNil))))))
  (sRet (dC (.bl false)))
  sPass)
  (sSeq (sIf (dOr (dNot (dT (dUn (gIsa "tuple" tbF) (dVar 3)))) (dBinT oGt (dFn (fn1 gLen) (dCons (dVar 3) dNil)) (dC (.int 200))))
  (sRet (dC (.bl false)))
  sPass)
  (sSeq (sFor (iSeq (dVar 3)) (tgName 4)
  (sIf (dNot (dT (dCall F_is_told_call (dCons (dVar 1) (dCons (dVar 4) dNil)))))
  (sRet (dC (.bl false)))
  sPass))
  (sRet (dC (.bl true)))))))))
theorem ok_is_log {f : Addr} {fd : FuncData} (F : Fun K "is_log" "is_log" s_is_log f fd) (hm : mg "is_log" = some (.ref f)) (z_isinstance : mg "isinstance" = none) (z_len : mg "len" = none) (z_tuple : mg "tuple" = none) (h_MOST_LOGGED_CALLS : ∃ t, mg "MOST_LOGGED_CALLS" = some (.int 200 t)) (h_MOST_LOGGED_PARTS : ∃ t, mg "MOST_LOGGED_PARTS" = some (.int 12 t)) (is_tuple : IsaOk K cl (.type "tuple") tbF) (c_is_lot_below : DCal P w K mg base cl 3 "is_lot_below" ["size", "thing"] F_is_lot_below) (c_is_number : DCal P w K mg base cl 2 "is_number" ["thing", "least", "most"] F_is_number) (c_is_told_call : DCal P w K mg base cl 3 "is_told_call" ["size", "thing"] F_is_told_call) : DCal P w K mg base cl 4 "is_log" ["thing"] F_is_log :=
  dcal_of F sc_is_log hm (F.binds (ps := ["thing"]) fun _ _ _ _ _ _ us hl => match us, hl with | [_], _ => rfl) rfl fun cdv A outer s H E hr => (dss_cons (ds_if (DW.dt (dw_or (dt_not (dt_truth (DE.brw (de_isa z_isinstance is_tuple (DE.brw (de_var (pv 0))) (pe_bltn (v := .ty "tuple") (by rfl) z_tuple (by decide +kernel) rfl))))) (dw_or1 (dt_ne hr (DE.brw (de_len z_len (da_cons (DE.brw (de_var (pv 0))) da_nil))) (DE.brw (de_int pe_int))))))
  (dss_one (ds_ret (de_bl pe_bl)))
  dss_nil)
  (dss_cons (ds_asg (de_var (pv 0)) (dg_tup rfl (dgs_cons (dg_name (pg_name (i := 1) sc_is_log.nd rfl (by first | exact Or.inl rfl | exact Or.inr rfl))) (dgs_cons (dg_name (pg_name (i := 2) sc_is_log.nd rfl (by first | exact Or.inl rfl | exact Or.inr rfl))) (dgs_cons (dg_name (pg_name (i := 3) sc_is_log.nd rfl (by first | exact Or.inl rfl | exact Or.inr rfl))) dgs_nil))) (fun _ _ _ h => tgCons_len (fun _ _ _ h => tgCons_len (fun _ _ _ h => tgCons_len (fun _ _ _ h => tgNil_len h) h) h) h)))
  (dss_cons (ds_if (DW.dt (dw_or (dt_not (dt_truth (DE.brw (de_call c_is_number (hr.mono (by decide)) (lets_of (takes_of rfl rfl rfl rfl)) (da_cons (de_var (pv 1)) (da_cons (de_int pe_int) (da_cons (de_cst h_MOST_LOGGED_PARTS) da_nil))))))) (dw_or1 (dt_not (dt_truth (DE.brw (de_call c_is_lot_below (hr.mono (by decide)) (lets_of (takes_of rfl rfl rfl rfl)) (da_cons (de_var (pv 1)) (da_cons (de_var (pv 2)) da_nil)))))))))
  (dss_one (ds_ret (de_bl pe_bl)))
  dss_nil)
  (dss_cons (ds_if (DW.dt (dw_or (dt_not (dt_truth (DE.brw (de_isa z_isinstance is_tuple (DE.brw (de_var (pv 3))) (pe_bltn (v := .ty "tuple") (by rfl) z_tuple (by decide +kernel) rfl))))) (dw_or1 (dt_gt (DE.brw (de_len z_len (da_cons (DE.brw (de_var (pv 3))) da_nil))) (DE.brw (de_cst h_MOST_LOGGED_CALLS))))))
  (dss_one (ds_ret (de_bl pe_bl)))
  dss_nil)
  (dss_cons (ds_for (passes_of rfl) rfl (di_seq (de_var (pv 3))) (dg_name (pg_name (i := 4) sc_is_log.nd rfl (by first | exact Or.inl rfl | exact Or.inr rfl)))
  (dss_one (ds_if (dt_not (dt_truth (DE.brw (de_call c_is_told_call (hr.mono (by decide)) (lets_of (takes_of rfl rfl rfl rfl)) (da_cons (de_var (pv 1)) (da_cons (de_var (pv 4)) da_nil))))))
  (dss_one (ds_ret (de_bl pe_bl)))
  dss_nil)))
  (dss_one (ds_ret (de_bl pe_bl))))))))
abbrev s_check_log : Stmt := (topS 34)
theorem sc_check_log : FnScope ["thing"] ["thing"] (defScope s_check_log) := ⟨rfl, rfl, rfl, by decide +kernel, rfl, by decide +kernel, by decide +kernel⟩
noncomputable def F_check_log : FF := runDef 1 1 ((sIf (dNot (dT (dCall F_is_log (dCons (dVar 0) dNil))))
  sNever
  sPass))
theorem ok_check_log {f : Addr} {fd : FuncData} (F : Fun K "check_log" "check_log" s_check_log f fd) (hm : mg "check_log" = some (.ref f)) (c_is_log : DCal P w K mg base cl 4 "is_log" ["thing"] F_is_log) : DCal P w K mg base cl 5 "check_log" ["thing"] F_check_log :=
  dcal_of F sc_check_log hm (F.binds (ps := ["thing"]) fun _ _ _ _ _ _ us hl => match us, hl with | [_], _ => rfl) rfl fun cdv A outer s H E hr => (dss_one (ds_if (dt_not (dt_truth (DE.brw (de_call c_is_log (hr.mono (by decide)) (lets_of (takes_of rfl rfl rfl rfl)) (da_cons (de_var (pv 0)) da_nil)))))
  (dss_one ds_never)
  dss_nil))
abbrev s_lot_of : Stmt := (topS 17)
theorem sc_lot_of : FnScope ["bits", "lot", "low"] ["bits"] (defScope s_lot_of) := ⟨rfl, rfl, rfl, by decide +kernel, rfl, by decide +kernel, by decide +kernel⟩
noncomputable def F_lot_of : FF := runDef 1 3 ((sSeq (sSetO 1 (dLst dNil))
  (sSeq (sWhile (dT (dVar 0))
  (sSeq (sSet 2 (dBin oAnd (dVar 0) (dUn gNeg (dVar 0))))
  (sSeq (sAppO 1 (dBin oSub (dUn gBits (dVar 2)) (dC (.int 1))))
  (sAug 0 oXor (dVar 2)))) 4000)
  (sRet (dFn (fn1 gTuple) (dCons (dVarB 1) dNil))))))
theorem ok_lot_of {f : Addr} {fd : FuncData} (F : Fun K "lot_of" "lot_of" s_lot_of f fd) (hm : mg "lot_of" = some (.ref f)) (z_tuple : mg "tuple" = none) : DCal P w K mg base cl 1 "lot_of" ["bits"] F_lot_of :=
  dcal_of F sc_lot_of hm (F.binds (ps := ["bits"]) fun _ _ _ _ _ _ us hl => match us, hl with | [_], _ => rfl) rfl fun cdv A outer s H E hr => (dss_cons (ds_setO (i := 1) (fun _ h => ps_set (i := 1) sc_lot_of.nd rfl (by first | exact Or.inl rfl | exact Or.inr rfl) h) (df_lst da_nil))
  (dss_cons (ds_while (n := 4000) (passes_of rfl) (dt_truth (DE.brw (de_var (pv 0))))
  (dss_cons (ds_set (i := 2) (fun _ h => ps_set (i := 2) sc_lot_of.nd rfl (by first | exact Or.inl rfl | exact Or.inr rfl) h) (de_band (DE.brw (de_var (pv 0))) (DE.brw (de_neg (DE.brw (de_var (pv 0)))))))
  (dss_cons (ds_appO (i := 1) (fun _ _ ho ha => ps_expr (pe_bm PySem.F.plainAttrs_list PySem.F.slot_list_append PySem.F.type_list_append mt_append ho (pa_cons ha pa_nil))) (pv 1) (de_sub (DE.brw (de_bits (DE.brw (de_var (pv 2))))) (DE.brw (de_int pe_int))))
  (dss_one (ds_aug (g := oXor) (fun _ h => ps_aug (i := 0) sc_lot_of.nd rfl (by first | exact Or.inl rfl | exact Or.inr rfl) h ip_xor) ok_xor (de_var (pv 2)))))))
  (dss_one (ds_ret (de_tuple z_tuple (da_cons (db_var (pv 1)) da_nil))))))
abbrev s_behind_told : Stmt := (topS 35)
theorem sc_behind_told : FnScope ["bits", "part", "told"] ["bits", "part", "told"] (defScope s_behind_told) := ⟨rfl, rfl, rfl, by decide +kernel, rfl, by decide +kernel, by decide +kernel⟩
noncomputable def F_behind_told : FF := runDef 3 3 ((sRet (dIf (dT (dVar 2)) (dBin oOr (dVar 0) (dBin oShl (dC (.int 1)) (dVar 1))) (dBin oAnd (dVar 0) (dUn gInv (dBin oShl (dC (.int 1)) (dVar 1)))))))
theorem ok_behind_told {f : Addr} {fd : FuncData} (F : Fun K "behind_told" "behind_told" s_behind_told f fd) (hm : mg "behind_told" = some (.ref f))  : DCal P w K mg base cl 1 "behind_told" ["bits", "part", "told"] F_behind_told :=
  dcal_of F sc_behind_told hm (F.binds (ps := ["bits", "part", "told"]) fun _ _ _ _ _ _ us hl => match us, hl with | [_, _, _], _ => rfl) rfl fun cdv A outer s H E hr => (dss_one (ds_ret (de_if (dt_truth (DE.brw (de_var (pv 2)))) (de_bor (DE.brw (de_var (pv 0))) (DE.brw (de_shl (DE.brw (de_int pe_int)) (DE.brw (de_var (pv 1)))))) (de_band (DE.brw (de_var (pv 0))) (DE.brw (de_inv (DE.brw (de_shl (DE.brw (de_int pe_int)) (DE.brw (de_var (pv 1)))))))))))
abbrev s_bits_of : Stmt := (topS 16)
theorem sc_bits_of : FnScope ["lot", "bits", "part"] ["lot"] (defScope s_bits_of) := ⟨rfl, rfl, rfl, by decide +kernel, rfl, by decide +kernel, by decide +kernel⟩
noncomputable def F_bits_of : FF := runDef 1 3 ((sSeq (sSet 1 (dC (.int 0)))
  (sSeq (sFor (iSeq (dVar 0)) (tgName 2)
  (sAug 1 oOr (dBin oShl (dC (.int 1)) (dVar 2))))
  (sRet (dVar 1)))))
theorem ok_bits_of {f : Addr} {fd : FuncData} (F : Fun K "bits_of" "bits_of" s_bits_of f fd) (hm : mg "bits_of" = some (.ref f))  : DCal P w K mg base cl 1 "bits_of" ["lot"] F_bits_of :=
  dcal_of F sc_bits_of hm (F.binds (ps := ["lot"]) fun _ _ _ _ _ _ us hl => match us, hl with | [_], _ => rfl) rfl fun cdv A outer s H E hr => (dss_cons (ds_set (i := 1) (fun _ h => ps_set (i := 1) sc_bits_of.nd rfl (by first | exact Or.inl rfl | exact Or.inr rfl) h) (de_int pe_int))
  (dss_cons (ds_for (passes_of rfl) rfl (di_seq (de_var (pv 0))) (dg_name (pg_name (i := 2) sc_bits_of.nd rfl (by first | exact Or.inl rfl | exact Or.inr rfl)))
  (dss_one (ds_aug (g := oOr) (fun _ h => ps_aug (i := 1) sc_bits_of.nd rfl (by first | exact Or.inl rfl | exact Or.inr rfl) h ip_or) ok_or (de_shl (DE.brw (de_int pe_int)) (DE.brw (de_var (pv 2)))))))
  (dss_one (ds_ret (de_var (pv 1))))))
abbrev s_stands_of : Stmt := (topS 36)
theorem sc_stands_of : FnScope ["log", "found", "part", "told"] ["log"] (defScope s_stands_of) := ⟨rfl, rfl, rfl, by decide +kernel, rfl, by decide +kernel, by decide +kernel⟩
noncomputable def F_stands_of : FF := runDef 1 4 ((sSeq (sSetO 1 (dLst (dCons (dCall F_bits_of (dCons (dBin oIx (dVar 0) (dC (.int 1))) dNil)) dNil)))
  (sSeq (sFor (iSeq (dBin oIx (dVar 0) (dC (.int 2)))) (tgTup (tgCons (tgName 2) (tgCons (tgName 3) tgNil)))
  (sAppO 1 (dCall F_behind_told (dCons (dBin oIx (dVarB 1) (dUn gNeg (dC (.int 1)))) (dCons (dVar 2) (dCons (dVar 3) dNil))))))
  (sFrz [1] (sRet (dVar 1))))))
theorem ok_stands_of {f : Addr} {fd : FuncData} (F : Fun K "stands_of" "stands_of" s_stands_of f fd) (hm : mg "stands_of" = some (.ref f)) (c_behind_told : DCal P w K mg base cl 1 "behind_told" ["bits", "part", "told"] F_behind_told) (c_bits_of : DCal P w K mg base cl 1 "bits_of" ["lot"] F_bits_of) : DCal P w K mg base cl 2 "stands_of" ["log"] F_stands_of :=
  dcal_of F sc_stands_of hm (F.binds (ps := ["log"]) fun _ _ _ _ _ _ us hl => match us, hl with | [_], _ => rfl) rfl fun cdv A outer s H E hr => (dss_cons (ds_setO (i := 1) (fun _ h => ps_set (i := 1) sc_stands_of.nd rfl (by first | exact Or.inl rfl | exact Or.inr rfl) h) (df_lst (da_cons (de_call c_bits_of (hr.mono (by decide)) (lets_of (takes_of rfl rfl rfl rfl)) (da_cons (de_ix (DE.brw (de_var (pv 0))) (DE.brw (de_int pe_int))) da_nil)) da_nil)))
  (dss_cons (ds_for (passes_of rfl) rfl (di_seq (de_ix (DE.brw (de_var (pv 0))) (DE.brw (de_int pe_int)))) (dg_tup rfl (dgs_cons (dg_name (pg_name (i := 2) sc_stands_of.nd rfl (by first | exact Or.inl rfl | exact Or.inr rfl))) (dgs_cons (dg_name (pg_name (i := 3) sc_stands_of.nd rfl (by first | exact Or.inl rfl | exact Or.inr rfl))) dgs_nil)) (fun _ _ _ h => tgCons_len (fun _ _ _ h => tgCons_len (fun _ _ _ h => tgNil_len h) h) h))
  (dss_one (ds_appO (i := 1) (fun _ _ ho ha => ps_expr (pe_bm PySem.F.plainAttrs_list PySem.F.slot_list_append PySem.F.type_list_append mt_append ho (pa_cons ha pa_nil))) (pv 1) (de_call c_behind_told (hr.mono (by decide)) (lets_of (takes_of rfl rfl rfl rfl)) (da_cons (de_ix (db_var (pv 1)) (DE.brw (de_neg (DE.brw (de_int pe_int))))) (da_cons (de_var (pv 2)) (da_cons (de_var (pv 3)) da_nil)))))))
  (dss_one (ds_frz [1] (ds_ret (de_var (pv 1)))))))
end
end DL

set_option maxHeartbeats 4000000
namespace DL
open PySem PySem.Spec PyProof.Rows L2 Bs
section
variable {P : Program} {w : PySem.World} {K : PySem.W.Frag} {mg : Str → Option Value} {base : Heap} {cl : String → Addr}
abbrev s_behind : Stmt := (topS 41)
theorem sc_behind : FnScope ["log"] ["log"] (defScope s_behind) := ⟨rfl, rfl, rfl, by decide +kernel, rfl, by decide +kernel, by decide +kernel⟩
noncomputable def F_behind : FF := runDef 1 1 ((sSeq (sDrop (dCall F_check_log (dCons (dVar 0) dNil)))
  (sRet (dCall F_lot_of (dCons (dBin oIx (dCall F_stands_of (dCons (dVar 0) dNil)) (dUn gNeg (dC (.int 1)))) dNil)))))
theorem ok_behind {f : Addr} {fd : FuncData} (F : Fun K "behind" "behind" s_behind f fd) (hm : mg "behind" = some (.ref f)) (c_check_log : DCal P w K mg base cl 5 "check_log" ["thing"] F_check_log) (c_lot_of : DCal P w K mg base cl 1 "lot_of" ["bits"] F_lot_of) (c_stands_of : DCal P w K mg base cl 2 "stands_of" ["log"] F_stands_of) : DCal P w K mg base cl 6 "behind" ["log"] F_behind :=
  dcal_of F sc_behind hm (F.binds (ps := ["log"]) fun _ _ _ _ _ _ us hl => match us, hl with | [_], _ => rfl) rfl fun cdv A outer s H E hr => (dss_cons (ds_drop (de_call c_check_log (hr.mono (by decide)) (lets_of (takes_of rfl rfl rfl rfl)) (da_cons (de_var (pv 0)) da_nil)))
  (dss_one (ds_ret (de_call c_lot_of (hr.mono (by decide)) (lets_of (takes_of rfl rfl rfl rfl)) (da_cons (de_ix (DE.brw (de_call c_stands_of (hr.mono (by decide)) (lets_of (takes_of rfl rfl rfl rfl)) (da_cons (de_var (pv 0)) da_nil))) (DE.brw (de_neg (DE.brw (de_int pe_int))))) da_nil)))))
abbrev s_calls_of : Stmt := (topS 37)
theorem sc_calls_of : FnScope ["log", "part", "told", "ahead"] ["log"] (defScope s_calls_of) := ⟨rfl, rfl, rfl, by decide +kernel, rfl, by decide +kernel, by decide +kernel⟩
noncomputable def F_calls_of : FF := runDef 1 4 ((sRet (dLc (iZipTL (dCons (dBin oIx (dVar 0) (dC (.int 2))) (dCons (dCall F_stands_of (dCons (dVar 0) dNil)) dNil))) [1, 2, 3] (tgTup (tgCons (tgTup (tgCons (tgName 1) (tgCons (tgName 2) tgNil))) (tgCons (tgName 3) tgNil))) dYes (dTup (dCons (dVar 1) (dCons (dVar 2) (dCons (dVar 3) dNil)))))))
theorem ok_calls_of {f : Addr} {fd : FuncData} (F : Fun K "calls_of" "calls_of" s_calls_of f fd) (hm : mg "calls_of" = some (.ref f)) (z_zip : mg "zip" = none) (c_stands_of : DCal P w K mg base cl 2 "stands_of" ["log"] F_stands_of) : DCal P w K mg base cl 3 "calls_of" ["log"] F_calls_of :=
  dcal_of F sc_calls_of hm (F.binds (ps := ["log"]) fun _ _ _ _ _ _ us hl => match us, hl with | [_], _ => rfl) rfl fun cdv A outer s H E hr => (dss_one (ds_ret (DE.ofFresh (df_lcA (own := [("part", 1), ("told", 2), ("ahead", 3)]) (by rfl) sc_calls_of.nd (di_zipM (fun _ h => pi_zipM (by rfl) z_zip h) (da_cons (de_ix (DE.brw (de_var (pv 0))) (DE.brw (de_int pe_int))) (da_cons (de_call c_stands_of (hr.mono (by decide)) (lets_of (takes_of rfl rfl rfl rfl)) (da_cons (de_var (pv 0)) da_nil)) da_nil))) (blkOk_by (own := [("part", 1), ("told", 2), ("ahead", 3)]) (N := ["log", "part", "told", "ahead"]) (sc := defScope s_calls_of) (by decide +kernel)) (by decide) (fun _ _ _ _ _ => (dg_tup rfl (dgs_cons (dg_tup rfl (dgs_cons (dg_name (pg_name (i := 1) sc_calls_of.nd rfl (by first | exact Or.inl rfl | exact Or.inr rfl))) (dgs_cons (dg_name (pg_name (i := 2) sc_calls_of.nd rfl (by first | exact Or.inl rfl | exact Or.inr rfl))) dgs_nil)) (fun _ _ _ h => tgCons_len (fun _ _ _ h => tgCons_len (fun _ _ _ h => tgNil_len h) h) h)) (dgs_cons (dg_name (pg_name (i := 3) sc_calls_of.nd rfl (by first | exact Or.inl rfl | exact Or.inr rfl))) dgs_nil)) (fun _ _ _ h => tgCons_len (fun _ _ _ h => tgCons_len (fun _ _ _ h => tgNil_len h) h) h))) (fun _ _ _ _ _ => dts_nil) (fun _ _ _ _ _ => (de_tup (da_cons (de_var (pv 1)) (da_cons (de_var (pv 2)) (da_cons (de_var (pv 3)) da_nil)))))))))
abbrev s_tied_bits : Stmt := (topS 18)
theorem sc_tied_bits : FnScope ["web", "tied", "a", "b"] ["web"] (defScope s_tied_bits) := ⟨rfl, rfl, rfl, by decide +kernel, rfl, by decide +kernel, by decide +kernel⟩
noncomputable def F_tied_bits : FF := runDef 1 4 ((sSeq (sSetO 1 (dBin oRep (dLst (dCons (dC (.int 0)) dNil)) (dUn (gFld ["Web"] "size") (dVar 0))))
  (sSeq (sFor (iSeq (dUn (gFld ["Web"] "ties") (dVar 0))) (tgTup (tgCons (tgName 2) (tgCons (tgName 3) tgNil)))
  (sSeq (sAugO 1 oOr (dVar 2) (dBin oShl (dC (.int 1)) (dVar 3)))
  (sAugO 1 oOr (dVar 3) (dBin oShl (dC (.int 1)) (dVar 2)))))
  (sFrz [1] (sRet (dVar 1))))))
theorem ok_tied_bits {f : Addr} {fd : FuncData} (F : Fun K "tied_bits" "tied_bits" s_tied_bits f fd) (hm : mg "tied_bits" = some (.ref f)) (fo_size : FldOk K cl ["Web"] "size") (fo_ties : FldOk K cl ["Web"] "ties") : DCal P w K mg base cl 1 "tied_bits" ["web"] F_tied_bits :=
  dcal_of F sc_tied_bits hm (F.binds (ps := ["web"]) fun _ _ _ _ _ _ us hl => match us, hl with | [_], _ => rfl) rfl fun cdv A outer s H E hr => (dss_cons (ds_setO (i := 1) (fun _ h => ps_set (i := 1) sc_tied_bits.nd rfl (by first | exact Or.inl rfl | exact Or.inr rfl) h) (df_rep (DE.frb (df_lst (da_cons (de_int pe_int) da_nil))) (DE.brw (de_fld fo_size (DE.brw (de_var (pv 0)))))))
  (dss_cons (ds_for (passes_of rfl) rfl (di_seq (de_fld fo_ties (DE.brw (de_var (pv 0))))) (dg_tup rfl (dgs_cons (dg_name (pg_name (i := 2) sc_tied_bits.nd rfl (by first | exact Or.inl rfl | exact Or.inr rfl))) (dgs_cons (dg_name (pg_name (i := 3) sc_tied_bits.nd rfl (by first | exact Or.inl rfl | exact Or.inr rfl))) dgs_nil)) (fun _ _ _ h => tgCons_len (fun _ _ _ h => tgCons_len (fun _ _ _ h => tgNil_len h) h) h))
  (dss_cons (ds_augO (i := 1) (g := oOr) (fun _ _ _ ho hk ha => ps_augS ho hk get_listP ha ip_or set_list) ok_or (pv 1) (de_var (pv 2)) (de_shl (DE.brw (de_int pe_int)) (DE.brw (de_var (pv 3)))))
  (dss_one (ds_augO (i := 1) (g := oOr) (fun _ _ _ ho hk ha => ps_augS ho hk get_listP ha ip_or set_list) ok_or (pv 1) (de_var (pv 3)) (de_shl (DE.brw (de_int pe_int)) (DE.brw (de_var (pv 2))))))))
  (dss_one (ds_frz [1] (ds_ret (de_var (pv 1)))))))
abbrev s_told_by : Stmt := (topS 22)
theorem sc_told_by : FnScope ["tied", "bits", "part"] ["tied", "bits", "part"] (defScope s_told_by) := ⟨rfl, rfl, rfl, by decide +kernel, rfl, by decide +kernel, by decide +kernel⟩
noncomputable def F_told_by : FF := runDef 3 3 ((sRet (dBin oEq (dBin oAnd (dBin oIx (dVar 0) (dVar 2)) (dVar 1)) (dC (.int 0)))))
theorem ok_told_by {f : Addr} {fd : FuncData} (F : Fun K "told_by" "told_by" s_told_by f fd) (hm : mg "told_by" = some (.ref f))  : DCal P w K mg base cl 1 "told_by" ["tied", "bits", "part"] F_told_by :=
  dcal_of F sc_told_by hm (F.binds (ps := ["tied", "bits", "part"]) fun _ _ _ _ _ _ us hl => match us, hl with | [_, _, _], _ => rfl) rfl fun cdv A outer s H E hr => (dss_one (ds_ret (de_eq hr (DE.brw (de_band (DE.brw (de_ix (DE.brw (de_var (pv 0))) (DE.brw (de_var (pv 2))))) (DE.brw (de_var (pv 1))))) (DE.brw (de_int pe_int)))))
abbrev s_first_wrong : Stmt := (topS 38)
theorem sc_first_wrong : FnScope ["web", "log", "tied", "at", "part", "told", "ahead"] ["web", "log"] (defScope s_first_wrong) := ⟨rfl, rfl, rfl, by decide +kernel, rfl, by decide +kernel, by decide +kernel⟩
noncomputable def F_first_wrong : FF := runDef 2 7 ((sSeq (sSet 2 (dCall F_tied_bits (dCons (dVar 0) dNil)))
  (sSeq (sFor (iEnumA (dCons (dCall F_calls_of (dCons (dVar 1) dNil)) dNil)) (tgTup (tgCons (tgName 3) (tgCons (tgTup (tgCons (tgName 4) (tgCons (tgName 5) (tgCons (tgName 6) tgNil)))) tgNil)))
  (sIf (dBinT oNe (dCall F_told_by (dCons (dVar 2) (dCons (dVar 6) (dCons (dVar 4) dNil)))) (dVar 5))
  (sRet (dVar 3))
  sPass))
  (sRet (dC .non)))))
theorem ok_first_wrong {f : Addr} {fd : FuncData} (F : Fun K "first_wrong" "first_wrong" s_first_wrong f fd) (hm : mg "first_wrong" = some (.ref f)) (z_enumerate : mg "enumerate" = none) (c_calls_of : DCal P w K mg base cl 3 "calls_of" ["log"] F_calls_of) (c_tied_bits : DCal P w K mg base cl 1 "tied_bits" ["web"] F_tied_bits) (c_told_by : DCal P w K mg base cl 1 "told_by" ["tied", "bits", "part"] F_told_by) : DCal P w K mg base cl 4 "first_wrong" ["web", "log"] F_first_wrong :=
  dcal_of F sc_first_wrong hm (F.binds (ps := ["web", "log"]) fun _ _ _ _ _ _ us hl => match us, hl with | [_, _], _ => rfl) rfl fun cdv A outer s H E hr => (dss_cons (ds_set (i := 2) (fun _ h => ps_set (i := 2) sc_first_wrong.nd rfl (by first | exact Or.inl rfl | exact Or.inr rfl) h) (de_call c_tied_bits (hr.mono (by decide)) (lets_of (takes_of rfl rfl rfl rfl)) (da_cons (de_var (pv 0)) da_nil)))
  (dss_cons (ds_for (passes_of rfl) rfl (di_enum (fun _ h => pi_enum (by rfl) z_enumerate h) (fun _ h => pi_enumT (by rfl) z_enumerate h) (da_cons (de_call c_calls_of (hr.mono (by decide)) (lets_of (takes_of rfl rfl rfl rfl)) (da_cons (de_var (pv 1)) da_nil)) da_nil)) (dg_tup rfl (dgs_cons (dg_name (pg_name (i := 3) sc_first_wrong.nd rfl (by first | exact Or.inl rfl | exact Or.inr rfl))) (dgs_cons (dg_tup rfl (dgs_cons (dg_name (pg_name (i := 4) sc_first_wrong.nd rfl (by first | exact Or.inl rfl | exact Or.inr rfl))) (dgs_cons (dg_name (pg_name (i := 5) sc_first_wrong.nd rfl (by first | exact Or.inl rfl | exact Or.inr rfl))) (dgs_cons (dg_name (pg_name (i := 6) sc_first_wrong.nd rfl (by first | exact Or.inl rfl | exact Or.inr rfl))) dgs_nil))) (fun _ _ _ h => tgCons_len (fun _ _ _ h => tgCons_len (fun _ _ _ h => tgCons_len (fun _ _ _ h => tgNil_len h) h) h) h)) dgs_nil)) (fun _ _ _ h => tgCons_len (fun _ _ _ h => tgCons_len (fun _ _ _ h => tgNil_len h) h) h))
  (dss_one (ds_if (dt_ne hr (DE.brw (de_call c_told_by (hr.mono (by decide)) (lets_of (takes_of rfl rfl rfl rfl)) (da_cons (de_var (pv 2)) (da_cons (de_var (pv 6)) (da_cons (de_var (pv 4)) da_nil))))) (DE.brw (de_var (pv 5))))
  (dss_one (ds_ret (de_var (pv 3))))
  dss_nil)))
  (dss_one (ds_ret (de_non pe_non)))))
abbrev s_fits : Stmt := (topS 39)
theorem sc_fits : FnScope ["web", "log"] ["web", "log"] (defScope s_fits) := ⟨rfl, rfl, rfl, by decide +kernel, rfl, by decide +kernel, by decide +kernel⟩
noncomputable def F_fits : FF := runDef 2 2 ((sSeq (sDrop (dCall F_check_log (dCons (dVar 1) dNil)))
  (sRet (dAndV (dBin oEq (dUn (gFld ["Web"] "size") (dVar 0)) (dBin oIx (dVar 1) (dC (.int 0)))) (dBin oIs (dCall F_first_wrong (dCons (dVar 0) (dCons (dVar 1) dNil))) (dC .non))))))
theorem ok_fits {f : Addr} {fd : FuncData} (F : Fun K "fits" "fits" s_fits f fd) (hm : mg "fits" = some (.ref f)) (fo_size : FldOk K cl ["Web"] "size") (c_check_log : DCal P w K mg base cl 5 "check_log" ["thing"] F_check_log) (c_first_wrong : DCal P w K mg base cl 4 "first_wrong" ["web", "log"] F_first_wrong) : DCal P w K mg base cl 6 "fits" ["web", "log"] F_fits :=
  dcal_of F sc_fits hm (F.binds (ps := ["web", "log"]) fun _ _ _ _ _ _ us hl => match us, hl with | [_, _], _ => rfl) rfl fun cdv A outer s H E hr => (dss_cons (ds_drop (de_call c_check_log (hr.mono (by decide)) (lets_of (takes_of rfl rfl rfl rfl)) (da_cons (de_var (pv 1)) da_nil)))
  (dss_one (ds_ret (de_and (de_eq hr (DE.brw (de_fld fo_size (DE.brw (de_var (pv 0))))) (DE.brw (de_ix (DE.brw (de_var (pv 1))) (DE.brw (de_int pe_int))))) (de_one (de_is (DE.brw (de_call c_first_wrong (hr.mono (by decide)) (lets_of (takes_of rfl rfl rfl rfl)) (da_cons (de_var (pv 0)) (da_cons (de_var (pv 1)) da_nil)))) (DE.brw (de_non pe_non))))))))
abbrev s_behind_call : Stmt := (topS 23)
theorem sc_behind_call : FnScope ["tied", "bits", "part"] ["tied", "bits", "part"] (defScope s_behind_call) := ⟨rfl, rfl, rfl, by decide +kernel, rfl, by decide +kernel, by decide +kernel⟩
noncomputable def F_behind_call : FF := runDef 3 3 ((sSeq (sIf (dT (dCall F_told_by (dCons (dVar 0) (dCons (dVar 1) (dCons (dVar 2) dNil)))))
  (sRet (dBin oOr (dVar 1) (dBin oShl (dC (.int 1)) (dVar 2))))
  sPass)
  (sRet (dBin oAnd (dVar 1) (dUn gInv (dBin oShl (dC (.int 1)) (dVar 2)))))))
theorem ok_behind_call {f : Addr} {fd : FuncData} (F : Fun K "behind_call" "behind_call" s_behind_call f fd) (hm : mg "behind_call" = some (.ref f)) (c_told_by : DCal P w K mg base cl 1 "told_by" ["tied", "bits", "part"] F_told_by) : DCal P w K mg base cl 2 "behind_call" ["tied", "bits", "part"] F_behind_call :=
  dcal_of F sc_behind_call hm (F.binds (ps := ["tied", "bits", "part"]) fun _ _ _ _ _ _ us hl => match us, hl with | [_, _, _], _ => rfl) rfl fun cdv A outer s H E hr => (dss_cons (ds_if (dt_truth (DE.brw (de_call c_told_by (hr.mono (by decide)) (lets_of (takes_of rfl rfl rfl rfl)) (da_cons (de_var (pv 0)) (da_cons (de_var (pv 1)) (da_cons (de_var (pv 2)) da_nil))))))
  (dss_one (ds_ret (de_bor (DE.brw (de_var (pv 1))) (DE.brw (de_shl (DE.brw (de_int pe_int)) (DE.brw (de_var (pv 2))))))))
  dss_nil)
  (dss_one (ds_ret (de_band (DE.brw (de_var (pv 1))) (DE.brw (de_inv (DE.brw (de_shl (DE.brw (de_int pe_int)) (DE.brw (de_var (pv 2)))))))))))
abbrev s_is_lot : Stmt := (topS 13)
theorem sc_is_lot : FnScope ["web", "thing"] ["web", "thing"] (defScope s_is_lot) := ⟨rfl, rfl, rfl, by decide +kernel, rfl, by decide +kernel, by decide +kernel⟩
noncomputable def F_is_lot : FF := runDef 2 2 ((sRet (dCall F_is_lot_below (dCons (dUn (gFld ["Web"] "size") (dVar 0)) (dCons (dVar 1) dNil)))))
theorem ok_is_lot {f : Addr} {fd : FuncData} (F : Fun K "is_lot" "is_lot" s_is_lot f fd) (hm : mg "is_lot" = some (.ref f)) (fo_size : FldOk K cl ["Web"] "size") (c_is_lot_below : DCal P w K mg base cl 3 "is_lot_below" ["size", "thing"] F_is_lot_below) : DCal P w K mg base cl 4 "is_lot" ["web", "thing"] F_is_lot :=
  dcal_of F sc_is_lot hm (F.binds (ps := ["web", "thing"]) fun _ _ _ _ _ _ us hl => match us, hl with | [_, _], _ => rfl) rfl fun cdv A outer s H E hr => (dss_one (ds_ret (de_call c_is_lot_below (hr.mono (by decide)) (lets_of (takes_of rfl rfl rfl rfl)) (da_cons (de_fld fo_size (DE.brw (de_var (pv 0)))) (da_cons (de_var (pv 1)) da_nil)))))
abbrev s_check_stand : Stmt := (topS 15)
theorem sc_check_stand : FnScope ["web", "thing"] ["web", "thing"] (defScope s_check_stand) := ⟨rfl, rfl, rfl, by decide +kernel, rfl, by decide +kernel, by decide +kernel⟩
noncomputable def F_check_stand : FF := runDef 2 2 ((sIf (dNot (dT (dCall F_is_lot (dCons (dVar 0) (dCons (dVar 1) dNil)))))
  sNever
  sPass))
theorem ok_check_stand {f : Addr} {fd : FuncData} (F : Fun K "check_stand" "check_stand" s_check_stand f fd) (hm : mg "check_stand" = some (.ref f)) (c_is_lot : DCal P w K mg base cl 4 "is_lot" ["web", "thing"] F_is_lot) : DCal P w K mg base cl 5 "check_stand" ["web", "thing"] F_check_stand :=
  dcal_of F sc_check_stand hm (F.binds (ps := ["web", "thing"]) fun _ _ _ _ _ _ us hl => match us, hl with | [_, _], _ => rfl) rfl fun cdv A outer s H E hr => (dss_one (ds_if (dt_not (dt_truth (DE.brw (de_call c_is_lot (hr.mono (by decide)) (lets_of (takes_of rfl rfl rfl rfl)) (da_cons (de_var (pv 0)) (da_cons (de_var (pv 1)) da_nil))))))
  (dss_one ds_never)
  dss_nil))
abbrev s_is_part : Stmt := (topS 11)
theorem sc_is_part : FnScope ["web", "thing"] ["web", "thing"] (defScope s_is_part) := ⟨rfl, rfl, rfl, by decide +kernel, rfl, by decide +kernel, by decide +kernel⟩
noncomputable def F_is_part : FF := runDef 2 2 ((sRet (dCall F_is_number (dCons (dVar 1) (dCons (dC (.int 0)) (dCons (dBin oSub (dUn (gFld ["Web"] "size") (dVar 0)) (dC (.int 1))) dNil))))))
theorem ok_is_part {f : Addr} {fd : FuncData} (F : Fun K "is_part" "is_part" s_is_part f fd) (hm : mg "is_part" = some (.ref f)) (fo_size : FldOk K cl ["Web"] "size") (c_is_number : DCal P w K mg base cl 2 "is_number" ["thing", "least", "most"] F_is_number) : DCal P w K mg base cl 3 "is_part" ["web", "thing"] F_is_part :=
  dcal_of F sc_is_part hm (F.binds (ps := ["web", "thing"]) fun _ _ _ _ _ _ us hl => match us, hl with | [_, _], _ => rfl) rfl fun cdv A outer s H E hr => (dss_one (ds_ret (de_call c_is_number (hr.mono (by decide)) (lets_of (takes_of rfl rfl rfl rfl)) (da_cons (de_var (pv 1)) (da_cons (de_int pe_int) (da_cons (de_sub (DE.brw (de_fld fo_size (DE.brw (de_var (pv 0))))) (DE.brw (de_int pe_int))) da_nil))))))
abbrev s_is_row : Stmt := (topS 21)
theorem sc_is_row : FnScope ["web", "thing", "part"] ["web", "thing"] (defScope s_is_row) := ⟨rfl, rfl, rfl, by decide +kernel, rfl, by decide +kernel, by decide +kernel⟩
noncomputable def F_is_row : FF := runDef 2 3 ((sSeq (sIf (dOr (dNot (dT (dUn (gIsa2 "list" "tuple" tbF tbF) (dVar 1)))) (dBinT oGt (dFn (fn1 gLen) (dCons (dVar 1) dNil)) (dC (.int 1000))))
  (sRet (dC (.bl false)))
  sPass)
  (sSeq (sFor (iSeq (dVar 1)) (tgName 2)
  (sIf (dNot (dT (dCall F_is_part (dCons (dVar 0) (dCons (dVar 2) dNil)))))
  (sRet (dC (.bl false)))
  sPass))
  (sRet (dC (.bl true))))))
theorem ok_is_row {f : Addr} {fd : FuncData} (F : Fun K "is_row" "is_row" s_is_row f fd) (hm : mg "is_row" = some (.ref f)) (z_isinstance : mg "isinstance" = none) (z_len : mg "len" = none) (z_list : mg "list" = none) (z_tuple : mg "tuple" = none) (h_MOST_CALLS : ∃ t, mg "MOST_CALLS" = some (.int 1000 t)) (is_list : IsaOk K cl (.type "list") tbF) (is_tuple : IsaOk K cl (.type "tuple") tbF) (c_is_part : DCal P w K mg base cl 3 "is_part" ["web", "thing"] F_is_part) : DCal P w K mg base cl 4 "is_row" ["web", "thing"] F_is_row :=
  dcal_of F sc_is_row hm (F.binds (ps := ["web", "thing"]) fun _ _ _ _ _ _ us hl => match us, hl with | [_, _], _ => rfl) rfl fun cdv A outer s H E hr => (dss_cons (ds_if (DW.dt (dw_or (dt_not (dt_truth (DE.brw (de_isa2 z_isinstance is_list is_tuple (DE.brw (de_var (pv 1))) (pe_bltn (v := .ty "list") (by rfl) z_list (by decide +kernel) rfl) (pe_bltn (v := .ty "tuple") (by rfl) z_tuple (by decide +kernel) rfl))))) (dw_or1 (dt_gt (DE.brw (de_len z_len (da_cons (DE.brw (de_var (pv 1))) da_nil))) (DE.brw (de_cst h_MOST_CALLS))))))
  (dss_one (ds_ret (de_bl pe_bl)))
  dss_nil)
  (dss_cons (ds_for (passes_of rfl) rfl (di_seq (de_var (pv 1))) (dg_name (pg_name (i := 2) sc_is_row.nd rfl (by first | exact Or.inl rfl | exact Or.inr rfl)))
  (dss_one (ds_if (dt_not (dt_truth (DE.brw (de_call c_is_part (hr.mono (by decide)) (lets_of (takes_of rfl rfl rfl rfl)) (da_cons (de_var (pv 0)) (da_cons (de_var (pv 2)) da_nil))))))
  (dss_one (ds_ret (de_bl pe_bl)))
  dss_nil)))
  (dss_one (ds_ret (de_bl pe_bl)))))
abbrev s_same_log : Stmt := (topS 42)
theorem sc_same_log : FnScope ["web", "stand", "row", "tied", "bits", "calls", "part"] ["web", "stand", "row"] (defScope s_same_log) := ⟨rfl, rfl, rfl, by decide +kernel, rfl, by decide +kernel, by decide +kernel⟩
noncomputable def F_same_log : FF := runDef 3 7 ((sSeq (sDrop (dCall F_check_stand (dCons (dVar 0) (dCons (dVar 1) dNil))))
  (sSeq (sIf (dNot (dT (dCall F_is_row (dCons (dVar 0) (dCons (dVar 2) dNil)))))
  sNever
  sPass)
  (sSeq (sIf (dBinT oGt (dFn (fn1 gLen) (dCons (dVar 2) dNil)) (dC (.int 200)))
  sNever
  sPass)
  (sSeq (sIf (dBinT oGt (dUn (gFld ["Web"] "size") (dVar 0)) (dC (.int 12)))
  sNever
  sPass)
  (sSeq (sSet 3 (dCall F_tied_bits (dCons (dVar 0) dNil)))
  (sSeq (sSet 4 (dCall F_bits_of (dCons (dVar 1) dNil)))
  (sSeq (sSetO 5 (dLst dNil))
  (sSeq (sFor (iSeq (dVar 2)) (tgName 6)
  (sSeq (sAppO 5 (dTup (dCons (dVar 6) (dCons (dCall F_told_by (dCons (dVar 3) (dCons (dVar 4) (dCons (dVar 6) dNil)))) dNil))))
  (sSet 4 (dCall F_behind_call (dCons (dVar 3) (dCons (dVar 4) (dCons (dVar 6) dNil)))))))
  (sRet (dTup (dCons (dUn (gFld ["Web"] "size") (dVar 0)) (dCons (dVar 1) (dCons (dFn (fn1 gTuple) (dCons (dVarB 5) dNil)) dNil))))))))))))))
theorem ok_same_log {f : Addr} {fd : FuncData} (F : Fun K "same_log" "same_log" s_same_log f fd) (hm : mg "same_log" = some (.ref f)) (z_len : mg "len" = none) (z_tuple : mg "tuple" = none) (h_MOST_LOGGED_CALLS : ∃ t, mg "MOST_LOGGED_CALLS" = some (.int 200 t)) (h_MOST_LOGGED_PARTS : ∃ t, mg "MOST_LOGGED_PARTS" = some (.int 12 t)) (fo_size : FldOk K cl ["Web"] "size") (c_behind_call : DCal P w K mg base cl 2 "behind_call" ["tied", "bits", "part"] F_behind_call) (c_bits_of : DCal P w K mg base cl 1 "bits_of" ["lot"] F_bits_of) (c_check_stand : DCal P w K mg base cl 5 "check_stand" ["web", "thing"] F_check_stand) (c_is_row : DCal P w K mg base cl 4 "is_row" ["web", "thing"] F_is_row) (c_tied_bits : DCal P w K mg base cl 1 "tied_bits" ["web"] F_tied_bits) (c_told_by : DCal P w K mg base cl 1 "told_by" ["tied", "bits", "part"] F_told_by) : DCal P w K mg base cl 6 "same_log" ["web", "stand", "row"] F_same_log :=
  dcal_of F sc_same_log hm (F.binds (ps := ["web", "stand", "row"]) fun _ _ _ _ _ _ us hl => match us, hl with | [_, _, _], _ => rfl) rfl fun cdv A outer s H E hr => (dss_cons (ds_drop (de_call c_check_stand (hr.mono (by decide)) (lets_of (takes_of rfl rfl rfl rfl)) (da_cons (de_var (pv 0)) (da_cons (de_var (pv 1)) da_nil))))
  (dss_cons (ds_if (dt_not (dt_truth (DE.brw (de_call c_is_row (hr.mono (by decide)) (lets_of (takes_of rfl rfl rfl rfl)) (da_cons (de_var (pv 0)) (da_cons (de_var (pv 2)) da_nil))))))
  (dss_one ds_never)
  dss_nil)
  (dss_cons (ds_if (dt_gt (DE.brw (de_len z_len (da_cons (DE.brw (de_var (pv 2))) da_nil))) (DE.brw (de_cst h_MOST_LOGGED_CALLS)))
  (dss_one ds_never)
  dss_nil)
  (dss_cons (ds_if (dt_gt (DE.brw (de_fld fo_size (DE.brw (de_var (pv 0))))) (DE.brw (de_cst h_MOST_LOGGED_PARTS)))
  (dss_one ds_never)
  dss_nil)
  (dss_cons (ds_set (i := 3) (fun _ h => ps_set (i := 3) sc_same_log.nd rfl (by first | exact Or.inl rfl | exact Or.inr rfl) h) (de_call c_tied_bits (hr.mono (by decide)) (lets_of (takes_of rfl rfl rfl rfl)) (da_cons (de_var (pv 0)) da_nil)))
  (dss_cons (ds_set (i := 4) (fun _ h => ps_set (i := 4) sc_same_log.nd rfl (by first | exact Or.inl rfl | exact Or.inr rfl) h) (de_call c_bits_of (hr.mono (by decide)) (lets_of (takes_of rfl rfl rfl rfl)) (da_cons (de_var (pv 1)) da_nil)))
  (dss_cons (ds_setO (i := 5) (fun _ h => ps_set (i := 5) sc_same_log.nd rfl (by first | exact Or.inl rfl | exact Or.inr rfl) h) (df_lst da_nil))
  (dss_cons (ds_for (passes_of rfl) rfl (di_seq (de_var (pv 2))) (dg_name (pg_name (i := 6) sc_same_log.nd rfl (by first | exact Or.inl rfl | exact Or.inr rfl)))
  (dss_cons (ds_appO (i := 5) (fun _ _ ho ha => ps_expr (pe_bm PySem.F.plainAttrs_list PySem.F.slot_list_append PySem.F.type_list_append mt_append ho (pa_cons ha pa_nil))) (pv 5) (de_tup (da_cons (de_var (pv 6)) (da_cons (de_call c_told_by (hr.mono (by decide)) (lets_of (takes_of rfl rfl rfl rfl)) (da_cons (de_var (pv 3)) (da_cons (de_var (pv 4)) (da_cons (de_var (pv 6)) da_nil)))) da_nil))))
  (dss_one (ds_set (i := 4) (fun _ h => ps_set (i := 4) sc_same_log.nd rfl (by first | exact Or.inl rfl | exact Or.inr rfl) h) (de_call c_behind_call (hr.mono (by decide)) (lets_of (takes_of rfl rfl rfl rfl)) (da_cons (de_var (pv 3)) (da_cons (de_var (pv 4)) (da_cons (de_var (pv 6)) da_nil))))))))
  (dss_one (ds_ret (de_tup (da_cons (de_fld fo_size (DE.brw (de_var (pv 0)))) (da_cons (de_var (pv 1)) (da_cons (de_tuple z_tuple (da_cons (db_var (pv 5)) da_nil)) da_nil))))))))))))))
end
end DL

set_option maxHeartbeats 4000000
namespace DL
open PySem PySem.Spec PyProof.Rows L2 Bs
section
variable {P : Program} {w : PySem.World} {K : PySem.W.Frag} {mg : Str → Option Value} {base : Heap} {cl : String → Addr}
abbrev s_wrong_call : Stmt := (topS 40)
theorem sc_wrong_call : FnScope ["web", "log"] ["web", "log"] (defScope s_wrong_call) := ⟨rfl, rfl, rfl, by decide +kernel, rfl, by decide +kernel, by decide +kernel⟩
noncomputable def F_wrong_call : FF := runDef 2 2 ((sSeq (sDrop (dCall F_check_log (dCons (dVar 1) dNil)))
  (sSeq (sIf (dBinT oNe (dUn (gFld ["Web"] "size") (dVar 0)) (dBin oIx (dVar 1) (dC (.int 0))))
  sNever
  sPass)
  (sRet (dCall F_first_wrong (dCons (dVar 0) (dCons (dVar 1) dNil)))))))
theorem ok_wrong_call {f : Addr} {fd : FuncData} (F : Fun K "wrong_call" "wrong_call" s_wrong_call f fd) (hm : mg "wrong_call" = some (.ref f)) (fo_size : FldOk K cl ["Web"] "size") (c_check_log : DCal P w K mg base cl 5 "check_log" ["thing"] F_check_log) (c_first_wrong : DCal P w K mg base cl 4 "first_wrong" ["web", "log"] F_first_wrong) : DCal P w K mg base cl 6 "wrong_call" ["web", "log"] F_wrong_call :=
  dcal_of F sc_wrong_call hm (F.binds (ps := ["web", "log"]) fun _ _ _ _ _ _ us hl => match us, hl with | [_, _], _ => rfl) rfl fun cdv A outer s H E hr => (dss_cons (ds_drop (de_call c_check_log (hr.mono (by decide)) (lets_of (takes_of rfl rfl rfl rfl)) (da_cons (de_var (pv 1)) da_nil)))
  (dss_cons (ds_if (dt_ne hr (DE.brw (de_fld fo_size (DE.brw (de_var (pv 0))))) (DE.brw (de_ix (DE.brw (de_var (pv 1))) (DE.brw (de_int pe_int)))))
  (dss_one ds_never)
  dss_nil)
  (dss_one (ds_ret (de_call c_first_wrong (hr.mono (by decide)) (lets_of (takes_of rfl rfl rfl rfl)) (da_cons (de_var (pv 0)) (da_cons (de_var (pv 1)) da_nil)))))))
abbrev s_law : Stmt := (topS 57)
theorem sc_law : FnScope ["script", "tape", "great", "web", "log", "near", "at", "other", "made", "due", "told", "part", "row", "stand", "same"] ["script"] (defScope s_law) := ⟨rfl, rfl, rfl, by decide +kernel, rfl, by decide +kernel, by decide +kernel⟩
noncomputable def F_law : FF := runDef 1 15 ((sSeq (sSet 1 (dCall F__law_tape (dCons (dVar 0) dNil)))
  (sSeq (sSet 2 (dFn (fn1 gInt) (dCons (dBin oEq (dCall F__law_pick (dCons (dVar 1) (dCons (dC (.int 5)) dNil))) (dC (.int 0))) dNil)))
  (sSeq (sSet 3 (dCall F__law_web (dCons (dVar 1) (dCons (dBin oIx (dLst (dCons (dC (.int 8)) (dCons (dC (.int 12)) dNil))) (dVar 2)) dNil))))
  (sSeq (sSet 4 (dCall F__law_log (dCons (dVar 1) (dCons (dVar 3) (dCons (dBin oIx (dLst (dCons (dC (.int 21)) (dCons (dC (.int 201)) dNil))) (dVar 2)) dNil)))))
  (sSeq (sIf (dBinT oNe (dCall F_behind (dCons (dVar 4) dNil)) (dBin oIx (dCall F__law_stands (dCons (dVar 4) dNil)) (dUn gNeg (dC (.int 1)))))
  (sRet (dC (.bl false)))
  sPass)
  (sSeq (sSetO 5 (dLst (dCons (dVar 3) (dCons (dCall F__law_web (dCons (dVar 1) (dCons (dC (.int 8)) dNil))) dNil))))
  (sSeq (sIf (dBinT oGt (dFn (fn1 gLen) (dCons (dBin oIx (dVar 3) (dC (.int 1))) dNil)) (dC (.int 0)))
  (sSeq (sSet 6 (dCall F__law_pick (dCons (dVar 1) (dCons (dFn (fn1 gLen) (dCons (dBin oIx (dVar 3) (dC (.int 1))) dNil)) dNil))))
  (sAppO 5 (dTup (dCons (dBin oIx (dVar 3) (dC (.int 0))) (dCons (dBin oAdd (dSl (dBin oIx (dVar 3) (dC (.int 1))) dNoPart (dPart (dVar 6))) (dSl (dBin oIx (dVar 3) (dC (.int 1))) (dPart (dBin oAdd (dVar 6) (dC (.int 1)))) dNoPart)) dNil)))))
  sPass)
  (sSeq (sFrz [5] (sFor (iSeq (dVar 5)) (tgName 7)
  (sSeq (sSet 8 (dMk "Web" F_Web_init (dCons (dBin oIx (dVar 7) (dC (.int 0))) (dCons (dBin oIx (dVar 7) (dC (.int 1))) dNil))))
  (sIf (dBinT oNe (dBin oIx (dVar 7) (dC (.int 0))) (dBin oIx (dVar 3) (dC (.int 0))))
  (sIf (dBinT oIsNot (dCall F_fits (dCons (dVar 8) (dCons (dVar 4) dNil))) (dC (.bl false)))
  (sRet (dC (.bl false)))
  sPass)
  (sSeq (sSet 9 (dCall F__law_wrong (dCons (dVar 7) (dCons (dVar 4) dNil))))
  (sSeq (sSet 10 (dCall F_wrong_call (dCons (dVar 8) (dCons (dVar 4) dNil))))
  (sIf (dOr (dBinT oNe (dVar 10) (dVar 9)) (dOr (dT (dUn (gIsa "bool" tbF) (dVar 10))) (dNot (dT (dCall F__law_flag (dCons (dCall F_fits (dCons (dVar 8) (dCons (dVar 4) dNil))) (dCons (dBin oIs (dVar 9) (dC .non)) dNil)))))))
  (sRet (dC (.bl false)))
  sPass)))))))
  (sSeq (sSet 12 (dLc (iSeq (dBin oIx (dVar 4) (dC (.int 2)))) [11, 10] (tgTup (tgCons (tgName 11) (tgCons (tgName 10) tgNil))) dYes (dVar 11)))
  (sSeq (sSet 9 (dAlloc (dLst dNil)))
  (sSeq (sSet 13 (dBin oIx (dVar 4) (dC (.int 1))))
  (sSeq (sFor (iSeq (dVar 12)) (tgName 11)
  (sSeq (sAppR (dVar 9) (dTup (dCons (dVar 11) (dCons (dCall F__law_says (dCons (dVar 3) (dCons (dVar 13) (dCons (dVar 11) dNil)))) dNil))))
  (sSet 13 (dCall F__law_called (dCons (dVar 3) (dCons (dVar 13) (dCons (dVar 11) dNil)))))))
  (sSeq (sSet 8 (dMk "Web" F_Web_init (dCons (dBin oIx (dVar 3) (dC (.int 0))) (dCons (dBin oIx (dVar 3) (dC (.int 1))) dNil))))
  (sSeq (sSet 14 (dCall F_same_log (dCons (dVar 8) (dCons (dBin oIx (dVar 4) (dC (.int 1))) (dCons (dVar 12) dNil)))))
  (sRet (dAndV (dBin oEq (dFn (fn1 gRepr) (dCons (dVar 14) dNil)) (dFn (fn1 gRepr) (dCons (dTup (dCons (dBin oIx (dVar 3) (dC (.int 0))) (dCons (dBin oIx (dVar 4) (dC (.int 1))) (dCons (dFn (fn1 gTuple) (dCons (dVar 9) dNil)) dNil)))) dNil))) (dBin oIs (dCall F_fits (dCons (dVar 8) (dCons (dVar 14) dNil))) (dC (.bl true))))))))))))))))))))
theorem ok_law {f : Addr} {fd : FuncData} (F : Fun K "law" "law" s_law f fd) (z_bool : mg "bool" = none) (z_int : mg "int" = none) (z_isinstance : mg "isinstance" = none) (z_len : mg "len" = none) (z_repr : mg "repr" = none) (z_tuple : mg "tuple" = none) (is_bool : IsaOk K cl (.type "bool") tbF) (c__law_called : DCal P w K mg base cl 3 "_law_called" ["web", "stand", "part"] F__law_called) (c__law_flag : DCal P w K mg base cl 1 "_law_flag" ["told", "due"] F__law_flag) (c__law_log : DCal P w K mg base cl 3 "_law_log" ["tape", "web", "most"] F__law_log) (c__law_pick : DCal P w K mg base cl 1 "_law_pick" ["tape", "size"] F__law_pick) (c__law_says : DCal P w K mg base cl 2 "_law_says" ["web", "stand", "part"] F__law_says) (c__law_stands : DCal P w K mg base cl 1 "_law_stands" ["log"] F__law_stands) (c__law_tape : DCal P w K mg base cl 1 "_law_tape" ["script"] F__law_tape) (c__law_web : DCal P w K mg base cl 2 "_law_web" ["tape", "most"] F__law_web) (c__law_wrong : DCal P w K mg base cl 3 "_law_wrong" ["web", "log"] F__law_wrong) (c_behind : DCal P w K mg base cl 6 "behind" ["log"] F_behind) (c_fits : DCal P w K mg base cl 6 "fits" ["web", "log"] F_fits) (c_same_log : DCal P w K mg base cl 6 "same_log" ["web", "stand", "row"] F_same_log) (c_wrong_call : DCal P w K mg base cl 6 "wrong_call" ["web", "log"] F_wrong_call) (mk_Web : DMk P w K mg base cl 5 "Web" "Web" ["self", "size", "ties"] F_Web_init) : FnG P w K mg base 7 f fd ["script"] (spF ⟨K, cl⟩ F_law) :=
  fn_ofG F sc_law rfl fun cdv A outer s H E hr hgu => (dss_cons (ds_set (i := 1) (fun _ h => ps_set (i := 1) sc_law.nd rfl (by first | exact Or.inl rfl | exact Or.inr rfl) h) (de_call c__law_tape (hr.mono (by decide)) (lets_of (takes_of rfl rfl rfl rfl)) (da_cons (de_var (pv 0)) da_nil)))
  (dss_cons (ds_set (i := 2) (fun _ h => ps_set (i := 2) sc_law.nd rfl (by first | exact Or.inl rfl | exact Or.inr rfl) h) (de_int1 z_int (da_cons (DE.brw (de_eq hr (DE.brw (de_call c__law_pick (hr.mono (by decide)) (lets_of (takes_of rfl rfl rfl rfl)) (da_cons (de_var (pv 1)) (da_cons (de_int pe_int) da_nil)))) (DE.brw (de_int pe_int)))) da_nil)))
  (dss_cons (ds_set (i := 3) (fun _ h => ps_set (i := 3) sc_law.nd rfl (by first | exact Or.inl rfl | exact Or.inr rfl) h) (de_call c__law_web (hr.mono (by decide)) (lets_of (takes_of rfl rfl rfl rfl)) (da_cons (de_var (pv 1)) (da_cons (de_ix (DE.frb (df_lst (da_cons (de_int pe_int) (da_cons (de_int pe_int) da_nil)))) (DE.brw (de_var (pv 2)))) da_nil))))
  (dss_cons (ds_set (i := 4) (fun _ h => ps_set (i := 4) sc_law.nd rfl (by first | exact Or.inl rfl | exact Or.inr rfl) h) (de_call c__law_log (hr.mono (by decide)) (lets_of (takes_of rfl rfl rfl rfl)) (da_cons (de_var (pv 1)) (da_cons (de_var (pv 3)) (da_cons (de_ix (DE.frb (df_lst (da_cons (de_int pe_int) (da_cons (de_int pe_int) da_nil)))) (DE.brw (de_var (pv 2)))) da_nil)))))
  (dss_cons (ds_if (dt_ne hr (DE.brw (de_call c_behind (hr.mono (by decide)) (lets_of (takes_of rfl rfl rfl rfl)) (da_cons (de_var (pv 4)) da_nil))) (DE.brw (de_ix (DE.brw (de_call c__law_stands (hr.mono (by decide)) (lets_of (takes_of rfl rfl rfl rfl)) (da_cons (de_var (pv 4)) da_nil))) (DE.brw (de_neg (DE.brw (de_int pe_int)))))))
  (dss_one (ds_ret (de_bl pe_bl)))
  dss_nil)
  (dss_cons (ds_setO (i := 5) (fun _ h => ps_set (i := 5) sc_law.nd rfl (by first | exact Or.inl rfl | exact Or.inr rfl) h) (df_lst (da_cons (de_var (pv 3)) (da_cons (de_call c__law_web (hr.mono (by decide)) (lets_of (takes_of rfl rfl rfl rfl)) (da_cons (de_var (pv 1)) (da_cons (de_int pe_int) da_nil))) da_nil))))
  (dss_cons (ds_if (dt_gt (DE.brw (de_len z_len (da_cons (DE.brw (de_ix (DE.brw (de_var (pv 3))) (DE.brw (de_int pe_int)))) da_nil))) (DE.brw (de_int pe_int)))
  (dss_cons (ds_set (i := 6) (fun _ h => ps_set (i := 6) sc_law.nd rfl (by first | exact Or.inl rfl | exact Or.inr rfl) h) (de_call c__law_pick (hr.mono (by decide)) (lets_of (takes_of rfl rfl rfl rfl)) (da_cons (de_var (pv 1)) (da_cons (de_len z_len (da_cons (DE.brw (de_ix (DE.brw (de_var (pv 3))) (DE.brw (de_int pe_int)))) da_nil)) da_nil))))
  (dss_one (ds_appO (i := 5) (fun _ _ ho ha => ps_expr (pe_bm PySem.F.plainAttrs_list PySem.F.slot_list_append PySem.F.type_list_append mt_append ho (pa_cons ha pa_nil))) (pv 5) (de_tup (da_cons (de_ix (DE.brw (de_var (pv 3))) (DE.brw (de_int pe_int))) (da_cons (de_add (DE.brw (de_slice (DE.brw (de_ix (DE.brw (de_var (pv 3))) (DE.brw (de_int pe_int)))) do_none (do_some (de_var (pv 6))))) (DE.brw (de_slice (DE.brw (de_ix (DE.brw (de_var (pv 3))) (DE.brw (de_int pe_int)))) (do_some (de_add (DE.brw (de_var (pv 6))) (DE.brw (de_int pe_int)))) do_none))) da_nil))))))
  dss_nil)
  (dss_cons (ds_frz [5] (ds_for (passes_of rfl) rfl (di_seq (de_var (pv 5))) (dg_name (pg_name (i := 7) sc_law.nd rfl (by first | exact Or.inl rfl | exact Or.inr rfl)))
  (dss_cons (ds_set (i := 8) (fun _ h => ps_set (i := 8) sc_law.nd rfl (by first | exact Or.inl rfl | exact Or.inr rfl) h) (DE.ofFresh (df_mk mk_Web (hr.mono (by decide)) (lets_of (takes_of rfl rfl rfl rfl)) (da_cons (de_ix (DE.brw (de_var (pv 7))) (DE.brw (de_int pe_int))) (da_cons (de_ix (DE.brw (de_var (pv 7))) (DE.brw (de_int pe_int))) da_nil)))))
  (dss_one (ds_if (dt_ne hr (DE.brw (de_ix (DE.brw (de_var (pv 7))) (DE.brw (de_int pe_int)))) (DE.brw (de_ix (DE.brw (de_var (pv 3))) (DE.brw (de_int pe_int)))))
  (dss_one (ds_if (dt_isnot (DE.brw (de_call c_fits (hr.mono (by decide)) (lets_of (takes_of rfl rfl rfl rfl)) (da_cons (de_var (pv 8)) (da_cons (de_var (pv 4)) da_nil)))) (DE.brw (de_bl pe_bl)))
  (dss_one (ds_ret (de_bl pe_bl)))
  dss_nil))
  (dss_cons (ds_set (i := 9) (fun _ h => ps_set (i := 9) sc_law.nd rfl (by first | exact Or.inl rfl | exact Or.inr rfl) h) (de_call c__law_wrong (hr.mono (by decide)) (lets_of (takes_of rfl rfl rfl rfl)) (da_cons (de_var (pv 7)) (da_cons (de_var (pv 4)) da_nil))))
  (dss_cons (ds_set (i := 10) (fun _ h => ps_set (i := 10) sc_law.nd rfl (by first | exact Or.inl rfl | exact Or.inr rfl) h) (de_call c_wrong_call (hr.mono (by decide)) (lets_of (takes_of rfl rfl rfl rfl)) (da_cons (de_var (pv 8)) (da_cons (de_var (pv 4)) da_nil))))
  (dss_one (ds_if (DW.dt (dw_or (dt_ne hr (DE.brw (de_var (pv 10))) (DE.brw (de_var (pv 9)))) (dw_or (dt_truth (DE.brw (de_isa z_isinstance is_bool (DE.brw (de_var (pv 10))) (pe_bltn (v := .ty "bool") (by rfl) z_bool (by decide +kernel) rfl)))) (dw_or1 (dt_not (dt_truth (DE.brw (de_call c__law_flag (hr.mono (by decide)) (lets_of (takes_of rfl rfl rfl rfl)) (da_cons (de_call c_fits (hr.mono (by decide)) (lets_of (takes_of rfl rfl rfl rfl)) (da_cons (de_var (pv 8)) (da_cons (de_var (pv 4)) da_nil))) (da_cons (de_is (DE.brw (de_var (pv 9))) (DE.brw (de_non pe_non))) da_nil))))))))))
  (dss_one (ds_ret (de_bl pe_bl)))
  dss_nil)))))))))
  (dss_cons (ds_setFOf (i := 12) (ps_lcA (i := 12) (own := [("part", 11), ("told", 10)]) (by rfl) sc_law.nd rfl rfl (sw_true rfl rfl rfl (by decide +kernel)) (di_seq (de_ix (DE.brw (de_var (pv 4))) (DE.brw (de_int pe_int)))) (blkOk_by (own := [("part", 11), ("told", 10)]) (N := ["script", "tape", "great", "web", "log", "near", "at", "other", "made", "due", "told", "part", "row", "stand", "same"]) (sc := defScope s_law) (by decide +kernel)) (by decide) (fun _ _ _ _ _ => (dg_tup rfl (dgs_cons (dg_name (pg_name (i := 11) sc_law.nd rfl (by first | exact Or.inl rfl | exact Or.inr rfl))) (dgs_cons (dg_name (pg_name (i := 10) sc_law.nd rfl (by first | exact Or.inl rfl | exact Or.inr rfl))) dgs_nil)) (fun _ _ _ h => tgCons_len (fun _ _ _ h => tgCons_len (fun _ _ _ h => tgNil_len h) h) h))) (fun _ _ _ _ _ => dts_nil) (fun _ _ _ _ _ => (de_var (pv 11)))))
  (dss_cons (ds_set (i := 9) (fun _ h => ps_set (i := 9) sc_law.nd rfl (by first | exact Or.inl rfl | exact Or.inr rfl) h) (de_alloc (df_lst da_nil)))
  (dss_cons (ds_set (i := 13) (fun _ h => ps_set (i := 13) sc_law.nd rfl (by first | exact Or.inl rfl | exact Or.inr rfl) h) (de_ix (DE.brw (de_var (pv 4))) (DE.brw (de_int pe_int))))
  (dss_cons (ds_for (passes_of rfl) rfl (di_seq (de_var (pv 12))) (dg_name (pg_name (i := 11) sc_law.nd rfl (by first | exact Or.inl rfl | exact Or.inr rfl)))
  (dss_cons (ds_appR (fun _ _ ho ha => ps_expr (pe_bm PySem.F.plainAttrs_list PySem.F.slot_list_append PySem.F.type_list_append mt_append ho (pa_cons ha pa_nil))) (de_var (pv 9)) (de_tup (da_cons (de_var (pv 11)) (da_cons (de_call c__law_says (hr.mono (by decide)) (lets_of (takes_of rfl rfl rfl rfl)) (da_cons (de_var (pv 3)) (da_cons (de_var (pv 13)) (da_cons (de_var (pv 11)) da_nil)))) da_nil))))
  (dss_one (ds_set (i := 13) (fun _ h => ps_set (i := 13) sc_law.nd rfl (by first | exact Or.inl rfl | exact Or.inr rfl) h) (de_call c__law_called (hr.mono (by decide)) (lets_of (takes_of rfl rfl rfl rfl)) (da_cons (de_var (pv 3)) (da_cons (de_var (pv 13)) (da_cons (de_var (pv 11)) da_nil))))))))
  (dss_cons (ds_set (i := 8) (fun _ h => ps_set (i := 8) sc_law.nd rfl (by first | exact Or.inl rfl | exact Or.inr rfl) h) (DE.ofFresh (df_mk mk_Web (hr.mono (by decide)) (lets_of (takes_of rfl rfl rfl rfl)) (da_cons (de_ix (DE.brw (de_var (pv 3))) (DE.brw (de_int pe_int))) (da_cons (de_ix (DE.brw (de_var (pv 3))) (DE.brw (de_int pe_int))) da_nil)))))
  (dss_cons (ds_set (i := 14) (fun _ h => ps_set (i := 14) sc_law.nd rfl (by first | exact Or.inl rfl | exact Or.inr rfl) h) (de_call c_same_log (hr.mono (by decide)) (lets_of (takes_of rfl rfl rfl rfl)) (da_cons (de_var (pv 8)) (da_cons (de_ix (DE.brw (de_var (pv 4))) (DE.brw (de_int pe_int))) (da_cons (de_var (pv 12)) da_nil)))))
  (dss_one (ds_ret (de_and (de_eq hr (DE.brw (de_repr hgu hr z_repr (da_cons (DE.brw (de_var (pv 14))) da_nil))) (DE.brw (de_repr hgu hr z_repr (da_cons (DE.brw (de_tup (da_cons (de_ix (DE.brw (de_var (pv 3))) (DE.brw (de_int pe_int))) (da_cons (de_ix (DE.brw (de_var (pv 4))) (DE.brw (de_int pe_int))) (da_cons (de_tuple z_tuple (da_cons (DE.brw (de_var (pv 9))) da_nil)) da_nil))))) da_nil)))) (de_one (de_is (DE.brw (de_call c_fits (hr.mono (by decide)) (lets_of (takes_of rfl rfl rfl rfl)) (da_cons (de_var (pv 8)) (da_cons (de_var (pv 14)) da_nil)))) (DE.brw (de_bl pe_bl)))))))))))))))))))))
end
end DL

set_option maxHeartbeats 4000000
namespace DL
open PySem PySem.Spec PyProof.Rows L2 Bs
section
variable {env env1 env2 : En} {st s1 s2 s3 : Sto} {fa fb fc : EF} {tf tg : TF} {af : AF} {d x y z : D} {l ds : List D} {i j : Nat} {g g' : Op2} {b : Bool} {F : FF} {f h : SF} {Q : RS → Prop} {r : RS}
theorem e_var (hh : env[i]? = some (.fz d)) : dVar i env st = .ok d st := by unfold dVar; rw [hh]
theorem e_varB (hh : env[i]? = some (.fz d)) : dVarB i env st = .ok d st := by unfold dVarB; rw [hh]
theorem e_varO (hh : env[i]? = some (.ow d)) : dVarB i env st = .ok d st := by unfold dVarB; rw [hh]
theorem e_c : dC d env st = .ok d st := rfl
theorem e_nil : dNil env st = .ok [] st := rfl
theorem e_cons (h1 : fa env st = .ok d s1) (h2 : af env s1 = .ok l s2) : dCons fa af env st = .ok (d :: l) s2 := by unfold dCons; rw [h1]; show R.bind (af env s1) _ = _; rw [h2]; rfl
theorem e_bin (h1 : fa env st = .ok x s1) (h2 : fb env s1 = .ok y s2) (h3 : g s2 x y = some z) : dBin g fa fb env st = .ok z s2 := by unfold dBin; rw [h1]; show R.bind (fb env s1) _ = _; rw [h2]; show dOpt (g s2 x y) s2 = _; rw [h3]; rfl
theorem t_bin (h1 : fa env st = .ok x s1) (h2 : fb env s1 = .ok y s2) (h3 : g s2 x y = some (.bl b)) : dBinT g fa fb env st = .ok b s2 := by unfold dBinT; rw [e_bin h1 h2 h3]; rfl
theorem t_tb (h1 : fa env st = .ok (.bl b) s1) : dTB fa env st = .ok b s1 := by unfold dTB; rw [h1]; rfl
theorem e_fn {gg : Sto → List D → Option D} (h1 : af env st = .ok l s1) (h2 : gg s1 l = some z) : dFn gg af env st = .ok z s1 := by unfold dFn; rw [h1]; show dOpt (gg s1 l) s1 = _; rw [h2]; rfl
theorem e_un {gg : D → Option D} (h1 : fa env st = .ok x s1) (h2 : gg (deref s1 x) = some z) : dUn gg fa env st = .ok z s1 := by unfold dUn; rw [h1]; show dOpt (gg (deref s1 x)) s1 = _; rw [h2]; rfl
theorem t_truth (h1 : fa env st = .ok x s1) (h2 : truth (deref s1 x) = some b) : dT fa env st = .ok b s1 := by unfold dT; rw [h1]; show tOpt (truth (deref s1 x)) s1 = _; rw [h2]; rfl
theorem t_not (h1 : tf env st = .ok b s1) : dNot tf env st = .ok (!b) s1 := by unfold dNot; rw [h1]; rfl
theorem t_and {c : Bool} (h1 : tf env st = .ok b s1) (h2 : b = true → tg env s1 = .ok c s1) : dAnd tf tg env st = .ok (b && c) s1 := by unfold dAnd; rw [h1]; cases b; exact rfl; exact h2 rfl
theorem t_or {c : Bool} (h1 : tf env st = .ok b s1) (h2 : b = false → tg env s1 = .ok c s1) : dOr tf tg env st = .ok (b || c) s1 := by unfold dOr; rw [h1]; cases b; exact h2 rfl; exact rfl
theorem v_and {c : Bool} (h1 : fa env st = .ok (.bl b) s1) (h2 : b = true → fb env s1 = .ok (.bl c) s1) : dAndV fa fb env st = .ok (.bl (b && c)) s1 := by unfold dAndV; rw [h1]; cases b; exact rfl; exact h2 rfl
theorem v_or {c : Bool} (h1 : fa env st = .ok (.bl b) s1) (h2 : b = false → fb env s1 = .ok (.bl c) s1) : dOrV fa fb env st = .ok (.bl (b || c)) s1 := by unfold dOrV; rw [h1]; cases b; exact h2 rfl; exact rfl
theorem e_tup (h1 : af env st = .ok l s1) (h2 : l.length ≤ 1000) : dTup af env st = .ok (.tup l) s1 := by unfold dTup; rw [h1]; exact if_pos h2
theorem e_lst (h1 : af env st = .ok l s1) (h2 : l.length ≤ 1000) : dLst af env st = .ok (.lst l) s1 := by unfold dLst; rw [h1]; exact if_pos h2
theorem e_alloc (h1 : fa env st = .ok d s1) : dAlloc fa env st = .ok (.ref s1.length) (s1 ++ [d]) := by unfold dAlloc; rw [h1]; rfl
theorem e_call (h1 : af env st = .ok l s1) (h2 : F l s1 = .ok d s2) : dCall F af env st = .ok d s2 := by unfold dCall; rw [h1]; exact h2
theorem e_ifT (h1 : tf env st = .ok true s1) (h2 : fa env s1 = .ok d s2) : dIf tf fa fb env st = .ok d s2 := by unfold dIf; rw [h1]; exact h2
theorem e_ifF (h1 : tf env st = .ok false s1) (h2 : fb env s1 = .ok d s2) : dIf tf fa fb env st = .ok d s2 := by unfold dIf; rw [h1]; exact h2
theorem e_chain {u : Bool} (h1 : fa env st = .ok x s1) (h2 : fb env s1 = .ok y s1) (h3 : g s1 x y = some (.bl b)) (h4 : b = true → fc env s1 = .ok z s1) (h5 : b = true → g' s1 y z = some (.bl u)) : dChain g g' fa fb fc env st = .ok (.bl (b && u)) s1 := by
  unfold dChain
  rw [h1]
  show R.bind (fb env s1) _ = _
  rw [h2]
  show (match g s1 x y with | some (.bl true) => (fc env s1).bind fun z st3 => dOpt (g' st3 y z) st3 | some (.bl false) => R.ok (.bl false) s1 | _ => R.bad) = _
  rw [h3]
  cases b with
  | false => rfl
  | true =>
    show R.bind (fc env s1) _ = _
    rw [h4 rfl]
    show dOpt (g' s1 y z) s1 = _
    rw [h5 rfl]
    rfl
theorem p_no : dNoPart env st = .ok none st := rfl
theorem p_some {i : Int} (h1 : fa env st = .ok (.int i) s1) : dPart fa env st = .ok (some i) s1 := by unfold dPart; rw [h1]; rfl
theorem e_sl {fl fh : OF} {a c : Option Int} (h1 : fa env st = .ok x s1) (h2 : fl env s1 = .ok a s2) (h3 : fh env s2 = .ok c s3) (h4 : gSl (deref s3 x) a c = some z) : dSl fa fl fh env st = .ok z s3 := by
  unfold dSl; rw [h1]; show R.bind (fl env s1) _ = _; rw [h2]; show R.bind (fh env s2) _ = _; rw [h3]; show dOpt _ s3 = _; rw [h4]; rfl
theorem o_add {i j : Int} : oAdd st (.int i) (.int j) = some (.int (i + j)) := rfl
theorem o_sub {i j : Int} : oSub st (.int i) (.int j) = some (.int (i - j)) := rfl
theorem o_le {i j : Int} : oLe st (.int i) (.int j) = some (.bl (decide (i ≤ j))) := rfl
theorem o_lt {i j : Int} : oLt st (.int i) (.int j) = some (.bl (decide (i < j))) := rfl
theorem o_gt {i j : Int} : oGt st (.int i) (.int j) = some (.bl (decide (j < i))) := rfl
theorem o_ge {i j : Int} : oGe st (.int i) (.int j) = some (.bl (decide (j ≤ i))) := rfl
theorem o_eq {i j : Int} : oEq st (.int i) (.int j) = some (.bl (decide (i = j))) := by
  show (if plain 62 (D.int i) && plain 62 (D.int j) then some (D.bl (false != deq (.int i) (.int j))) else none) = _
  rw [if_pos (by rfl)]
  by_cases hh : i = j <;> simp [deq, hh]
theorem o_ne {i j : Int} : oNe st (.int i) (.int j) = some (.bl (!decide (i = j))) := by
  show (if plain 62 (D.int i) && plain 62 (D.int j) then some (D.bl (true != deq (.int i) (.int j))) else none) = _
  rw [if_pos (by rfl)]
  by_cases hh : i = j <;> simp [deq, hh]
theorem o_mul {i j : Int} (hh : (isSmall i || isSmall j) = true) : oMul st (.int i) (.int j) = some (.int (i * j)) := if_pos hh
theorem o_mod {i j : Int} (hh : j ≠ 0) : oMod st (.int i) (.int j) = some (.int (i.fmod j)) := if_pos hh
theorem o_div {i j : Int} (hh : j ≠ 0) (h2 : j.natAbs < 1073741824) : oDiv st (.int i) (.int j) = some (.int (i.fdiv j)) := if_pos ⟨hh, h2⟩
theorem o_ixN {i : Int} {l : List D} (h1 : items (deref st x) = some l) (h2 : 0 ≤ i) (h3 : l[i.toNat]? = some z) : oIx st x (.int i) = some z := by
  show gIx st (deref st x) (.int i) = _
  unfold gIx
  dsimp only
  rw [h1]
  show atI l i = _
  unfold atI ixN
  rw [if_pos h2]
  have := (List.getElem?_eq_some_iff.mp h3).1
  rw [if_pos (by omega)]
  exact h3
theorem o_isN : oIs st x .non = some (.bl (isNon (deref st x))) := by show some (D.bl _) = _; simp
theorem o_isnotN : oIsNot st x .non = some (.bl (!isNon (deref st x))) := by show some (D.bl _) = _; simp
theorem o_mulR {i j : Int} (hh : isSmall j = true) : oMul st (.int i) (.int j) = some (.int (i * j)) := o_mul (by rw [hh, Bool.or_true])
theorem o_mulL {i j : Int} (hh : isSmall i = true) : oMul st (.int i) (.int j) = some (.int (i * j)) := o_mul (by rw [hh, Bool.true_or])
theorem isSmall_fmod {a b : Int} (h : 0 < b) (h2 : b < 2 ^ 64) : isSmall (a.fmod b) = true := by
  have h3 := Int.fmod_nonneg_of_pos a h
  have h4 := Int.fmod_lt_of_pos a h
  unfold isSmall
  rw [Bool.and_eq_true, decide_eq_true_eq, decide_eq_true_eq]
  omega
structure SP (r : RS) (Q : RS → Prop) : Prop where
  h : Q r
def thenS (g : SF) (Q : RS → Prop) : RS → Prop := fun r => match r with
  | .nx e s => SP (g e s) Q
  | r => Q r
theorem SP.seq {f h : SF} (p : SP (f env st) (thenS h Q)) : SP (sSeq f h env st) Q := ⟨by
  have := p.h
  unfold sSeq
  cases e : f env st <;> rw [e] at this <;> first | exact this.h | exact this⟩
theorem SP.if (ht : tf env st = .ok b s1) (ha : b = true → SP (f env s1) Q) (hb : b = false → SP (h env s1) Q) : SP (sIf tf f h env st) Q := ⟨by
  unfold sIf
  rw [ht]
  cases b
  · exact (hb rfl).h
  · exact (ha rfl).h⟩
theorem SP.set (ht : fa env st = .ok d s1) (q : Q (.nx (env.set i (.fz d)) s1)) : SP (sSet i fa env st) Q := ⟨by unfold sSet sE; rw [ht]; exact q⟩
theorem SP.setO (ht : fa env st = .ok d s1) (q : Q (.nx (env.set i (.ow d)) s1)) : SP (sSetO i fa env st) Q := ⟨by unfold sSetO sE; rw [ht]; exact q⟩
theorem SP.ret (ht : fa env st = .ok d s1) (q : Q (.ret d s1)) : SP (sRet fa env st) Q := ⟨by unfold sRet sE; rw [ht]; exact q⟩
theorem SP.pass (q : Q (.nx env st)) : SP (sPass env st) Q := ⟨q⟩
theorem SP.frz {L : List Nat} (q : SP (f (frz L env) st) Q) : SP (sFrz L f env st) Q := ⟨q.h⟩
theorem SP.asg {gt : GF} (ht : fa env st = .ok d s1) (h2 : gt d env = some env1) (q : Q (.nx env1 s1)) : SP (sAsg fa gt env st) Q := ⟨by unfold sAsg sE; rw [ht]; dsimp only; rw [h2]; exact q⟩
theorem SP.aug (h0 : env[i]? = some (.fz x)) (ht : fa env st = .ok y s1) (h2 : g s1 x y = some z) (q : Q (.nx (env.set i (.fz z)) s1)) : SP (sAug i g fa env st) Q := ⟨by unfold sAug sE; rw [h0]; dsimp only; rw [ht]; dsimp only; rw [h2]; exact q⟩
theorem SP.appO (h0 : env[i]? = some (.ow (.lst l))) (ht : fa env st = .ok d s1) (hl : l.length < lim) (q : Q (.nx (env.set i (.ow (.lst (l ++ [d])))) s1)) : SP (sAppO i fa env st) Q := ⟨by
  unfold sAppO sE; rw [h0]; dsimp only; rw [ht]; dsimp only; rw [h0]; dsimp only; rw [if_pos hl]; exact q⟩
theorem SP.appR {n : Nat} (h0 : fb env st = .ok (.ref n) s1) (h1 : s1[n]? = some (.lst ds)) (ht : fa env s1 = .ok d s2) (h2 : s2[n]? = some (.lst l)) (hl : l.length < lim) (q : Q (.nx env (s2.set n (.lst (l ++ [d]))))) : SP (sAppR fb fa env st) Q := ⟨by
  unfold sAppR sE; rw [h0]; dsimp only; rw [h1]; dsimp only; rw [ht]; dsimp only; rw [h2]; dsimp only; rw [if_pos hl]; exact q⟩
theorem SP.subR {n m : Nat} {k : Int} (h0 : fa env st = .ok d s1) (h1 : fb env s1 = .ok (.ref n) s2) (h2 : fc env s2 = .ok (.int k) s3) (h3 : s3[n]? = some (.lst l)) (h4 : ixN l.length k = some m) (q : Q (.nx env (s3.set n (.lst (l.set m d))))) : SP (sSubR fb fc fa env st) Q := ⟨by
  unfold sSubR sE; rw [h0]; dsimp only; rw [h1]; dsimp only; rw [h2]; dsimp only; rw [h3]; dsimp only; rw [h4]; exact q⟩
theorem SP.for_inv {fi : IF} {gt : GF} {body : SF} (I : Nat → En → Sto → Prop) (h0 : fi env st = .ok ds s1) (start : I 0 env s1)
    (step : ∀ i d env st, ds[i]? = some d → I i env st → ∃ env1, gt d env = some env1 ∧ SP (body env1 st) fun r => match r with
      | .nx e s => I (i + 1) e s
      | .ct e s => I (i + 1) e s
      | .brk e s => Q (.nx e s)
      | r => Q r)
    (done : ∀ env st, I ds.length env st → Q (.nx env st)) : SP (sFor fi gt body env st) Q := ⟨by
  unfold sFor
  rw [h0]
  dsimp only
  have go : ∀ (l : List D) (k : Nat) (env : En) (st : Sto), (∀ j d, l[j]? = some d → ds[k + j]? = some d) → k + l.length = ds.length → I k env st → Q (sForL gt body l env st) := by
    intro l
    induction l with
    | nil =>
      intro k env st _ hk hI
      have : k = ds.length := hk
      subst this
      exact done env st hI
    | cons d l ih =>
      intro k env st hd hk hI
      obtain ⟨env1, h1, h2⟩ := step k d env st (by simpa using hd 0 d rfl) hI
      have h2 := h2.h
      have nxt : ∀ e s, I (k + 1) e s → Q (sForL gt body l e s) := fun e s hI' => ih (k + 1) e s (fun j d hj => by have := hd (j + 1) d (by simpa using hj); rw [show k + 1 + j = k + (j + 1) from by omega]; exact this) (by rw [List.length_cons] at hk; omega) hI'
      unfold sForL
      rw [h1]
      dsimp only
      cases e : body env1 st <;> rw [e] at h2 <;> first | exact nxt _ _ h2 | exact h2
  exact go ds 0 env s1 (fun j d h => by rw [Nat.zero_add]; exact h) (Nat.zero_add _) start⟩
theorem SP.while_inv {n : Nat} {body : SF} (I : Nat → En → Sto → Prop) (start : I n env st)
    (step : ∀ k env st, I k env st → ∃ b st1, tf env st = .ok b st1 ∧ (b = true → 0 < k ∧ SP (body env st1) fun r => match r with
      | .nx e s => I (k - 1) e s
      | .ct e s => I (k - 1) e s
      | .brk e s => Q (.nx e s)
      | r => Q r) ∧ (b = false → Q (.nx env st1))) {m : Nat} (hm : n < m) : SP (sWhile tf body m env st) Q := ⟨by
  induction m generalizing n env st with
  | zero => omega
  | succ m ih =>
    obtain ⟨b, st1, h1, h2, h3⟩ := step n env st start
    unfold sWhile
    rw [h1]
    cases b with
    | false => exact h3 rfl
    | true =>
      obtain ⟨k0, h2⟩ := h2 rfl
      have h2 := h2.h
      dsimp only
      cases e : body env st1 <;> rw [e] at h2 <;> first | exact ih h2 (by omega) | exact h2⟩
theorem lc_val {gt : GF} {tt : TF} {te : EF} {env0 : En} (p : D → Bool) (v : D → D) : ∀ {ds : List D}, (∀ d, d ∈ ds → ∃ env1, gt d env0 = some env1 ∧ tt env1 st = .ok (p d) st ∧ (p d = true → te env1 st = .ok (v d) st)) → lcL gt tt te env0 ds st = .ok ((ds.filter p).map v) st
  | [], _ => rfl
  | d :: ds, hh => by
    obtain ⟨env1, h1, h2, h3⟩ := hh d (.head _)
    have ih := lc_val p v (ds := ds) fun d hd => hh d (.tail _ hd)
    unfold lcL
    rw [h1]
    dsimp only
    rw [h2]
    show (if p d = true then (te env1 st).bind _ else lcL gt tt te env0 ds st) = _
    cases e : p d with
    | false => rw [if_neg Bool.false_ne_true, ih, List.filter_cons, e, if_neg Bool.false_ne_true]
    | true =>
      rw [if_pos rfl, h3 e]
      show (lcL gt tt te env0 ds st).bind _ = _
      rw [ih, List.filter_cons, e, if_pos rfl]
      rfl
theorem e_lc {fi : IF} {vs : List Nat} {gt : GF} {tt : TF} {te : EF} (p : D → Bool) (v : D → D) (h0 : fi env st = .ok ds s1) (hl : ds.length < lim) (hh : ∀ d, d ∈ ds → ∃ env1, gt d (wipeE env vs) = some env1 ∧ tt env1 s1 = .ok (p d) s1 ∧ (p d = true → te env1 s1 = .ok (v d) s1)) : dLc fi vs gt tt te env st = .ok (.lst ((ds.filter p).map v)) s1 := by
  unfold dLc
  rw [h0]
  show (if ds.length < lim then _ else _) = _
  rw [if_pos hl, lc_val p v hh]
  rfl
theorem i_seq (h1 : fa env st = .ok d s1) (h2 : items d = some l) : iSeq fa env st = .ok l s1 := by unfold iSeq; rw [h1]; show (match items d with | some l => R.ok l s1 | none => R.bad) = _; rw [h2]
theorem i_enum (h1 : af env st = .ok [d] s1) (h2 : items d = some l) : iEnumA af env st = .ok (enumD l) s1 := by unfold iEnumA; rw [h1]; show (match items d with | some m => R.ok (enumD m) s1 | none => R.bad) = _; rw [h2]
theorem i_rg1 {j : Int} (h1 : af env st = .ok [.int j] s1) (h2 : sm62 j = true) : iRange1 af env st = .ok (rgD 0 j.toNat) s1 := by unfold iRange1; rw [h1]; show (if sm62 j = true then _ else _) = _; rw [if_pos h2]
theorem run_of {m n : Nat} {body : SF} {ds : List D} {P : D → Sto → Prop} (hl : ds.length = m) (hb : SP (body (ds.map .fz ++ List.replicate (n - m) .no) st) fun r => match r with
    | .nx _ s => P .non s
    | .ret d s => P d s
    | _ => False) : ∃ d s, runDef m n body ds st = .ok d s ∧ P d s := by
  have hb := hb.h
  unfold runDef
  rw [if_pos hl]
  cases e : body (ds.map .fz ++ List.replicate (n - m) .no) st <;> rw [e] at hb <;> first | exact ⟨_, _, rfl, hb⟩ | exact hb.elim
end


theorem SP.mono {r : RS} {Q P : RS → Prop} (p : SP r P) (k : ∀ r, P r → Q r) : SP r Q := ⟨k _ p.h⟩
section
variable {e env : En} {s : Sto} {g : SF} {Q : RS → Prop} {d : D}
theorem thenS_nx (h : SP (g e s) Q) : thenS g Q (.nx e s) := h
theorem thenS_ret (h : Q (.ret d s)) : thenS g Q (.ret d s) := h
end


end DL

set_option maxHeartbeats 4000000
namespace DL
open PySem L2 Bs
def tp (ns : List Int) (a b c d : Int) : D := .lst [.lst (ns.map .int), .int a, .int b, .int c, .int d]
def TP (t : D) : Prop := ∃ ns a b c d, t = tp ns a b c d ∧ 0 ≤ a
theorem fmod_lt {a b : Int} (h : 0 < b) : 0 ≤ a.fmod b ∧ a.fmod b < b := ⟨Int.fmod_nonneg_of_pos a h, Int.fmod_lt_of_pos a h⟩
theorem tpick {t : D} (ht : TP t) (rest : Sto) (m : Int) (hm : 0 < m) (hm2 : m < 1000000) : ∃ d st', F__law_pick [.ref 0, .int m] (t :: rest) = .ok d st' ∧ ∃ k t', d = .int k ∧ st' = t' :: rest ∧ TP t' ∧ 0 ≤ k ∧ k < m := by
  obtain ⟨ns, a, b, c, e, rfl, ha⟩ := ht
  have h2 : m ≠ 0 := by omega
  have h3 : m.natAbs < 1073741824 := by omega
  have fin : ∀ {x : Int} {t : D}, TP t → ∃ k t', D.int (x.fmod m) = D.int k ∧ t :: rest = t' :: rest ∧ TP t' ∧ 0 ≤ k ∧ k < m := fun {x t} h => ⟨_, _, rfl, rfl, h, (fmod_lt hm).1, (fmod_lt hm).2⟩
  refine run_of rfl (SP.seq ?_)
  refine SP.mono (P := fun r => r = .nx [.fz (.ref 0), .fz (.int m), .no, .no, .no] (tp ns a b c e :: rest) ∨ ∃ (x : Int) (t : D), r = .ret (.int (x.fmod m)) (t :: rest) ∧ TP t) ?_ ?_
  · (with_reducible apply SP.if)
    · (repeat' (first | with_reducible exact e_c | with_reducible exact e_nil | with_reducible exact p_no | ((with_reducible apply e_var); rfl) | ((with_reducible apply e_varB); rfl) | ((with_reducible apply e_varO); rfl) | (with_reducible apply e_cons) | (with_reducible apply e_bin) | (with_reducible apply t_bin) | (with_reducible apply e_fn) | (with_reducible apply e_un) | (with_reducible apply t_truth) | (with_reducible apply t_not) | (with_reducible apply e_tup) | (with_reducible apply e_lst) | (with_reducible apply e_alloc) | (with_reducible apply e_call) | (with_reducible apply e_sl) | (with_reducible apply p_some) | (with_reducible apply t_tb) | with_reducible exact o_add | with_reducible exact o_sub | with_reducible exact o_le | with_reducible exact o_lt | with_reducible exact o_gt | with_reducible exact o_ge | with_reducible exact o_eq | with_reducible exact o_ne | with_reducible exact o_isN | with_reducible exact o_isnotN | ((with_reducible apply o_mulR); rfl) | ((with_reducible apply o_mulL); first | rfl | assumption | (apply isSmall_fmod <;> decide)) | (with_reducible refine o_mod ?_; first | assumption | omega | decide) | (with_reducible refine o_div ?_ ?_ <;> first | assumption | omega | decide) | rfl | ((with_reducible apply o_ixN); rfl; (first | decide | omega | assumption); (first | rfl | assumption)) | (simp only [List.length_cons, List.length_nil]; first | done | omega) | (with_reducible apply Eq.symm; with_reducible apply Eq.symm; with_reducible assumption)))
    · intro _
      (repeat (first | with_reducible refine SP.seq ?_ | with_reducible refine thenS_nx ?_ | with_reducible refine thenS_ret ?_ | with_reducible refine SP.pass ?_ | with_reducible refine SP.frz ?_ | ((with_reducible apply SP.set); focus (repeat' (first | with_reducible exact e_c | with_reducible exact e_nil | with_reducible exact p_no | ((with_reducible apply e_var); rfl) | ((with_reducible apply e_varB); rfl) | ((with_reducible apply e_varO); rfl) | (with_reducible apply e_cons) | (with_reducible apply e_bin) | (with_reducible apply t_bin) | (with_reducible apply e_fn) | (with_reducible apply e_un) | (with_reducible apply t_truth) | (with_reducible apply t_not) | (with_reducible apply e_tup) | (with_reducible apply e_lst) | (with_reducible apply e_alloc) | (with_reducible apply e_call) | (with_reducible apply e_sl) | (with_reducible apply p_some) | (with_reducible apply t_tb) | with_reducible exact o_add | with_reducible exact o_sub | with_reducible exact o_le | with_reducible exact o_lt | with_reducible exact o_gt | with_reducible exact o_ge | with_reducible exact o_eq | with_reducible exact o_ne | with_reducible exact o_isN | with_reducible exact o_isnotN | ((with_reducible apply o_mulR); rfl) | ((with_reducible apply o_mulL); first | rfl | assumption | (apply isSmall_fmod <;> decide)) | (with_reducible refine o_mod ?_; first | assumption | omega | decide) | (with_reducible refine o_div ?_ ?_ <;> first | assumption | omega | decide) | rfl | ((with_reducible apply o_ixN); rfl; (first | decide | omega | assumption); (first | rfl | assumption)) | (simp only [List.length_cons, List.length_nil]; first | done | omega) | (with_reducible apply Eq.symm; with_reducible apply Eq.symm; with_reducible assumption)))) | ((with_reducible apply SP.setO); focus (repeat' (first | with_reducible exact e_c | with_reducible exact e_nil | with_reducible exact p_no | ((with_reducible apply e_var); rfl) | ((with_reducible apply e_varB); rfl) | ((with_reducible apply e_varO); rfl) | (with_reducible apply e_cons) | (with_reducible apply e_bin) | (with_reducible apply t_bin) | (with_reducible apply e_fn) | (with_reducible apply e_un) | (with_reducible apply t_truth) | (with_reducible apply t_not) | (with_reducible apply e_tup) | (with_reducible apply e_lst) | (with_reducible apply e_alloc) | (with_reducible apply e_call) | (with_reducible apply e_sl) | (with_reducible apply p_some) | (with_reducible apply t_tb) | with_reducible exact o_add | with_reducible exact o_sub | with_reducible exact o_le | with_reducible exact o_lt | with_reducible exact o_gt | with_reducible exact o_ge | with_reducible exact o_eq | with_reducible exact o_ne | with_reducible exact o_isN | with_reducible exact o_isnotN | ((with_reducible apply o_mulR); rfl) | ((with_reducible apply o_mulL); first | rfl | assumption | (apply isSmall_fmod <;> decide)) | (with_reducible refine o_mod ?_; first | assumption | omega | decide) | (with_reducible refine o_div ?_ ?_ <;> first | assumption | omega | decide) | rfl | ((with_reducible apply o_ixN); rfl; (first | decide | omega | assumption); (first | rfl | assumption)) | (simp only [List.length_cons, List.length_nil]; first | done | omega) | (with_reducible apply Eq.symm; with_reducible apply Eq.symm; with_reducible assumption)))) | ((with_reducible apply SP.ret); focus (repeat' (first | with_reducible exact e_c | with_reducible exact e_nil | with_reducible exact p_no | ((with_reducible apply e_var); rfl) | ((with_reducible apply e_varB); rfl) | ((with_reducible apply e_varO); rfl) | (with_reducible apply e_cons) | (with_reducible apply e_bin) | (with_reducible apply t_bin) | (with_reducible apply e_fn) | (with_reducible apply e_un) | (with_reducible apply t_truth) | (with_reducible apply t_not) | (with_reducible apply e_tup) | (with_reducible apply e_lst) | (with_reducible apply e_alloc) | (with_reducible apply e_call) | (with_reducible apply e_sl) | (with_reducible apply p_some) | (with_reducible apply t_tb) | with_reducible exact o_add | with_reducible exact o_sub | with_reducible exact o_le | with_reducible exact o_lt | with_reducible exact o_gt | with_reducible exact o_ge | with_reducible exact o_eq | with_reducible exact o_ne | with_reducible exact o_isN | with_reducible exact o_isnotN | ((with_reducible apply o_mulR); rfl) | ((with_reducible apply o_mulL); first | rfl | assumption | (apply isSmall_fmod <;> decide)) | (with_reducible refine o_mod ?_; first | assumption | omega | decide) | (with_reducible refine o_div ?_ ?_ <;> first | assumption | omega | decide) | rfl | ((with_reducible apply o_ixN); rfl; (first | decide | omega | assumption); (first | rfl | assumption)) | (simp only [List.length_cons, List.length_nil]; first | done | omega) | (with_reducible apply Eq.symm; with_reducible apply Eq.symm; with_reducible assumption))))))
      (with_reducible apply SP.subR)
      · (repeat' (first | with_reducible exact e_c | with_reducible exact e_nil | with_reducible exact p_no | ((with_reducible apply e_var); rfl) | ((with_reducible apply e_varB); rfl) | ((with_reducible apply e_varO); rfl) | (with_reducible apply e_cons) | (with_reducible apply e_bin) | (with_reducible apply t_bin) | (with_reducible apply e_fn) | (with_reducible apply e_un) | (with_reducible apply t_truth) | (with_reducible apply t_not) | (with_reducible apply e_tup) | (with_reducible apply e_lst) | (with_reducible apply e_alloc) | (with_reducible apply e_call) | (with_reducible apply e_sl) | (with_reducible apply p_some) | (with_reducible apply t_tb) | with_reducible exact o_add | with_reducible exact o_sub | with_reducible exact o_le | with_reducible exact o_lt | with_reducible exact o_gt | with_reducible exact o_ge | with_reducible exact o_eq | with_reducible exact o_ne | with_reducible exact o_isN | with_reducible exact o_isnotN | ((with_reducible apply o_mulR); rfl) | ((with_reducible apply o_mulL); first | rfl | assumption | (apply isSmall_fmod <;> decide)) | (with_reducible refine o_mod ?_; first | assumption | omega | decide) | (with_reducible refine o_div ?_ ?_ <;> first | assumption | omega | decide) | rfl | ((with_reducible apply o_ixN); rfl; (first | decide | omega | assumption); (first | rfl | assumption)) | (simp only [List.length_cons, List.length_nil]; first | done | omega) | (with_reducible apply Eq.symm; with_reducible apply Eq.symm; with_reducible assumption)))
      · (repeat' (first | with_reducible exact e_c | with_reducible exact e_nil | with_reducible exact p_no | ((with_reducible apply e_var); rfl) | ((with_reducible apply e_varB); rfl) | ((with_reducible apply e_varO); rfl) | (with_reducible apply e_cons) | (with_reducible apply e_bin) | (with_reducible apply t_bin) | (with_reducible apply e_fn) | (with_reducible apply e_un) | (with_reducible apply t_truth) | (with_reducible apply t_not) | (with_reducible apply e_tup) | (with_reducible apply e_lst) | (with_reducible apply e_alloc) | (with_reducible apply e_call) | (with_reducible apply e_sl) | (with_reducible apply p_some) | (with_reducible apply t_tb) | with_reducible exact o_add | with_reducible exact o_sub | with_reducible exact o_le | with_reducible exact o_lt | with_reducible exact o_gt | with_reducible exact o_ge | with_reducible exact o_eq | with_reducible exact o_ne | with_reducible exact o_isN | with_reducible exact o_isnotN | ((with_reducible apply o_mulR); rfl) | ((with_reducible apply o_mulL); first | rfl | assumption | (apply isSmall_fmod <;> decide)) | (with_reducible refine o_mod ?_; first | assumption | omega | decide) | (with_reducible refine o_div ?_ ?_ <;> first | assumption | omega | decide) | rfl | ((with_reducible apply o_ixN); rfl; (first | decide | omega | assumption); (first | rfl | assumption)) | (simp only [List.length_cons, List.length_nil]; first | done | omega) | (with_reducible apply Eq.symm; with_reducible apply Eq.symm; with_reducible assumption)))
      · (repeat' (first | with_reducible exact e_c | with_reducible exact e_nil | with_reducible exact p_no | ((with_reducible apply e_var); rfl) | ((with_reducible apply e_varB); rfl) | ((with_reducible apply e_varO); rfl) | (with_reducible apply e_cons) | (with_reducible apply e_bin) | (with_reducible apply t_bin) | (with_reducible apply e_fn) | (with_reducible apply e_un) | (with_reducible apply t_truth) | (with_reducible apply t_not) | (with_reducible apply e_tup) | (with_reducible apply e_lst) | (with_reducible apply e_alloc) | (with_reducible apply e_call) | (with_reducible apply e_sl) | (with_reducible apply p_some) | (with_reducible apply t_tb) | with_reducible exact o_add | with_reducible exact o_sub | with_reducible exact o_le | with_reducible exact o_lt | with_reducible exact o_gt | with_reducible exact o_ge | with_reducible exact o_eq | with_reducible exact o_ne | with_reducible exact o_isN | with_reducible exact o_isnotN | ((with_reducible apply o_mulR); rfl) | ((with_reducible apply o_mulL); first | rfl | assumption | (apply isSmall_fmod <;> decide)) | (with_reducible refine o_mod ?_; first | assumption | omega | decide) | (with_reducible refine o_div ?_ ?_ <;> first | assumption | omega | decide) | rfl | ((with_reducible apply o_ixN); rfl; (first | decide | omega | assumption); (first | rfl | assumption)) | (simp only [List.length_cons, List.length_nil]; first | done | omega) | (with_reducible apply Eq.symm; with_reducible apply Eq.symm; with_reducible assumption)))
      · rfl
      · rfl
      (repeat (first | with_reducible refine SP.seq ?_ | with_reducible refine thenS_nx ?_ | with_reducible refine thenS_ret ?_ | with_reducible refine SP.pass ?_ | with_reducible refine SP.frz ?_ | ((with_reducible apply SP.set); focus (repeat' (first | with_reducible exact e_c | with_reducible exact e_nil | with_reducible exact p_no | ((with_reducible apply e_var); rfl) | ((with_reducible apply e_varB); rfl) | ((with_reducible apply e_varO); rfl) | (with_reducible apply e_cons) | (with_reducible apply e_bin) | (with_reducible apply t_bin) | (with_reducible apply e_fn) | (with_reducible apply e_un) | (with_reducible apply t_truth) | (with_reducible apply t_not) | (with_reducible apply e_tup) | (with_reducible apply e_lst) | (with_reducible apply e_alloc) | (with_reducible apply e_call) | (with_reducible apply e_sl) | (with_reducible apply p_some) | (with_reducible apply t_tb) | with_reducible exact o_add | with_reducible exact o_sub | with_reducible exact o_le | with_reducible exact o_lt | with_reducible exact o_gt | with_reducible exact o_ge | with_reducible exact o_eq | with_reducible exact o_ne | with_reducible exact o_isN | with_reducible exact o_isnotN | ((with_reducible apply o_mulR); rfl) | ((with_reducible apply o_mulL); first | rfl | assumption | (apply isSmall_fmod <;> decide)) | (with_reducible refine o_mod ?_; first | assumption | omega | decide) | (with_reducible refine o_div ?_ ?_ <;> first | assumption | omega | decide) | rfl | ((with_reducible apply o_ixN); rfl; (first | decide | omega | assumption); (first | rfl | assumption)) | (simp only [List.length_cons, List.length_nil]; first | done | omega) | (with_reducible apply Eq.symm; with_reducible apply Eq.symm; with_reducible assumption)))) | ((with_reducible apply SP.setO); focus (repeat' (first | with_reducible exact e_c | with_reducible exact e_nil | with_reducible exact p_no | ((with_reducible apply e_var); rfl) | ((with_reducible apply e_varB); rfl) | ((with_reducible apply e_varO); rfl) | (with_reducible apply e_cons) | (with_reducible apply e_bin) | (with_reducible apply t_bin) | (with_reducible apply e_fn) | (with_reducible apply e_un) | (with_reducible apply t_truth) | (with_reducible apply t_not) | (with_reducible apply e_tup) | (with_reducible apply e_lst) | (with_reducible apply e_alloc) | (with_reducible apply e_call) | (with_reducible apply e_sl) | (with_reducible apply p_some) | (with_reducible apply t_tb) | with_reducible exact o_add | with_reducible exact o_sub | with_reducible exact o_le | with_reducible exact o_lt | with_reducible exact o_gt | with_reducible exact o_ge | with_reducible exact o_eq | with_reducible exact o_ne | with_reducible exact o_isN | with_reducible exact o_isnotN | ((with_reducible apply o_mulR); rfl) | ((with_reducible apply o_mulL); first | rfl | assumption | (apply isSmall_fmod <;> decide)) | (with_reducible refine o_mod ?_; first | assumption | omega | decide) | (with_reducible refine o_div ?_ ?_ <;> first | assumption | omega | decide) | rfl | ((with_reducible apply o_ixN); rfl; (first | decide | omega | assumption); (first | rfl | assumption)) | (simp only [List.length_cons, List.length_nil]; first | done | omega) | (with_reducible apply Eq.symm; with_reducible apply Eq.symm; with_reducible assumption)))) | ((with_reducible apply SP.ret); focus (repeat' (first | with_reducible exact e_c | with_reducible exact e_nil | with_reducible exact p_no | ((with_reducible apply e_var); rfl) | ((with_reducible apply e_varB); rfl) | ((with_reducible apply e_varO); rfl) | (with_reducible apply e_cons) | (with_reducible apply e_bin) | (with_reducible apply t_bin) | (with_reducible apply e_fn) | (with_reducible apply e_un) | (with_reducible apply t_truth) | (with_reducible apply t_not) | (with_reducible apply e_tup) | (with_reducible apply e_lst) | (with_reducible apply e_alloc) | (with_reducible apply e_call) | (with_reducible apply e_sl) | (with_reducible apply p_some) | (with_reducible apply t_tb) | with_reducible exact o_add | with_reducible exact o_sub | with_reducible exact o_le | with_reducible exact o_lt | with_reducible exact o_gt | with_reducible exact o_ge | with_reducible exact o_eq | with_reducible exact o_ne | with_reducible exact o_isN | with_reducible exact o_isnotN | ((with_reducible apply o_mulR); rfl) | ((with_reducible apply o_mulL); first | rfl | assumption | (apply isSmall_fmod <;> decide)) | (with_reducible refine o_mod ?_; first | assumption | omega | decide) | (with_reducible refine o_div ?_ ?_ <;> first | assumption | omega | decide) | rfl | ((with_reducible apply o_ixN); rfl; (first | decide | omega | assumption); (first | rfl | assumption)) | (simp only [List.length_cons, List.length_nil]; first | done | omega) | (with_reducible apply Eq.symm; with_reducible apply Eq.symm; with_reducible assumption))))))
      exact .inr ⟨_, _, rfl, ns, a, b.fdiv m, c, e, rfl, ha⟩
    · intro _
      exact SP.pass (.inl rfl)
  · rintro r (rfl | ⟨x, t, rfl, h⟩)
    · (repeat (first | with_reducible refine SP.seq ?_ | with_reducible refine thenS_nx ?_ | with_reducible refine thenS_ret ?_ | with_reducible refine SP.pass ?_ | with_reducible refine SP.frz ?_ | ((with_reducible apply SP.set); focus (repeat' (first | with_reducible exact e_c | with_reducible exact e_nil | with_reducible exact p_no | ((with_reducible apply e_var); rfl) | ((with_reducible apply e_varB); rfl) | ((with_reducible apply e_varO); rfl) | (with_reducible apply e_cons) | (with_reducible apply e_bin) | (with_reducible apply t_bin) | (with_reducible apply e_fn) | (with_reducible apply e_un) | (with_reducible apply t_truth) | (with_reducible apply t_not) | (with_reducible apply e_tup) | (with_reducible apply e_lst) | (with_reducible apply e_alloc) | (with_reducible apply e_call) | (with_reducible apply e_sl) | (with_reducible apply p_some) | (with_reducible apply t_tb) | with_reducible exact o_add | with_reducible exact o_sub | with_reducible exact o_le | with_reducible exact o_lt | with_reducible exact o_gt | with_reducible exact o_ge | with_reducible exact o_eq | with_reducible exact o_ne | with_reducible exact o_isN | with_reducible exact o_isnotN | ((with_reducible apply o_mulR); rfl) | ((with_reducible apply o_mulL); first | rfl | assumption | (apply isSmall_fmod <;> decide)) | (with_reducible refine o_mod ?_; first | assumption | omega | decide) | (with_reducible refine o_div ?_ ?_ <;> first | assumption | omega | decide) | rfl | ((with_reducible apply o_ixN); rfl; (first | decide | omega | assumption); (first | rfl | assumption)) | (simp only [List.length_cons, List.length_nil]; first | done | omega) | (with_reducible apply Eq.symm; with_reducible apply Eq.symm; with_reducible assumption)))) | ((with_reducible apply SP.setO); focus (repeat' (first | with_reducible exact e_c | with_reducible exact e_nil | with_reducible exact p_no | ((with_reducible apply e_var); rfl) | ((with_reducible apply e_varB); rfl) | ((with_reducible apply e_varO); rfl) | (with_reducible apply e_cons) | (with_reducible apply e_bin) | (with_reducible apply t_bin) | (with_reducible apply e_fn) | (with_reducible apply e_un) | (with_reducible apply t_truth) | (with_reducible apply t_not) | (with_reducible apply e_tup) | (with_reducible apply e_lst) | (with_reducible apply e_alloc) | (with_reducible apply e_call) | (with_reducible apply e_sl) | (with_reducible apply p_some) | (with_reducible apply t_tb) | with_reducible exact o_add | with_reducible exact o_sub | with_reducible exact o_le | with_reducible exact o_lt | with_reducible exact o_gt | with_reducible exact o_ge | with_reducible exact o_eq | with_reducible exact o_ne | with_reducible exact o_isN | with_reducible exact o_isnotN | ((with_reducible apply o_mulR); rfl) | ((with_reducible apply o_mulL); first | rfl | assumption | (apply isSmall_fmod <;> decide)) | (with_reducible refine o_mod ?_; first | assumption | omega | decide) | (with_reducible refine o_div ?_ ?_ <;> first | assumption | omega | decide) | rfl | ((with_reducible apply o_ixN); rfl; (first | decide | omega | assumption); (first | rfl | assumption)) | (simp only [List.length_cons, List.length_nil]; first | done | omega) | (with_reducible apply Eq.symm; with_reducible apply Eq.symm; with_reducible assumption)))) | ((with_reducible apply SP.ret); focus (repeat' (first | with_reducible exact e_c | with_reducible exact e_nil | with_reducible exact p_no | ((with_reducible apply e_var); rfl) | ((with_reducible apply e_varB); rfl) | ((with_reducible apply e_varO); rfl) | (with_reducible apply e_cons) | (with_reducible apply e_bin) | (with_reducible apply t_bin) | (with_reducible apply e_fn) | (with_reducible apply e_un) | (with_reducible apply t_truth) | (with_reducible apply t_not) | (with_reducible apply e_tup) | (with_reducible apply e_lst) | (with_reducible apply e_alloc) | (with_reducible apply e_call) | (with_reducible apply e_sl) | (with_reducible apply p_some) | (with_reducible apply t_tb) | with_reducible exact o_add | with_reducible exact o_sub | with_reducible exact o_le | with_reducible exact o_lt | with_reducible exact o_gt | with_reducible exact o_ge | with_reducible exact o_eq | with_reducible exact o_ne | with_reducible exact o_isN | with_reducible exact o_isnotN | ((with_reducible apply o_mulR); rfl) | ((with_reducible apply o_mulL); first | rfl | assumption | (apply isSmall_fmod <;> decide)) | (with_reducible refine o_mod ?_; first | assumption | omega | decide) | (with_reducible refine o_div ?_ ?_ <;> first | assumption | omega | decide) | rfl | ((with_reducible apply o_ixN); rfl; (first | decide | omega | assumption); (first | rfl | assumption)) | (simp only [List.length_cons, List.length_nil]; first | done | omega) | (with_reducible apply Eq.symm; with_reducible apply Eq.symm; with_reducible assumption))))))
      (with_reducible apply SP.subR)
      · (repeat' (first | with_reducible exact e_c | with_reducible exact e_nil | with_reducible exact p_no | ((with_reducible apply e_var); rfl) | ((with_reducible apply e_varB); rfl) | ((with_reducible apply e_varO); rfl) | (with_reducible apply e_cons) | (with_reducible apply e_bin) | (with_reducible apply t_bin) | (with_reducible apply e_fn) | (with_reducible apply e_un) | (with_reducible apply t_truth) | (with_reducible apply t_not) | (with_reducible apply e_tup) | (with_reducible apply e_lst) | (with_reducible apply e_alloc) | (with_reducible apply e_call) | (with_reducible apply e_sl) | (with_reducible apply p_some) | (with_reducible apply t_tb) | with_reducible exact o_add | with_reducible exact o_sub | with_reducible exact o_le | with_reducible exact o_lt | with_reducible exact o_gt | with_reducible exact o_ge | with_reducible exact o_eq | with_reducible exact o_ne | with_reducible exact o_isN | with_reducible exact o_isnotN | ((with_reducible apply o_mulR); rfl) | ((with_reducible apply o_mulL); first | rfl | assumption | (apply isSmall_fmod <;> decide)) | (with_reducible refine o_mod ?_; first | assumption | omega | decide) | (with_reducible refine o_div ?_ ?_ <;> first | assumption | omega | decide) | rfl | ((with_reducible apply o_ixN); rfl; (first | decide | omega | assumption); (first | rfl | assumption)) | (simp only [List.length_cons, List.length_nil]; first | done | omega) | (with_reducible apply Eq.symm; with_reducible apply Eq.symm; with_reducible assumption)))
      · (repeat' (first | with_reducible exact e_c | with_reducible exact e_nil | with_reducible exact p_no | ((with_reducible apply e_var); rfl) | ((with_reducible apply e_varB); rfl) | ((with_reducible apply e_varO); rfl) | (with_reducible apply e_cons) | (with_reducible apply e_bin) | (with_reducible apply t_bin) | (with_reducible apply e_fn) | (with_reducible apply e_un) | (with_reducible apply t_truth) | (with_reducible apply t_not) | (with_reducible apply e_tup) | (with_reducible apply e_lst) | (with_reducible apply e_alloc) | (with_reducible apply e_call) | (with_reducible apply e_sl) | (with_reducible apply p_some) | (with_reducible apply t_tb) | with_reducible exact o_add | with_reducible exact o_sub | with_reducible exact o_le | with_reducible exact o_lt | with_reducible exact o_gt | with_reducible exact o_ge | with_reducible exact o_eq | with_reducible exact o_ne | with_reducible exact o_isN | with_reducible exact o_isnotN | ((with_reducible apply o_mulR); rfl) | ((with_reducible apply o_mulL); first | rfl | assumption | (apply isSmall_fmod <;> decide)) | (with_reducible refine o_mod ?_; first | assumption | omega | decide) | (with_reducible refine o_div ?_ ?_ <;> first | assumption | omega | decide) | rfl | ((with_reducible apply o_ixN); rfl; (first | decide | omega | assumption); (first | rfl | assumption)) | (simp only [List.length_cons, List.length_nil]; first | done | omega) | (with_reducible apply Eq.symm; with_reducible apply Eq.symm; with_reducible assumption)))
      · (repeat' (first | with_reducible exact e_c | with_reducible exact e_nil | with_reducible exact p_no | ((with_reducible apply e_var); rfl) | ((with_reducible apply e_varB); rfl) | ((with_reducible apply e_varO); rfl) | (with_reducible apply e_cons) | (with_reducible apply e_bin) | (with_reducible apply t_bin) | (with_reducible apply e_fn) | (with_reducible apply e_un) | (with_reducible apply t_truth) | (with_reducible apply t_not) | (with_reducible apply e_tup) | (with_reducible apply e_lst) | (with_reducible apply e_alloc) | (with_reducible apply e_call) | (with_reducible apply e_sl) | (with_reducible apply p_some) | (with_reducible apply t_tb) | with_reducible exact o_add | with_reducible exact o_sub | with_reducible exact o_le | with_reducible exact o_lt | with_reducible exact o_gt | with_reducible exact o_ge | with_reducible exact o_eq | with_reducible exact o_ne | with_reducible exact o_isN | with_reducible exact o_isnotN | ((with_reducible apply o_mulR); rfl) | ((with_reducible apply o_mulL); first | rfl | assumption | (apply isSmall_fmod <;> decide)) | (with_reducible refine o_mod ?_; first | assumption | omega | decide) | (with_reducible refine o_div ?_ ?_ <;> first | assumption | omega | decide) | rfl | ((with_reducible apply o_ixN); rfl; (first | decide | omega | assumption); (first | rfl | assumption)) | (simp only [List.length_cons, List.length_nil]; first | done | omega) | (with_reducible apply Eq.symm; with_reducible apply Eq.symm; with_reducible assumption)))
      · rfl
      · rfl
      (repeat (first | with_reducible refine SP.seq ?_ | with_reducible refine thenS_nx ?_ | with_reducible refine thenS_ret ?_ | with_reducible refine SP.pass ?_ | with_reducible refine SP.frz ?_ | ((with_reducible apply SP.set); focus (repeat' (first | with_reducible exact e_c | with_reducible exact e_nil | with_reducible exact p_no | ((with_reducible apply e_var); rfl) | ((with_reducible apply e_varB); rfl) | ((with_reducible apply e_varO); rfl) | (with_reducible apply e_cons) | (with_reducible apply e_bin) | (with_reducible apply t_bin) | (with_reducible apply e_fn) | (with_reducible apply e_un) | (with_reducible apply t_truth) | (with_reducible apply t_not) | (with_reducible apply e_tup) | (with_reducible apply e_lst) | (with_reducible apply e_alloc) | (with_reducible apply e_call) | (with_reducible apply e_sl) | (with_reducible apply p_some) | (with_reducible apply t_tb) | with_reducible exact o_add | with_reducible exact o_sub | with_reducible exact o_le | with_reducible exact o_lt | with_reducible exact o_gt | with_reducible exact o_ge | with_reducible exact o_eq | with_reducible exact o_ne | with_reducible exact o_isN | with_reducible exact o_isnotN | ((with_reducible apply o_mulR); rfl) | ((with_reducible apply o_mulL); first | rfl | assumption | (apply isSmall_fmod <;> decide)) | (with_reducible refine o_mod ?_; first | assumption | omega | decide) | (with_reducible refine o_div ?_ ?_ <;> first | assumption | omega | decide) | rfl | ((with_reducible apply o_ixN); rfl; (first | decide | omega | assumption); (first | rfl | assumption)) | (simp only [List.length_cons, List.length_nil]; first | done | omega) | (with_reducible apply Eq.symm; with_reducible apply Eq.symm; with_reducible assumption)))) | ((with_reducible apply SP.setO); focus (repeat' (first | with_reducible exact e_c | with_reducible exact e_nil | with_reducible exact p_no | ((with_reducible apply e_var); rfl) | ((with_reducible apply e_varB); rfl) | ((with_reducible apply e_varO); rfl) | (with_reducible apply e_cons) | (with_reducible apply e_bin) | (with_reducible apply t_bin) | (with_reducible apply e_fn) | (with_reducible apply e_un) | (with_reducible apply t_truth) | (with_reducible apply t_not) | (with_reducible apply e_tup) | (with_reducible apply e_lst) | (with_reducible apply e_alloc) | (with_reducible apply e_call) | (with_reducible apply e_sl) | (with_reducible apply p_some) | (with_reducible apply t_tb) | with_reducible exact o_add | with_reducible exact o_sub | with_reducible exact o_le | with_reducible exact o_lt | with_reducible exact o_gt | with_reducible exact o_ge | with_reducible exact o_eq | with_reducible exact o_ne | with_reducible exact o_isN | with_reducible exact o_isnotN | ((with_reducible apply o_mulR); rfl) | ((with_reducible apply o_mulL); first | rfl | assumption | (apply isSmall_fmod <;> decide)) | (with_reducible refine o_mod ?_; first | assumption | omega | decide) | (with_reducible refine o_div ?_ ?_ <;> first | assumption | omega | decide) | rfl | ((with_reducible apply o_ixN); rfl; (first | decide | omega | assumption); (first | rfl | assumption)) | (simp only [List.length_cons, List.length_nil]; first | done | omega) | (with_reducible apply Eq.symm; with_reducible apply Eq.symm; with_reducible assumption)))) | ((with_reducible apply SP.ret); focus (repeat' (first | with_reducible exact e_c | with_reducible exact e_nil | with_reducible exact p_no | ((with_reducible apply e_var); rfl) | ((with_reducible apply e_varB); rfl) | ((with_reducible apply e_varO); rfl) | (with_reducible apply e_cons) | (with_reducible apply e_bin) | (with_reducible apply t_bin) | (with_reducible apply e_fn) | (with_reducible apply e_un) | (with_reducible apply t_truth) | (with_reducible apply t_not) | (with_reducible apply e_tup) | (with_reducible apply e_lst) | (with_reducible apply e_alloc) | (with_reducible apply e_call) | (with_reducible apply e_sl) | (with_reducible apply p_some) | (with_reducible apply t_tb) | with_reducible exact o_add | with_reducible exact o_sub | with_reducible exact o_le | with_reducible exact o_lt | with_reducible exact o_gt | with_reducible exact o_ge | with_reducible exact o_eq | with_reducible exact o_ne | with_reducible exact o_isN | with_reducible exact o_isnotN | ((with_reducible apply o_mulR); rfl) | ((with_reducible apply o_mulL); first | rfl | assumption | (apply isSmall_fmod <;> decide)) | (with_reducible refine o_mod ?_; first | assumption | omega | decide) | (with_reducible refine o_div ?_ ?_ <;> first | assumption | omega | decide) | rfl | ((with_reducible apply o_ixN); rfl; (first | decide | omega | assumption); (first | rfl | assumption)) | (simp only [List.length_cons, List.length_nil]; first | done | omega) | (with_reducible apply Eq.symm; with_reducible apply Eq.symm; with_reducible assumption))))))
      refine SP.mono (P := fun r => ∃ (cell a' : Int), 0 ≤ a' ∧ r = .nx [.fz (.ref 0), .fz (.int m), .no, .fz (.int cell), .no] (tp ns a' b c (e + 1) :: rest)) ?_ ?_
      · (with_reducible apply SP.if)
        · (repeat' (first | with_reducible exact e_c | with_reducible exact e_nil | with_reducible exact p_no | ((with_reducible apply e_var); rfl) | ((with_reducible apply e_varB); rfl) | ((with_reducible apply e_varO); rfl) | (with_reducible apply e_cons) | (with_reducible apply e_bin) | (with_reducible apply t_bin) | (with_reducible apply e_fn) | (with_reducible apply e_un) | (with_reducible apply t_truth) | (with_reducible apply t_not) | (with_reducible apply e_tup) | (with_reducible apply e_lst) | (with_reducible apply e_alloc) | (with_reducible apply e_call) | (with_reducible apply e_sl) | (with_reducible apply p_some) | (with_reducible apply t_tb) | with_reducible exact o_add | with_reducible exact o_sub | with_reducible exact o_le | with_reducible exact o_lt | with_reducible exact o_gt | with_reducible exact o_ge | with_reducible exact o_eq | with_reducible exact o_ne | with_reducible exact o_isN | with_reducible exact o_isnotN | ((with_reducible apply o_mulR); rfl) | ((with_reducible apply o_mulL); first | rfl | assumption | (apply isSmall_fmod <;> decide)) | (with_reducible refine o_mod ?_; first | assumption | omega | decide) | (with_reducible refine o_div ?_ ?_ <;> first | assumption | omega | decide) | rfl | ((with_reducible apply o_ixN); rfl; (first | decide | omega | assumption); (first | rfl | assumption)) | (simp only [List.length_cons, List.length_nil]; first | done | omega) | (with_reducible apply Eq.symm; with_reducible apply Eq.symm; with_reducible assumption)))
        · intro hb
          have hb : a < ((ns.map D.int).length : Int) := of_decide_eq_true hb
          rw [List.length_map] at hb
          have f3 : a.toNat < ns.length := by omega
          have f4 : (ns.map D.int)[a.toNat]? = some (.int (ns[a.toNat]'f3)) := by rw [List.getElem?_map, List.getElem?_eq_getElem f3]; rfl
          refine SP.seq (SP.set (e_bin (e_bin (e_var rfl) e_c rfl) (e_bin (e_var rfl) e_c rfl) (o_ixN rfl ha f4)) (thenS_nx ?_))
          refine SP.subR (e_bin (e_bin (e_var rfl) e_c rfl) e_c o_add) (e_var rfl) e_c rfl rfl ⟨_, a + 1, by omega, rfl⟩
        · intro _
          exact SP.pass ⟨0, a, ha, rfl⟩
      · rintro r ⟨cell, a', ha', rfl⟩
        refine thenS_nx (SP.seq ?_)
        refine SP.mono (P := fun r => r = .nx [.fz (.ref 0), .fz (.int m), .no, .fz (.int cell), .no] (tp ns a' b c (e + 1) :: rest) ∨ ∃ (x : Int) (t : D), r = .ret (.int (x.fmod m)) (t :: rest) ∧ TP t) ?_ ?_
        · refine SP.if (b := decide (10 ^ 18 ≤ cell)) (t_bin (e_var rfl) (e_bin e_c e_c rfl) o_ge) (fun _ => ?_) fun _ => SP.pass (.inl rfl)
          refine SP.seq (SP.subR (e_bin (e_var rfl) (e_var rfl) (o_div h2 h3)) (e_var rfl) e_c rfl rfl (thenS_nx ?_))
          exact SP.ret (e_bin (e_fn (e_cons (e_var rfl) e_nil) rfl) (e_var rfl) (o_mod h2)) (.inr ⟨cell, _, rfl, ns, a', cell.fdiv m, c, e + 1, rfl, ha'⟩)
        · rintro r (rfl | ⟨x, t, rfl, h⟩)
          · refine thenS_nx ?_
            (repeat (first | with_reducible refine SP.seq ?_ | with_reducible refine thenS_nx ?_ | with_reducible refine thenS_ret ?_ | with_reducible refine SP.pass ?_ | with_reducible refine SP.frz ?_ | ((with_reducible apply SP.set); focus (repeat' (first | with_reducible exact e_c | with_reducible exact e_nil | with_reducible exact p_no | ((with_reducible apply e_var); rfl) | ((with_reducible apply e_varB); rfl) | ((with_reducible apply e_varO); rfl) | (with_reducible apply e_cons) | (with_reducible apply e_bin) | (with_reducible apply t_bin) | (with_reducible apply e_fn) | (with_reducible apply e_un) | (with_reducible apply t_truth) | (with_reducible apply t_not) | (with_reducible apply e_tup) | (with_reducible apply e_lst) | (with_reducible apply e_alloc) | (with_reducible apply e_call) | (with_reducible apply e_sl) | (with_reducible apply p_some) | (with_reducible apply t_tb) | with_reducible exact o_add | with_reducible exact o_sub | with_reducible exact o_le | with_reducible exact o_lt | with_reducible exact o_gt | with_reducible exact o_ge | with_reducible exact o_eq | with_reducible exact o_ne | with_reducible exact o_isN | with_reducible exact o_isnotN | ((with_reducible apply o_mulR); rfl) | ((with_reducible apply o_mulL); first | rfl | assumption | (apply isSmall_fmod <;> decide)) | (with_reducible refine o_mod ?_; first | assumption | omega | decide) | (with_reducible refine o_div ?_ ?_ <;> first | assumption | omega | decide) | rfl | ((with_reducible apply o_ixN); rfl; (first | decide | omega | assumption); (first | rfl | assumption)) | (simp only [List.length_cons, List.length_nil]; first | done | omega) | (with_reducible apply Eq.symm; with_reducible apply Eq.symm; with_reducible assumption)))) | ((with_reducible apply SP.setO); focus (repeat' (first | with_reducible exact e_c | with_reducible exact e_nil | with_reducible exact p_no | ((with_reducible apply e_var); rfl) | ((with_reducible apply e_varB); rfl) | ((with_reducible apply e_varO); rfl) | (with_reducible apply e_cons) | (with_reducible apply e_bin) | (with_reducible apply t_bin) | (with_reducible apply e_fn) | (with_reducible apply e_un) | (with_reducible apply t_truth) | (with_reducible apply t_not) | (with_reducible apply e_tup) | (with_reducible apply e_lst) | (with_reducible apply e_alloc) | (with_reducible apply e_call) | (with_reducible apply e_sl) | (with_reducible apply p_some) | (with_reducible apply t_tb) | with_reducible exact o_add | with_reducible exact o_sub | with_reducible exact o_le | with_reducible exact o_lt | with_reducible exact o_gt | with_reducible exact o_ge | with_reducible exact o_eq | with_reducible exact o_ne | with_reducible exact o_isN | with_reducible exact o_isnotN | ((with_reducible apply o_mulR); rfl) | ((with_reducible apply o_mulL); first | rfl | assumption | (apply isSmall_fmod <;> decide)) | (with_reducible refine o_mod ?_; first | assumption | omega | decide) | (with_reducible refine o_div ?_ ?_ <;> first | assumption | omega | decide) | rfl | ((with_reducible apply o_ixN); rfl; (first | decide | omega | assumption); (first | rfl | assumption)) | (simp only [List.length_cons, List.length_nil]; first | done | omega) | (with_reducible apply Eq.symm; with_reducible apply Eq.symm; with_reducible assumption)))) | ((with_reducible apply SP.ret); focus (repeat' (first | with_reducible exact e_c | with_reducible exact e_nil | with_reducible exact p_no | ((with_reducible apply e_var); rfl) | ((with_reducible apply e_varB); rfl) | ((with_reducible apply e_varO); rfl) | (with_reducible apply e_cons) | (with_reducible apply e_bin) | (with_reducible apply t_bin) | (with_reducible apply e_fn) | (with_reducible apply e_un) | (with_reducible apply t_truth) | (with_reducible apply t_not) | (with_reducible apply e_tup) | (with_reducible apply e_lst) | (with_reducible apply e_alloc) | (with_reducible apply e_call) | (with_reducible apply e_sl) | (with_reducible apply p_some) | (with_reducible apply t_tb) | with_reducible exact o_add | with_reducible exact o_sub | with_reducible exact o_le | with_reducible exact o_lt | with_reducible exact o_gt | with_reducible exact o_ge | with_reducible exact o_eq | with_reducible exact o_ne | with_reducible exact o_isN | with_reducible exact o_isnotN | ((with_reducible apply o_mulR); rfl) | ((with_reducible apply o_mulL); first | rfl | assumption | (apply isSmall_fmod <;> decide)) | (with_reducible refine o_mod ?_; first | assumption | omega | decide) | (with_reducible refine o_div ?_ ?_ <;> first | assumption | omega | decide) | rfl | ((with_reducible apply o_ixN); rfl; (first | decide | omega | assumption); (first | rfl | assumption)) | (simp only [List.length_cons, List.length_nil]; first | done | omega) | (with_reducible apply Eq.symm; with_reducible apply Eq.symm; with_reducible assumption))))))
            (with_reducible apply SP.subR)
            · (repeat' (first | with_reducible exact e_c | with_reducible exact e_nil | with_reducible exact p_no | ((with_reducible apply e_var); rfl) | ((with_reducible apply e_varB); rfl) | ((with_reducible apply e_varO); rfl) | (with_reducible apply e_cons) | (with_reducible apply e_bin) | (with_reducible apply t_bin) | (with_reducible apply e_fn) | (with_reducible apply e_un) | (with_reducible apply t_truth) | (with_reducible apply t_not) | (with_reducible apply e_tup) | (with_reducible apply e_lst) | (with_reducible apply e_alloc) | (with_reducible apply e_call) | (with_reducible apply e_sl) | (with_reducible apply p_some) | (with_reducible apply t_tb) | with_reducible exact o_add | with_reducible exact o_sub | with_reducible exact o_le | with_reducible exact o_lt | with_reducible exact o_gt | with_reducible exact o_ge | with_reducible exact o_eq | with_reducible exact o_ne | with_reducible exact o_isN | with_reducible exact o_isnotN | ((with_reducible apply o_mulR); rfl) | ((with_reducible apply o_mulL); first | rfl | assumption | (apply isSmall_fmod <;> decide)) | (with_reducible refine o_mod ?_; first | assumption | omega | decide) | (with_reducible refine o_div ?_ ?_ <;> first | assumption | omega | decide) | rfl | ((with_reducible apply o_ixN); rfl; (first | decide | omega | assumption); (first | rfl | assumption)) | (simp only [List.length_cons, List.length_nil]; first | done | omega) | (with_reducible apply Eq.symm; with_reducible apply Eq.symm; with_reducible assumption)))
            · (repeat' (first | with_reducible exact e_c | with_reducible exact e_nil | with_reducible exact p_no | ((with_reducible apply e_var); rfl) | ((with_reducible apply e_varB); rfl) | ((with_reducible apply e_varO); rfl) | (with_reducible apply e_cons) | (with_reducible apply e_bin) | (with_reducible apply t_bin) | (with_reducible apply e_fn) | (with_reducible apply e_un) | (with_reducible apply t_truth) | (with_reducible apply t_not) | (with_reducible apply e_tup) | (with_reducible apply e_lst) | (with_reducible apply e_alloc) | (with_reducible apply e_call) | (with_reducible apply e_sl) | (with_reducible apply p_some) | (with_reducible apply t_tb) | with_reducible exact o_add | with_reducible exact o_sub | with_reducible exact o_le | with_reducible exact o_lt | with_reducible exact o_gt | with_reducible exact o_ge | with_reducible exact o_eq | with_reducible exact o_ne | with_reducible exact o_isN | with_reducible exact o_isnotN | ((with_reducible apply o_mulR); rfl) | ((with_reducible apply o_mulL); first | rfl | assumption | (apply isSmall_fmod <;> decide)) | (with_reducible refine o_mod ?_; first | assumption | omega | decide) | (with_reducible refine o_div ?_ ?_ <;> first | assumption | omega | decide) | rfl | ((with_reducible apply o_ixN); rfl; (first | decide | omega | assumption); (first | rfl | assumption)) | (simp only [List.length_cons, List.length_nil]; first | done | omega) | (with_reducible apply Eq.symm; with_reducible apply Eq.symm; with_reducible assumption)))
            · (repeat' (first | with_reducible exact e_c | with_reducible exact e_nil | with_reducible exact p_no | ((with_reducible apply e_var); rfl) | ((with_reducible apply e_varB); rfl) | ((with_reducible apply e_varO); rfl) | (with_reducible apply e_cons) | (with_reducible apply e_bin) | (with_reducible apply t_bin) | (with_reducible apply e_fn) | (with_reducible apply e_un) | (with_reducible apply t_truth) | (with_reducible apply t_not) | (with_reducible apply e_tup) | (with_reducible apply e_lst) | (with_reducible apply e_alloc) | (with_reducible apply e_call) | (with_reducible apply e_sl) | (with_reducible apply p_some) | (with_reducible apply t_tb) | with_reducible exact o_add | with_reducible exact o_sub | with_reducible exact o_le | with_reducible exact o_lt | with_reducible exact o_gt | with_reducible exact o_ge | with_reducible exact o_eq | with_reducible exact o_ne | with_reducible exact o_isN | with_reducible exact o_isnotN | ((with_reducible apply o_mulR); rfl) | ((with_reducible apply o_mulL); first | rfl | assumption | (apply isSmall_fmod <;> decide)) | (with_reducible refine o_mod ?_; first | assumption | omega | decide) | (with_reducible refine o_div ?_ ?_ <;> first | assumption | omega | decide) | rfl | ((with_reducible apply o_ixN); rfl; (first | decide | omega | assumption); (first | rfl | assumption)) | (simp only [List.length_cons, List.length_nil]; first | done | omega) | (with_reducible apply Eq.symm; with_reducible apply Eq.symm; with_reducible assumption)))
            · rfl
            · rfl
            (repeat (first | with_reducible refine SP.seq ?_ | with_reducible refine thenS_nx ?_ | with_reducible refine thenS_ret ?_ | with_reducible refine SP.pass ?_ | with_reducible refine SP.frz ?_ | ((with_reducible apply SP.set); focus (repeat' (first | with_reducible exact e_c | with_reducible exact e_nil | with_reducible exact p_no | ((with_reducible apply e_var); rfl) | ((with_reducible apply e_varB); rfl) | ((with_reducible apply e_varO); rfl) | (with_reducible apply e_cons) | (with_reducible apply e_bin) | (with_reducible apply t_bin) | (with_reducible apply e_fn) | (with_reducible apply e_un) | (with_reducible apply t_truth) | (with_reducible apply t_not) | (with_reducible apply e_tup) | (with_reducible apply e_lst) | (with_reducible apply e_alloc) | (with_reducible apply e_call) | (with_reducible apply e_sl) | (with_reducible apply p_some) | (with_reducible apply t_tb) | with_reducible exact o_add | with_reducible exact o_sub | with_reducible exact o_le | with_reducible exact o_lt | with_reducible exact o_gt | with_reducible exact o_ge | with_reducible exact o_eq | with_reducible exact o_ne | with_reducible exact o_isN | with_reducible exact o_isnotN | ((with_reducible apply o_mulR); rfl) | ((with_reducible apply o_mulL); first | rfl | assumption | (apply isSmall_fmod <;> decide)) | (with_reducible refine o_mod ?_; first | assumption | omega | decide) | (with_reducible refine o_div ?_ ?_ <;> first | assumption | omega | decide) | rfl | ((with_reducible apply o_ixN); rfl; (first | decide | omega | assumption); (first | rfl | assumption)) | (simp only [List.length_cons, List.length_nil]; first | done | omega) | (with_reducible apply Eq.symm; with_reducible apply Eq.symm; with_reducible assumption)))) | ((with_reducible apply SP.setO); focus (repeat' (first | with_reducible exact e_c | with_reducible exact e_nil | with_reducible exact p_no | ((with_reducible apply e_var); rfl) | ((with_reducible apply e_varB); rfl) | ((with_reducible apply e_varO); rfl) | (with_reducible apply e_cons) | (with_reducible apply e_bin) | (with_reducible apply t_bin) | (with_reducible apply e_fn) | (with_reducible apply e_un) | (with_reducible apply t_truth) | (with_reducible apply t_not) | (with_reducible apply e_tup) | (with_reducible apply e_lst) | (with_reducible apply e_alloc) | (with_reducible apply e_call) | (with_reducible apply e_sl) | (with_reducible apply p_some) | (with_reducible apply t_tb) | with_reducible exact o_add | with_reducible exact o_sub | with_reducible exact o_le | with_reducible exact o_lt | with_reducible exact o_gt | with_reducible exact o_ge | with_reducible exact o_eq | with_reducible exact o_ne | with_reducible exact o_isN | with_reducible exact o_isnotN | ((with_reducible apply o_mulR); rfl) | ((with_reducible apply o_mulL); first | rfl | assumption | (apply isSmall_fmod <;> decide)) | (with_reducible refine o_mod ?_; first | assumption | omega | decide) | (with_reducible refine o_div ?_ ?_ <;> first | assumption | omega | decide) | rfl | ((with_reducible apply o_ixN); rfl; (first | decide | omega | assumption); (first | rfl | assumption)) | (simp only [List.length_cons, List.length_nil]; first | done | omega) | (with_reducible apply Eq.symm; with_reducible apply Eq.symm; with_reducible assumption)))) | ((with_reducible apply SP.ret); focus (repeat' (first | with_reducible exact e_c | with_reducible exact e_nil | with_reducible exact p_no | ((with_reducible apply e_var); rfl) | ((with_reducible apply e_varB); rfl) | ((with_reducible apply e_varO); rfl) | (with_reducible apply e_cons) | (with_reducible apply e_bin) | (with_reducible apply t_bin) | (with_reducible apply e_fn) | (with_reducible apply e_un) | (with_reducible apply t_truth) | (with_reducible apply t_not) | (with_reducible apply e_tup) | (with_reducible apply e_lst) | (with_reducible apply e_alloc) | (with_reducible apply e_call) | (with_reducible apply e_sl) | (with_reducible apply p_some) | (with_reducible apply t_tb) | with_reducible exact o_add | with_reducible exact o_sub | with_reducible exact o_le | with_reducible exact o_lt | with_reducible exact o_gt | with_reducible exact o_ge | with_reducible exact o_eq | with_reducible exact o_ne | with_reducible exact o_isN | with_reducible exact o_isnotN | ((with_reducible apply o_mulR); rfl) | ((with_reducible apply o_mulL); first | rfl | assumption | (apply isSmall_fmod <;> decide)) | (with_reducible refine o_mod ?_; first | assumption | omega | decide) | (with_reducible refine o_div ?_ ?_ <;> first | assumption | omega | decide) | rfl | ((with_reducible apply o_ixN); rfl; (first | decide | omega | assumption); (first | rfl | assumption)) | (simp only [List.length_cons, List.length_nil]; first | done | omega) | (with_reducible apply Eq.symm; with_reducible apply Eq.symm; with_reducible assumption))))))
            exact fin ⟨ns, a', b, _, e + 1, rfl, ha'⟩
          · exact thenS_ret (fin h)
    · exact thenS_ret (fin h)
theorem ttape (ns : List Int) : F__law_tape [.rdl (ns.map .int)] [] = .ok (.ref 0) [tp ns 0 0 1 0] := by
  obtain ⟨r, s, e, h1, h2⟩ : ∃ r s, F__law_tape [.rdl (ns.map .int)] [] = .ok r s ∧ r = .ref 0 ∧ s = [tp ns 0 0 1 0] :=
    run_of rfl (SP.ret (e_alloc (e_lst (e_cons (e_fn (e_cons (e_var rfl) e_nil) rfl) (e_cons e_c (e_cons e_c (e_cons e_c (e_cons e_c e_nil))))) (by simp))) ⟨rfl, rfl⟩)
  rw [e, h1, h2]
end DL

set_option maxHeartbeats 4000000
namespace DL
open PySem L2 Bs
theorem i_rgn {af : AF} {env : En} {st s1 : Sto} {n : Int} (h : af env st = .ok [.int n] s1) (h0 : 0 ≤ n) (h1 : n ≤ 1000000) : iRange1 af env st = .ok (rgD 0 n.toNat) s1 := i_rg1 h (by unfold sm62; rw [Bool.and_eq_true, decide_eq_true_eq, decide_eq_true_eq]; omega)
def pr (p : Int × Int) : D := .tup [.int p.1, .int p.2]
def ltP (q p : Int × Int) : Prop := q.1 < p.1 ∨ (q.1 = p.1 ∧ q.2 < p.2)
theorem ltP_lex {q p : Int × Int} : HT.lexLt [q.1, q.2] [p.1, p.2] = true ↔ ltP q p := by
  obtain ⟨a, b⟩ := q
  obtain ⟨c, d⟩ := p
  unfold ltP
  dsimp only
  rw [HT.lexLt_cons]
  by_cases h : a = c
  · subst h
    rw [if_pos rfl, HT.lexLt_cons]
    by_cases h2 : b = d
    · subst h2; simp [HT.lexLt]
    · rw [if_neg h2, decide_eq_true_eq]; omega
  · rw [if_neg h, decide_eq_true_eq]; omega
structure WB (n : Int) (ps : List (Int × Int)) : Prop where
  so : ps.Pairwise ltP
  inn : ∀ p ∈ ps, 0 ≤ p.1 ∧ p.1 < p.2 ∧ p.2 < n
  len : ps.length ≤ 600
end DL

set_option maxHeartbeats 4000000
namespace DL
open PySem L2 Bs
end DL

set_option maxHeartbeats 4000000
namespace Bs
open PySem PySem.Spec L2
def norm (a b : Int) : Int × Int := (if b < a then b else a, if b > a then b else a)
structure Lot (n : Int) (l : List Int) : Prop where
  up : l.Pairwise (· < ·)
  ok : ∀ x ∈ l, 0 ≤ x ∧ x < n
theorem lot_len {n : Int} {l : List Int} (h : Lot n l) (h0 : 0 ≤ n) : (l.length : Int) ≤ n := by
  have key : ∀ {l : List Int} {lo hi : Int}, l.Pairwise (· < ·) → (∀ x ∈ l, lo ≤ x ∧ x < hi) → lo ≤ hi → (l.length : Int) ≤ hi - lo := by
    intro l
    induction l with
    | nil => intro lo hi _ _ h; simp; omega
    | cons x l ih =>
      intro lo hi h hb hle
      obtain ⟨h1, h2⟩ := List.pairwise_cons.mp h
      have hx := hb x (by simp)
      have := ih (lo := x + 1) (hi := hi) h2 (fun y hy => ⟨by have := h1 y hy; omega, (hb y (by simp [hy])).2⟩) (by omega)
      rw [List.length_cons]; omega
  have := key h.up h.ok h0
  omega
theorem ups_ext : ∀ {ps qs : List Int}, ps.Pairwise (· < ·) → qs.Pairwise (· < ·) → (∀ p, p ∈ ps ↔ p ∈ qs) → ps = qs
  | [], [], _, _, _ => rfl
  | [], q :: qs, _, _, h => by have := (h q).mpr (by simp); simp at this
  | p :: ps, [], _, _, h => by have := (h p).mp (by simp); simp at this
  | p :: ps, q :: qs, hp, hq, h => by
    obtain ⟨p1, p2⟩ := List.pairwise_cons.mp hp
    obtain ⟨q1, q2⟩ := List.pairwise_cons.mp hq
    have e : p = q := by
      rcases List.mem_cons.mp ((h p).mp (by simp)) with e | e
      · exact e
      · rcases List.mem_cons.mp ((h q).mpr (by simp)) with e' | e'
        · exact e'.symm
        · have := q1 p e; have := p1 q e'; omega
    subst e
    have : ps = qs := ups_ext p2 q2 fun r => by
      constructor
      · intro hr
        rcases List.mem_cons.mp ((h r).mp (by simp [hr])) with e | e
        · subst e; have := p1 r hr; omega
        · exact e
      · intro hr
        rcases List.mem_cons.mp ((h r).mpr (by simp [hr])) with e | e
        · subst e; have := q1 r hr; omega
        · exact e
    rw [this]
def IsLot (l : List Int) (b : Nat) : Prop := (∀ x ∈ l, 0 ≤ x) ∧ l.Pairwise (· < ·) ∧ ∀ k : Nat, (k : Int) ∈ l ↔ b.testBit k = true
def bitsN (l : List Int) : Nat := l.foldl (fun b p => b ||| 2 ^ p.toNat) 0
theorem bitsN_snoc (l : List Int) (p : Int) : bitsN (l ++ [p]) = bitsN l ||| 2 ^ p.toNat := by
  unfold bitsN
  rw [List.foldl_append]
  rfl
theorem bits_fold : ∀ (l : List Int) (b : Nat) (k : Nat), (∀ x ∈ l, 0 ≤ x) → (l.foldl (fun b p => b ||| 2 ^ p.toNat) b).testBit k = (b.testBit k || decide ((k : Int) ∈ l))
  | [], b, k, _ => by simp
  | p :: l, b, k, h => by
    rw [List.foldl_cons, bits_fold l _ k (fun x hx => h x (by simp [hx])), Nat.testBit_or, Nat.testBit_two_pow]
    have h0 := h p (by simp)
    by_cases c : p.toNat = k
    · have : (k : Int) = p := by omega
      simp [c, this]
    · have : ¬ (k : Int) = p := by omega
      simp [c, this]
theorem bitsN_bit {l : List Int} (h : ∀ x ∈ l, 0 ≤ x) (k : Nat) : (bitsN l).testBit k = decide ((k : Int) ∈ l) := by
  unfold bitsN
  rw [bits_fold l 0 k h]
  simp
theorem isLot_bits {n : Int} {l : List Int} (h : Lot n l) : IsLot l (bitsN l) :=
  ⟨fun x hx => (h.ok x hx).1, h.up, fun k => by rw [bitsN_bit fun x hx => (h.ok x hx).1]; simp⟩
theorem take_snoc {α : Type} {l : List α} {i : Nat} {x : α} (h : l[i]? = some x) : l.take (i + 1) = l.take i ++ [x] := by
  rw [List.take_succ, h]; rfl
theorem p2 (k : Nat) : (1 : Int) * 2 ^ ((k : Int)).toNat = ((2 ^ k : Nat) : Int) := by
  rw [Int.toNat_natCast, Int.one_mul, Int.natCast_pow]; rfl
theorem p2i {p : Int} (h : 0 ≤ p) : (1 : Int) * 2 ^ p.toNat = ((2 ^ p.toNat : Nat) : Int) := by
  rw [Int.one_mul, Int.natCast_pow]; rfl
theorem dec_or {p a b : Prop} [Decidable p] [Decidable a] [Decidable b] (h : p ↔ a ∨ b) : decide p = (decide a || decide b) := by
  by_cases ha : a <;> by_cases hb : b <;> simp [h, ha, hb]
theorem dec_iff {p a : Prop} [Decidable p] [Decidable a] (h : p ↔ a) : decide p = decide a := by
  by_cases ha : a <;> simp [h, ha]
structure Tied (n : Int) (ps : List (Int × Int)) (ts : List Nat) : Prop where
  len : (ts.length : Int) = n
  bit : ∀ i k : Nat, i < ts.length → (ts.getD i 0).testBit k = decide (norm (i : Int) (k : Int) ∈ ps)
theorem getD_set (ts : List Nat) (i j b : Nat) (h : i < ts.length) : (ts.set i b).getD j 0 = if i = j then b else ts.getD j 0 := by
  rw [List.getD_eq_getElem?_getD, List.getD_eq_getElem?_getD, List.getElem?_set]
  by_cases c : i = j
  · subst c; simp [h]
  · simp [c]
theorem norm_pair {a b c d : Int} (hab : a < b) : norm c d = (a, b) ↔ (c = a ∧ d = b) ∨ (c = b ∧ d = a) := by
  unfold norm
  constructor
  · intro h
    have h1 := congrArg Prod.fst h
    have h2 := congrArg Prod.snd h
    dsimp only at h1 h2
    by_cases x : d < c
    · rw [if_pos x] at h1; rw [if_neg (show ¬ d > c by omega)] at h2; omega
    · rw [if_neg x] at h1
      by_cases y : d > c
      · rw [if_pos y] at h2; omega
      · rw [if_neg y] at h2; omega
  · rintro (⟨rfl, rfl⟩ | ⟨rfl, rfl⟩)
    · rw [if_neg (by omega), if_pos (by omega)]
    · rw [if_pos (by omega), if_neg (by omega)]
def says (ps : List (Int × Int)) (l : List Int) (p : Int) : Bool := l.all fun q => !decide (norm p q ∈ ps)
def Behind (n : Int) (ps : List (Int × Int)) (l : List Int) (p : Int) (l' : List Int) : Prop :=
  Lot n l' ∧ ∀ x, x ∈ l' ↔ (if says ps l p = true then x ∈ l ∨ x = p else x ∈ l ∧ x ≠ p)
theorem Behind.uniq {n : Int} {ps : List (Int × Int)} {l l1 l2 : List Int} {p : Int} (h1 : Behind n ps l p l1) (h2 : Behind n ps l p l2) : l1 = l2 :=
  ups_ext h1.1.up h2.1.up fun x => by rw [h1.2, h2.2]
end Bs

set_option maxHeartbeats 4000000
namespace DL
open PySem L2 Bs
theorem o_or {st : Sto} {i j : Nat} : oOr st (.int (i : Int)) (.int (j : Int)) = some (.int ((i ||| j : Nat) : Int)) := by show some (D.int (Builtin.bitOr (i : Int) (j : Int))) = _; rw [or_pp]
theorem o_and {st : Sto} {i j : Nat} : oAnd st (.int (i : Int)) (.int (j : Int)) = some (.int ((i &&& j : Nat) : Int)) := by show some (D.int (Builtin.bitAnd (i : Int) (j : Int))) = _; rw [and_pp]
theorem o_shl1 {st : Sto} {p : Int} (h0 : 0 ≤ p) (h1 : p ≤ 1000) : oShl st (.int 1) (.int p) = some (.int ((2 ^ p.toNat : Nat) : Int)) := by
  show (if 0 ≤ p ∧ p ≤ 1000000 ∧ (1 : Int).natAbs < 2 ^ 64 then some (D.int (1 * 2 ^ p.toNat)) else none) = _
  rw [if_pos ⟨h0, by omega, by decide⟩, p2i h0]
theorem o_sub_ {st : Sto} {i j : Int} : oSub st (.int i) (.int j) = some (.int (i - j)) := rfl
theorem lot_of_ok {b : Nat} (hb : b < 2 ^ 200) (st : Sto) : ∃ d st', F_lot_of [.int (b : Int)] st = .ok d st' ∧ ∃ l : List Int, d = .tup (l.map .int) ∧ IsLot l b ∧ st' = st := by
  refine run_of rfl (SP.seq (SP.setO (e_lst e_nil (by decide)) (thenS_nx (SP.seq ?_))))
  refine SP.while_inv (n := 201) (fun k env s => s = st ∧ ∃ (cur : Nat) (L : List Int) (e : Slot), env = [.fz (.int (cur : Int)), .ow (.lst (L.map .int)), e] ∧ Lot 200 L ∧ (∀ j : Nat, (j : Int) ∈ L ↔ b.testBit j = true ∧ cur.testBit j = false) ∧ (∀ j : Nat, cur.testBit j = true → b.testBit j = true ∧ ∀ x ∈ L, x < (j : Int)) ∧ k + L.length = 201) ⟨rfl, b, [], _, rfl, ⟨List.Pairwise.nil, fun x hx => by simp at hx⟩, fun j => by simp, fun j hj => ⟨hj, fun x hx => by simp at hx⟩, rfl⟩ ?_ (by decide)
  rintro k env s ⟨rfl, cur, L, e, rfl, hL, h1, h2, hk⟩
  have hLl := lot_len hL (by decide)
  refine ⟨(cur : Int) != 0, s, t_truth (e_var rfl) rfl, fun hb0 => ?_, fun hb0 => ?_⟩
  · refine ⟨by omega, ?_⟩
    have hc : cur ≠ 0 := fun z => by rw [z] at hb0; simp at hb0
    obtain ⟨p, hp1, hp2⟩ := low_ex hc
    have hpl : p < 200 := by
      rcases Nat.lt_or_ge p 200 with z | z
      · exact z
      · have := (h2 p hp1).1
        rw [Nat.testBit_lt_two_pow (Nat.lt_of_lt_of_le hb (Nat.pow_le_pow_right (by decide) z))] at this
        cases this
    have hlow : oAnd s (.int (cur : Int)) (.int (-(cur : Int))) = some (.int (2 ^ p)) := by
      show some (D.int (Builtin.bitAnd (cur : Int) (-(cur : Int)))) = _
      rw [low_is hp1 hp2]
    have hbits : gBits (.int ((2 : Int) ^ p)) = some (.int ((p + 1 : Nat) : Int)) := by
      show some (D.int ((Builtin.Int.intBits ((2 : Int) ^ p) : Nat) : Int)) = _
      rw [bits_pow]
    refine SP.seq (SP.set (d := .int (2 ^ p)) (e_bin (e_var rfl) (e_un (e_var rfl) rfl) hlow) (thenS_nx (SP.seq ?_)))
    refine SP.appO (i := 1) (l := L.map .int) (d := .int (p : Int)) rfl (e_bin (e_un (e_var rfl) hbits) e_c (o_sub_.trans (by congr 2; omega))) (by rw [List.length_map]; unfold lim; omega) (thenS_nx ?_)
    have hxor : oXor s (.int (cur : Int)) (.int ((2 : Int) ^ p)) = some (.int ((clr cur p : Nat) : Int)) := by
      show some (D.int (Builtin.bitXor (cur : Int) ((2 : Int) ^ p))) = _
      have : ((2 : Int) ^ p) = ((2 ^ p : Nat) : Int) := by rw [Int.natCast_pow]; rfl
      rw [this, xor_pp, xor_low hp1]
    refine SP.aug rfl (e_var rfl) hxor ⟨rfl, clr cur p, L ++ [(p : Int)], .fz (.int (2 ^ p)), ?_, ?_, fun j => ?_, fun j hj => ?_, by rw [List.length_append, List.length_singleton]; omega⟩
    · rw [List.map_append]; rfl
    · refine ⟨?_, fun x hx => ?_⟩
      · rw [List.pairwise_append]
        refine ⟨hL.up, List.pairwise_singleton .., fun x hx y hy => ?_⟩
        rw [List.mem_singleton] at hy
        subst hy
        exact (h2 p hp1).2 x hx
      · rcases List.mem_append.mp hx with hx | hx
        · exact hL.ok x hx
        · rw [List.mem_singleton] at hx
          omega
    · rw [List.mem_append, List.mem_singleton, clr_bit, h1]
      by_cases e : j = p
      · subst e
        simp [(h2 j hp1).1]
      · have : ¬ ((j : Int) = (p : Int)) := by omega
        simp [e, this]
    · rw [clr_bit] at hj
      simp only [Bool.and_eq_true, Bool.not_eq_true', decide_eq_false_iff_not] at hj
      refine ⟨(h2 j hj.1).1, fun x hx => ?_⟩
      rcases List.mem_append.mp hx with hx | hx
      · exact (h2 j hj.1).2 x hx
      · rw [List.mem_singleton] at hx
        have : ¬ j < p := fun z => by have := hp2 j z; rw [hj.1] at this; cases this
        omega
  · have hc : cur = 0 := by
      cases hz : decide (cur = 0) with
      | true => exact of_decide_eq_true hz
      | false =>
        have := of_decide_eq_false hz
        have h3 : ((cur : Int) != 0) = true := by simp [this]
        rw [h3] at hb0
        cases hb0
    subst hc
    refine thenS_nx (SP.ret (e_fn (e_cons (e_varO rfl) e_nil) rfl) ⟨L, rfl, ⟨fun x hx => (hL.ok x hx).1, hL.up, fun j => ?_⟩, rfl⟩)
    rw [h1]
    simp
end DL

set_option maxHeartbeats 4000000
namespace DL
open PySem L2 Bs
theorem isa_of {T t : String} {tb : List (String × Bool)} {d : D} {b : Bool} (h : tyD d = some t) (hb : kitB t T = some b) (hn : ∀ c n l, d ≠ .ins c n l) : isaD T tb d = some b := by
  have go : isaD T tb d = (tyD d).bind fun t => kitB t T := by
    cases d with
    | ins c n l => exact absurd rfl (hn c n l)
    | _ => rfl
  rw [go, h]
  exact hb
theorem e_isa {T t : String} {fa : EF} {env : En} {st s1 : Sto} {d : D} {b : Bool} (h1 : fa env st = .ok d s1) (h : tyD d = some t) (hb : kitB t T = some b) : dUn (gIsa T tbF) fa env st = .ok (.bl b) s1 := by
  refine e_un h1 ?_
  have hd : deref s1 d = d := by cases d <;> first | rfl | cases h
  have hn : ∀ c n l, d ≠ .ins c n l := fun c n l z => by subst z; cases h
  rw [hd, gIsa, isa_of h hb hn]
  rfl
theorem k_ii : kitB "int" "int" = some true := by decide +kernel
theorem k_ib : kitB "int" "bool" = some false := by decide +kernel
theorem k_tt : kitB "tuple" "tuple" = some true := by decide +kernel
theorem k_bb : kitB "bool" "bool" = some true := by decide +kernel
theorem is_integer_ok (i : Int) (st : Sto) : F_is_integer [.int i] st = .ok (.bl true) st := by
  obtain ⟨r, s, e, h1, h2⟩ : ∃ r s, F_is_integer [.int i] st = .ok r s ∧ r = .bl true ∧ s = st :=
    run_of rfl (SP.ret (v_and (b := true) (c := true) (e_isa (d := .int i) (e_var rfl) rfl k_ii) fun _ => e_un (e_isa (d := .int i) (e_var rfl) rfl k_ib) rfl) ⟨rfl, rfl⟩)
  rw [e, h1, h2]
theorem is_number_ok (i a b : Int) (st : Sto) : F_is_number [.int i, .int a, .int b] st = .ok (.bl (decide (a ≤ i) && decide (i ≤ b))) st := by
  obtain ⟨r, s, e, h1, h2⟩ : ∃ r s, F_is_number [.int i, .int a, .int b] st = .ok r s ∧ r = .bl (decide (a ≤ i) && decide (i ≤ b)) ∧ s = st :=
    run_of rfl (SP.ret (v_and (b := true) (e_call (e_cons (e_var rfl) e_nil) (is_integer_ok i st)) fun _ => e_chain (e_var rfl) (e_var rfl) o_le (fun _ => e_var rfl) fun _ => o_le) ⟨rfl, rfl⟩)
  rw [e, h1, h2]
theorem in_true {i a b : Int} (h1 : a ≤ i) (h2 : i ≤ b) : (decide (a ≤ i) && decide (i ≤ b)) = true := by rw [decide_eq_true h1, decide_eq_true h2]; rfl
def webD (n : Int) (ps : List (Int × Int)) : D := .ins "Web" ["size", "ties"] [.int n, .tup (ps.map pr)]
theorem is_lot_below_ok {n : Int} {l : List Int} (h : Lot n l) (st : Sto) : F_is_lot_below [.int n, .tup (l.map .int)] st = .ok (.bl true) st := by
  obtain ⟨r, s, e, h1, h2⟩ : ∃ r s, F_is_lot_below [.int n, .tup (l.map .int)] st = .ok r s ∧ r = .bl true ∧ s = st := by
    refine run_of rfl (SP.seq (SP.if (b := false) (s1 := st) (t_not (t_truth (x := .bl true) (b := true) (e_isa (d := .tup (l.map .int)) (e_var rfl) rfl k_tt) rfl)) (fun z => by cases z) fun _ => SP.pass (thenS_nx ?_)))
    refine SP.seq (SP.set (e_un e_c rfl) (thenS_nx (SP.seq ?_)))
    refine SP.for_inv (s1 := st) (ds := l.map D.int) (fun i env s => s = st ∧ ∃ (last : Int) (e : Slot), env = [.fz (.int n), .fz (.tup (l.map .int)), .fz (.int last), e] ∧ ∀ x ∈ l.drop i, last < x) (i_seq (e_var rfl) rfl) ⟨rfl, -1, _, rfl, fun x hx => by have := h.ok x (by simpa using hx); omega⟩ ?_ ?_
    · rintro i d env s hd ⟨rfl, last, e, rfl, hI⟩
      rw [List.getElem?_map] at hd
      cases hx : l[i]? with
      | none => rw [hx] at hd; cases hd
      | some x =>
        rw [hx] at hd
        cases hd
        have hi := (List.getElem?_eq_some_iff.mp hx).1
        have hdr : l.drop i = x :: l.drop (i + 1) := by rw [List.drop_eq_getElem_cons hi, (List.getElem?_eq_some_iff.mp hx).2]
        have hb := h.ok x (List.mem_of_getElem? hx)
        have hlx := hI x (by rw [hdr]; exact .head _)
        refine ⟨_, rfl, SP.seq (SP.if (b := false) (s1 := s) (t_not (t_truth (x := .bl true) (b := true) (e_call (e_cons (e_var rfl) (e_cons (e_bin (e_var rfl) e_c o_add) (e_cons (e_bin (e_var rfl) e_c o_sub) e_nil))) ((is_number_ok x (last + 1) (n - 1) s).trans (by rw [in_true (by omega) (by omega)]))) rfl)) (fun z => by cases z) fun _ => SP.pass (thenS_nx (SP.set (e_var rfl) ⟨rfl, x, .fz (.int x), rfl, fun y hy => ?_⟩)))⟩
        have hp : (l.drop i).Pairwise (· < ·) := h.up.sublist (List.drop_sublist _ _)
        rw [hdr] at hp
        exact (List.pairwise_cons.mp hp).1 y hy
    · rintro env s ⟨rfl, last, e, rfl, _⟩
      exact thenS_nx (SP.ret e_c ⟨rfl, rfl⟩)
  rw [e, h1, h2]
def nats (ts : List Nat) : List D := ts.map fun b : Nat => D.int (b : Int)
theorem nats_get {ts : List Nat} {i : Nat} (h : i < ts.length) : (nats ts)[i]? = some (.int (ts.getD i 0 : Nat)) := by
  unfold nats
  rw [List.getElem?_map, List.getElem?_eq_getElem h, List.getD_eq_getElem?_getD, List.getElem?_eq_getElem h]
  rfl
end DL

set_option maxHeartbeats 4000000
namespace DL
open PySem L2 Bs
theorem SP.augO {i : Nat} {g : Op2} {fk fa : EF} {env : En} {st s1 s2 : Sto} {Q : RS → Prop} {l : List D} {k : Int} {x y z : D} (hi : env[i]? = some (.ow (.lst l))) (hk : fk env st = .ok (.int k) s1) (h0 : 0 ≤ k) (hx : l[k.toNat]? = some x) (ha : fa env s1 = .ok y s2) (hg : g s2 x y = some z)
    (q : Q (.nx (env.set i (.ow (.lst (l.set k.toNat z)))) s2)) : SP (sAugO i g fk fa env st) Q := ⟨by
  unfold sAugO sE
  rw [hi]
  dsimp only
  rw [hk]
  dsimp only
  rw [hi]
  dsimp only
  rw [decide_eq_true h0, hx]
  dsimp only
  rw [ha]
  dsimp only
  rw [hg]
  exact q⟩
theorem nats_set (ts : List Nat) (i b : Nat) : (nats ts).set i (.int (b : Int)) = nats (ts.set i b) := by
  unfold nats
  rw [List.map_set]
theorem rep_int (n : Nat) : rep n [D.int 0] = nats (List.replicate n 0) := by
  unfold rep nats
  induction n with
  | zero => rfl
  | succ n ih => rw [List.replicate_succ, List.flatten_cons, ih, List.replicate_succ, List.map_cons]; rfl
theorem tied_bits_ok {n : Int} {ps : List (Int × Int)} (h : WB n ps) (n1 : 1 ≤ n) (n24 : n ≤ 24) (st : Sto) : ∃ ts, F_tied_bits [webD n ps] st = .ok (.lst (nats ts)) st ∧ Tied n ps ts := by
  obtain ⟨r, s, e, ts, h1, h2, hT⟩ : ∃ r s, F_tied_bits [webD n ps] st = .ok r s ∧ ∃ ts, r = .lst (nats ts) ∧ s = st ∧ Tied n ps ts := by
    have hrep : oRep st (.lst [.int 0]) (.int n) = some (.lst (nats (List.replicate n.toNat 0))) := by
      rw [← rep_int]
      show gRep st (.lst [.int 0]) (.int n) = _
      unfold gRep
      dsimp only
      first
      | rw [if_pos (by unfold small63 lim; simp; omega)]
      | (split <;> simp_all [small63, lim] <;> omega)
    refine run_of rfl (SP.seq (SP.setO (e_bin (e_lst (e_cons e_c e_nil) (by simp)) (e_un (e_var rfl) rfl) hrep) (thenS_nx (SP.seq ?_))))
    refine SP.for_inv (s1 := st) (ds := ps.map pr) (fun i env s => s = st ∧ ∃ ts a b, env = [.fz (webD n ps), .ow (.lst (nats ts)), a, b] ∧ (ts.length : Int) = n ∧ ∀ x k : Nat, x < ts.length → (ts.getD x 0).testBit k = decide (norm (x : Int) (k : Int) ∈ ps.take i)) (i_seq (e_un (e_var rfl) rfl) rfl) ⟨rfl, List.replicate n.toNat 0, _, _, rfl, by rw [List.length_replicate]; omega, fun x k hx => by
      rw [List.length_replicate] at hx
      rw [List.getD_eq_getElem?_getD, List.getElem?_replicate, if_pos hx]
      simp⟩ ?_ ?_
    · rintro i d env s hd ⟨rfl, ts, a, b, rfl, hl, hI⟩
      rw [List.getElem?_map] at hd
      cases hq : ps[i]? with
      | none => rw [hq] at hd; cases hd
      | some q =>
        rw [hq] at hd
        cases hd
        obtain ⟨x, y⟩ := q
        have bd := h.inn (x, y) (List.mem_of_getElem? hq)
        dsimp only at bd
        have hx : x.toNat < ts.length := by omega
        have hy : y.toNat < ts.length := by omega
        refine ⟨_, rfl, SP.seq (SP.augO (i := 1) (l := nats ts) rfl (e_var rfl) bd.1 (nats_get hx) (e_bin e_c (e_var rfl) (o_shl1 (by omega) (by omega))) o_or (thenS_nx ?_))⟩
        rw [nats_set]
        have hy2 : y.toNat < (ts.set x.toNat (ts.getD x.toNat 0 ||| 2 ^ y.toNat)).length := by rw [List.length_set]; exact hy
        refine SP.augO (i := 1) (l := nats (ts.set x.toNat (ts.getD x.toNat 0 ||| 2 ^ y.toNat))) rfl (e_var rfl) (by omega) (nats_get hy2) (e_bin e_c (e_var rfl) (o_shl1 bd.1 (by omega))) o_or ⟨rfl, (ts.set x.toNat (ts.getD x.toNat 0 ||| 2 ^ y.toNat)).set y.toNat ((ts.set x.toNat (ts.getD x.toNat 0 ||| 2 ^ y.toNat)).getD y.toNat 0 ||| 2 ^ x.toNat), .fz (.int x), .fz (.int y), ?_, by rw [List.length_set, List.length_set]; exact hl, fun z k hz => ?_⟩
        · simp only [← nats_set]
          rfl
        · rw [List.length_set, List.length_set] at hz
          rw [getD_set _ _ _ _ hy2, getD_set _ _ _ _ hx, getD_set _ _ _ _ hx, if_neg (show ¬ x.toNat = y.toNat from by omega), take_snoc hq]
          have tb := hI z k hz
          have ty := hI y.toNat k hy
          have hn := norm_pair (a := x) (b := y) (c := (z : Int)) (d := (k : Int)) bd.2.1
          have hmem : decide (norm (z : Int) (k : Int) ∈ ps.take i ++ [(x, y)]) = (decide (norm (z : Int) (k : Int) ∈ ps.take i) || decide (norm (z : Int) (k : Int) = (x, y))) := dec_or (by rw [List.mem_append, List.mem_singleton])
          rw [hmem]
          by_cases c1 : y.toNat = z
          · rw [if_pos c1, Nat.testBit_or, Nat.testBit_two_pow]
            subst c1
            rw [ty]
            congr 1
            exact dec_iff (hn.trans ⟨fun hh => by omega, fun hh => by right; constructor <;> omega⟩).symm
          · rw [if_neg c1]
            by_cases c2 : x.toNat = z
            · rw [if_pos c2, Nat.testBit_or, Nat.testBit_two_pow]
              subst c2
              rw [tb]
              congr 1
              exact dec_iff (hn.trans ⟨fun hh => by omega, fun hh => by left; constructor <;> omega⟩).symm
            · rw [if_neg c2, tb]
              have : ¬ (norm (z : Int) (k : Int) = (x, y)) := fun z' => by have := hn.mp z'; omega
              rw [decide_eq_false this, Bool.or_false]
    · rintro env s ⟨rfl, ts, a, b, rfl, hl, hI⟩
      rw [List.length_map, List.take_length] at hI
      exact thenS_nx (SP.frz (SP.ret (e_var rfl) ⟨ts, rfl, rfl, hl, hI⟩))
  exact ⟨ts, by rw [e, h1, h2], hT⟩
theorem is_tie_ok {n : Int} {p : Int × Int} (h : 0 ≤ p.1 ∧ p.1 < p.2 ∧ p.2 < n) (st : Sto) : F_is_tie [.int n, pr p] st = .ok (.bl true) st := by
  obtain ⟨r, s, e, h1, h2⟩ : ∃ r s, F_is_tie [.int n, pr p] st = .ok r s ∧ r = .bl true ∧ s = st := by
    refine run_of rfl (SP.seq (SP.if (b := false) (s1 := st) (t_or (b := false) (c := false) (t_not (t_truth (x := .bl true) (b := true) (e_isa (d := pr p) (e_var rfl) rfl k_tt) rfl)) fun _ => t_bin (e_fn (e_cons (e_var rfl) e_nil) rfl) e_c (o_ne.trans rfl)) (fun z => by cases z) fun _ => SP.pass (thenS_nx ?_)))
    refine SP.seq (SP.asg (d := pr p) (e_var rfl) rfl (thenS_nx ?_))
    refine SP.ret (v_and (b := true) (c := true) (e_call (e_cons (e_var rfl) (e_cons e_c (e_cons (e_bin (e_var rfl) e_c o_sub) e_nil))) ((is_number_ok p.1 0 (n - 1) st).trans (by rw [in_true (by omega) (by omega)]))) fun _ => e_call (e_cons (e_var rfl) (e_cons (e_bin (e_var rfl) e_c o_add) (e_cons (e_bin (e_var rfl) e_c o_sub) e_nil))) ((is_number_ok p.2 (p.1 + 1) (n - 1) st).trans (by rw [in_true (by omega) (by omega)]))) ⟨rfl, rfl⟩
  rw [e, h1, h2]
theorem wrong_tie_ok {n : Int} {ps : List (Int × Int)} (h : WB n ps) (st : Sto) : F_wrong_tie [.int n, .tup (ps.map pr)] st = .ok .non st := by
  obtain ⟨r, s, e, h1, h2⟩ : ∃ r s, F_wrong_tie [.int n, .tup (ps.map pr)] st = .ok r s ∧ r = .non ∧ s = st := by
    refine run_of rfl (SP.seq (SP.set (e_tup e_nil (by decide)) (thenS_nx (SP.seq ?_))))
    refine SP.for_inv (s1 := st) (ds := enumD (ps.map pr)) (fun i env s => s = st ∧ ∃ ns a b, env = [.fz (.int n), .fz (.tup (ps.map pr)), .fz (.tup (ns.map D.int)), a, b] ∧ (∀ p, ps[i]? = some p → HT.lexLt ns [p.1, p.2] = true)) (i_enum (e_cons (e_var rfl) e_nil) rfl) ⟨rfl, [], _, _, rfl, fun _ _ => rfl⟩ ?_ ?_
    · rintro i d env s hd ⟨rfl, ns, a, b, rfl, hI⟩
      obtain ⟨x, hx, rfl⟩ := enumD_get hd
      rw [List.getElem?_map] at hx
      cases hp : ps[i]? with
      | none => rw [hp] at hx; cases hx
      | some p =>
        rw [hp] at hx
        cases hx
        have hle : oLe s (pr p) (.tup (ns.map D.int)) = some (.bl false) := by
          show (match asInts [D.int p.1, D.int p.2], asInts (ns.map D.int) with | some ns, some ms => some (D.bl (lexLe ns ms)) | _, _ => none) = _
          rw [asInts_map]
          show some (D.bl (!HT.lexLt ns [p.1, p.2])) = _
          rw [hI p hp]
          rfl
        refine ⟨_, rfl, SP.seq (SP.if (b := false) (s1 := s) (t_or (b := false) (c := false) (t_not (t_truth (x := .bl true) (b := true) (e_call (e_cons (e_var rfl) (e_cons (e_var rfl) e_nil)) (is_tie_ok (h.inn p (List.mem_of_getElem? hp)) s)) rfl)) fun _ => t_bin (e_var rfl) (e_var rfl) hle) (fun z => by cases z) fun _ => SP.pass (thenS_nx ?_))⟩
        refine SP.set (d := pr p) (e_var rfl) ⟨rfl, [p.1, p.2], .fz (.int (i : Int)), .fz (pr p), rfl, fun q hq => ltP_lex.mpr ?_⟩
        have := List.pairwise_iff_getElem.mp h.so i (i + 1) (List.getElem?_eq_some_iff.mp hp).1 (List.getElem?_eq_some_iff.mp hq).1 (by omega)
        rw [(List.getElem?_eq_some_iff.mp hp).2, (List.getElem?_eq_some_iff.mp hq).2] at this
        exact this
    · rintro env s ⟨rfl, ns, a, b, rfl, _⟩
      exact thenS_nx (SP.ret e_c ⟨rfl, rfl⟩)
  rw [e, h1, h2]
section
variable {env : En} {st s1 : Sto} {af : AF} {F : FF} {c : String} {ds : List D} {p d : D}
theorem SP.fldR {cs : List String} {f : Str} {fo fe : EF} {cn : String} {ns : List Str} {l : List D} {n : Nat} {s2 : Sto} {x : D} {Q : RS → Prop} (h0 : fe env st = .ok x s1) (h1 : fo env s1 = .ok (.ref n) s2) (h2 : s2[n]? = some (.ins cn ns l)) (h3 : cs.contains cn = true) (h4 : ns.length < 1000)
    (q : Q (.nx env (s2.set n (.ins cn (putN f ns) (putD f x ns l))))) : SP (sFldR cs f fo fe env st) Q := ⟨by
  unfold sFldR sE; rw [h0]; dsimp only; rw [h1]; dsimp only; rw [h2]; dsimp only; rw [h3, decide_eq_true h4]; exact q⟩
end
end DL

set_option maxHeartbeats 4000000
namespace DL
open PySem L2 Bs
theorem plainL_ints : ∀ l : List Int, plainL 61 (l.map D.int) = true
  | [] => rfl
  | x :: l => by
    rw [List.map_cons]
    simp only [plainL, plainL_ints l, Bool.and_true]
    rfl
theorem k_ll : kitB "list" "list" = some true := by decide +kernel
theorem k_lt : kitB "list" "tuple" = some false := by decide +kernel
theorem o_eq_bl {st : Sto} {b : Bool} : oEq st (.bl b) (.bl b) = some (.bl true) := by cases b <;> rfl
theorem isa2_of {T U t : String} {tb tc : List (String × Bool)} {d : D} {r1 r2 : Bool} (h : tyD d = some t) (h1 : kitB t T = some r1) (h2 : kitB t U = some r2) (hn : ∀ c n l, d ≠ .ins c n l) : isaD2 T U tb tc d = some (r1 || r2) := by
  unfold isaD2
  rw [isa_of h h1 hn, isa_of h h2 hn]
theorem e_isa2 {fa : EF} {env : En} {st s1 : Sto} {d : D} {t : String} {r1 r2 : Bool} (h1 : fa env st = .ok d s1) (h : tyD d = some t) (k1 : kitB t "list" = some r1) (k2 : kitB t "tuple" = some r2) : dUn (gIsa2 "list" "tuple" tbF tbF) fa env st = .ok (.bl (r1 || r2)) s1 := by
  refine e_un h1 ?_
  have hd : deref s1 d = d := by cases d <;> first | rfl | cases h
  have hn : ∀ c n l, d ≠ .ins c n l := fun c n l z => by subst z; cases h
  rw [hd, gIsa2, isa2_of h k1 k2 hn]
  rfl
end DL

set_option maxHeartbeats 4000000
namespace DL
open PySem L2 Bs
end DL

set_option maxHeartbeats 400000
namespace DL
open PySem L2 Bs
def callN (ts : List Nat) (b p : Nat) : Nat := if ts.getD p 0 &&& b = 0 then b ||| 2 ^ p else clr b p
def noN (ts : List Nat) (b p : Nat) : Bool := decide (ts.getD p 0 &&& b = 0)
theorem noN_iff {ts : List Nat} {b p : Nat} : noN ts b p = true ↔ ∀ k, (ts.getD p 0).testBit k = true → b.testBit k = false := by
  unfold noN
  rw [decide_eq_true_eq]
  constructor
  · intro h k hk
    have := congrArg (fun z => Nat.testBit z k) h
    simp only [Nat.testBit_and, hk, Bool.true_and, Nat.zero_testBit] at this
    exact this
  · intro h
    refine Nat.eq_of_testBit_eq fun k => ?_
    rw [Nat.testBit_and, Nat.zero_testBit]
    cases hk : (ts.getD p 0).testBit k with
    | false => rfl
    | true => rw [h k hk]; rfl
structure Net (n : Nat) (ts : List Nat) : Prop where
  len : ts.length = n
  irr : ∀ i, i < n → (ts.getD i 0).testBit i = false
  sym : ∀ i k, i < n → k < n → (ts.getD i 0).testBit k = (ts.getD k 0).testBit i
  bd : ∀ i k, i < n → (ts.getD i 0).testBit k = true → k < n
theorem norm_in {n : Int} {ps : List (Int × Int)} (h : WB n ps) {a b : Int} (hm : norm a b ∈ ps) : a ≠ b ∧ a < n ∧ b < n ∧ 0 ≤ a ∧ 0 ≤ b := by
  have := h.inn _ hm
  unfold norm at this
  dsimp only at this
  split at this <;> split at this <;> omega
theorem Tied.uniq {n : Int} {ps : List (Int × Int)} {ts us : List Nat} (t : Tied n ps ts) (u : Tied n ps us) : ts = us := by
  have h1 := t.len
  have h2 := u.len
  refine List.ext_getElem (by omega) fun i hi hj => ?_
  have e1 : ts.getD i 0 = ts[i] := by rw [List.getD_eq_getElem?_getD, List.getElem?_eq_getElem hi]; rfl
  have e2 : us.getD i 0 = us[i] := by rw [List.getD_eq_getElem?_getD, List.getElem?_eq_getElem hj]; rfl
  rw [← e1, ← e2]
  exact Nat.eq_of_testBit_eq fun k => by rw [t.bit i k hi, u.bit i k hj]
section
variable {n : Nat} {ts : List Nat} {b p : Nat}
theorem call_bd (hp : p < n) (hb : b < 2 ^ n) : callN ts b p < 2 ^ n := by
  unfold callN
  split
  · exact Nat.or_lt_two_pow hb (Nat.pow_lt_pow_right (by decide) hp)
  · unfold clr
    omega
end
def lotN (n b : Nat) : List Int := ((List.range n).filter fun k => b.testBit k).map fun k : Nat => (k : Int)
theorem mem_lotN {n b : Nat} {x : Int} : x ∈ lotN n b ↔ 0 ≤ x ∧ x < n ∧ b.testBit x.toNat = true := by
  unfold lotN
  rw [List.mem_map]
  constructor
  · rintro ⟨k, hk, rfl⟩
    rw [List.mem_filter, List.mem_range] at hk
    exact ⟨by omega, by omega, hk.2⟩
  · rintro ⟨h0, h1, h2⟩
    exact ⟨x.toNat, List.mem_filter.mpr ⟨List.mem_range.mpr (by omega), h2⟩, by omega⟩
theorem lotN_lot (n b : Nat) : Lot n (lotN n b) := by
  refine ⟨?_, fun x hx => ⟨(mem_lotN.mp hx).1, (mem_lotN.mp hx).2.1⟩⟩
  unfold lotN
  rw [List.pairwise_map]
  have : ((List.range n).filter fun k => b.testBit k).Pairwise (· < ·) := List.Pairwise.filter _ (List.pairwise_lt_range)
  exact this.imp fun h => by omega
theorem bd_bit {n b k : Nat} (hb : b < 2 ^ n) (h : b.testBit k = true) : k < n := by
  rcases Nat.lt_or_ge k n with z | z
  · exact z
  · rw [Nat.testBit_lt_two_pow (Nat.lt_of_lt_of_le hb (Nat.pow_le_pow_right (by decide) z))] at h
    cases h
theorem isLot_lotN {n b : Nat} (hb : b < 2 ^ n) : IsLot (lotN n b) b := ⟨fun x hx => (mem_lotN.mp hx).1, (lotN_lot n b).up, fun k => by
  rw [mem_lotN]
  constructor
  · exact fun h => by simpa using h.2.2
  · exact fun h => ⟨by omega, by have := bd_bit hb h; omega, by simpa using h⟩⟩
theorem isLot_ext {l m : List Int} {b : Nat} (h1 : IsLot l b) (h2 : IsLot m b) : l = m := ups_ext h1.2.1 h2.2.1 fun p => by
  by_cases p0 : 0 ≤ p
  · have e : ((p.toNat : Nat) : Int) = p := Int.toNat_of_nonneg p0
    have a := h1.2.2 p.toNat
    have c := h2.2.2 p.toNat
    rw [e] at a c
    rw [a, c]
  · exact ⟨fun z => absurd (h1.1 p z) p0, fun z => absurd (h2.1 p z) p0⟩
theorem bits_lotN {n b : Nat} (hb : b < 2 ^ n) : bitsN (lotN n b) = b := Nat.eq_of_testBit_eq fun k => by
  have h := isLot_lotN hb
  rw [bitsN_bit h.1, Bool.eq_iff_iff, decide_eq_true_eq]
  exact h.2.2 k
theorem bits_bd {n : Nat} {l : List Int} (h : ∀ x ∈ l, 0 ≤ x ∧ x < n) : bitsN l < 2 ^ n := by
  apply Nat.lt_pow_two_of_testBit
  intro k hk
  rw [bitsN_bit fun x hx => (h x hx).1]
  exact decide_eq_false fun z => by have := h _ z; omega
end DL

set_option maxHeartbeats 400000
namespace DL
open PySem L2 Bs
theorem add_or {a b : Nat} (h : a &&& b = 0) : a + b = a ||| b := by
  have ha : a < 2 ^ (a + b + 1) := Nat.lt_of_le_of_lt (show a ≤ a + b + 1 by omega) Nat.lt_two_pow_self
  have hb : b < 2 ^ (a + b + 1) := Nat.lt_of_le_of_lt (show b ≤ a + b + 1 by omega) Nat.lt_two_pow_self
  have hab : a + b < 2 ^ (a + b + 1) := Nat.lt_of_le_of_lt (show a + b ≤ a + b + 1 by omega) Nat.lt_two_pow_self
  have h2 : BitVec.ofNat (a + b + 1) a &&& BitVec.ofNat (a + b + 1) b = 0#(a + b + 1) := by
    apply BitVec.eq_of_toNat_eq
    rw [BitVec.toNat_and, BitVec.toNat_ofNat, BitVec.toNat_ofNat, Nat.mod_eq_of_lt ha, Nat.mod_eq_of_lt hb, h]
    simp
  have h3 := congrArg BitVec.toNat (BitVec.add_eq_or_of_and_eq_zero _ _ h2)
  rw [BitVec.toNat_add, BitVec.toNat_or, BitVec.toNat_ofNat, BitVec.toNat_ofNat, Nat.mod_eq_of_lt ha, Nat.mod_eq_of_lt hb, Nat.mod_eq_of_lt hab] at h3
  exact h3
def andn (x y : Nat) : Nat := x ^^^ (x &&& y)
theorem andn_bit (x y k : Nat) : (andn x y).testBit k = (x.testBit k && !y.testBit k) := by
  unfold andn
  rw [Nat.testBit_xor, Nat.testBit_and]
  cases x.testBit k <;> cases y.testBit k <;> rfl
theorem andn_sub (x y : Nat) : x - (x &&& y) = andn x y := by
  have h : (x &&& y) &&& andn x y = 0 := Nat.eq_of_testBit_eq fun k => by
    rw [Nat.testBit_and, Nat.testBit_and, andn_bit]
    cases x.testBit k <;> cases y.testBit k <;> simp
  have h2 : (x &&& y) ||| andn x y = x := Nat.eq_of_testBit_eq fun k => by
    rw [Nat.testBit_or, Nat.testBit_and, andn_bit]
    cases x.testBit k <;> cases y.testBit k <;> rfl
  have := add_or h
  omega
theorem and_inv (x y : Nat) : Builtin.bitAnd (x : Int) (Builtin.bitNot (y : Int)) = ((andn x y : Nat) : Int) := by
  unfold Builtin.bitAnd
  rw [decide_eq_true (Int.natCast_nonneg x), decide_eq_false (show ¬ 0 ≤ Builtin.bitNot (y : Int) by unfold Builtin.bitNot; omega)]
  show (x : Int) - (((x : Int).toNat &&& (Builtin.bitNot (Builtin.bitNot (y : Int))).toNat : Nat) : Int) = _
  have e : (Builtin.bitNot (Builtin.bitNot (y : Int))).toNat = y := by
    unfold Builtin.bitNot
    omega
  rw [e, Int.toNat_natCast, ← andn_sub]
  have : x &&& y ≤ x := Nat.and_le_left
  omega
theorem o_andn {st : Sto} {i j : Nat} : oAnd st (.int (i : Int)) (.int (Builtin.bitNot (j : Int))) = some (.int ((andn i j : Nat) : Int)) := by show some (D.int (Builtin.bitAnd (i : Int) (Builtin.bitNot (j : Int)))) = _; rw [and_inv]
section
variable {ts : List Nat} {n b : Nat} {st : Sto}
theorem bits_any {d : D} {l : List Int} (hd : items d = some (l.map .int)) (h : ∀ x ∈ l, 0 ≤ x ∧ x ≤ 1000) (st : Sto) : F_bits_of [d] st = .ok (.int (bitsN l : Nat)) st := by
  obtain ⟨r, s, e, h1, h2⟩ : ∃ r s, F_bits_of [d] st = .ok r s ∧ r = .int (bitsN l : Nat) ∧ s = st := by
    refine run_of rfl (SP.seq (SP.set e_c (thenS_nx (SP.seq ?_))))
    refine SP.for_inv (s1 := st) (ds := l.map D.int) (fun i env s => s = st ∧ ∃ e, env = [.fz d, .fz (.int (bitsN (l.take i) : Nat)), e]) (i_seq (e_var rfl) hd) ⟨rfl, _, rfl⟩ ?_ ?_
    · rintro i x env s hx ⟨rfl, e, rfl⟩
      rw [List.getElem?_map] at hx
      obtain ⟨y, hy, rfl⟩ := Option.map_eq_some_iff.mp hx
      have hb := h y (List.mem_of_getElem? hy)
      refine ⟨_, rfl, SP.aug rfl (e_bin e_c (e_var rfl) (o_shl1 hb.1 hb.2)) o_or ⟨rfl, .fz (.int y), ?_⟩⟩
      rw [take_snoc hy, bitsN_snoc]
      rfl
    · rintro env s ⟨rfl, e, rfl⟩
      rw [List.length_map, List.take_length]
      exact thenS_nx (SP.ret (e_var rfl) ⟨rfl, rfl⟩)
  rw [e, h1, h2]
theorem near_get {p : Int} (h0 : 0 ≤ p) (h1 : p.toNat < ts.length) {st : Sto} : oIx st (.lst (nats ts)) (.int p) = some (.int (ts.getD p.toNat 0 : Nat)) := o_ixN rfl h0 (nats_get h1)
theorem told_ok (b : Nat) {p : Int} (h0 : 0 ≤ p) (h1 : p.toNat < ts.length) (st : Sto) : F_told_by [.lst (nats ts), .int (b : Int), .int p] st = .ok (.bl (noN ts b p.toNat)) st := by
  obtain ⟨r, s, e, h1, h2⟩ : ∃ r s, F_told_by [.lst (nats ts), .int (b : Int), .int p] st = .ok r s ∧ r = .bl (noN ts b p.toNat) ∧ s = st := by
    refine run_of rfl (SP.ret (e_bin (e_bin (e_bin (e_var rfl) (e_var rfl) (near_get h0 h1)) (e_var rfl) o_and) e_c o_eq) ⟨?_, rfl⟩)
    congr 1
    exact dec_iff (by omega)
  rw [e, h1, h2]
theorem call_ok (b : Nat) {p : Int} (h0 : 0 ≤ p) (h1 : p.toNat < ts.length) (hp : p ≤ 1000) (st : Sto) : F_behind_call [.lst (nats ts), .int (b : Int), .int p] st = .ok (.int (callN ts b p.toNat : Nat)) st := by
  obtain ⟨r, s, e, h1, h2⟩ : ∃ r s, F_behind_call [.lst (nats ts), .int (b : Int), .int p] st = .ok r s ∧ r = .int (callN ts b p.toNat : Nat) ∧ s = st := by
    refine run_of rfl (SP.seq (SP.if (b := noN ts b p.toNat) (s1 := st) (t_truth (e_call (e_cons (e_var rfl) (e_cons (e_var rfl) (e_cons (e_var rfl) e_nil))) (told_ok b h0 h1 st)) rfl) (fun hs => ?_) fun hs => SP.pass (thenS_nx ?_)))
    · refine SP.ret (e_bin (e_var rfl) (e_bin e_c (e_var rfl) (o_shl1 h0 hp)) o_or) (thenS_ret ⟨?_, rfl⟩)
      unfold callN
      rw [if_pos (of_decide_eq_true hs)]
    · refine SP.ret (e_bin (e_var rfl) (e_un (e_bin e_c (e_var rfl) (o_shl1 h0 hp)) rfl) o_andn) ⟨?_, rfl⟩
      unfold callN
      rw [if_neg (of_decide_eq_false hs)]
      congr 2
      refine Nat.eq_of_testBit_eq fun k => ?_
      rw [andn_bit, clr_bit, Nat.testBit_two_pow]
      congr 2
      exact dec_iff eq_comm
  rw [e, h1, h2]
theorem rg_map (m : Nat) : rgD 0 m = (List.range m).map fun k : Nat => D.int (k : Int) := by
  unfold rgD
  congr 1
  funext k
  rw [Int.zero_add]
theorem lot_ok {n b : Nat} (hb : b < 2 ^ n) (hn : n ≤ 200) (st : Sto) : F_lot_of [.int (b : Int)] st = .ok (.tup ((lotN n b).map .int)) st := by
  obtain ⟨d, s, e1, l, rfl, hl, rfl⟩ := lot_of_ok (Nat.lt_of_lt_of_le hb (Nat.pow_le_pow_right (by decide) hn)) st
  rw [e1, isLot_ext hl (isLot_lotN hb)]
end
end DL

set_option maxHeartbeats 400000
namespace DL
open PySem L2 Bs
theorem SP.par {i j : Nat} {af : AF} {env : En} {st s1 : Sto} {x y : D} {Q : RS → Prop} (h : af env st = .ok [x, y] s1) (q : Q (.nx ((env.set i (.fz x)).set j (.fz y)) s1)) : SP (sPar i j af env st) Q := ⟨by
  unfold sPar
  rw [h]
  exact q⟩
structure StrokeOk (n : Nat) (up dn : List Int) : Prop where
  lu : Lot n up
  ld : Lot n dn
  dis : ∀ x ∈ up, x ∉ dn
  ne : up ≠ [] ∨ dn ≠ []
theorem sort_ints (l : List Int) : gSort (.lst (l.map .int)) = some (.lst ((srtI l).map .int)) := by
  show (match asInts (l.map .int) with | some ns => some (D.lst ((srtI ns).map D.int)) | none => _) = _
  rw [asInts_map]
end DL

set_option maxHeartbeats 4000000
namespace DL
open PySem PySem.Spec PyProof.Rows L2 Bs
structure Shw (n : Nat) (x : PyData) : Prop where
  s : x.showable = true
  d : x.hasDict = false
  l : x.shown.length ≤ n
  k : PyData.strOk x.shown = true
theorem sok_app {a b : Str} (ha : PyData.strOk a = true) (hb : PyData.strOk b = true) : PyData.strOk (a ++ b) = true := by
  show (a.cps ++ b.cps).all _ = true
  rw [Array.all_append, Bool.and_eq_true]
  exact ⟨ha, hb⟩
theorem small_sok : ((List.range 1000).all fun k => PyData.strOk (PyData.int (k : Int)).shown) = true := by decide +kernel
theorem small_shown : ((List.range 1000).all fun k => decide (((PyData.int (k : Int)).shown).length ≤ 6)) = true := by decide +kernel
theorem shw_int {i : Int} (h0 : 0 ≤ i) (h1 : i < 1000) : Shw 6 (.int i) := by
  refine ⟨?_, by simp [PyData.hasDict], ?_, by
    have := List.all_eq_true.mp small_sok i.toNat (List.mem_range.mpr (by omega))
    rwa [Int.toNat_of_nonneg h0] at this⟩
  · show decide (i.natAbs.log2 < 1920) = true
    rw [decide_eq_true_eq]
    by_cases z : i.natAbs = 0
    · rw [z]; decide
    · exact (Nat.log2_lt z).mpr (Nat.lt_of_lt_of_le (show i.natAbs < 2 ^ 10 by omega) (Nat.pow_le_pow_right (by decide) (by decide)))
  · have := List.all_eq_true.mp small_shown i.toNat (List.mem_range.mpr (by omega))
    rw [decide_eq_true_eq, Int.toNat_of_nonneg h0] at this
    exact this
theorem shw_non : Shw 6 .none := ⟨by simp [PyData.showable], by simp [PyData.hasDict], by decide +kernel, by decide +kernel⟩
theorem piled_le {n : Nat} : ∀ {ts : List Str}, (∀ t ∈ ts, t.length ≤ n) → PySem.piled ts ≤ ts.length * (n + 2)
  | [], _ => by simp [PySem.piled]
  | t :: ts, h => by
    have h1 := h t (.head _)
    have ih := piled_le (ts := ts) fun x hx => h x (.tail _ hx)
    show ((t :: ts).map fun t => t.length + 2).sum ≤ _
    rw [List.map_cons, List.sum_cons, List.length_cons, Nat.add_mul]
    have : (ts.map fun t => t.length + 2).sum ≤ ts.length * (n + 2) := ih
    omega
theorem textFrom_le : ∀ (ts : List Str) (k : Nat) (acc : Str), (PySem.textFrom k acc ts).length ≤ acc.length + PySem.piled ts
  | [], k, acc => Nat.le_add_right _ _
  | t :: r, k, acc => by
    have ih := textFrom_le r (k + 1) (acc ++ (if k > 0 then ", " else "" : String) ++ t)
    rw [strLen_append, strLen_append] at ih
    have e : (((if k > 0 then ", " else "" : String) : Str)).length ≤ 2 := by split <;> decide
    show (PySem.textFrom (k + 1) _ r).length ≤ acc.length + ((t :: r).map fun t => t.length + 2).sum
    rw [List.map_cons, List.sum_cons]
    have : PySem.piled r = (r.map fun t => t.length + 2).sum := rfl
    omega
theorem shownAll_mem {n : Nat} : ∀ {xs : List PyData}, (∀ x ∈ xs, Shw n x) → ∀ t ∈ PyData.shownAll xs, t.length ≤ n
  | [], _, t, ht => by simp [PyData.shownAll] at ht
  | x :: xs, h, t, ht => by
    rw [PyData.shownAll] at ht
    rcases List.mem_cons.mp ht with rfl | ht
    · exact (h x (.head _)).l
    · exact shownAll_mem (fun y hy => h y (.tail _ hy)) t ht
theorem shownAll_sok {n : Nat} : ∀ {xs : List PyData}, (∀ x ∈ xs, Shw n x) → ∀ t ∈ PyData.shownAll xs, PyData.strOk t = true
  | [], _, t, ht => by simp [PyData.shownAll] at ht
  | x :: xs, h, t, ht => by
    rw [PyData.shownAll] at ht
    rcases List.mem_cons.mp ht with rfl | ht
    · exact (h x (.head _)).k
    · exact shownAll_sok (fun y hy => h y (.tail _ hy)) t ht
theorem textFrom_sok : ∀ (ts : List Str) (k : Nat) (acc : Str), PyData.strOk acc = true → (∀ t ∈ ts, PyData.strOk t = true) → PyData.strOk (PySem.textFrom k acc ts) = true
  | [], k, acc, h, _ => h
  | t :: r, k, acc, h, ht => textFrom_sok r (k + 1) _ (sok_app (sok_app h (by split <;> decide +kernel)) (ht t (.head _))) fun x hx => ht x (.tail _ hx)
theorem join_sok : ∀ (ts : List Str), (∀ t ∈ ts, PyData.strOk t = true) → PyData.strOk (Str.join ", " ts) = true
  | [], _ => by decide +kernel
  | [x], h => h x (.head _)
  | x :: y :: r, h => by
    show PyData.strOk (x ++ ", " ++ Str.join ", " (y :: r)) = true
    exact sok_app (sok_app (h x (.head _)) (by decide +kernel)) (join_sok (y :: r) fun z hz => h z (.tail _ hz))
theorem shownAll_len : ∀ xs : List PyData, (PyData.shownAll xs).length = xs.length
  | [] => by simp [PyData.shownAll]
  | x :: xs => by rw [PyData.shownAll, List.length_cons, List.length_cons, shownAll_len xs]
theorem showAll {n : Nat} : ∀ {xs : List PyData}, (∀ x ∈ xs, Shw n x) → PyData.showableAll xs = true ∧ PyData.hasDictAll xs = false
  | [], _ => ⟨by simp [PyData.showableAll], by simp [PyData.hasDictAll]⟩
  | x :: xs, h => by
    obtain ⟨h1, h2⟩ := showAll (xs := xs) fun y hy => h y (.tail _ hy)
    have h0 := h x (.head _)
    exact ⟨by rw [PyData.showableAll, h0.s, h1]; rfl, by rw [PyData.hasDictAll, h0.d, h2]; rfl⟩
theorem shw_list {n m : Nat} {xs : List PyData} (h : ∀ x ∈ xs, Shw n x) (hm : 2 + xs.length * (n + 2) ≤ m) : Shw m (.list xs) := by
  obtain ⟨h1, h2⟩ := showAll h
  refine ⟨by rw [PyData.showable]; exact h1, by rw [PyData.hasDict]; exact h2, ?_, by rw [PyData.shown]; exact sok_app (textFrom_sok _ 0 "[" (by decide +kernel) (shownAll_sok h)) (by decide +kernel)⟩
  have a := textFrom_le (PyData.shownAll xs) 0 "["
  have b := piled_le (shownAll_mem h)
  rw [shownAll_len] at b
  rw [PyData.shown]
  show (PySem.textFrom 0 "[" (PyData.shownAll xs) ++ "]").length ≤ m
  rw [strLen_append]
  have e1 : ((("[" : String) : Str)).length = 1 := rfl
  have e2 : ((("]" : String) : Str)).length = 1 := rfl
  omega
theorem join_le : ∀ ts : List Str, (Str.join ", " ts).length ≤ PySem.piled ts
  | [] => Nat.zero_le _
  | t :: r => by
    have := join_length_add (t :: r) (by simp)
    omega
theorem shw_tup {n m : Nat} {xs : List PyData} (h : ∀ x ∈ xs, Shw n x) (hm : 3 + xs.length * (n + 2) ≤ m) : Shw m (.tuple xs) := by
  obtain ⟨h1, h2⟩ := showAll h
  refine ⟨by rw [PyData.showable]; exact h1, by rw [PyData.hasDict]; exact h2, ?_, by rw [PyData.shown]; exact sok_app (sok_app (by decide +kernel) (join_sok _ (shownAll_sok h))) (by split <;> decide +kernel)⟩
  have a := join_le (PyData.shownAll xs)
  have b := piled_le (shownAll_mem h)
  rw [shownAll_len] at b
  rw [PyData.shown]
  show (("(" : Str) ++ Str.join ", " (PyData.shownAll xs) ++ (if (PyData.shownAll xs).length == 1 then ",)" else ")" : String)).length ≤ m
  rw [strLen_append, strLen_append]
  have e1 : ((("(" : String) : Str)).length = 1 := rfl
  have e2 : (((if (PyData.shownAll xs).length == 1 then ",)" else ")" : String) : Str)).length ≤ 2 := by split <;> decide
  omega
theorem plainL_of {k : Nat} : ∀ {l : List D}, (∀ d ∈ l, plain k d = true) → plainL k l = true
  | [], _ => rfl
  | d :: l, h => by rw [plainL, h d (.head _), plainL_of fun x hx => h x (.tail _ hx)]; rfl
structure Rp (n m : Nat) (d : D) : Prop where
  p : ∀ k, m ≤ k → plain k d = true
  w : Shw n (py d)
theorem Rp.int {i : Int} (h0 : 0 ≤ i) (h1 : i < 1000) : Rp 6 0 (.int i) := ⟨fun _ _ => rfl, shw_int h0 h1⟩
theorem Rp.non : Rp 6 0 .non := ⟨fun _ _ => rfl, shw_non⟩
theorem Rp.mono {n n' m m' : Nat} {d : D} (r : Rp n m d) (h : n ≤ n') (h2 : m ≤ m') : Rp n' m' d := ⟨fun k hk => r.p k (by omega), r.w.s, r.w.d, Nat.le_trans r.w.l h, r.w.k⟩
theorem Rp.tup {l : List D} {n m n' : Nat} (h : ∀ d ∈ l, Rp n m d) (hn : 3 + l.length * (n + 2) ≤ n') : Rp n' (m + 1) (.tup l) := by
  refine ⟨fun k hk => ?_, ?_⟩
  · show (decide (0 < k) && plainL (k - 1) l) = true
    rw [decide_eq_true (by omega), plainL_of fun d hd => (h d hd).p (k - 1) (by omega)]
    rfl
  · show Shw n' (.tuple (pyL l))
    rw [pyL_map]
    refine shw_tup (n := n) (fun x hx => ?_) (by rw [List.length_map]; omega)
    obtain ⟨d, hd, rfl⟩ := List.mem_map.mp hx
    exact (h d hd).w
theorem Rp.lst {l : List D} {n m n' : Nat} (h : ∀ d ∈ l, Rp n m d) (hn : 2 + l.length * (n + 2) ≤ n') : Rp n' (m + 1) (.lst l) := by
  refine ⟨fun k hk => ?_, ?_⟩
  · show (decide (0 < k) && plainL (k - 1) l) = true
    rw [decide_eq_true (by omega), plainL_of fun d hd => (h d hd).p (k - 1) (by omega)]
    rfl
  · show Shw n' (.list (pyL l))
    rw [pyL_map]
    refine shw_list (n := n) (fun x hx => ?_) (by rw [List.length_map]; omega)
    obtain ⟨d, hd, rfl⟩ := List.mem_map.mp hx
    exact (h d hd).w
theorem Rp.lot {l : List Int} (h : ∀ x ∈ l, 0 ≤ x ∧ x < 1000) (hn : l.length ≤ 30) : Rp 250 1 (.tup (l.map .int)) :=
  .tup (n := 6) (fun d hd => by
    obtain ⟨i, hi, rfl⟩ := List.mem_map.mp hd
    exact .int (h i hi).1 (h i hi).2) (by rw [List.length_map]; omega)
theorem gRepr_of {n m : Nat} {d : D} (r : Rp n m d) (hq : isSeqD d = true) (hn : n ≤ 16000000) (hm : m ≤ 61) : gRepr d = some (.str (py d).shown) := by
  unfold gRepr
  rw [if_pos]
  rw [hq, r.p 61 hm, r.w.s, r.w.d, decide_eq_true (show (py d).shown.length ≤ sizeLine from Nat.le_trans r.w.l (Nat.le_trans hn (by decide)))]
  rfl
theorem e_repr {env : En} {st s1 : Sto} {af : AF} {x d : D} {n m : Nat} (h1 : af env st = .ok [x] s1) (hd : deref s1 x = d) (r : Rp n m d) (hq : isSeqD d = true) (hn : n ≤ 16000000) (hm : m ≤ 61) : dFn (fn1 gRepr) af env st = .ok (.str (py d).shown) s1 :=
  e_fn h1 (by show gRepr (deref s1 x) = _; rw [hd]; exact gRepr_of r hq hn hm)
end DL

set_option maxHeartbeats 1000000
namespace DL
open PySem L2 Bs
section
variable {env env' : En} {st s1 s2 s3 : Sto} {Q : RS → Prop} {d x o : D} {l m : List D} {i : Nat} {fa fo fk : EF} {af : AF} {c : String}
theorem SP.drop (ht : fa env st = .ok d s1) (q : Q (.nx env s1)) : SP (sDrop fa env st) Q := ⟨by unfold sDrop sE; rw [ht]; exact q⟩
theorem o_ixNeg1 {st : Sto} {x z : D} {l : List D} (h1 : items (deref st x) = some (l ++ [z])) : oIx st x (.int (-1)) = some z := by
  show gIx st (deref st x) (.int (-1)) = _
  unfold gIx
  dsimp only
  rw [h1]
  show atI (l ++ [z]) (-1) = _
  unfold atI ixN
  rw [if_neg (by omega), if_pos (by rw [List.length_append, List.length_singleton]; omega)]
  have : ((-1 : Int) + ((l ++ [z]).length : Nat)).toNat = l.length := by rw [List.length_append, List.length_singleton]; omega
  show (l ++ [z])[_]? = _
  rw [this, List.getElem?_append_right (Nat.le_refl _), Nat.sub_self]
  rfl
end
end DL

set_option maxHeartbeats 1000000
namespace DL
open PySem L2 Bs
section
variable {env env0 : En} {st s1 : Sto} {fi : IF} {gt : GF} {tt : TF} {te : EF} {vs : List Nat} {ds : List D} {I : Sto → Prop}
theorem lc_sub (v : D → D) : ∀ {ds : List D}, (∀ d ∈ ds, ∀ st, I st → ∃ env1, gt d env0 = some env1 ∧ ∃ b st1, tt env1 st = .ok b st1 ∧ I st1 ∧ (b = true → te env1 st1 = .ok (v d) st1)) → ∀ {st : Sto}, I st → ∃ (l : List D) (st' : Sto), lcL gt tt te env0 ds st = .ok (l.map v) st' ∧ l.Sublist ds ∧ I st'
  | [], _, st, h => ⟨[], st, rfl, .slnil, h⟩
  | d :: ds, hh, st, h => by
    obtain ⟨env1, h1, b, st1, h2, h3, h4⟩ := hh d (.head _) st h
    obtain ⟨l, st', e, hs, hI⟩ := lc_sub v (ds := ds) (fun x hx => hh x (.tail _ hx)) h3
    unfold lcL
    rw [h1]
    dsimp only
    rw [h2]
    show ∃ (l : List D) (st' : Sto), (if b = true then (te env1 st1).bind _ else lcL gt tt te env0 ds st1) = _ ∧ _
    cases b with
    | false => rw [if_neg Bool.false_ne_true]; exact ⟨l, st', e, hs.cons _, hI⟩
    | true =>
      rw [if_pos rfl, h4 rfl]
      refine ⟨d :: l, st', ?_, hs.cons₂ _, hI⟩
      show (lcL gt tt te env0 ds st1).bind _ = _
      rw [e]
      rfl
theorem e_lcS (v : D → D) (h0 : fi env st = .ok ds s1) (hl : ds.length < lim) (hI : I s1) (hh : ∀ d ∈ ds, ∀ st, I st → ∃ env1, gt d (wipeE env vs) = some env1 ∧ ∃ b st1, tt env1 st = .ok b st1 ∧ I st1 ∧ (b = true → te env1 st1 = .ok (v d) st1)) : ∃ (l : List D) (st' : Sto), dLc fi vs gt tt te env st = .ok (.lst (l.map v)) st' ∧ l.Sublist ds ∧ I st' := by
  obtain ⟨l, st', e, hs, h⟩ := lc_sub v hh hI
  refine ⟨l, st', ?_, hs, h⟩
  unfold dLc
  rw [h0]
  show (if ds.length < lim then _ else _) = _
  rw [if_pos hl, e]
  rfl
end
end DL

set_option maxHeartbeats 4000000
namespace DL
open PySem L2 Bs
section
variable {n : Nat} {ps : List (Int × Int)} {ts : List Nat}
theorem rg_at {i m : Nat} {d : D} (h : (rgD 0 m)[i]? = some d) : i < m ∧ d = .int (i : Int) := by
  rw [rg_map, List.getElem?_map] at h
  cases e : (List.range m)[i]? with
  | none => rw [e] at h; cases h
  | some k =>
    rw [e] at h
    cases h
    obtain ⟨h1, h2⟩ := List.getElem?_eq_some_iff.mp e
    rw [List.getElem_range] at h2
    subst h2
    exact ⟨by rw [List.length_range] at h1; exact h1, rfl⟩
end
section
variable {n : Nat} {ps : List (Int × Int)} {ts : List Nat}
end
section
variable {n : Nat} {ps : List (Int × Int)} {ts : List Nat}
variable {n : Nat} {ps : List (Int × Int)} {ts : List Nat}
theorem left_lot {b : Nat} (hb : b < 2 ^ n) {p : Nat} : (lotN n b).filter (fun x => !decide (x = (p : Int))) = lotN n (clr b p) := by
  have hl := (lotN_lot n b).up
  refine ups_ext (hl.sublist List.filter_sublist) (lotN_lot n _).up fun x => ?_
  rw [List.mem_filter, mem_lotN, mem_lotN]
  have e : 0 ≤ x → (clr b p).testBit x.toNat = (b.testBit x.toNat && !decide (x = (p : Int))) := fun h0 => by
    rw [clr_bit]
    congr 2
    exact dec_iff (by omega)
  constructor
  · rintro ⟨⟨h0, h1, h2⟩, h3⟩
    exact ⟨h0, h1, by rw [e h0, h2, h3]; rfl⟩
  · rintro ⟨h0, h1, h2⟩
    rw [e h0, Bool.and_eq_true] at h2
    exact ⟨⟨h0, h1, h2.1⟩, h2.2⟩
theorem with_lot {b : Nat} (hb : b < 2 ^ n) {p : Nat} (hp : p < n) : srtI (lotN n (clr b p) ++ [(p : Int)]) = lotN n (b ||| 2 ^ p) := by
  have hl : Lot n (lotN n (b ||| 2 ^ p)) := lotN_lot n _
  refine (srtI_eq (List.perm_ext_iff_of_nodup ?_ ?_ |>.mpr fun x => ?_) (hl.up.imp fun h => by omega)).symm
  · exact (List.nodup_iff_pairwise_ne).mpr (hl.up.imp fun h => by omega)
  · rw [List.nodup_append]
    refine ⟨(List.nodup_iff_pairwise_ne).mpr ((lotN_lot n (clr b p)).up.imp fun h => by omega), by simp, fun a ha c hc e => ?_⟩
    rw [List.mem_singleton] at hc
    subst hc e
    have := (mem_lotN.mp ha).2.2
    rw [clr_bit] at this
    simp at this
  · rw [List.mem_append, List.mem_singleton, mem_lotN, mem_lotN, clr_bit, Nat.testBit_or, Nat.testBit_two_pow]
    constructor
    · rintro ⟨h0, h1, h2⟩
      by_cases e : x = (p : Int)
      · exact .inr e
      · refine .inl ⟨h0, h1, ?_⟩
        rw [Bool.or_eq_true, decide_eq_true_eq] at h2
        rcases h2 with h2 | h2
        · rw [h2, decide_eq_false (by omega)]; rfl
        · omega
    · rintro (⟨h0, h1, h2⟩ | rfl)
      · rw [Bool.and_eq_true] at h2
        exact ⟨h0, h1, by rw [h2.1]; rfl⟩
      · exact ⟨by omega, by omega, by simp⟩
theorem gTuple_lst (l : List D) : gTuple (.lst l) = some (.tup l) := rfl
end
section
variable {n : Nat} {ps : List (Int × Int)} {ts : List Nat}
variable {n : Nat} {ps : List (Int × Int)} {ts : List Nat}
theorem asI_eq : ∀ l : List Int, deqL (l.map D.int) (l.map D.int) = true
  | [] => rfl
  | a :: l => by
    rw [List.map_cons, deqL, asI_eq l, Bool.and_true]
    show (a == a) = true
    simp
end
end DL

set_option maxHeartbeats 4000000
namespace DL
open PySem L2 Bs
def webT (n : Nat) (ps : List (Int × Int)) : D := .tup [.int (n : Int), .tup (ps.map pr)]
section
variable {n : Nat} {ps : List (Int × Int)} {ts : List Nat} {b p : Nat}
theorem o_in_prs {st : Sto} {x y : Int} : oIn st (.tup [.int x, .int y]) (.tup (ps.map pr)) = some (.bl (decide ((x, y) ∈ ps))) := by
  show gIn false st (pr (x, y)) (.tup (ps.map pr)) = _
  unfold gIn
  have e1 : plainL 61 (ps.map pr) = true := plainL_of fun d hd => by
    obtain ⟨q, _, rfl⟩ := List.mem_map.mp hd
    rfl
  have e2 : ((ps.map pr).any fun z => deq z (pr (x, y))) = decide ((x, y) ∈ ps) := by
    rw [List.any_map]
    induction ps with
    | nil => rfl
    | cons q ps ih =>
      have e1' : plainL 61 (ps.map pr) = true := plainL_of fun d hd => by
        obtain ⟨q, _, rfl⟩ := List.mem_map.mp hd
        rfl
      rw [List.any_cons, ih e1']
      obtain ⟨c, d⟩ := q
      show (deq (pr (c, d)) (pr (x, y)) || _) = _
      have : deq (pr (c, d)) (pr (x, y)) = decide ((c, d) = (x, y)) := by
        by_cases h1 : c = x <;> by_cases h2 : d = y <;> simp [pr, deq, deqL, h1, h2]
      rw [this]
      by_cases h : (c, d) = (x, y)
      · rw [h]; simp
      · by_cases h2 : (x, y) ∈ ps <;> simp [h, h2, Ne.symm h]
  show (if plain 62 (pr (x, y)) && plainL 61 (ps.map pr) then some (D.bl (false != (ps.map pr).any fun z => deq z (pr (x, y)))) else none) = _
  rw [e1, e2]
  simp
  rfl
theorem tied_ok (x y : Int) (st : Sto) : F__law_tied [webT n ps, .int x, .int y] st = .ok (.bl (decide (norm x y ∈ ps))) st := by
  obtain ⟨r, s, e, h1, h2⟩ : ∃ r s, F__law_tied [webT n ps, .int x, .int y] st = .ok r s ∧ r = .bl (decide (norm x y ∈ ps)) ∧ s = st := by
    refine run_of rfl (SP.ret (e_bin (e_tup (e_cons (e_fn (e_cons (e_var rfl) (e_cons (e_var rfl) e_nil)) rfl) (e_cons (e_fn (e_cons (e_var rfl) (e_cons (e_var rfl) e_nil)) rfl) e_nil)) (by simp)) (e_bin (e_var rfl) e_c (o_ixN (z := .tup (ps.map pr)) rfl (by omega) rfl)) o_in_prs) ⟨?_, rfl⟩)
    have : (min x y, max x y) = norm x y := Prod.ext (by show min x y = if y < x then y else x; split <;> omega) (by show max x y = if y > x then y else x; split <;> omega)
    rw [this]
  rw [e, h1, h2]
theorem lot_le (hn : n ≤ 200) : (lotN n b).length ≤ 200 := by have := lot_len (lotN_lot n b) (by omega); omega
end
end DL

set_option maxHeartbeats 4000000
namespace DL
open PySem L2 Bs
section
variable {n : Nat} {ps : List (Int × Int)} {ts : List Nat} {b p : Nat}
theorem says_ok (T : Tied n ps ts) (hw : WB n ps) (n12 : n ≤ 12) (hp : p < n) (hb : b < 2 ^ n) (st : Sto) : F__law_says [webT n ps, .tup ((lotN n b).map .int), .int (p : Int)] st = .ok (.bl (noN ts b p)) st := by
  let pp : D → Bool := fun d => match d with
    | .int o => !decide (o = (p : Int)) && decide (norm (p : Int) o ∈ ps)
    | _ => false
  have key := e_lc (st := st) (s1 := st) (env := [.fz (webT n ps), .fz (.tup ((lotN n b).map .int)), .fz (.int (p : Int)), .no]) (ds := (lotN n b).map .int) (fi := iSeq (dVar 1)) (vs := [3]) (gt := tgName 3) (tt := dAnd (dBinT oNe (dVar 3) (dVar 2)) (dT (dCall F__law_tied (dCons (dVar 0) (dCons (dVar 2) (dCons (dVar 3) dNil)))))) (te := dVar 3) pp id (i_seq (e_var rfl) rfl) (by rw [List.length_map]; have := lot_le (n := n) (b := b) (by omega); unfold lim; omega) fun x hx => by
    obtain ⟨o, _, rfl⟩ := List.mem_map.mp hx
    exact ⟨_, rfl, t_and (t_bin (e_var rfl) (e_var rfl) o_ne) fun _ => t_truth (e_call (e_cons (e_var rfl) (e_cons (e_var rfl) (e_cons (e_var rfl) e_nil))) (tied_ok (p : Int) o st)) rfl, fun _ => e_var rfl⟩
  obtain ⟨r, s, e, h1, h2⟩ : ∃ r s, F__law_says [webT n ps, .tup ((lotN n b).map .int), .int (p : Int)] st = .ok r s ∧ r = .bl (noN ts b p) ∧ s = st := by
    refine run_of rfl (SP.ret (e_bin (e_fn (e_cons key e_nil) rfl) e_c o_eq) ⟨?_, rfl⟩)
    congr 1
    rw [List.map_id, List.filter_map, List.length_map]
    have hl : p < ts.length := by have := T.len; omega
    have step : ((lotN n b).filter (pp ∘ D.int)).length = 0 ↔ noN ts b p = true := by
      rw [List.length_eq_zero_iff, List.filter_eq_nil_iff, noN_iff]
      constructor
      · intro h k hk
        rw [T.bit p k hl, decide_eq_true_eq] at hk
        have bd := norm_in hw hk
        cases e : b.testBit k with
        | false => rfl
        | true =>
          exfalso
          refine h (k : Int) (mem_lotN.mpr ⟨by omega, by omega, by simpa using e⟩) ?_
          show (!decide ((k : Int) = (p : Int)) && decide (norm (p : Int) (k : Int) ∈ ps)) = true
          rw [decide_eq_true hk, decide_eq_false (by omega)]
          rfl
      · intro h x hx hpx
        have hpx : (!decide (x = (p : Int)) && decide (norm (p : Int) x ∈ ps)) = true := hpx
        rw [Bool.and_eq_true, decide_eq_true_eq] at hpx
        obtain ⟨h0, h1, h2⟩ := mem_lotN.mp hx
        have := h x.toNat (by rw [T.bit p _ hl, decide_eq_true_eq, Int.toNat_of_nonneg h0]; exact hpx.2)
        rw [this] at h2
        cases h2
    cases e : noN ts b p with
    | true => exact decide_eq_true (by rw [step.mpr e]; rfl)
    | false =>
      refine decide_eq_false fun z => ?_
      have := step.mp (by omega)
      rw [e] at this
      cases this
  rw [e, h1, h2]
theorem lcalled_ok (T : Tied n ps ts) (hw : WB n ps) (n12 : n ≤ 12) (hp : p < n) (hb : b < 2 ^ n) (st : Sto) : F__law_called [webT n ps, .tup ((lotN n b).map .int), .int (p : Int)] st = .ok (.tup ((lotN n (callN ts b p)).map .int)) st := by
  let pp : D → Bool := fun d => match d with
    | .int i => !decide (i = (p : Int))
    | _ => false
  have key := e_lc (st := st) (s1 := st) (env := [.fz (webT n ps), .fz (.tup ((lotN n b).map .int)), .fz (.int (p : Int)), .no, .no]) (ds := (lotN n b).map .int) (fi := iSeq (dVar 1)) (vs := [3]) (gt := tgName 3) (tt := dBinT oNe (dVar 3) (dVar 2)) (te := dVar 3) pp id (i_seq (e_var rfl) rfl) (by rw [List.length_map]; have := lot_le (n := n) (b := b) (by omega); unfold lim; omega) fun x hx => by
    obtain ⟨i, _, rfl⟩ := List.mem_map.mp hx
    exact ⟨_, rfl, t_bin (e_var rfl) (e_var rfl) o_ne, fun _ => e_var rfl⟩
  have e1 : (((lotN n b).map D.int).filter pp).map id = (lotN n (clr b p)).map D.int := by
    rw [List.map_id, List.filter_map, ← left_lot hb]
    rfl
  rw [e1] at key
  have hll : (lotN n (clr b p)).length ≤ 200 := lot_le (by omega)
  have hc : callN ts b p = if noN ts b p = true then b ||| 2 ^ p else clr b p := by
    unfold callN noN
    by_cases z : ts.getD p 0 &&& b = 0
    · rw [if_pos z, decide_eq_true z, if_pos rfl]
    · rw [if_neg z, decide_eq_false z, if_neg Bool.false_ne_true]
  rw [hc]
  obtain ⟨r, s, e, h1, h2⟩ : ∃ r s, F__law_called [webT n ps, .tup ((lotN n b).map .int), .int (p : Int)] st = .ok r s ∧ r = .tup ((lotN n (if noN ts b p = true then b ||| 2 ^ p else clr b p)).map .int) ∧ s = st := by
    refine run_of rfl (SP.seq (SP.setO key (thenS_nx (SP.seq ?_))))
    cases e : noN ts b p with
    | true =>
      refine SP.if (b := true) (s1 := st) (t_truth (x := .bl true) (e_call (e_cons (e_var rfl) (e_cons (e_var rfl) (e_cons (e_var rfl) e_nil))) ((says_ok T hw n12 hp hb st).trans (by rw [e]))) rfl) (fun _ => SP.appO (l := (lotN n (clr b p)).map .int) rfl (e_var rfl) (by rw [List.length_map]; unfold lim; omega) (thenS_nx ?_)) fun z => by cases z
      refine SP.ret (e_fn (e_cons (e_fn (z := .lst ((lotN n (b ||| 2 ^ p)).map .int)) (e_cons (e_varO rfl) e_nil) ?_) e_nil) (gTuple_lst _)) ⟨by rw [if_pos rfl], rfl⟩
      show gSort (.lst ((lotN n (clr b p)).map D.int ++ [D.int (p : Int)])) = _
      rw [show (lotN n (clr b p)).map D.int ++ [D.int (p : Int)] = (lotN n (clr b p) ++ [(p : Int)]).map D.int by rw [List.map_append]; rfl, sort_ints, with_lot hb hp]
    | false =>
      refine SP.if (b := false) (s1 := st) (t_truth (x := .bl false) (e_call (e_cons (e_var rfl) (e_cons (e_var rfl) (e_cons (e_var rfl) e_nil))) ((says_ok T hw n12 hp hb st).trans (by rw [e]))) rfl) (fun z => by cases z) fun _ => SP.pass (thenS_nx ?_)
      refine SP.ret (e_fn (e_cons (e_fn (z := .lst ((lotN n (clr b p)).map .int)) (e_cons (e_varO rfl) e_nil) ?_) e_nil) (gTuple_lst _)) ⟨by rw [if_neg Bool.false_ne_true], rfl⟩
      show gSort (.lst ((lotN n (clr b p)).map D.int)) = _
      rw [sort_ints]
      have hl : Lot n (lotN n (clr b p)) := lotN_lot n _
      rw [← srtI_eq (List.Perm.refl _) (hl.up.imp fun h => by omega)]
  rw [e, h1, h2]
end
end DL

set_option maxHeartbeats 4000000
namespace DL
open PySem L2 Bs
theorem i_rg2m {af : AF} {env : En} {st s1 : Sto} {i j : Int} (h : af env st = .ok [.int i, .int j] s1) (h2 : (sm62 i && sm62 j) = true) : iRange2 af env st = .ok (rgD i (j - i).toNat) s1 := by
  unfold iRange2
  rw [h]
  show (if (sm62 i && sm62 j) = true then _ else _) = _
  rw [if_pos h2]
theorem law_web {t : D} (ht : TP t) (R : Sto) (most : Int) (m1 : 1 ≤ most) (m16 : most ≤ 16) : ∃ (n : Nat) (ps : List (Int × Int)) (t' : D), F__law_web [.ref 0, .int most] (t :: R) = .ok (webT n ps) (t' :: R) ∧ 1 ≤ n ∧ (n : Int) ≤ most ∧ WB n ps ∧ TP t' := by
  obtain ⟨_, _, e1, k1, t1, rfl, rfl, ht1, k10, k11⟩ := tpick ht R most (by omega) (by omega)
  obtain ⟨_, _, e2, kind, t2, rfl, rfl, ht2, _, _⟩ := tpick ht1 R 6 (by decide) (by decide)
  obtain ⟨_, _, e3, k3, t3, rfl, rfl, ht3, k30, k31⟩ := tpick ht2 R 4 (by decide) (by decide)
  obtain ⟨n, hn⟩ : ∃ n : Nat, 1 + k1 = (n : Int) := ⟨(1 + k1).toNat, by omega⟩
  obtain ⟨d, s, e, ps, t', h1, h2, h3, h4⟩ : ∃ d s, F__law_web [.ref 0, .int most] (t :: R) = .ok d s ∧ ∃ ps t', d = webT n ps ∧ s = t' :: R ∧ WB n ps ∧ TP t' := by
    refine run_of rfl ?_
    refine SP.seq (SP.set (d := .int (n : Int)) (e_bin e_c (e_call (e_cons (e_var rfl) (e_cons (e_var rfl) e_nil)) e1) (o_add.trans (by rw [hn]))) (thenS_nx (SP.seq ?_)))
    refine SP.set (e_call (e_cons (e_var rfl) (e_cons e_c e_nil)) e2) (thenS_nx (SP.seq ?_))
    refine SP.set (e_bin e_c (e_call (e_cons (e_var rfl) (e_cons e_c e_nil)) e3) o_add) (thenS_nx (SP.seq ?_))
    refine SP.setO (e_lst e_nil (by decide)) (thenS_nx (SP.seq ?_))
    let E : List (Int × Int) → Slot → Slot → Slot → En := fun ps a b c => [.fz (.ref 0), .fz (.int most), .fz (.int (n : Int)), .fz (.int kind), .fz (.int (1 + k3)), .ow (.lst (ps.map pr)), a, b, c]
    let I : Int → Int → List (Int × Int) → Prop := fun i j ps => ps.Pairwise ltP ∧ (∀ p ∈ ps, 0 ≤ p.1 ∧ p.1 < p.2 ∧ p.2 < n ∧ (p.1 < i ∨ (p.1 = i ∧ p.2 < j))) ∧ (ps.length : Int) ≤ i * 16 + j
    let J : Sto → Prop := fun s => ∃ t', s = t' :: R ∧ TP t'
    refine SP.for_inv (s1 := t3 :: R) (ds := rgD 0 n) (fun i env s => J s ∧ ∃ ps a b c, env = E ps a b c ∧ I i 0 ps) (i_rgn (n := (n : Int)) (e_cons (e_var rfl) e_nil) (by omega) (by omega)) ⟨⟨t3, rfl, ht3⟩, [], _, _, _, rfl, List.Pairwise.nil, fun p hp => (nomatch hp), by simp⟩ ?_ ?_
    · rintro i d env s hd ⟨hps, ps, a, b, c, rfl, hI⟩
      obtain ⟨hi, rfl⟩ := rg_at hd
      refine ⟨E ps (.fz (.int (i : Int))) b c, rfl, ?_⟩
      refine SP.for_inv (s1 := s) (ds := rgD ((i : Int) + 1) ((n : Int) - ((i : Int) + 1)).toNat) (fun j env s => J s ∧ ∃ ps b c, env = E ps (.fz (.int (i : Int))) b c ∧ I i ((i : Int) + 1 + j) ps) (i_rg2m (e_cons (e_bin (e_var rfl) e_c o_add) (e_cons (e_var rfl) e_nil)) (by unfold sm62; rw [Bool.and_eq_true, Bool.and_eq_true, Bool.and_eq_true, decide_eq_true_eq, decide_eq_true_eq, decide_eq_true_eq, decide_eq_true_eq]; omega)) ⟨hps, ps, _, _, rfl, hI.1, fun p hp => by have := hI.2.1 p hp; omega, by have := hI.2.2; omega⟩ ?_ ?_
      · rintro j d env s hd ⟨⟨t4, rfl, ht4⟩, ps, b, c, rfl, hI⟩
        obtain ⟨hj, rfl⟩ := rgD_get hd
        refine ⟨E ps (.fz (.int (i : Int))) (.fz (.int ((i : Int) + 1 + (j : Int)))) c, rfl, ?_⟩
        obtain ⟨_, _, e5, k5, t5, rfl, rfl, ht5, _, _⟩ := tpick ht4 R 5 (by decide) (by decide)
        have keep : I i ((i : Int) + 1 + ((j + 1 : Nat) : Int)) ps := ⟨hI.1, fun p hp => by have := hI.2.1 p hp; omega, by have := hI.2.2; omega⟩
        let o : Int := (i : Int) + 1 + (j : Int)
        -- the flag, whatever it is
        have G : ∀ f : Bool, SP (sIf (dT (dVar 8)) (sAppO 5 (dTup (dCons (dVar 6) (dCons (dVar 7) dNil)))) sPass (E ps (.fz (.int (i : Int))) (.fz (.int o)) (.fz (.bl f))) (t5 :: R)) fun r => match r with
            | .nx e s => J s ∧ ∃ ps b c, e = E ps (.fz (.int (i : Int))) b c ∧ I i ((i : Int) + 1 + ((j + 1 : Nat) : Int)) ps
            | .ct e s => J s ∧ ∃ ps b c, e = E ps (.fz (.int (i : Int))) b c ∧ I i ((i : Int) + 1 + ((j + 1 : Nat) : Int)) ps
            | .brk e s => J s ∧ ∃ ps a b c, e = E ps a b c ∧ I ((i + 1 : Nat) : Int) 0 ps
            | r => (match r with | .nx e s => J s ∧ ∃ ps a b c, e = E ps a b c ∧ I ((i + 1 : Nat) : Int) 0 ps | .ct e s => J s ∧ ∃ ps a b c, e = E ps a b c ∧ I ((i + 1 : Nat) : Int) 0 ps | .brk e s => False | r => False) := fun f => by
          refine SP.if (b := f) (s1 := t5 :: R) (t_truth (e_var rfl) rfl) (fun _ => SP.appO (l := ps.map pr) rfl (e_tup (e_cons (e_var rfl) (e_cons (e_var rfl) e_nil)) (by simp)) (by have := hI.2.2; rw [List.length_map]; unfold lim; omega) ⟨⟨t5, rfl, ht5⟩, ps ++ [((i : Int), o)], .fz (.int o), .fz (.bl f), ?_, ?_⟩) fun _ => SP.pass ⟨⟨t5, rfl, ht5⟩, ps, _, _, rfl, keep⟩
          · simp only [E, List.map_append]
            rfl
          · refine ⟨?_, fun p hp => ?_, ?_⟩
            · rw [List.pairwise_append]
              refine ⟨hI.1, List.pairwise_singleton .., fun p hp q hq => ?_⟩
              rw [List.mem_singleton] at hq
              subst hq
              have := (hI.2.1 p hp).2.2.2
              unfold ltP
              dsimp only
              omega
            · rcases List.mem_append.mp hp with hp | hp
              · have := hI.2.1 p hp; omega
              · rw [List.mem_singleton] at hp
                subst hp
                dsimp only
                omega
            · have := hI.2.2
              rw [List.length_append, List.length_singleton]
              omega
        refine SP.seq (SP.set (e_bin (e_call (e_cons (e_var rfl) (e_cons e_c e_nil)) e5) (e_var rfl) o_lt) (thenS_nx (SP.seq ?_)))
        refine SP.mono (P := fun r => ∃ f : Bool, r = .nx (E ps (.fz (.int (i : Int))) (.fz (.int o)) (.fz (.bl f))) (t5 :: R)) (SP.if (t_bin (e_var rfl) e_c o_eq) (fun _ => SP.set (e_bin (e_var rfl) (e_bin (e_var rfl) e_c o_add) o_eq) ⟨_, rfl⟩) fun _ => SP.pass ⟨_, rfl⟩) ?_
        rintro r ⟨f1, rfl⟩
        refine thenS_nx (SP.seq ?_)
        refine SP.mono (P := fun r => ∃ f : Bool, r = .nx (E ps (.fz (.int (i : Int))) (.fz (.int o)) (.fz (.bl f))) (t5 :: R)) (SP.if (t_bin (e_var rfl) e_c o_eq) (fun _ => SP.set (v_or (e_bin (e_var rfl) (e_bin (e_var rfl) e_c o_add) o_eq) fun _ => v_and (e_bin (e_var rfl) e_c o_eq) fun _ => e_bin (e_var rfl) (e_bin (e_var rfl) e_c o_sub) o_eq) ⟨_, rfl⟩) fun _ => SP.pass ⟨_, rfl⟩) ?_
        rintro r ⟨f2, rfl⟩
        refine thenS_nx (SP.seq ?_)
        refine SP.mono (P := fun r => ∃ f : Bool, r = .nx (E ps (.fz (.int (i : Int))) (.fz (.int o)) (.fz (.bl f))) (t5 :: R)) (SP.if (t_and (t_bin (e_var rfl) e_c o_eq) fun _ => t_bin (e_var rfl) e_c o_eq) (fun _ => SP.set e_c ⟨_, rfl⟩) fun _ => SP.pass ⟨_, rfl⟩) ?_
        rintro r ⟨f3, rfl⟩
        exact thenS_nx (SP.mono (G f3) fun r h => by cases r <;> first | exact h | exact h.elim)
      · rintro env s ⟨hps, ps, b, c, rfl, hI⟩
        rw [rgD_len] at hI
        exact ⟨hps, ps, _, _, _, rfl, hI.1, fun p hp => by have := hI.2.1 p hp; omega, by have := hI.2.2; omega⟩
    · rintro env s ⟨⟨t6, rfl, ht6⟩, ps, a, b, c, rfl, hI⟩
      rw [rgD_len] at hI
      refine thenS_nx (SP.ret (e_tup (e_cons (e_var rfl) (e_cons (e_fn (z := .tup (ps.map pr)) (e_cons (e_varO rfl) e_nil) rfl) e_nil)) (by simp)) ⟨ps, t6, rfl, rfl, ⟨hI.1, fun p hp => ?_, ?_⟩, ht6⟩)
      · have := hI.2.1 p hp; omega
      · have := hI.2.2; omega
  exact ⟨n, ps, t', by rw [e, h1, h2], by omega, by omega, h3, h4⟩
end DL

set_option maxHeartbeats 4000000
namespace DL
open PySem L2 Bs
section
variable {env : En} {st s1 : Sto} {af : AF} {F : FF} {c : String} {ds : List D} {d : D}
theorem e_mkG (h1 : af env st = .ok ds s1) (h2 : F (.ref s1.length :: ds) (s1 ++ [.ins c [] []]) = .ok .non (s1 ++ [d])) (h3 : ∀ x ∈ s1, rl s1.length x = true) (h4 : rl s1.length d = true) : dMk c F af env st = .ok d s1 := by
  unfold dMk
  rw [h1]
  show (F (.ref s1.length :: ds) (s1 ++ [.ins c [] []])).bind _ = _
  rw [h2]
  dsimp only [R.bind]
  have e1 : (isNon .non && decide ((s1 ++ [d]).length = s1.length + 1) && (s1 ++ [d]).all (rl s1.length)) = true := by
    rw [decide_eq_true (by rw [List.length_append]; rfl), List.all_append, Bool.and_eq_true]
    refine ⟨rfl, ?_⟩
    rw [Bool.and_eq_true]
    exact ⟨List.all_eq_true.mpr h3, by rw [List.all_cons, h4]; rfl⟩
  have e2 : (s1 ++ [d])[s1.length]? = some d := by rw [List.getElem?_append_right (Nat.le_refl _), Nat.sub_self]; rfl
  rw [e1, e2, List.take_left]
theorem get_end (st : Sto) (d : D) : (st ++ [d])[st.length]? = some d := by rw [List.getElem?_append_right (Nat.le_refl _), Nat.sub_self]; rfl
theorem set_end (st : Sto) (d e : D) : (st ++ [d]).set st.length e = st ++ [e] := by rw [List.set_append_right _ _ (Nat.le_refl _), Nat.sub_self]; rfl
end
theorem web_init {n : Int} {ps : List (Int × Int)} (h : WB n ps) (n1 : 1 ≤ n) (n24 : n ≤ 24) (st : Sto) : F_Web_init [.ref st.length, .int n, .tup (ps.map pr)] (st ++ [.ins "Web" [] []]) = .ok .non (st ++ [webD n ps]) := by
  obtain ⟨r, s, e, h1, h2⟩ : ∃ r s, F_Web_init [.ref st.length, .int n, .tup (ps.map pr)] (st ++ [.ins "Web" [] []]) = .ok r s ∧ r = .non ∧ s = st ++ [webD n ps] := by
    refine run_of rfl (SP.seq (SP.if (b := false) (s1 := st ++ [.ins "Web" [] []]) (t_not (t_truth (x := .bl true) (b := true) (e_call (e_cons (e_var rfl) (e_cons e_c (e_cons e_c e_nil))) ((is_number_ok n 1 24 _).trans (by rw [in_true n1 n24]))) rfl)) (fun z => by cases z) fun _ => SP.pass (thenS_nx ?_)))
    refine SP.seq (SP.if (b := false) (s1 := st ++ [.ins "Web" [] []]) (t_not (t_truth (x := .bl true) (b := true) (e_isa (d := .tup (ps.map pr)) (e_var rfl) rfl k_tt) rfl)) (fun z => by cases z) fun _ => SP.pass (thenS_nx ?_))
    refine SP.seq (SP.set (e_call (e_cons (e_var rfl) (e_cons (e_var rfl) e_nil)) (wrong_tie_ok h _)) (thenS_nx ?_))
    refine SP.seq (SP.if (b := false) (s1 := st ++ [.ins "Web" [] []]) (t_bin (e_var rfl) e_c o_isnotN) (fun z => by cases z) fun _ => SP.pass (thenS_nx ?_))
    refine SP.seq (SP.fldR (e_var rfl) (e_var rfl) (get_end _ _) (by decide) (by decide) (thenS_nx ?_))
    rw [set_end]
    refine SP.fldR (e_var rfl) (e_var rfl) (get_end _ _) (by decide) (by decide) ⟨rfl, ?_⟩
    rw [set_end]
    rfl
  rw [e, h1, h2]
theorem rl_toI (k : Nat) : ∀ l : List Int, rlL k (l.map D.int) = true
  | [] => rfl
  | _ :: l => rl_toI k l
theorem rl_tp {t : D} (h : TP t) (n : Nat) : rl n t = true := by
  obtain ⟨ns, a, b, c, d, rfl, _⟩ := h
  show (rlL n (ns.map D.int) && true) = true
  rw [rl_toI, Bool.and_true]
theorem rl_prs (q : Nat) : ∀ ps : List (Int × Int), rlL q (ps.map pr) = true
  | [] => rfl
  | _ :: ps => rl_prs q ps
theorem mkW {n : Nat} {ps : List (Int × Int)} {env : En} {s s1 : Sto} {af : AF} (hw : WB n ps) (n1 : 1 ≤ n) (n24 : n ≤ 24) (h : af env s = .ok [.int (n : Int), .tup (ps.map pr)] s1) (hS : ∀ x ∈ s1, rl s1.length x = true) : dMk "Web" F_Web_init af env s = .ok (webD n ps) s1 :=
  e_mkG h (web_init hw (by omega) (by omega) s1) hS (by show (true && (rlL _ (ps.map pr) && true)) = true; rw [rl_prs]; rfl)
abbrev Cl := Nat × Bool
def callD (c : Cl) : D := .tup [.int (c.1 : Int), .bl c.2]
def tolN (b : Nat) (c : Cl) : Nat := if c.2 = true then b ||| 2 ^ c.1 else clr b c.1
def stA (b : Nat) (cs : List Cl) : Nat := cs.foldl tolN b
theorem stA_snoc (b : Nat) (cs : List Cl) (c : Cl) : stA b (cs ++ [c]) = tolN (stA b cs) c := by
  unfold stA
  rw [List.foldl_append]
  rfl
def lotT (n b : Nat) : D := .tup ((lotN n b).map .int)
def logD (n b : Nat) (cs : List Cl) : D := .tup [.int (n : Int), lotT n b, .tup (cs.map callD)]
structure LogOk (n b : Nat) (cs : List Cl) : Prop where
  n1 : 1 ≤ n
  n12 : n ≤ 12
  bb : b < 2 ^ n
  len : cs.length ≤ 200
  ok : ∀ c ∈ cs, c.1 < n
theorem clr_bd {n b p : Nat} (hb : b < 2 ^ n) : clr b p < 2 ^ n := by
  unfold clr
  omega
theorem tol_bd {n b : Nat} {c : Cl} (hb : b < 2 ^ n) (hc : c.1 < n) : tolN b c < 2 ^ n := by
  unfold tolN
  split
  · exact Nat.or_lt_two_pow hb (Nat.pow_lt_pow_right (by decide) hc)
  · exact clr_bd hb
theorem stA_bd {n : Nat} {cs : List Cl} (h : ∀ c ∈ cs, c.1 < n) {b : Nat} (hb : b < 2 ^ n) : stA b cs < 2 ^ n := by
  induction cs generalizing b with
  | nil => exact hb
  | cons c cs ih => exact ih (fun x hx => h x (.tail _ hx)) (tol_bd hb (h c (.head _)))
theorem LogOk.bd {n b : Nat} {cs : List Cl} (h : LogOk n b cs) (i : Nat) : stA b (cs.take i) < 2 ^ n := stA_bd (fun c hc => h.ok c (List.mem_of_mem_take hc)) h.bb
theorem stA_get {b : Nat} {cs : List Cl} {i : Nat} {c : Cl} (h : cs[i]? = some c) : stA b (cs.take (i + 1)) = tolN (stA b (cs.take i)) c := by rw [take_snoc h, stA_snoc]
theorem lot_12 {n b : Nat} (n12 : n ≤ 12) : (lotN n b).length ≤ 12 := by have := lot_len (lotN_lot n b) (by omega); omega
theorem e_left {n b p : Nat} (hb : b < 2 ^ n) (n12 : n ≤ 12) {env : En} {st : Sto} {i j k : Nat} (h1 : env[i]? = some (.fz (lotT n b))) (h2 : ∀ x : D, ((wipeE env [k]).set k (.fz x))[j]? = some (.fz (.int (p : Int)))) (h3 : k < (wipeE env [k]).length) : dLc (iSeq (dVar i)) [k] (tgName k) (dBinT oNe (dVar k) (dVar j)) (dVar k) env st = .ok (.lst ((lotN n (clr b p)).map .int)) st := by
  let pp : D → Bool := fun d => match d with
    | .int x => !decide (x = (p : Int))
    | _ => false
  have key := e_lc (st := st) (s1 := st) (env := env) (ds := (lotN n b).map .int) (fi := iSeq (dVar i)) (vs := [k]) (gt := tgName k) (tt := dBinT oNe (dVar k) (dVar j)) (te := dVar k) pp id (i_seq (e_var h1) rfl) (by rw [List.length_map]; have := lot_12 (n := n) (b := b) n12; unfold lim; omega) fun x hx => by
    obtain ⟨y, _, rfl⟩ := List.mem_map.mp hx
    have hk : ((wipeE env [k]).set k (.fz (.int y)))[k]? = some (.fz (.int y)) := by rw [List.getElem?_set_self h3]
    exact ⟨_, rfl, t_bin (e_var hk) (e_var (h2 _)) o_ne, fun _ => e_var hk⟩
  rw [key]
  refine congrArg (fun l => R.ok (D.lst l) st) ?_
  rw [List.map_id, List.filter_map, ← left_lot hb]
  rfl
theorem e_with {n b p : Nat} (hb : b < 2 ^ n) (hp : p < n) (n12 : n ≤ 12) {env : En} {st : Sto} {i j : Nat} (h1 : env[i]? = some (.fz (lotT n (clr b p)))) (h2 : env[j]? = some (.fz (.int (p : Int)))) : dFn (fn1 gTuple) (dCons (dFn (fn1 gSort) (dCons (dBin oAdd (dVar i) (dTup (dCons (dVar j) dNil))) dNil)) dNil) env st = .ok (lotT n (b ||| 2 ^ p)) st := by
  refine e_fn (e_cons (e_fn (z := .lst ((lotN n (b ||| 2 ^ p)).map .int)) (e_cons (e_bin (z := .tup ((lotN n (clr b p) ++ [(p : Int)]).map .int)) (e_var h1) (e_tup (e_cons (e_var h2) e_nil) (by simp)) ?_) e_nil) ?_) e_nil) (gTuple_lst _)
  · have := lot_12 (n := n) (b := clr b p) n12
    refine (if_pos (by rw [List.length_map, List.length_singleton]; unfold lim; omega)).trans ?_
    rw [List.map_append]
    rfl
  · show (match asInts ((lotN n (clr b p) ++ [(p : Int)]).map .int) with | some ns => some (D.lst ((srtI ns).map D.int)) | none => _) = _
    rw [asInts_map, ← with_lot hb hp]
theorem law_stands {n b : Nat} {cs : List Cl} (L : LogOk n b cs) (st : Sto) : F__law_stands [logD n b cs] st = .ok (.lst ((List.range (cs.length + 1)).map fun i => lotT n (stA b (cs.take i)))) st := by
  obtain ⟨r, s, e, h1, h2⟩ : ∃ r s, F__law_stands [logD n b cs] st = .ok r s ∧ r = .lst ((List.range (cs.length + 1)).map fun i => lotT n (stA b (cs.take i))) ∧ s = st := by
    refine run_of rfl (SP.seq (SP.set (e_bin (e_var rfl) e_c (o_ixN (z := lotT n b) rfl (by omega) rfl)) (thenS_nx (SP.seq (SP.setO (e_lst (e_cons (e_var rfl) e_nil) (by simp)) (thenS_nx (SP.seq ?_)))))))
    refine SP.for_inv (s1 := st) (ds := cs.map callD) (fun i env s => s = st ∧ i ≤ cs.length ∧ ∃ x y z, env = [.fz (logD n b cs), .fz (lotT n (stA b (cs.take i))), .ow (.lst ((List.range (i + 1)).map fun i => lotT n (stA b (cs.take i)))), x, y, z]) (i_seq (e_bin (e_var rfl) e_c (o_ixN (z := .tup (cs.map callD)) rfl (by omega) rfl)) rfl) ⟨rfl, Nat.zero_le _, _, _, _, rfl⟩ ?_ ?_
    · rintro i d env s hd ⟨rfl, hi, x, y, z, rfl⟩
      rw [List.getElem?_map] at hd
      obtain ⟨⟨p, f⟩, hc, rfl⟩ := Option.map_eq_some_iff.mp hd
      have hi' := (List.getElem?_eq_some_iff.mp hc).1
      have hp : p < n := L.ok _ (List.mem_of_getElem? hc)
      have hb := L.bd i
      have e1 := e_left (p := p) hb L.n12 (st := s) (env := [.fz (logD n b cs), .fz (lotT n (stA b (cs.take i))), .ow (.lst ((List.range (i + 1)).map fun i => lotT n (stA b (cs.take i)))), .fz (.int (p : Int)), .fz (.bl f), z]) (i := 1) (j := 3) (k := 5) rfl (fun _ => rfl) (by show 5 < 6; decide)
      refine ⟨_, rfl, SP.mono (P := fun r => r = .nx [.fz (logD n b cs), .fz (lotT n (stA b (cs.take (i + 1)))), .ow (.lst ((List.range (i + 1 + 1)).map fun i => lotT n (stA b (cs.take i)))), .fz (.int (p : Int)), .fz (.bl f), z] s) (SP.seq (SP.set (e_fn (e_cons e1 e_nil) (gTuple_lst _)) (thenS_nx (SP.seq ?_)))) fun r h => by subst h; exact ⟨rfl, by omega, _, _, _, rfl⟩⟩
      have fin : ∀ u : Nat, u = stA b (cs.take (i + 1)) → SP (sAppO 2 (dVar 1) [.fz (logD n b cs), .fz (lotT n u), .ow (.lst ((List.range (i + 1)).map fun i => lotT n (stA b (cs.take i)))), .fz (.int (p : Int)), .fz (.bl f), z] s) fun r => r = .nx [.fz (logD n b cs), .fz (lotT n (stA b (cs.take (i + 1)))), .ow (.lst ((List.range (i + 1 + 1)).map fun i => lotT n (stA b (cs.take i)))), .fz (.int (p : Int)), .fz (.bl f), z] s := fun u hu => by
        subst hu
        refine SP.appO rfl (e_var rfl) (by rw [List.length_map, List.length_range]; have := L.len; unfold lim; omega) ?_
        rw [List.range_succ (n := i + 1), List.map_append]
        rfl
      have eu : stA b (cs.take (i + 1)) = if f = true then stA b (cs.take i) ||| 2 ^ p else clr (stA b (cs.take i)) p := stA_get hc
      cases f with
      | true => exact SP.if (b := true) (s1 := s) (t_truth (e_var rfl) rfl) (fun _ => SP.set (e_with hb hp L.n12 rfl rfl) (thenS_nx (fin _ (by rw [eu, if_pos rfl])))) fun z => by cases z
      | false => exact SP.if (b := false) (s1 := s) (t_truth (e_var rfl) rfl) (fun z => by cases z) fun _ => SP.pass (thenS_nx (fin _ (by rw [eu, if_neg Bool.false_ne_true])))
    · rintro env s ⟨rfl, _, x, y, z, rfl⟩
      rw [List.length_map]
      exact thenS_nx (SP.frz (SP.ret (e_var rfl) ⟨rfl, rfl⟩))
  rw [e, h1, h2]
end DL

set_option maxHeartbeats 4000000
namespace DL
open PySem L2 Bs
section
variable {fa : EF} {tf tg : TF} {env : En} {st s1 s2 : Sto} {c : Bool}
theorem t_andT (h1 : tf env st = .ok true s1) (h2 : tg env s1 = .ok c s2) : dAnd tf tg env st = .ok c s2 := by unfold dAnd; rw [h1]; exact h2
theorem t_andF (h1 : tf env st = .ok false s1) : dAnd tf tg env st = .ok false s1 := by unfold dAnd; rw [h1]; rfl
theorem t_orF (h1 : tf env st = .ok false s1) (h2 : tg env s1 = .ok c s2) : dOr tf tg env st = .ok c s2 := by unfold dOr; rw [h1]; exact h2
theorem o_ne_bls {a b : Bool} : oNe st (.bl a) (.bl b) = some (.bl (a != b)) := by cases a <;> cases b <;> rfl
theorem i_zipTL {af : AF} {l m : List D} (h : af env st = .ok [.tup l, .lst m] s1) : iZipTL af env st = .ok (zipD l m) s1 := by
  unfold iZipTL
  rw [h]
  rfl
end
section
variable {n b : Nat} {cs : List Cl} {ps : List (Int × Int)} {ts : List Nat}
theorem is_told_ok {c : Cl} (hc : c.1 < n) (st : Sto) : F_is_told_call [.int (n : Int), callD c] st = .ok (.bl true) st := by
  have e1 : F_is_pair [callD c] st = .ok (.bl true) st := by
    obtain ⟨r, s, e, h1, h2⟩ : ∃ r s, F_is_pair [callD c] st = .ok r s ∧ r = .bl true ∧ s = st :=
      run_of rfl (SP.ret (v_and (b := true) (c := true) (e_isa (d := callD c) (e_var rfl) rfl k_tt) fun _ => e_bin (e_fn (e_cons (e_var rfl) e_nil) rfl) e_c o_eq) ⟨rfl, rfl⟩)
    rw [e, h1, h2]
  obtain ⟨r, s, e, h1, h2⟩ : ∃ r s, F_is_told_call [.int (n : Int), callD c] st = .ok r s ∧ r = .bl true ∧ s = st :=
    run_of rfl (SP.ret (v_and (b := true) (c := true) (e_call (e_cons (e_var rfl) e_nil) e1) fun _ => v_and (b := true) (c := true) (e_call (e_cons (e_bin (e_var rfl) e_c (o_ixN (z := .int (c.1 : Int)) rfl (by omega) rfl)) (e_cons e_c (e_cons (e_bin (e_var rfl) e_c o_sub) e_nil))) ((is_number_ok (c.1 : Int) 0 ((n : Int) - 1) st).trans (by rw [in_true (by omega) (by omega)]))) fun _ => e_isa (d := .bl c.2) (e_bin (e_var rfl) e_c (o_ixN (z := .bl c.2) rfl (by omega) rfl)) rfl k_bb) ⟨rfl, rfl⟩)
  rw [e, h1, h2]
theorem is_log_ok (L : LogOk n b cs) (st : Sto) : F_is_log [logD n b cs] st = .ok (.bl true) st := by
  have n1 := L.n1
  have n12 := L.n12
  obtain ⟨r, s, e, h1, h2⟩ : ∃ r s, F_is_log [logD n b cs] st = .ok r s ∧ r = .bl true ∧ s = st := by
    refine run_of rfl (SP.seq (SP.if (b := false) (s1 := st) (t_orF (t_not (t_truth (x := .bl true) (b := true) (e_isa (d := logD n b cs) (e_var rfl) rfl k_tt) rfl)) (t_bin (e_fn (z := .int 3) (e_cons (e_var rfl) e_nil) rfl) e_c o_ne)) (fun z => by cases z) fun _ => SP.pass (thenS_nx (SP.seq (SP.asg (e_var rfl) rfl (thenS_nx (SP.seq ?_)))))))
    refine SP.if (b := false) (s1 := st) (t_orF (t_not (t_truth (x := .bl true) (b := true) (e_call (e_cons (e_var rfl) (e_cons e_c (e_cons e_c e_nil))) ((is_number_ok (n : Int) 1 12 st).trans (by rw [in_true (by omega) (by omega)]))) rfl)) (t_not (t_truth (x := .bl true) (b := true) (e_call (e_cons (e_var rfl) (e_cons (e_var rfl) e_nil)) (is_lot_below_ok (lotN_lot n b) st)) rfl))) (fun z => by cases z) fun _ => SP.pass (thenS_nx (SP.seq ?_))
    refine SP.if (b := false) (s1 := st) (t_orF (t_not (t_truth (x := .bl true) (b := true) (e_isa (d := .tup (cs.map callD)) (e_var rfl) rfl k_tt) rfl)) ((t_bin (e_fn (z := .int (cs.length : Int)) (e_cons (e_var rfl) e_nil) (by show some (D.int ((cs.map callD).length : Nat)) = _; rw [List.length_map])) e_c o_gt).trans (by rw [decide_eq_false (by have := L.len; omega)]))) (fun z => by cases z) fun _ => SP.pass (thenS_nx (SP.seq ?_))
    refine SP.for_inv (s1 := st) (ds := cs.map callD) (fun i env s => s = st ∧ ∃ x, env = [.fz (logD n b cs), .fz (.int (n : Int)), .fz (lotT n b), .fz (.tup (cs.map callD)), x]) (i_seq (e_var rfl) rfl) ⟨rfl, _, rfl⟩ ?_ ?_
    · rintro i d env s hd ⟨rfl, x, rfl⟩
      rw [List.getElem?_map] at hd
      obtain ⟨c, hc, rfl⟩ := Option.map_eq_some_iff.mp hd
      refine ⟨_, rfl, SP.if (b := false) (s1 := s) (t_not (t_truth (x := .bl true) (b := true) (e_call (e_cons (e_var rfl) (e_cons (e_var rfl) e_nil)) (is_told_ok (L.ok c (List.mem_of_getElem? hc)) s)) rfl)) (fun z => by cases z) fun _ => SP.pass ⟨rfl, .fz (callD c), rfl⟩⟩
    · rintro env s ⟨rfl, x, rfl⟩
      exact thenS_nx (SP.ret e_c ⟨rfl, rfl⟩)
  rw [e, h1, h2]
theorem check_log_ok (L : LogOk n b cs) (st : Sto) : ∃ d, F_check_log [logD n b cs] st = .ok d st := by
  obtain ⟨r, s, e, h2⟩ : ∃ r s, F_check_log [logD n b cs] st = .ok r s ∧ s = st :=
    run_of rfl (SP.if (b := false) (s1 := st) (t_not (t_truth (x := .bl true) (b := true) (e_call (e_cons (e_var rfl) e_nil) (is_log_ok L st)) rfl)) (fun z => by cases z) fun _ => SP.pass rfl)
  exact ⟨r, by rw [e, h2]⟩
theorem behind_told_ok (b : Nat) (c : Cl) (hp : c.1 ≤ 1000) (st : Sto) : F_behind_told [.int (b : Int), .int (c.1 : Int), .bl c.2] st = .ok (.int (tolN b c : Nat)) st := by
  obtain ⟨p, f⟩ := c
  obtain ⟨r, s, e, h1, h2⟩ : ∃ r s, F_behind_told [.int (b : Int), .int (p : Int), .bl f] st = .ok r s ∧ r = .int (tolN b (p, f) : Nat) ∧ s = st := by
    cases f with
    | true => exact run_of rfl (SP.ret (e_ifT (t_truth (e_var rfl) rfl) (e_bin (e_var rfl) (e_bin e_c (e_var rfl) (o_shl1 (by omega) (by omega))) o_or)) ⟨rfl, rfl⟩)
    | false =>
      refine run_of rfl (SP.ret (e_ifF (t_truth (e_var rfl) rfl) (e_bin (e_var rfl) (e_un (e_bin e_c (e_var rfl) (o_shl1 (by omega) (by omega))) rfl) o_andn)) ⟨?_, rfl⟩)
      refine congrArg (fun k : Nat => D.int (k : Int)) ?_
      show andn b (2 ^ p) = clr b p
      refine Nat.eq_of_testBit_eq fun k => ?_
      rw [andn_bit, clr_bit, Nat.testBit_two_pow]
      congr 2
      exact dec_iff eq_comm
  rw [e, h1, h2]
def stL (b : Nat) (cs : List Cl) (i : Nat) : List D := (List.range i).map fun i => D.int (stA b (cs.take i) : Nat)
theorem stL_snoc (b : Nat) (cs : List Cl) (i : Nat) : stL b cs (i + 1) = stL b cs i ++ [D.int (stA b (cs.take i) : Nat)] := by
  unfold stL
  rw [List.range_succ, List.map_append]
  rfl
theorem stands_ok (L : LogOk n b cs) (st : Sto) : F_stands_of [logD n b cs] st = .ok (.lst (stL b cs (cs.length + 1))) st := by
  obtain ⟨r, s, e, h1, h2⟩ : ∃ r s, F_stands_of [logD n b cs] st = .ok r s ∧ r = .lst (stL b cs (cs.length + 1)) ∧ s = st := by
    refine run_of rfl (SP.seq (SP.setO (d := .lst (stL b cs 1)) (e_lst (l := [.int (b : Int)]) (e_cons ((e_call (e_cons (e_bin (e_var rfl) e_c (o_ixN (z := lotT n b) rfl (by omega) rfl)) e_nil) (bits_any (l := lotN n b) rfl (fun x hx => by have := (lotN_lot n b).ok x hx; have := L.n12; omega) st)).trans (by rw [bits_lotN L.bb])) e_nil) (by simp)) (thenS_nx (SP.seq ?_))))
    refine SP.for_inv (s1 := st) (ds := cs.map callD) (fun i env s => s = st ∧ ∃ x y, env = [.fz (logD n b cs), .ow (.lst (stL b cs (i + 1))), x, y]) (i_seq (e_bin (e_var rfl) e_c (o_ixN (z := .tup (cs.map callD)) rfl (by omega) rfl)) rfl) ⟨rfl, _, _, rfl⟩ ?_ ?_
    · rintro i d env s hd ⟨rfl, x, y, rfl⟩
      rw [List.getElem?_map] at hd
      obtain ⟨c, hc, rfl⟩ := Option.map_eq_some_iff.mp hd
      have hi := (List.getElem?_eq_some_iff.mp hc).1
      have hp := L.ok _ (List.mem_of_getElem? hc)
      have n12 := L.n12
      refine ⟨_, rfl, SP.appO (d := .int (tolN (stA b (cs.take i)) c : Nat)) (s1 := s) rfl (e_call (e_cons (e_bin (e_varO rfl) (e_un e_c rfl) (o_ixNeg1 (x := .lst (stL b cs (i + 1))) (by show some (stL b cs (i + 1)) = _; rw [stL_snoc]))) (e_cons (e_var rfl) (e_cons (e_var rfl) e_nil))) (behind_told_ok _ c (by omega) s)) (by unfold stL; rw [List.length_map, List.length_range]; have := L.len; unfold lim; omega) ⟨rfl, .fz (.int (c.1 : Int)), .fz (.bl c.2), ?_⟩⟩
      rw [stL_snoc (i := i + 1), stA_get hc]
      rfl
    · rintro env s ⟨rfl, x, y, rfl⟩
      rw [List.length_map]
      exact thenS_nx (SP.frz (SP.ret (e_var rfl) ⟨rfl, rfl⟩))
  rw [e, h1, h2]
theorem behind_log_ok (L : LogOk n b cs) (st : Sto) : F_behind [logD n b cs] st = .ok (lotT n (stA b cs)) st := by
  obtain ⟨d, hd⟩ := check_log_ok L st
  have hb := L.bd cs.length
  rw [List.take_length] at hb
  obtain ⟨r, s, e, h1, h2⟩ : ∃ r s, F_behind [logD n b cs] st = .ok r s ∧ r = lotT n (stA b cs) ∧ s = st :=
    run_of rfl (SP.seq (SP.drop (e_call (e_cons (e_var rfl) e_nil) hd) (thenS_nx (SP.ret (e_call (e_cons (e_bin (e_call (e_cons (e_var rfl) e_nil) (stands_ok L st)) (e_un e_c rfl) (o_ixNeg1 (x := .lst (stL b cs (cs.length + 1))) (z := .int (stA b cs : Nat)) (by show some (stL b cs (cs.length + 1)) = _; rw [stL_snoc, List.take_length]))) e_nil) (lot_ok hb (by have := L.n12; omega) st)) ⟨rfl, rfl⟩))))
  rw [e, h1, h2]
def v3 : D → D
  | .tup [.tup [p, t], a] => .tup [p, t, a]
  | d => d
def callsL (b : Nat) (cs : List Cl) : List D := (zipD (cs.map callD) (stL b cs (cs.length + 1))).map v3
theorem callsL_get {i : Nat} {d : D} (h : (callsL b cs)[i]? = some d) : ∃ c, cs[i]? = some c ∧ d = .tup [.int (c.1 : Int), .bl c.2, .int (stA b (cs.take i) : Nat)] := by
  unfold callsL at h
  rw [List.getElem?_map] at h
  obtain ⟨x, hx, rfl⟩ := Option.map_eq_some_iff.mp h
  obtain ⟨x1, x2, h1, h2, rfl⟩ := zipD_get hx
  rw [List.getElem?_map] at h1
  obtain ⟨c, hc, rfl⟩ := Option.map_eq_some_iff.mp h1
  unfold stL at h2
  rw [List.getElem?_map] at h2
  obtain ⟨k, hk, rfl⟩ := Option.map_eq_some_iff.mp h2
  obtain ⟨_, hk⟩ := List.getElem?_eq_some_iff.mp hk
  rw [List.getElem_range] at hk
  subst hk
  exact ⟨c, hc, rfl⟩
theorem callsL_len : (callsL b cs).length = cs.length := by
  unfold callsL
  rw [List.length_map, zipD_len, List.length_map]
  unfold stL
  rw [List.length_map, List.length_range]
  omega
theorem calls_ok (L : LogOk n b cs) (st : Sto) : F_calls_of [logD n b cs] st = .ok (.lst (callsL b cs)) st := by
  have key := e_lc (st := st) (s1 := st) (env := [.fz (logD n b cs), .no, .no, .no]) (ds := zipD (cs.map callD) (stL b cs (cs.length + 1))) (fi := iZipTL (dCons (dBin oIx (dVar 0) (dC (.int 2))) (dCons (dCall F_stands_of (dCons (dVar 0) dNil)) dNil))) (vs := [1, 2, 3]) (gt := tgTup (tgCons (tgTup (tgCons (tgName 1) (tgCons (tgName 2) tgNil))) (tgCons (tgName 3) tgNil))) (tt := dYes) (te := dTup (dCons (dVar 1) (dCons (dVar 2) (dCons (dVar 3) dNil)))) (fun _ => true) v3 (i_zipTL (e_cons (e_bin (e_var rfl) e_c (o_ixN (z := .tup (cs.map callD)) rfl (by omega) rfl)) (e_cons (e_call (e_cons (e_var rfl) e_nil) (stands_ok L st)) e_nil))) (by rw [zipD_len, List.length_map]; have := L.len; unfold lim; omega) fun x hx => by
    obtain ⟨i, hi⟩ := List.mem_iff_getElem?.mp hx
    obtain ⟨x1, x2, h1, h2, rfl⟩ := zipD_get hi
    rw [List.getElem?_map] at h1
    obtain ⟨c, _, rfl⟩ := Option.map_eq_some_iff.mp h1
    exact ⟨_, rfl, rfl, fun _ => e_tup (e_cons (e_var rfl) (e_cons (e_var rfl) (e_cons (e_var rfl) e_nil))) (by simp)⟩
  rw [List.filter_eq_self.mpr fun _ _ => rfl] at key
  obtain ⟨r, s, e, h1, h2⟩ : ∃ r s, F_calls_of [logD n b cs] st = .ok r s ∧ r = .lst (callsL b cs) ∧ s = st := run_of rfl (SP.ret key ⟨rfl, rfl⟩)
  rw [e, h1, h2]
def WrD (ts : List Nat) (b : Nat) (cs : List Cl) (d : D) : Prop :=
  (d = .non ∧ ∀ i c, cs[i]? = some c → noN ts (stA b (cs.take i)) c.1 = c.2) ∨
  ∃ i c, d = .int ((i : Nat) : Int) ∧ cs[i]? = some c ∧ noN ts (stA b (cs.take i)) c.1 ≠ c.2 ∧ ∀ k c', k < i → cs[k]? = some c' → noN ts (stA b (cs.take k)) c'.1 = c'.2
theorem WrD.uniq {d e : D} (h : WrD ts b cs d) (h2 : WrD ts b cs e) : d = e := by
  rcases h with ⟨rfl, h⟩ | ⟨i, c, rfl, hc, hn, hk⟩ <;> rcases h2 with ⟨rfl, g⟩ | ⟨j, c', rfl, gc, gn, gk⟩
  · rfl
  · exact absurd (h j c' gc) gn
  · exact absurd (g i c hc) hn
  · rcases Nat.lt_trichotomy i j with z | z | z
    · exact absurd (gk i c z hc) hn
    · rw [z]
    · exact absurd (hk j c' z gc) gn
theorem first_ok (hw : WB n ps) (T : Tied n ps ts) (L : LogOk n b cs) (st : Sto) : ∃ d, F_first_wrong [webD n ps, logD n b cs] st = .ok d st ∧ WrD ts b cs d := by
  have n1 := L.n1
  have n12 := L.n12
  obtain ⟨us, e0, U⟩ := tied_bits_ok hw (by omega) (by omega) st
  obtain rfl : ts = us := DL.Tied.uniq T U
  have hl : ts.length = n := by have := T.len; omega
  obtain ⟨r, s, e, h1, h2⟩ : ∃ r s, F_first_wrong [webD n ps, logD n b cs] st = .ok r s ∧ WrD ts b cs r ∧ s = st := by
    refine run_of rfl (SP.seq (SP.set (e_call (e_cons (e_var rfl) e_nil) e0) (thenS_nx (SP.seq ?_))))
    refine SP.for_inv (s1 := st) (ds := enumD (callsL b cs)) (fun i env s => s = st ∧ (∀ k c, k < i → cs[k]? = some c → noN ts (stA b (cs.take k)) c.1 = c.2) ∧ ∃ x y z u, env = [.fz (webD n ps), .fz (logD n b cs), .fz (.lst (nats ts)), x, y, z, u]) (i_enum (e_cons (e_call (e_cons (e_var rfl) e_nil) (calls_ok L st)) e_nil) rfl) ⟨rfl, fun k c h => by omega, _, _, _, _, rfl⟩ ?_ ?_
    · rintro i d env s hd ⟨rfl, hI, x, y, z, u, rfl⟩
      obtain ⟨x, hx, rfl⟩ := enumD_get hd
      obtain ⟨c, hc, rfl⟩ := callsL_get hx
      have hp := L.ok _ (List.mem_of_getElem? hc)
      have ht := told_ok (ts := ts) (stA b (cs.take i)) (p := (c.1 : Int)) (by omega) (by omega) s
      rw [Int.toNat_natCast] at ht
      refine ⟨_, rfl, SP.if (b := noN ts (stA b (cs.take i)) c.1 != c.2) (s1 := s) (t_bin (e_call (e_cons (e_var rfl) (e_cons (e_var rfl) (e_cons (e_var rfl) e_nil))) ht) (e_var rfl) o_ne_bls) (fun hb => SP.ret (e_var rfl) ⟨.inr ⟨i, c, rfl, hc, by simpa using hb, hI⟩, rfl⟩) fun hb => SP.pass ⟨rfl, fun k c' hk hc' => ?_, .fz (.int (i : Int)), .fz (.int (c.1 : Int)), .fz (.bl c.2), .fz (.int (stA b (cs.take i) : Nat)), rfl⟩⟩
      rcases Nat.lt_or_eq_of_le (Nat.lt_succ_iff.mp hk) with hk | rfl
      · exact hI k c' hk hc'
      · rw [hc] at hc'
        cases hc'
        simpa using hb
    · rintro env s ⟨rfl, hI, x, y, z, u, rfl⟩
      rw [enumD_len, callsL_len] at hI
      exact thenS_nx (SP.ret e_c ⟨.inl ⟨rfl, fun i c hc => hI i c (List.getElem?_eq_some_iff.mp hc).1 hc⟩, rfl⟩)
  exact ⟨r, by rw [e, h2], h1⟩
theorem fits_ok (L : LogOk n b cs) {st : Sto} {d : D} (hd : F_first_wrong [webD n ps, logD n b cs] st = .ok d st) (h0 : deref st d = d) : F_fits [webD n ps, logD n b cs] st = .ok (.bl (isNon d)) st := by
  obtain ⟨x, hx⟩ := check_log_ok L st
  obtain ⟨r, s, e, h1, h2⟩ : ∃ r s, F_fits [webD n ps, logD n b cs] st = .ok r s ∧ r = .bl (isNon d) ∧ s = st := by
    refine run_of rfl (SP.seq (SP.drop (e_call (e_cons (e_var rfl) e_nil) hx) (thenS_nx (SP.ret (v_and (b := true) (c := isNon d) (e_bin (y := .int (n : Int)) (e_un (z := .int (n : Int)) (e_var rfl) rfl) (e_bin (e_var rfl) e_c (o_ixN (z := .int (n : Int)) rfl (by omega) rfl)) (o_eq.trans (by rw [decide_eq_true rfl]))) fun _ => e_bin (e_call (e_cons (e_var rfl) (e_cons (e_var rfl) e_nil)) hd) e_c (o_isN.trans (by rw [h0]))) ⟨rfl, rfl⟩))))
  rw [e, h1, h2]
theorem fits_other {m : Nat} (L : LogOk n b cs) (hm : m ≠ n) (st : Sto) : F_fits [webD m ps, logD n b cs] st = .ok (.bl false) st := by
  obtain ⟨x, hx⟩ := check_log_ok L st
  obtain ⟨r, s, e, h1, h2⟩ : ∃ r s, F_fits [webD m ps, logD n b cs] st = .ok r s ∧ r = .bl false ∧ s = st := by
    refine run_of rfl (SP.seq (SP.drop (e_call (e_cons (e_var rfl) e_nil) hx) (thenS_nx (SP.ret (v_and (b := false) (c := false) (e_bin (y := .int (n : Int)) (e_un (z := .int (m : Int)) (e_var rfl) rfl) (e_bin (e_var rfl) e_c (o_ixN (z := .int (n : Int)) rfl (by omega) rfl)) (o_eq.trans (by rw [decide_eq_false (by omega)]))) fun z => by cases z) ⟨rfl, rfl⟩))))
  rw [e, h1, h2]
theorem wrong_call_ok (L : LogOk n b cs) {st : Sto} {d : D} (hd : F_first_wrong [webD n ps, logD n b cs] st = .ok d st) : F_wrong_call [webD n ps, logD n b cs] st = .ok d st := by
  obtain ⟨x, hx⟩ := check_log_ok L st
  obtain ⟨r, s, e, h1, h2⟩ : ∃ r s, F_wrong_call [webD n ps, logD n b cs] st = .ok r s ∧ r = d ∧ s = st := by
    refine run_of rfl (SP.seq (SP.drop (e_call (e_cons (e_var rfl) e_nil) hx) (thenS_nx (SP.seq (SP.if (b := false) (s1 := st) ((t_bin (e_un (z := .int (n : Int)) (e_var rfl) rfl) (e_bin (e_var rfl) e_c (o_ixN (z := .int (n : Int)) rfl (by omega) rfl)) o_ne).trans (by rw [decide_eq_true rfl]; rfl)) (fun z => by cases z) fun _ => SP.pass (thenS_nx (SP.ret (e_call (e_cons (e_var rfl) (e_cons (e_var rfl) e_nil)) hd) ⟨rfl, rfl⟩)))))))
  rw [e, h1, h2]
theorem law_wrong_ok (hw : WB n ps) (T : Tied n ps ts) (L : LogOk n b cs) (st : Sto) : ∃ d, F__law_wrong [webT n ps, logD n b cs] st = .ok d st ∧ WrD ts b cs d := by
  have n1 := L.n1
  have n12 := L.n12
  have hlen := L.len
  obtain ⟨r, s, e, h1, h2⟩ : ∃ r s, F__law_wrong [webT n ps, logD n b cs] st = .ok r s ∧ WrD ts b cs r ∧ s = st := by
    refine run_of rfl (SP.seq (SP.set (e_call (e_cons (e_var rfl) e_nil) (law_stands L st)) (thenS_nx (SP.seq ?_))))
    refine SP.for_inv (s1 := st) (ds := rgD 0 cs.length) (fun i env s => s = st ∧ (∀ k c, k < i → cs[k]? = some c → noN ts (stA b (cs.take k)) c.1 = c.2) ∧ ∃ x y z, env = [.fz (webT n ps), .fz (logD n b cs), .fz (.lst ((List.range (cs.length + 1)).map fun i => lotT n (stA b (cs.take i)))), x, y, z]) (i_rgn (n := (cs.length : Int)) (e_cons (e_fn (e_cons (e_bin (e_var rfl) e_c (o_ixN (z := .tup (cs.map callD)) rfl (by omega) rfl)) e_nil) (by show some (D.int ((cs.map callD).length : Nat)) = _; rw [List.length_map])) e_nil) (by omega) (by omega)) ⟨rfl, fun k c h => by omega, _, _, _, rfl⟩ ?_ ?_
    · rintro i d env s hd ⟨rfl, hI, x, y, z, rfl⟩
      obtain ⟨hi, rfl⟩ := rg_at hd
      obtain ⟨c, hc⟩ : ∃ c, cs[i]? = some c := ⟨_, List.getElem?_eq_getElem hi⟩
      have hp := L.ok _ (List.mem_of_getElem? hc)
      refine ⟨_, rfl, SP.seq (SP.asg (d := callD c) (e_bin (e_bin (e_var rfl) e_c (o_ixN (z := .tup (cs.map callD)) rfl (by omega) rfl)) (e_var rfl) (o_ixN rfl (by omega) (by rw [Int.toNat_natCast, List.getElem?_map, hc]; rfl))) rfl (thenS_nx ?_))⟩
      refine SP.if (b := noN ts (stA b (cs.take i)) c.1 != c.2) (s1 := s) (t_bin (e_call (e_cons (e_var rfl) (e_cons (e_bin (e_var rfl) (e_var rfl) (o_ixN (z := lotT n (stA b (cs.take i))) rfl (by omega) (by rw [Int.toNat_natCast, List.getElem?_map, List.getElem?_range (by omega)]; rfl))) (e_cons (e_var rfl) e_nil))) (says_ok T hw n12 hp (L.bd i) s)) (e_var rfl) o_ne_bls) (fun hb => SP.ret (e_var rfl) ⟨.inr ⟨i, c, rfl, hc, by simpa using hb, hI⟩, rfl⟩) fun hb => SP.pass ⟨rfl, fun k c' hk hc' => ?_, .fz (.int (i : Int)), .fz (.int (c.1 : Int)), .fz (.bl c.2), rfl⟩
      rcases Nat.lt_or_eq_of_le (Nat.lt_succ_iff.mp hk) with hk | rfl
      · exact hI k c' hk hc'
      · rw [hc] at hc'
        cases hc'
        simpa using hb
    · rintro env s ⟨rfl, hI, x, y, z, rfl⟩
      rw [rgD_len] at hI
      exact thenS_nx (SP.ret e_c ⟨.inl ⟨rfl, fun i c hc => hI i c (List.getElem?_eq_some_iff.mp hc).1 hc⟩, rfl⟩)
  exact ⟨r, by rw [e, h2], h1⟩
end
end DL

set_option maxHeartbeats 4000000
namespace DL
open PySem L2 Bs
theorem sub_lot {n : Nat} {l : List D} (h : l.Sublist (rgD 0 n)) : ∃ b, b < 2 ^ n ∧ l = (lotN n b).map .int := by
  rw [rg_map] at h
  obtain ⟨m, hm, rfl⟩ := List.sublist_map_iff.mp h
  have hb : ∀ x ∈ m.map (fun k : Nat => (k : Int)), 0 ≤ x ∧ x < n := fun x hx => by
    obtain ⟨k, hk, rfl⟩ := List.mem_map.mp hx
    have := List.mem_range.mp (hm.subset hk)
    omega
  have hu : (m.map fun k : Nat => (k : Int)).Pairwise (· < ·) := by
    rw [List.pairwise_map]
    exact (List.pairwise_lt_range.sublist hm).imp fun h => by omega
  have hL : IsLot (m.map fun k : Nat => (k : Int)) (bitsN (m.map fun k : Nat => (k : Int))) := isLot_bits (n := n) ⟨hu, hb⟩
  have hlt := bits_bd hb
  refine ⟨_, hlt, ?_⟩
  rw [← isLot_ext hL (isLot_lotN hlt), List.map_map]
  rfl
theorem o_eqStr {st : Sto} {x : Str} (h : PyData.strOk x = true) : oEq st (.str x) (.str x) = some (.bl true) := by
  show (if plain 62 (D.str x) && plain 62 (D.str x) then some (D.bl (false != (x == x))) else none) = _
  rw [show plain 62 (D.str x) = true from h]
  simp
section
variable {n b : Nat} {cs : List Cl} {ps : List (Int × Int)} {ts : List Nat}
theorem Rp.bl (f : Bool) : Rp 6 0 (.bl f) := by
  cases f
  · exact ⟨fun _ _ => rfl, ⟨by decide +kernel, by simp [py, PyData.hasDict], by decide +kernel, by decide +kernel⟩⟩
  · exact ⟨fun _ _ => rfl, ⟨by decide +kernel, by simp [py, PyData.hasDict], by decide +kernel, by decide +kernel⟩⟩
theorem rp_log (L : LogOk n b cs) : Rp 20000 3 (logD n b cs) := by
  have n12 := L.n12
  have h1 : Rp 5000 2 (.tup (cs.map callD)) := Rp.tup (n := 19) (m := 1) (fun d hd => by
    obtain ⟨c, hc, rfl⟩ := List.mem_map.mp hd
    have := L.ok c hc
    refine Rp.tup (n := 6) (m := 0) (fun d hd => ?_) (by simp)
    rcases List.mem_cons.mp hd with rfl | hd
    · exact Rp.int (by omega) (by omega)
    · rw [List.mem_singleton.mp hd]
      exact Rp.bl _) (by rw [List.length_map]; have := L.len; omega)
  refine Rp.tup (n := 5000) (m := 2) (fun d hd => ?_) (by simp)
  rcases List.mem_cons.mp hd with rfl | hd
  · exact (Rp.int (by omega) (by omega)).mono (by omega) (by omega)
  rcases List.mem_cons.mp hd with rfl | hd
  · exact (Rp.lot (fun x hx => by have := (lotN_lot n b).ok x hx; omega) (by have := lot_12 (n := n) (b := b) n12; omega)).mono (by omega) (by omega)
  · rw [List.mem_singleton.mp hd]
    exact h1
theorem o_neT {st : Sto} {l : List Int} : oNe st (.tup (l.map .int)) (.tup (l.map .int)) = some (.bl false) := by
  show (if plain 62 (D.tup (l.map .int)) && plain 62 (D.tup (l.map .int)) then some (D.bl (true != deqL (l.map .int) (l.map .int))) else none) = _
  have pl : plain 62 (D.tup (l.map .int)) = true := by
    show (decide (0 < 62) && plainL 61 (l.map D.int)) = true
    rw [plainL_ints]; rfl
  rw [pl, asI_eq]
  rfl
theorem law_log_ok (hw : WB n ps) (T : Tied n ps ts) (n1 : 1 ≤ n) (n12 : n ≤ 12) {t : D} (ht : TP t) (R : Sto) {most : Int} (m1 : 1 ≤ most) (m2 : most ≤ 201) : ∃ b cs t', F__law_log [.ref 0, webT n ps, .int most] (t :: R) = .ok (logD n b cs) (t' :: R) ∧ TP t' ∧ LogOk n b cs := by
  have e0 : ∀ {env : En} {st : Sto}, env[1]? = some (.fz (webT n ps)) → dBin oIx (dVar 1) (dC (.int 0)) env st = .ok (.int (n : Int)) st := fun h => e_bin (e_var h) e_c (o_ixN (z := .int (n : Int)) rfl (by omega) rfl)
  obtain ⟨l, st', e1, hs, t1, rfl, ht1⟩ := e_lcS (env := [.fz (.ref 0), .fz (webT n ps), .fz (.int most), .no, .no, .no, .no, .no, .no, .no, .no]) (st := t :: R) (s1 := t :: R) (fi := iRange1 (dCons (dBin oIx (dVar 1) (dC (.int 0))) dNil)) (vs := [3]) (gt := tgName 3) (tt := dBinT oEq (dCall F__law_pick (dCons (dVar 0) (dCons (dC (.int 3)) dNil))) (dC (.int 0))) (te := dVar 3) (ds := rgD 0 n) (I := fun s => ∃ t', s = t' :: R ∧ TP t') id (i_rgn (n := (n : Int)) (e_cons (e0 rfl) e_nil) (by omega) (by omega)) (by rw [rgD_len]; unfold lim; omega) ⟨t, rfl, ht⟩ fun x hx s ⟨t1, hs, ht1⟩ => by
    subst hs
    obtain ⟨_, _, e, k, t2, rfl, rfl, ht2, _, _⟩ := tpick ht1 R 3 (by decide) (by decide)
    exact ⟨_, rfl, _, t2 :: R, t_bin (e_call (e_cons (e_var rfl) (e_cons e_c e_nil)) e) e_c o_eq, ⟨t2, rfl, ht2⟩, fun _ => e_var rfl⟩
  rw [List.map_id] at e1
  obtain ⟨b, hb, rfl⟩ := sub_lot hs
  obtain ⟨_, _, e2, k2, t2, rfl, rfl, ht2, _, _⟩ := tpick ht1 R 3 (by decide) (by decide)
  obtain ⟨_, _, e3, k3, t3, rfl, rfl, ht3, k30, k31⟩ := tpick ht2 R most (by omega) (by omega)
  obtain ⟨d, s, e, cs, t', h1, h2, h3, h4⟩ : ∃ d s, F__law_log [.ref 0, webT n ps, .int most] (t :: R) = .ok d s ∧ ∃ cs t', d = logD n b cs ∧ s = t' :: R ∧ TP t' ∧ LogOk n b cs := by
    refine run_of rfl (SP.seq (SP.set (d := lotT n b) (e_fn (e_cons e1 e_nil) (gTuple_lst _)) (thenS_nx (SP.seq (SP.set (e_var rfl) (thenS_nx (SP.seq (SP.setO (e_lst e_nil (by decide)) (thenS_nx (SP.seq ?_))))))))))
    refine SP.set (e_bin (e_call (e_cons (e_var rfl) (e_cons e_c e_nil)) e2) e_c o_eq) (thenS_nx (SP.seq ?_))
    let E : Slot → List Cl → Slot → Slot → Slot → En := fun x cs y z w => [.fz (.ref 0), .fz (webT n ps), .fz (.int most), x, .fz (lotT n (stA b cs)), .fz (lotT n b), .ow (.lst (cs.map callD)), .fz (.bl (decide (k2 = 0))), y, z, w]
    refine SP.for_inv (s1 := t3 :: R) (ds := rgD 0 k3.toNat) (fun i env s => (∃ t', s = t' :: R ∧ TP t') ∧ ∃ cs x y z w, env = E x cs y z w ∧ cs.length = i ∧ ∀ c ∈ cs, c.1 < n) (i_rgn (n := k3) (e_cons (e_call (e_cons (e_var rfl) (e_cons (e_var rfl) e_nil)) e3) e_nil) (by omega) (by omega)) ⟨⟨t3, rfl, ht3⟩, [], _, _, _, _, rfl, rfl, fun c hc => (nomatch hc)⟩ ?_ ?_
    · rintro i d env s hd ⟨⟨t4, rfl, ht4⟩, cs, x, y, z, w, rfl, hlen, hcs⟩
      obtain ⟨hi, rfl⟩ := rg_at hd
      obtain ⟨_, _, e5, k5, t5, rfl, rfl, ht5, k50, k51⟩ := tpick ht4 R n (by omega) (by omega)
      obtain ⟨p, rfl⟩ : ∃ p : Nat, k5 = (p : Int) := ⟨k5.toNat, by omega⟩
      have hp : p < n := by omega
      have hb' : stA b cs < 2 ^ n := stA_bd hcs hb
      refine ⟨_, rfl, SP.seq (SP.set (e_call (e_cons (e_var rfl) (e_cons (e0 rfl) e_nil)) e5) (thenS_nx (SP.seq (SP.set (e_call (e_cons (e_var rfl) (e_cons (e_var rfl) (e_cons (e_var rfl) e_nil))) (says_ok T hw n12 hp hb' (t5 :: R))) (thenS_nx (SP.seq ?_))))))⟩
      refine SP.mono (P := fun r => ∃ (f : Bool) (t6 : D), r = .nx (E (.fz (.int (p : Int))) cs (.fz (.int (i : Int))) (.fz (.bl f)) w) (t6 :: R) ∧ TP t6) ?_ ?_
      · obtain ⟨_, _, e6, k6, t6, rfl, rfl, ht6, _, _⟩ := tpick ht5 R 6 (by decide) (by decide)
        by_cases hk : k2 = 0
        · exact SP.if (t_andT (s1 := t5 :: R) (t_truth (x := .bl (decide (k2 = 0))) (e_var rfl) (by rw [decide_eq_true hk]; rfl)) (t_bin (e_call (e_cons (e_var rfl) (e_cons e_c e_nil)) e6) e_c o_eq)) (fun _ => SP.set (e_un (e_var rfl) rfl) ⟨_, t6, rfl, ht6⟩) fun _ => SP.pass ⟨_, t6, rfl, ht6⟩
        · exact SP.if (b := false) (t_andF (s1 := t5 :: R) (t_truth (x := .bl (decide (k2 = 0))) (e_var rfl) (by rw [decide_eq_false hk]; rfl))) (fun z => by cases z) fun _ => SP.pass ⟨_, t5, rfl, ht5⟩
      rintro r ⟨f, t6, rfl, ht6⟩
      refine thenS_nx (SP.seq (SP.appO (l := cs.map callD) (d := callD (p, f)) rfl (e_tup (e_cons (e_var rfl) (e_cons (e_var rfl) e_nil)) (by simp)) (by rw [List.length_map]; unfold lim; omega) (thenS_nx (SP.seq ?_))))
      have e7 := e_left (p := p) hb' n12 (st := t6 :: R) (env := [.fz (.ref 0), .fz (webT n ps), .fz (.int most), .fz (.int (p : Int)), .fz (lotT n (stA b cs)), .fz (lotT n b), .ow (.lst (cs.map callD ++ [callD (p, f)])), .fz (.bl (decide (k2 = 0))), .fz (.int (i : Int)), .fz (.bl f), w]) (i := 4) (j := 3) (k := 10) rfl (fun _ => rfl) (by show 10 < 11; decide)
      refine SP.set (e_fn (e_cons e7 e_nil) (gTuple_lst _)) (thenS_nx ?_)
      have eE : ∀ u : Nat, u = stA b (cs ++ [(p, f)]) → RS.nx [.fz (.ref 0), .fz (webT n ps), .fz (.int most), .fz (.int (p : Int)), .fz (lotT n u), .fz (lotT n b), .ow (.lst (cs.map callD ++ [callD (p, f)])), .fz (.bl (decide (k2 = 0))), .fz (.int (i : Int)), .fz (.bl f), w] (t6 :: R) = RS.nx (E (.fz (.int (p : Int))) (cs ++ [(p, f)]) (.fz (.int (i : Int))) (.fz (.bl f)) w) (t6 :: R) := fun u hu => by
        simp only [E, List.map_append, hu]
        rfl
      have eu : stA b (cs ++ [(p, f)]) = if f = true then stA b cs ||| 2 ^ p else clr (stA b cs) p := stA_snoc b cs (p, f)
      refine SP.mono (P := fun r => r = .nx (E (.fz (.int (p : Int))) (cs ++ [(p, f)]) (.fz (.int (i : Int))) (.fz (.bl f)) w) (t6 :: R)) ?_ fun r h => by
        subst h
        refine ⟨⟨t6, rfl, ht6⟩, cs ++ [(p, f)], _, _, _, _, rfl, by rw [List.length_append, hlen]; rfl, fun c hc => ?_⟩
        rcases List.mem_append.mp hc with hc | hc
        · exact hcs c hc
        · rw [List.mem_singleton.mp hc]; exact hp
      cases f with
      | true => exact SP.if (b := true) (s1 := t6 :: R) (t_truth (e_var rfl) rfl) (fun _ => SP.set (e_with hb' hp n12 rfl rfl) (eE _ (by rw [eu, if_pos rfl]))) fun z => by cases z
      | false => exact SP.if (b := false) (s1 := t6 :: R) (t_truth (e_var rfl) rfl) (fun z => by cases z) fun _ => SP.pass (eE _ (by rw [eu, if_neg Bool.false_ne_true]))
    · rintro env s ⟨⟨t4, rfl, ht4⟩, cs, x, y, z, w, rfl, hlen, hcs⟩
      rw [rgD_len] at hlen
      exact thenS_nx (SP.ret (e_tup (e_cons (e0 rfl) (e_cons (e_var rfl) (e_cons (e_fn (z := .tup (cs.map callD)) (e_cons (e_varO rfl) e_nil) rfl) e_nil))) (by simp)) ⟨cs, t4, rfl, rfl, ht4, n1, n12, hb, by omega, hcs⟩)
  exact ⟨b, cs, t', by rw [e, h1, h2], h3, h4⟩
end
end DL

set_option maxHeartbeats 4000000
namespace DL
open PySem L2 Bs
section
variable {n b : Nat} {cs : List Cl} {ps : List (Int × Int)} {ts : List Nat}
def rowB (ts : List Nat) (b : Nat) (qs : List Nat) : Nat := qs.foldl (callN ts) b
theorem rowB_get {qs : List Nat} {i p : Nat} (h : qs[i]? = some p) : rowB ts b (qs.take (i + 1)) = callN ts (rowB ts b (qs.take i)) p := by
  rw [take_snoc h]
  unfold rowB
  rw [List.foldl_append]
  rfl
theorem rowB_bd {qs : List Nat} (h : ∀ p ∈ qs, p < n) {b : Nat} (hb : b < 2 ^ n) : rowB ts b qs < 2 ^ n := by
  induction qs generalizing b with
  | nil => exact hb
  | cons p qs ih => exact ih (fun x hx => h x (.tail _ hx)) (call_bd (h p (.head _)) hb)
def sameL (ts : List Nat) (b : Nat) (qs : List Nat) (i : Nat) : List Cl := (List.range i).map fun k => (qs.getD k 0, noN ts (rowB ts b (qs.take k)) (qs.getD k 0))
theorem sameL_snoc {qs : List Nat} {i p : Nat} (h : qs[i]? = some p) : sameL ts b qs (i + 1) = sameL ts b qs i ++ [(p, noN ts (rowB ts b (qs.take i)) p)] := by
  have e : qs.getD i 0 = p := by rw [List.getD_eq_getElem?_getD, h]; rfl
  unfold sameL
  rw [List.range_succ, List.map_append]
  show _ ++ [(qs.getD i 0, noN ts (rowB ts b (qs.take i)) (qs.getD i 0))] = _
  rw [e]
theorem sameL_len (qs : List Nat) (i : Nat) : (sameL ts b qs i).length = i := by unfold sameL; rw [List.length_map, List.length_range]
theorem call_tol (b p : Nat) : tolN b (p, noN ts b p) = callN ts b p := by
  unfold tolN callN noN
  by_cases h : ts.getD p 0 &&& b = 0
  · rw [if_pos h]; exact if_pos (decide_eq_true h)
  · rw [if_neg h]; exact if_neg (by show ¬ decide _ = true; rw [decide_eq_false h]; exact Bool.false_ne_true)
theorem same_stA {qs : List Nat} : ∀ {i : Nat}, i ≤ qs.length → stA b (sameL ts b qs i) = rowB ts b (qs.take i)
  | 0, _ => rfl
  | i + 1, h => by
    have hg : qs[i]? = some qs[i] := List.getElem?_eq_getElem (by omega)
    rw [sameL_snoc hg, stA_snoc, same_stA (by omega), call_tol, rowB_get hg]
theorem sameL_take {qs : List Nat} {i m : Nat} (h : i ≤ m) : (sameL ts b qs m).take i = sameL ts b qs i := by
  unfold sameL
  rw [← List.map_take, List.take_range, Nat.min_eq_left h]
theorem same_ok {qs : List Nat} (n1 : 1 ≤ n) (n12 : n ≤ 12) (hb : b < 2 ^ n) (hl : qs.length ≤ 200) (h : ∀ p ∈ qs, p < n) : LogOk n b (sameL ts b qs qs.length) := by
  refine ⟨n1, n12, hb, by rw [sameL_len]; exact hl, fun c hc => ?_⟩
  obtain ⟨k, hk, rfl⟩ := List.mem_map.mp hc
  have hk := List.mem_range.mp hk
  show qs.getD k 0 < n
  rw [List.getD_eq_getElem?_getD, List.getElem?_eq_getElem hk]
  exact h _ (List.getElem_mem hk)
theorem same_wr {qs : List Nat} : WrD ts b (sameL ts b qs qs.length) .non := by
  refine .inl ⟨rfl, fun i c hc => ?_⟩
  have hi : i < qs.length := by have := (List.getElem?_eq_some_iff.mp hc).1; rwa [sameL_len] at this
  unfold sameL at hc
  rw [List.getElem?_map, List.getElem?_range hi] at hc
  cases hc
  show noN ts (stA b ((sameL ts b qs qs.length).take i)) _ = _
  rw [sameL_take (by omega), same_stA (by omega)]
theorem is_row_ok {qs : List Nat} (hl : qs.length ≤ 200) (h : ∀ p ∈ qs, p < n) (st : Sto) : F_is_row [webD n ps, .lst (nats qs)] st = .ok (.bl true) st := by
  have hp : ∀ p ∈ qs, F_is_part [webD n ps, .int (p : Int)] st = .ok (.bl true) st := fun p hp => by
    have := h p hp
    obtain ⟨r, s, e, h1, h2⟩ : ∃ r s, F_is_part [webD n ps, .int (p : Int)] st = .ok r s ∧ r = .bl true ∧ s = st :=
      run_of rfl (SP.ret (e_call (e_cons (e_var rfl) (e_cons e_c (e_cons (e_bin (e_un (z := .int (n : Int)) (e_var rfl) rfl) e_c o_sub) e_nil))) ((is_number_ok (p : Int) 0 ((n : Int) - 1) st).trans (by rw [in_true (by omega) (by omega)]))) ⟨rfl, rfl⟩)
    rw [e, h1, h2]
  obtain ⟨r, s, e, h1, h2⟩ : ∃ r s, F_is_row [webD n ps, .lst (nats qs)] st = .ok r s ∧ r = .bl true ∧ s = st := by
    refine run_of rfl (SP.seq (SP.if (b := false) (s1 := st) (t_orF (t_not (t_truth (x := .bl true) (b := true) (e_isa2 (d := .lst (nats qs)) (e_var rfl) rfl k_ll k_lt) rfl)) ((t_bin (e_fn (z := .int (qs.length : Int)) (e_cons (e_var rfl) e_nil) (by show some (D.int ((nats qs).length : Nat)) = _; unfold nats; rw [List.length_map])) e_c o_gt).trans (by rw [decide_eq_false (by omega)]))) (fun z => by cases z) fun _ => SP.pass (thenS_nx (SP.seq ?_))))
    refine SP.for_inv (s1 := st) (ds := nats qs) (fun i env s => s = st ∧ ∃ x, env = [.fz (webD n ps), .fz (.lst (nats qs)), x]) (i_seq (e_var rfl) rfl) ⟨rfl, _, rfl⟩ ?_ ?_
    · rintro i d env s hd ⟨rfl, x, rfl⟩
      unfold nats at hd
      rw [List.getElem?_map] at hd
      obtain ⟨p, hpp, rfl⟩ := Option.map_eq_some_iff.mp hd
      exact ⟨_, rfl, SP.if (b := false) (s1 := s) (t_not (t_truth (x := .bl true) (b := true) (e_call (e_cons (e_var rfl) (e_cons (e_var rfl) e_nil)) (hp p (List.mem_of_getElem? hpp))) rfl)) (fun z => by cases z) fun _ => SP.pass ⟨rfl, .fz (.int (p : Int)), rfl⟩⟩
    · rintro env s ⟨rfl, x, rfl⟩
      exact thenS_nx (SP.ret e_c ⟨rfl, rfl⟩)
  rw [e, h1, h2]
theorem same_log_ok {qs : List Nat} (hw : WB n ps) (T : Tied n ps ts) (n1 : 1 ≤ n) (n12 : n ≤ 12) (hb : b < 2 ^ n) (hl : qs.length ≤ 200) (h : ∀ p ∈ qs, p < n) (st : Sto) : F_same_log [webD n ps, lotT n b, .lst (nats qs)] st = .ok (logD n b (sameL ts b qs qs.length)) st := by
  obtain ⟨us, e0, U⟩ := tied_bits_ok hw (by omega) (by omega) st
  obtain rfl : ts = us := DL.Tied.uniq T U
  have htl : ts.length = n := by have := T.len; omega
  have eS : F_is_lot [webD n ps, lotT n b] st = .ok (.bl true) st := by
    obtain ⟨r, s, e, h1, h2⟩ : ∃ r s, F_is_lot [webD n ps, lotT n b] st = .ok r s ∧ r = .bl true ∧ s = st :=
      run_of rfl (SP.ret (e_call (e_cons (e_un (z := .int (n : Int)) (e_var rfl) rfl) (e_cons (e_var rfl) e_nil)) (is_lot_below_ok (lotN_lot n b) st)) ⟨rfl, rfl⟩)
    rw [e, h1, h2]
  obtain ⟨x0, eC⟩ : ∃ d, F_check_stand [webD n ps, lotT n b] st = .ok d st := by
    obtain ⟨r, s, e, h2⟩ : ∃ r s, F_check_stand [webD n ps, lotT n b] st = .ok r s ∧ s = st :=
      run_of rfl (SP.if (b := false) (s1 := st) (t_not (t_truth (x := .bl true) (b := true) (e_call (e_cons (e_var rfl) (e_cons (e_var rfl) e_nil)) eS) rfl)) (fun z => by cases z) fun _ => SP.pass rfl)
    exact ⟨r, by rw [e, h2]⟩
  obtain ⟨r, s, e, h1, h2⟩ : ∃ r s, F_same_log [webD n ps, lotT n b, .lst (nats qs)] st = .ok r s ∧ r = logD n b (sameL ts b qs qs.length) ∧ s = st := by
    refine run_of rfl (SP.seq (SP.drop (e_call (e_cons (e_var rfl) (e_cons (e_var rfl) e_nil)) eC) (thenS_nx (SP.seq ?_))))
    refine SP.if (b := false) (s1 := st) (t_not (t_truth (x := .bl true) (b := true) (e_call (e_cons (e_var rfl) (e_cons (e_var rfl) e_nil)) (is_row_ok hl h st)) rfl)) (fun z => by cases z) fun _ => SP.pass (thenS_nx (SP.seq ?_))
    refine SP.if (b := false) (s1 := st) ((t_bin (e_fn (z := .int (qs.length : Int)) (e_cons (e_var rfl) e_nil) (by show some (D.int ((nats qs).length : Nat)) = _; unfold nats; rw [List.length_map])) e_c o_gt).trans (by rw [decide_eq_false (by omega)])) (fun z => by cases z) fun _ => SP.pass (thenS_nx (SP.seq ?_))
    refine SP.if (b := false) (s1 := st) ((t_bin (e_un (z := .int (n : Int)) (e_var rfl) rfl) e_c o_gt).trans (by rw [decide_eq_false (by omega)])) (fun z => by cases z) fun _ => SP.pass (thenS_nx (SP.seq ?_))
    refine SP.set (e_call (e_cons (e_var rfl) e_nil) e0) (thenS_nx (SP.seq (SP.set (d := .int (b : Int)) ((e_call (e_cons (e_var rfl) e_nil) (bits_any (l := lotN n b) rfl (fun x hx => by have := (lotN_lot n b).ok x hx; omega) st)).trans (by rw [bits_lotN hb])) (thenS_nx (SP.seq (SP.setO (e_lst e_nil (by decide)) (thenS_nx (SP.seq ?_))))))))
    refine SP.for_inv (s1 := st) (ds := nats qs) (fun i env s => s = st ∧ i ≤ qs.length ∧ ∃ x, env = [.fz (webD n ps), .fz (lotT n b), .fz (.lst (nats qs)), .fz (.lst (nats ts)), .fz (.int (rowB ts b (qs.take i) : Nat)), .ow (.lst ((sameL ts b qs i).map callD)), x]) (i_seq (e_var rfl) rfl) ⟨rfl, Nat.zero_le _, _, rfl⟩ ?_ ?_
    · rintro i d env s hd ⟨rfl, hi, x, rfl⟩
      unfold nats at hd
      rw [List.getElem?_map] at hd
      obtain ⟨p, hpp, rfl⟩ := Option.map_eq_some_iff.mp hd
      have hp := h p (List.mem_of_getElem? hpp)
      have hi' := (List.getElem?_eq_some_iff.mp hpp).1
      have e1 := told_ok (ts := ts) (rowB ts b (qs.take i)) (p := (p : Int)) (by omega) (by omega) s
      have e2 := call_ok (ts := ts) (rowB ts b (qs.take i)) (p := (p : Int)) (by omega) (by omega) (by omega) s
      rw [Int.toNat_natCast] at e1 e2
      refine ⟨_, rfl, SP.seq (SP.appO (l := (sameL ts b qs i).map callD) (d := callD (p, noN ts (rowB ts b (qs.take i)) p)) rfl (e_tup (e_cons (e_var rfl) (e_cons (e_call (e_cons (e_var rfl) (e_cons (e_var rfl) (e_cons (e_var rfl) e_nil))) e1) e_nil)) (by simp)) (by rw [List.length_map, sameL_len]; unfold lim; omega) (thenS_nx (SP.set (e_call (e_cons (e_var rfl) (e_cons (e_var rfl) (e_cons (e_var rfl) e_nil))) e2) ⟨rfl, by omega, .fz (.int (p : Int)), ?_⟩)))⟩
      rw [sameL_snoc hpp, List.map_append, rowB_get hpp]
      rfl
    · rintro env s ⟨rfl, _, x, rfl⟩
      have : (nats qs).length = qs.length := by unfold nats; rw [List.length_map]
      rw [this]
      exact thenS_nx (SP.ret (e_tup (e_cons (e_un (z := .int (n : Int)) (e_var rfl) rfl) (e_cons (e_var rfl) (e_cons (e_fn (z := .tup ((sameL ts b qs qs.length).map callD)) (e_cons (e_varO rfl) e_nil) rfl) e_nil))) (by simp)) ⟨rfl, rfl⟩)
  rw [e, h1, h2]
theorem WrD.ne {d : D} (h : WrD ts b cs d) (st : Sto) : oNe st d d = some (.bl false) := by
  rcases h with ⟨rfl, _⟩ | ⟨i, c, rfl, _⟩
  · rfl
  · rw [o_ne, decide_eq_true rfl]; rfl
theorem WrD.deref {d : D} (h : WrD ts b cs d) (st : Sto) : deref st d = d := by
  rcases h with ⟨rfl, _⟩ | ⟨i, c, rfl, _⟩ <;> rfl
theorem WrD.isa {d : D} (h : WrD ts b cs d) {fa : EF} {env : En} {st s1 : Sto} (h1 : fa env st = .ok d s1) : dUn (gIsa "bool" tbF) fa env st = .ok (.bl false) s1 := by
  rcases h with ⟨rfl, _⟩ | ⟨i, c, rfl, _⟩
  · exact e_isa h1 rfl (by decide +kernel)
  · exact e_isa h1 rfl k_ib
theorem flag_ok (f : Bool) (st : Sto) : F__law_flag [.bl f, .bl f] st = .ok (.bl true) st := by
  obtain ⟨r, s, e, h1, h2⟩ : ∃ r s, F__law_flag [.bl f, .bl f] st = .ok r s ∧ r = .bl true ∧ s = st :=
    run_of rfl (SP.ret (v_and (b := true) (c := true) (e_isa (d := .bl f) (e_var rfl) rfl k_bb) fun _ => e_bin (e_var rfl) (e_var rfl) o_eq_bl) ⟨rfl, rfl⟩)
  rw [e, h1, h2]
theorem rl_calls (q : Nat) : ∀ cs : List Cl, rlL q (cs.map callD) = true
  | [] => rfl
  | _ :: cs => rl_calls q cs
theorem WB.cut (h : WB n ps) (i : Nat) : WB n (ps.take i ++ ps.drop (i + 1)) := by
  have hs : (ps.take i ++ ps.drop (i + 1)).Sublist ps := by
    conv => rhs; rw [← List.take_append_drop i ps]
    exact (List.Sublist.refl _).append (by rw [← List.drop_drop]; exact List.drop_sublist _ _)
  exact ⟨h.so.sublist hs, fun p hp => h.inn p (hs.subset hp), Nat.le_trans hs.length_le h.len⟩
theorem cut_to {l : List D} {k : Nat} : cutD l none (some (k : Int)) = l.take k := by
  have h1 : HT.sIx l.length 0 none = 0 := rfl
  have h2 : HT.sIx l.length l.length (some (k : Int)) = min k l.length := by
    unfold HT.sIx
    simp
    omega
  unfold cutD
  rw [h1, h2, Nat.sub_zero, List.drop_zero]
  rcases Nat.le_total k l.length with z | z
  · rw [Nat.min_eq_left z]
  · rw [Nat.min_eq_right z, List.take_of_length_le (Nat.le_refl _), List.take_of_length_le z]
theorem cut_from {l : List D} {k : Nat} (h : k ≤ l.length) : cutD l (some (k : Int)) none = l.drop k := by
  have h1 : HT.sIx l.length l.length none = l.length := rfl
  have h2 : HT.sIx l.length 0 (some (k : Int)) = k := by
    unfold HT.sIx
    simp
    rw [if_neg (by omega)]
    omega
  unfold cutD
  rw [h1, h2]
  exact List.take_of_length_le (by rw [List.length_drop]; omega)
end
def webs (L : List (Nat × List (Int × Int))) : List D := L.map fun x => webT x.1 x.2
theorem law_true (ns : List Int) (hl : ns.length ≤ 63) : ∃ st, F_law [.rdl (ns.map D.int)] [] = .ok (.bl true) st := by
  have ht0 : TP (tp ns 0 0 1 0) := ⟨_, _, _, _, _, rfl, Int.le_refl _⟩
  obtain ⟨d, st, e, rfl⟩ : ∃ d st, F_law [.rdl (ns.map D.int)] [] = .ok d st ∧ d = .bl true := by
    refine run_of rfl ?_
    refine SP.seq (SP.set (e_call (e_cons (e_var rfl) e_nil) (ttape ns)) (thenS_nx (SP.seq ?_)))
    obtain ⟨_, _, e1, k1, t1, rfl, rfl, ht1, _, _⟩ := tpick ht0 [] 5 (by decide) (by decide)
    obtain ⟨g, hg⟩ : ∃ g : Int, (if decide (k1 = 0) = true then (1 : Int) else 0) = g := ⟨_, rfl⟩
    have hg2 : g = 0 ∨ g = 1 := by
      rw [← hg]
      cases decide (k1 = 0)
      · exact .inl rfl
      · exact .inr rfl
    refine SP.set (d := .int g) (e_fn (e_cons (e_bin (e_call (e_cons (e_var rfl) (e_cons e_c e_nil)) e1) e_c o_eq) e_nil) (by rw [← hg]; rfl)) (thenS_nx (SP.seq ?_))
    have two : ∀ a c : Int, ∃ m : Int, (m = a ∨ m = c) ∧ ∀ st : Sto, oIx st (.lst [.int a, .int c]) (.int g) = some (.int m) := fun a c => by
      rcases hg2 with rfl | rfl
      · exact ⟨a, .inl rfl, fun st => o_ixN rfl (by decide) rfl⟩
      · exact ⟨c, .inr rfl, fun st => o_ixN rfl (by decide) rfl⟩
    obtain ⟨m1, hm1, o1⟩ := two 8 12
    obtain ⟨m2, hm2, o2⟩ := two 21 201
    obtain ⟨n, ps, t2, e2, n1, nm, hw, ht2⟩ := law_web ht1 [] m1 (by omega) (by omega)
    have n12 : n ≤ 12 := by omega
    refine SP.set (e_call (e_cons (e_var rfl) (e_cons (e_bin (e_lst (e_cons e_c (e_cons e_c e_nil)) (by simp)) (e_var rfl) (o1 _)) e_nil)) e2) (thenS_nx (SP.seq ?_))
    obtain ⟨ts, _, T⟩ := tied_bits_ok hw (by omega) (by omega) [t2]
    obtain ⟨b, cs, t3, e3, ht3, L⟩ := law_log_ok hw T n1 n12 ht2 [] (most := m2) (by omega) (by omega)
    refine SP.set (e_call (e_cons (e_var rfl) (e_cons (e_var rfl) (e_cons (e_bin (e_lst (e_cons e_c (e_cons e_c e_nil)) (by simp)) (e_var rfl) (o2 _)) e_nil))) e3) (thenS_nx (SP.seq ?_))
    refine SP.if (b := false) (s1 := [t3]) (t_bin (e_call (e_cons (e_var rfl) e_nil) (behind_log_ok L [t3])) (e_bin (e_call (e_cons (e_var rfl) e_nil) (law_stands L [t3])) (e_un e_c rfl) (o_ixNeg1 (z := lotT n (stA b cs)) (l := (List.range cs.length).map fun i => lotT n (stA b (cs.take i))) (by
      show some ((List.range (cs.length + 1)).map fun i => lotT n (stA b (cs.take i))) = _
      rw [List.range_succ, List.map_append]
      show some (_ ++ [lotT n (stA b (cs.take cs.length))]) = _
      rw [List.take_length]))) o_neT) (fun z => by cases z) fun _ => SP.pass (thenS_nx (SP.seq ?_))
    obtain ⟨m, qs, t4, e4, q1, q8, hq, ht4⟩ := law_web ht3 [] 8 (by omega) (by omega)
    let E : Slot → Slot → Slot → Slot → Slot → Slot → Slot → Slot → Slot → Slot → En := fun x5 x6 x7 x8 x9 x10 x11 x12 x13 x14 => [.fz (.rdl (ns.map D.int)), .fz (.ref 0), .fz (.int g), .fz (webT n ps), .fz (logD n b cs), x5, x6, x7, x8, x9, x10, x11, x12, x13, x14]
    refine SP.setO (d := .lst (webs [(n, ps), (m, qs)])) (e_lst (e_cons (e_var rfl) (e_cons (e_call (e_cons (e_var rfl) (e_cons e_c e_nil)) e4) e_nil)) (by show 2 ≤ 1000; decide)) (thenS_nx (SP.seq ?_))
    refine SP.mono (P := fun r => ∃ L t x6, r = .nx (E (.ow (.lst (webs L))) x6 .no .no .no .no .no .no .no .no) [t] ∧ TP t ∧ ∀ x ∈ L, 1 ≤ x.1 ∧ x.1 ≤ 24 ∧ WB x.1 x.2) ?_ ?_
    · have base : ∀ x ∈ [(n, ps), (m, qs)], 1 ≤ x.1 ∧ x.1 ≤ 24 ∧ WB x.1 x.2 := fun x hx => by
        rcases List.mem_cons.mp hx with rfl | hx
        · exact ⟨n1, by show n ≤ 24; omega, hw⟩
        · rw [List.mem_singleton.mp hx]; exact ⟨q1, by show m ≤ 24; omega, hq⟩
      have e0 : ∀ {x6 : Slot} {t : D}, dBin oIx (dVar 3) (dC (.int 1)) (E (.ow (.lst (webs [(n, ps), (m, qs)]))) x6 .no .no .no .no .no .no .no .no) [t] = .ok (.tup (ps.map pr)) [t] := e_bin (e_var rfl) e_c (o_ixN (z := .tup (ps.map pr)) rfl (by omega) rfl)
      have elen : ∀ {x6 : Slot} {t : D}, dFn (fn1 gLen) (dCons (dBin oIx (dVar 3) (dC (.int 1))) dNil) (E (.ow (.lst (webs [(n, ps), (m, qs)]))) x6 .no .no .no .no .no .no .no .no) [t] = .ok (.int (ps.length : Int)) [t] := e_fn (e_cons e0 e_nil) (by show some (D.int ((ps.map pr).length : Nat)) = _; rw [List.length_map])
      by_cases hz : ps.length = 0
      · exact SP.if (b := false) (s1 := [t4]) ((t_bin elen e_c o_gt).trans (by rw [decide_eq_false (by omega)])) (fun z => by cases z) fun _ => SP.pass ⟨_, t4, _, rfl, ht4, base⟩
      · have hlen := hw.len
        obtain ⟨_, _, e5, k5, t5, rfl, rfl, ht5, k50, k51⟩ := tpick ht4 [] ps.length (by omega) (by omega)
        obtain ⟨a, rfl⟩ : ∃ a : Nat, k5 = (a : Int) := ⟨k5.toNat, by omega⟩
        refine SP.if (b := true) (s1 := [t4]) ((t_bin elen e_c o_gt).trans (by rw [decide_eq_true (by omega)])) (fun _ => SP.seq (SP.set (e_call (e_cons (e_var rfl) (e_cons elen e_nil)) e5) (thenS_nx ?_))) fun z => by cases z
        refine SP.appO (l := webs [(n, ps), (m, qs)]) (d := webT n (ps.take a ++ ps.drop (a + 1))) (s1 := [t5]) rfl (e_tup (e_cons (e_bin (e_var rfl) e_c (o_ixN (z := .int (n : Int)) rfl (by omega) rfl)) (e_cons (e_bin (x := .tup ((ps.take a).map pr)) (y := .tup ((ps.drop (a + 1)).map pr)) (e_sl e0 p_no (p_some (e_var rfl)) (by show some (D.tup (cutD (ps.map pr) none (some (a : Int)))) = _; rw [cut_to, List.map_take])) (e_sl e0 (p_some (e_bin (e_var rfl) e_c o_add)) p_no (by show some (D.tup (cutD (ps.map pr) (some (((a + 1 : Nat) : Int))) none)) = _; rw [cut_from (by rw [List.length_map]; omega), List.map_drop])) ?_) e_nil)) (by simp)) (by show 2 < lim; unfold lim; omega) ⟨[(n, ps), (m, qs), (n, ps.take a ++ ps.drop (a + 1))], t5, _, rfl, ht5, fun x hx => ?_⟩
        · refine (if_pos (by rw [List.length_map, List.length_map, List.length_take, List.length_drop]; unfold lim; omega)).trans ?_
          rw [List.map_append]
        · rcases List.mem_cons.mp hx with rfl | hx
          · exact base _ (.head _)
          rcases List.mem_cons.mp hx with rfl | hx
          · exact base _ (.tail _ (.head _))
          · rw [List.mem_singleton.mp hx]; exact ⟨n1, by show n ≤ 24; omega, hw.cut a⟩
    rintro r ⟨Lw, t, x6, rfl, ht, hL⟩
    refine thenS_nx (SP.seq ?_)
    refine SP.mono (P := fun r => ∃ x7 x8 x9 x10, r = .nx (E (.fz (.lst (webs Lw))) x6 x7 x8 x9 x10 .no .no .no .no) [t]) ?_ ?_
    · refine SP.frz ?_
      refine SP.for_inv (s1 := [t]) (ds := webs Lw) (fun i env s => s = [t] ∧ ∃ x7 x8 x9 x10, env = E (.fz (.lst (webs Lw))) x6 x7 x8 x9 x10 .no .no .no .no) (i_seq (e_var rfl) rfl) ⟨rfl, _, _, _, _, rfl⟩ ?_ ?_
      · rintro i d env s hd ⟨rfl, x7, x8, x9, x10, rfl⟩
        unfold webs at hd
        rw [List.getElem?_map] at hd
        obtain ⟨⟨k, rs⟩, hx, rfl⟩ := Option.map_eq_some_iff.mp hd
        obtain ⟨k1', k24, hr⟩ := hL _ (List.mem_of_getElem? hx)
        have i0 : ∀ {k : Nat} {rs : List (Int × Int)} {st : Sto}, oIx st (webT k rs) (.int 0) = some (.int (k : Int)) := o_ixN rfl (by omega) rfl
        have i1 : ∀ {k : Nat} {rs : List (Int × Int)} {st : Sto}, oIx st (webT k rs) (.int 1) = some (.tup (rs.map pr)) := o_ixN rfl (by omega) rfl
        refine ⟨_, rfl, SP.seq (SP.set (d := webD k rs) (s1 := [t]) (mkW hr k1' k24 (e_cons (e_bin (e_var rfl) e_c i0) (e_cons (e_bin (e_var rfl) e_c i1) e_nil)) fun x hx => by rw [List.mem_singleton.mp hx]; exact rl_tp ht _) (thenS_nx ?_))⟩
        by_cases hk : k = n
        · subst hk
          obtain ⟨us, _, U⟩ := tied_bits_ok hr (by omega) (by omega) [t]
          obtain ⟨d1, f1, w1⟩ := law_wrong_ok hr U L [t]
          obtain ⟨d2, f2, w2⟩ := first_ok hr U L [t]
          obtain rfl := w1.uniq w2
          refine SP.if (b := false) (s1 := [t]) ((t_bin (e_bin (e_var rfl) e_c i0) (e_bin (e_var rfl) e_c i0) o_ne).trans (by rw [decide_eq_true rfl]; rfl)) (fun z => by cases z) fun _ => SP.seq (SP.set (e_call (e_cons (e_var rfl) (e_cons (e_var rfl) e_nil)) f1) (thenS_nx (SP.seq (SP.set (e_call (e_cons (e_var rfl) (e_cons (e_var rfl) e_nil)) (wrong_call_ok L f2)) (thenS_nx ?_)))))
          refine SP.if (b := false) (s1 := [t]) (t_orF (t_bin (e_var rfl) (e_var rfl) (w1.ne _)) (t_orF (t_truth (x := .bl false) (w1.isa (e_var rfl)) rfl) (t_not (t_truth (x := .bl true) (b := true) (e_call (e_cons (e_call (e_cons (e_var rfl) (e_cons (e_var rfl) e_nil)) (fits_ok L f2 (w2.deref _))) (e_cons (e_bin (e_var rfl) e_c (o_isN.trans (by rw [w1.deref]))) e_nil)) (flag_ok _ _)) rfl)))) (fun z => by cases z) fun _ => SP.pass ⟨rfl, .fz (webT k rs), .fz (webD k rs), .fz d1, .fz d1, rfl⟩
        · refine SP.if (b := true) (s1 := [t]) ((t_bin (e_bin (e_var rfl) e_c i0) (e_bin (e_var rfl) e_c i0) o_ne).trans (by rw [decide_eq_false (by omega)]; rfl)) (fun _ => ?_) fun z => by cases z
          exact SP.if (b := false) (s1 := [t]) (t_bin (e_call (e_cons (e_var rfl) (e_cons (e_var rfl) e_nil)) (fits_other L hk [t])) e_c rfl) (fun z => by cases z) fun _ => SP.pass ⟨rfl, .fz (webT k rs), .fz (webD k rs), x9, x10, rfl⟩
      · rintro env s ⟨rfl, x7, x8, x9, x10, rfl⟩
        exact ⟨x7, x8, x9, x10, rfl⟩
    rintro r ⟨x7, x8, x9, x10, rfl⟩
    refine thenS_nx (SP.seq ?_)
    let qs : List Nat := cs.map (·.1)
    have hql : qs.length ≤ 200 := by show (cs.map (·.1)).length ≤ 200; rw [List.length_map]; exact L.len
    have hqn : ∀ p ∈ qs, p < n := fun p hp => by
      obtain ⟨c, hc, rfl⟩ := List.mem_map.mp hp
      exact L.ok c hc
    have key := e_lc (st := [t]) (s1 := [t]) (env := E (.fz (.lst (webs Lw))) x6 x7 x8 x9 x10 .no .no .no .no) (ds := cs.map callD) (fi := iSeq (dBin oIx (dVar 4) (dC (.int 2)))) (vs := [11, 10]) (gt := tgTup (tgCons (tgName 11) (tgCons (tgName 10) tgNil))) (tt := dYes) (te := dVar 11) (fun _ => true) (fun d => match d with | .tup [p, _] => p | d => d) (i_seq (e_bin (e_var rfl) e_c (o_ixN (z := .tup (cs.map callD)) rfl (by omega) rfl)) rfl) (by rw [List.length_map]; have := L.len; unfold lim; omega) fun x hx => by
      obtain ⟨c, _, rfl⟩ := List.mem_map.mp hx
      exact ⟨_, rfl, rfl, fun _ => e_var rfl⟩
    rw [List.filter_eq_self.mpr fun _ _ => rfl, List.map_map] at key
    refine SP.set (d := .lst (nats qs)) (key.trans (by
      show DL.R.ok (D.lst _) _ = DL.R.ok (D.lst ((cs.map (·.1)).map _)) _
      rw [List.map_map]
      rfl)) (thenS_nx (SP.seq (SP.set (e_alloc (e_lst e_nil (by decide))) (thenS_nx (SP.seq (SP.set (e_bin (e_var rfl) e_c (o_ixN (z := lotT n b) rfl (by omega) rfl)) (thenS_nx (SP.seq ?_))))))))
    refine SP.for_inv (s1 := [t, .lst []]) (ds := nats qs) (fun i env s => s = [t, .lst ((sameL ts b qs i).map callD)] ∧ i ≤ qs.length ∧ ∃ x11, env = E (.fz (.lst (webs Lw))) x6 x7 x8 (.fz (.ref 1)) x10 x11 (.fz (.lst (nats qs))) (.fz (lotT n (rowB ts b (qs.take i)))) .no) (i_seq (e_var rfl) rfl) ⟨rfl, Nat.zero_le _, _, rfl⟩ ?_ ?_
    · rintro i d env s hd ⟨rfl, hi, x11, rfl⟩
      unfold nats at hd
      rw [List.getElem?_map] at hd
      obtain ⟨p, hpp, rfl⟩ := Option.map_eq_some_iff.mp hd
      have hp := hqn p (List.mem_of_getElem? hpp)
      have hi' := (List.getElem?_eq_some_iff.mp hpp).1
      have hb : rowB ts b (qs.take i) < 2 ^ n := rowB_bd (fun p hp => hqn p (List.mem_of_mem_take hp)) L.bb
      refine ⟨_, rfl, SP.seq (SP.appR (n := 1) (ds := (sameL ts b qs i).map callD) (l := (sameL ts b qs i).map callD) (d := callD (p, noN ts (rowB ts b (qs.take i)) p)) (e_var rfl) rfl (e_tup (e_cons (e_var rfl) (e_cons (e_call (e_cons (e_var rfl) (e_cons (e_var rfl) (e_cons (e_var rfl) e_nil))) (says_ok T hw n12 hp hb _)) e_nil)) (by simp)) rfl (by rw [List.length_map, sameL_len]; unfold lim; omega) (thenS_nx (SP.set (e_call (e_cons (e_var rfl) (e_cons (e_var rfl) (e_cons (e_var rfl) e_nil))) (lcalled_ok T hw n12 hp hb _)) ⟨?_, by omega, .fz (.int (p : Int)), ?_⟩)))⟩
      · rw [sameL_snoc hpp, List.map_append]
        rfl
      · rw [rowB_get hpp]
        rfl
    · rintro env s ⟨rfl, _, x11, rfl⟩
      have hnl : (nats qs).length = qs.length := by unfold nats; rw [List.length_map]
      rw [hnl]
      have hsl := same_ok (ts := ts) n1 n12 L.bb hql hqn
      refine thenS_nx (SP.seq (SP.set (d := webD n ps) (mkW hw n1 (by omega) (e_cons (e_bin (e_var rfl) e_c (o_ixN (z := .int (n : Int)) rfl (by omega) rfl)) (e_cons (e_bin (e_var rfl) e_c (o_ixN (z := .tup (ps.map pr)) rfl (by omega) rfl)) e_nil)) fun x hx => ?_) (thenS_nx (SP.seq ?_))))
      · rcases List.mem_cons.mp hx with rfl | hx
        · exact rl_tp ht _
        · rw [List.mem_singleton.mp hx]
          exact rl_calls _ _
      refine SP.set (e_call (e_cons (e_var rfl) (e_cons (e_bin (e_var rfl) e_c (o_ixN (z := lotT n b) rfl (by omega) rfl)) (e_cons (e_var rfl) e_nil))) (same_log_ok hw T n1 n12 L.bb hql hqn _)) (thenS_nx ?_)
      obtain ⟨d2, f2, w2⟩ := first_ok hw T hsl [t, .lst ((sameL ts b qs qs.length).map callD)]
      obtain rfl := w2.uniq same_wr
      refine SP.ret (v_and (b := true) (c := true) (e_bin (e_repr (d := logD n b (sameL ts b qs qs.length)) (e_cons (e_var rfl) e_nil) rfl (rp_log hsl) rfl (by omega) (by omega)) (e_repr (d := logD n b (sameL ts b qs qs.length)) (e_cons (e_tup (e_cons (e_bin (e_var rfl) e_c (o_ixN (z := .int (n : Int)) rfl (by omega) rfl)) (e_cons (e_bin (e_var rfl) e_c (o_ixN (z := lotT n b) rfl (by omega) rfl)) (e_cons (e_fn (z := .tup ((sameL ts b qs qs.length).map callD)) (e_cons (e_var rfl) e_nil) rfl) e_nil))) (by simp)) e_nil) rfl (rp_log hsl) rfl (by omega) (by omega)) (o_eqStr (rp_log hsl).w.k)) fun _ => e_bin (e_call (e_cons (e_var rfl) (e_cons (e_var rfl) e_nil)) (fits_ok hsl f2 rfl)) e_c rfl) rfl
  exact ⟨st, e⟩
end DL

set_option maxHeartbeats 4000000
namespace DL
open PySem PySem.Spec PyProof.Rows L2 Bs
def clF (C_Web : Addr) : String → Addr := fun c => if c = "Web" then C_Web else 0
theorem clF_tab {C_Web : Addr} {q : String} (hq : q ∈ tabNames) : clF C_Web q = 0 := by
  simp only [tabNames, List.mem_cons, List.not_mem_nil, or_false] at hq
  rcases hq with rfl | rfl | rfl <;> simp [clF]
theorem clF_Web {C_Web : Addr} : clF C_Web "Web" = C_Web := by simp [clF]
theorem all_mk {l : PySem.W.OpenLaw} {w : PySem.World} {K : PySem.W.Frag} {h : Heap} {mg : Str → Option Value} {fa C_Web : Addr} {ts : List Addr} {tk_MOST_CALLS : Tok} {tk_MOST_LOGGED_CALLS : Tok} {tk_MOST_LOGGED_PARTS : Tok} {tk_MOST_PARTS : Tok} (X : K.In h) (G : h.Ns mainGlobals mg) (hfa : mg "law" = some (.ref fa))
    {f_is_integer : Addr} {oc_is_integer kV_is_integer dc_is_integer pm_is_integer cd_is_integer ct_is_integer : Value} {od_is_integer an_is_integer : Option Addr} {sl_is_integer : Array (Option Value)}
    {f_is_number : Addr} {oc_is_number kV_is_number dc_is_number pm_is_number cd_is_number ct_is_number : Value} {od_is_number an_is_number : Option Addr} {sl_is_number : Array (Option Value)}
    {f_is_tie : Addr} {oc_is_tie kV_is_tie dc_is_tie pm_is_tie cd_is_tie ct_is_tie : Value} {od_is_tie an_is_tie : Option Addr} {sl_is_tie : Array (Option Value)}
    {f_wrong_tie : Addr} {oc_wrong_tie kV_wrong_tie dc_wrong_tie pm_wrong_tie cd_wrong_tie ct_wrong_tie : Value} {od_wrong_tie an_wrong_tie : Option Addr} {sl_wrong_tie : Array (Option Value)}
    {f_Web_init : Addr} {oc_Web_init kV_Web_init dc_Web_init pm_Web_init cd_Web_init ct_Web_init : Value} {od_Web_init an_Web_init : Option Addr} {sl_Web_init : Array (Option Value)}
    {f__law_tied : Addr} {oc__law_tied kV__law_tied dc__law_tied pm__law_tied cd__law_tied ct__law_tied : Value} {od__law_tied an__law_tied : Option Addr} {sl__law_tied : Array (Option Value)}
    {f__law_says : Addr} {oc__law_says kV__law_says dc__law_says pm__law_says cd__law_says ct__law_says : Value} {od__law_says an__law_says : Option Addr} {sl__law_says : Array (Option Value)}
    {f__law_called : Addr} {oc__law_called kV__law_called dc__law_called pm__law_called cd__law_called ct__law_called : Value} {od__law_called an__law_called : Option Addr} {sl__law_called : Array (Option Value)}
    {f__law_flag : Addr} {oc__law_flag kV__law_flag dc__law_flag pm__law_flag cd__law_flag ct__law_flag : Value} {od__law_flag an__law_flag : Option Addr} {sl__law_flag : Array (Option Value)}
    {f__law_pick : Addr} {oc__law_pick kV__law_pick dc__law_pick pm__law_pick cd__law_pick ct__law_pick : Value} {od__law_pick an__law_pick : Option Addr} {sl__law_pick : Array (Option Value)}
    {f__law_log : Addr} {oc__law_log kV__law_log dc__law_log pm__law_log cd__law_log ct__law_log : Value} {od__law_log an__law_log : Option Addr} {sl__law_log : Array (Option Value)}
    {f__law_stands : Addr} {oc__law_stands kV__law_stands dc__law_stands pm__law_stands cd__law_stands ct__law_stands : Value} {od__law_stands an__law_stands : Option Addr} {sl__law_stands : Array (Option Value)}
    {f__law_tape : Addr} {oc__law_tape kV__law_tape dc__law_tape pm__law_tape cd__law_tape ct__law_tape : Value} {od__law_tape an__law_tape : Option Addr} {sl__law_tape : Array (Option Value)}
    {f__law_web : Addr} {oc__law_web kV__law_web dc__law_web pm__law_web cd__law_web ct__law_web : Value} {od__law_web an__law_web : Option Addr} {sl__law_web : Array (Option Value)}
    {f__law_wrong : Addr} {oc__law_wrong kV__law_wrong dc__law_wrong pm__law_wrong cd__law_wrong ct__law_wrong : Value} {od__law_wrong an__law_wrong : Option Addr} {sl__law_wrong : Array (Option Value)}
    {f_is_lot_below : Addr} {oc_is_lot_below kV_is_lot_below dc_is_lot_below pm_is_lot_below cd_is_lot_below ct_is_lot_below : Value} {od_is_lot_below an_is_lot_below : Option Addr} {sl_is_lot_below : Array (Option Value)}
    {f_is_pair : Addr} {oc_is_pair kV_is_pair dc_is_pair pm_is_pair cd_is_pair ct_is_pair : Value} {od_is_pair an_is_pair : Option Addr} {sl_is_pair : Array (Option Value)}
    {f_is_told_call : Addr} {oc_is_told_call kV_is_told_call dc_is_told_call pm_is_told_call cd_is_told_call ct_is_told_call : Value} {od_is_told_call an_is_told_call : Option Addr} {sl_is_told_call : Array (Option Value)}
    {f_is_log : Addr} {oc_is_log kV_is_log dc_is_log pm_is_log cd_is_log ct_is_log : Value} {od_is_log an_is_log : Option Addr} {sl_is_log : Array (Option Value)}
    {f_check_log : Addr} {oc_check_log kV_check_log dc_check_log pm_check_log cd_check_log ct_check_log : Value} {od_check_log an_check_log : Option Addr} {sl_check_log : Array (Option Value)}
    {f_lot_of : Addr} {oc_lot_of kV_lot_of dc_lot_of pm_lot_of cd_lot_of ct_lot_of : Value} {od_lot_of an_lot_of : Option Addr} {sl_lot_of : Array (Option Value)}
    {f_behind_told : Addr} {oc_behind_told kV_behind_told dc_behind_told pm_behind_told cd_behind_told ct_behind_told : Value} {od_behind_told an_behind_told : Option Addr} {sl_behind_told : Array (Option Value)}
    {f_bits_of : Addr} {oc_bits_of kV_bits_of dc_bits_of pm_bits_of cd_bits_of ct_bits_of : Value} {od_bits_of an_bits_of : Option Addr} {sl_bits_of : Array (Option Value)}
    {f_stands_of : Addr} {oc_stands_of kV_stands_of dc_stands_of pm_stands_of cd_stands_of ct_stands_of : Value} {od_stands_of an_stands_of : Option Addr} {sl_stands_of : Array (Option Value)}
    {f_behind : Addr} {oc_behind kV_behind dc_behind pm_behind cd_behind ct_behind : Value} {od_behind an_behind : Option Addr} {sl_behind : Array (Option Value)}
    {f_calls_of : Addr} {oc_calls_of kV_calls_of dc_calls_of pm_calls_of cd_calls_of ct_calls_of : Value} {od_calls_of an_calls_of : Option Addr} {sl_calls_of : Array (Option Value)}
    {f_tied_bits : Addr} {oc_tied_bits kV_tied_bits dc_tied_bits pm_tied_bits cd_tied_bits ct_tied_bits : Value} {od_tied_bits an_tied_bits : Option Addr} {sl_tied_bits : Array (Option Value)}
    {f_told_by : Addr} {oc_told_by kV_told_by dc_told_by pm_told_by cd_told_by ct_told_by : Value} {od_told_by an_told_by : Option Addr} {sl_told_by : Array (Option Value)}
    {f_first_wrong : Addr} {oc_first_wrong kV_first_wrong dc_first_wrong pm_first_wrong cd_first_wrong ct_first_wrong : Value} {od_first_wrong an_first_wrong : Option Addr} {sl_first_wrong : Array (Option Value)}
    {f_fits : Addr} {oc_fits kV_fits dc_fits pm_fits cd_fits ct_fits : Value} {od_fits an_fits : Option Addr} {sl_fits : Array (Option Value)}
    {f_behind_call : Addr} {oc_behind_call kV_behind_call dc_behind_call pm_behind_call cd_behind_call ct_behind_call : Value} {od_behind_call an_behind_call : Option Addr} {sl_behind_call : Array (Option Value)}
    {f_is_lot : Addr} {oc_is_lot kV_is_lot dc_is_lot pm_is_lot cd_is_lot ct_is_lot : Value} {od_is_lot an_is_lot : Option Addr} {sl_is_lot : Array (Option Value)}
    {f_check_stand : Addr} {oc_check_stand kV_check_stand dc_check_stand pm_check_stand cd_check_stand ct_check_stand : Value} {od_check_stand an_check_stand : Option Addr} {sl_check_stand : Array (Option Value)}
    {f_is_part : Addr} {oc_is_part kV_is_part dc_is_part pm_is_part cd_is_part ct_is_part : Value} {od_is_part an_is_part : Option Addr} {sl_is_part : Array (Option Value)}
    {f_is_row : Addr} {oc_is_row kV_is_row dc_is_row pm_is_row cd_is_row ct_is_row : Value} {od_is_row an_is_row : Option Addr} {sl_is_row : Array (Option Value)}
    {f_same_log : Addr} {oc_same_log kV_same_log dc_same_log pm_same_log cd_same_log ct_same_log : Value} {od_same_log an_same_log : Option Addr} {sl_same_log : Array (Option Value)}
    {f_wrong_call : Addr} {oc_wrong_call kV_wrong_call dc_wrong_call pm_wrong_call cd_wrong_call ct_wrong_call : Value} {od_wrong_call an_wrong_call : Option Addr} {sl_wrong_call : Array (Option Value)}
    {f_law : Addr} {oc_law kV_law dc_law pm_law cd_law ct_law : Value} {od_law an_law : Option Addr} {sl_law : Array (Option Value)}
    (g_MOST_CALLS : PySem.W.nsIn K mainGlobals "MOST_CALLS" = some (some (.int 1000 tk_MOST_CALLS)))
    (g_MOST_LOGGED_CALLS : PySem.W.nsIn K mainGlobals "MOST_LOGGED_CALLS" = some (some (.int 200 tk_MOST_LOGGED_CALLS)))
    (g_MOST_LOGGED_PARTS : PySem.W.nsIn K mainGlobals "MOST_LOGGED_PARTS" = some (some (.int 12 tk_MOST_LOGGED_PARTS)))
    (g_MOST_PARTS : PySem.W.nsIn K mainGlobals "MOST_PARTS" = some (some (.int 24 tk_MOST_PARTS)))
    (b_bool : PySem.W.nsIn K mainGlobals "bool" = some none)
    (b_enumerate : PySem.W.nsIn K mainGlobals "enumerate" = some none)
    (b_int : PySem.W.nsIn K mainGlobals "int" = some none)
    (b_isinstance : PySem.W.nsIn K mainGlobals "isinstance" = some none)
    (b_len : PySem.W.nsIn K mainGlobals "len" = some none)
    (b_list : PySem.W.nsIn K mainGlobals "list" = some none)
    (b_max : PySem.W.nsIn K mainGlobals "max" = some none)
    (b_min : PySem.W.nsIn K mainGlobals "min" = some none)
    (b_range : PySem.W.nsIn K mainGlobals "range" = some none)
    (b_repr : PySem.W.nsIn K mainGlobals "repr" = some none)
    (b_sorted : PySem.W.nsIn K mainGlobals "sorted" = some none)
    (b_tuple : PySem.W.nsIn K mainGlobals "tuple" = some none)
    (b_zip : PySem.W.nsIn K mainGlobals "zip" = some none)
    (xg : PySem.W.specialIn K (.builtin "object.__class__") "__get__" = some (some (.builtin "getset_descriptor.__get__")))
    (xt : PySem.W.takesIn K (.builtin "object.__class__") = some true)
    (a_Web : PySem.W.nsIn K mainGlobals "Web" = some (some (.ref C_Web)))
    (pg_Web : PySem.W.plainGet K C_Web Str.empty = true)
    (hd_Web : PySem.W.hasDictIn K C_Web = true)
    (po_Web : PySem.W.plainOver K C_Web = true)
    (sa_Web : PySem.W.findIn K (.ref C_Web) "__setattr__" = some (some (.builtin "object.__setattr__")))
    (mk0_Web : PySem.W.makesIn K C_Web = true)
    (kc_Web : PySem.W.keepIn K (.ref C_Web) = true)
    (n_Web_size : PySem.W.findIn K (.ref C_Web) "size" = some none)
    (n_Web_ties : PySem.W.findIn K (.ref C_Web) "ties" = some none)
    (xc_Web : PySem.W.findIn K (.ref C_Web) "__class__" = some (some (.builtin "object.__class__")))
    (xm_Web : PySem.W.mroIn K C_Web (.type "object") = some true)
    (k_Web_bool : PySem.W.subIn K (.ref C_Web) (.type "bool") = some false)
    (k_Web_int : PySem.W.subIn K (.ref C_Web) (.type "int") = some false)
    (k_Web_list : PySem.W.subIn K (.ref C_Web) (.type "list") = some false)
    (k_Web_tuple : PySem.W.subIn K (.ref C_Web) (.type "tuple") = some false)
    (a_is_integer : PySem.W.nsIn K mainGlobals "is_integer" = some (some (.ref f_is_integer)))
    (l_is_integer : K.lookup f_is_integer = some ⟨oc_is_integer, od_is_integer, .func (PySem.W.fnOf "is_integer" "is_integer" (defArgs s_is_integer) (defBody s_is_integer) (defScope s_is_integer) .none kV_is_integer dc_is_integer pm_is_integer an_is_integer cd_is_integer ct_is_integer), sl_is_integer⟩)
    (cd0_is_integer : PySem.W.codeIn K cd_is_integer "is_integer" = true)
    (k_is_integer : PySem.W.keepIn K (.ref f_is_integer) = true)
    (a_is_number : PySem.W.nsIn K mainGlobals "is_number" = some (some (.ref f_is_number)))
    (l_is_number : K.lookup f_is_number = some ⟨oc_is_number, od_is_number, .func (PySem.W.fnOf "is_number" "is_number" (defArgs s_is_number) (defBody s_is_number) (defScope s_is_number) .none kV_is_number dc_is_number pm_is_number an_is_number cd_is_number ct_is_number), sl_is_number⟩)
    (cd0_is_number : PySem.W.codeIn K cd_is_number "is_number" = true)
    (k_is_number : PySem.W.keepIn K (.ref f_is_number) = true)
    (a_is_tie : PySem.W.nsIn K mainGlobals "is_tie" = some (some (.ref f_is_tie)))
    (l_is_tie : K.lookup f_is_tie = some ⟨oc_is_tie, od_is_tie, .func (PySem.W.fnOf "is_tie" "is_tie" (defArgs s_is_tie) (defBody s_is_tie) (defScope s_is_tie) .none kV_is_tie dc_is_tie pm_is_tie an_is_tie cd_is_tie ct_is_tie), sl_is_tie⟩)
    (cd0_is_tie : PySem.W.codeIn K cd_is_tie "is_tie" = true)
    (k_is_tie : PySem.W.keepIn K (.ref f_is_tie) = true)
    (a_wrong_tie : PySem.W.nsIn K mainGlobals "wrong_tie" = some (some (.ref f_wrong_tie)))
    (l_wrong_tie : K.lookup f_wrong_tie = some ⟨oc_wrong_tie, od_wrong_tie, .func (PySem.W.fnOf "wrong_tie" "wrong_tie" (defArgs s_wrong_tie) (defBody s_wrong_tie) (defScope s_wrong_tie) .none kV_wrong_tie dc_wrong_tie pm_wrong_tie an_wrong_tie cd_wrong_tie ct_wrong_tie), sl_wrong_tie⟩)
    (cd0_wrong_tie : PySem.W.codeIn K cd_wrong_tie "wrong_tie" = true)
    (k_wrong_tie : PySem.W.keepIn K (.ref f_wrong_tie) = true)
    (a_Web_init : PySem.W.findIn K (.ref C_Web) "__init__" = some (some (.ref f_Web_init)))
    (i_Web_init : PySem.W.isFn K (.ref f_Web_init) = true)
    (l_Web_init : K.lookup f_Web_init = some ⟨oc_Web_init, od_Web_init, .func (PySem.W.fnOf "__init__" "Web.__init__" (defArgs s_Web_init) (defBody s_Web_init) (defScope s_Web_init) .none kV_Web_init dc_Web_init pm_Web_init an_Web_init cd_Web_init ct_Web_init), sl_Web_init⟩)
    (cd0_Web_init : PySem.W.codeIn K cd_Web_init "Web.__init__" = true)
    (k_Web_init : PySem.W.keepIn K (.ref f_Web_init) = true)
    (a__law_tied : PySem.W.nsIn K mainGlobals "_law_tied" = some (some (.ref f__law_tied)))
    (l__law_tied : K.lookup f__law_tied = some ⟨oc__law_tied, od__law_tied, .func (PySem.W.fnOf "_law_tied" "_law_tied" (defArgs s__law_tied) (defBody s__law_tied) (defScope s__law_tied) .none kV__law_tied dc__law_tied pm__law_tied an__law_tied cd__law_tied ct__law_tied), sl__law_tied⟩)
    (cd0__law_tied : PySem.W.codeIn K cd__law_tied "_law_tied" = true)
    (k__law_tied : PySem.W.keepIn K (.ref f__law_tied) = true)
    (a__law_says : PySem.W.nsIn K mainGlobals "_law_says" = some (some (.ref f__law_says)))
    (l__law_says : K.lookup f__law_says = some ⟨oc__law_says, od__law_says, .func (PySem.W.fnOf "_law_says" "_law_says" (defArgs s__law_says) (defBody s__law_says) (defScope s__law_says) .none kV__law_says dc__law_says pm__law_says an__law_says cd__law_says ct__law_says), sl__law_says⟩)
    (cd0__law_says : PySem.W.codeIn K cd__law_says "_law_says" = true)
    (k__law_says : PySem.W.keepIn K (.ref f__law_says) = true)
    (a__law_called : PySem.W.nsIn K mainGlobals "_law_called" = some (some (.ref f__law_called)))
    (l__law_called : K.lookup f__law_called = some ⟨oc__law_called, od__law_called, .func (PySem.W.fnOf "_law_called" "_law_called" (defArgs s__law_called) (defBody s__law_called) (defScope s__law_called) .none kV__law_called dc__law_called pm__law_called an__law_called cd__law_called ct__law_called), sl__law_called⟩)
    (cd0__law_called : PySem.W.codeIn K cd__law_called "_law_called" = true)
    (k__law_called : PySem.W.keepIn K (.ref f__law_called) = true)
    (a__law_flag : PySem.W.nsIn K mainGlobals "_law_flag" = some (some (.ref f__law_flag)))
    (l__law_flag : K.lookup f__law_flag = some ⟨oc__law_flag, od__law_flag, .func (PySem.W.fnOf "_law_flag" "_law_flag" (defArgs s__law_flag) (defBody s__law_flag) (defScope s__law_flag) .none kV__law_flag dc__law_flag pm__law_flag an__law_flag cd__law_flag ct__law_flag), sl__law_flag⟩)
    (cd0__law_flag : PySem.W.codeIn K cd__law_flag "_law_flag" = true)
    (k__law_flag : PySem.W.keepIn K (.ref f__law_flag) = true)
    (a__law_pick : PySem.W.nsIn K mainGlobals "_law_pick" = some (some (.ref f__law_pick)))
    (l__law_pick : K.lookup f__law_pick = some ⟨oc__law_pick, od__law_pick, .func (PySem.W.fnOf "_law_pick" "_law_pick" (defArgs s__law_pick) (defBody s__law_pick) (defScope s__law_pick) .none kV__law_pick dc__law_pick pm__law_pick an__law_pick cd__law_pick ct__law_pick), sl__law_pick⟩)
    (cd0__law_pick : PySem.W.codeIn K cd__law_pick "_law_pick" = true)
    (k__law_pick : PySem.W.keepIn K (.ref f__law_pick) = true)
    (a__law_log : PySem.W.nsIn K mainGlobals "_law_log" = some (some (.ref f__law_log)))
    (l__law_log : K.lookup f__law_log = some ⟨oc__law_log, od__law_log, .func (PySem.W.fnOf "_law_log" "_law_log" (defArgs s__law_log) (defBody s__law_log) (defScope s__law_log) .none kV__law_log dc__law_log pm__law_log an__law_log cd__law_log ct__law_log), sl__law_log⟩)
    (cd0__law_log : PySem.W.codeIn K cd__law_log "_law_log" = true)
    (k__law_log : PySem.W.keepIn K (.ref f__law_log) = true)
    (a__law_stands : PySem.W.nsIn K mainGlobals "_law_stands" = some (some (.ref f__law_stands)))
    (l__law_stands : K.lookup f__law_stands = some ⟨oc__law_stands, od__law_stands, .func (PySem.W.fnOf "_law_stands" "_law_stands" (defArgs s__law_stands) (defBody s__law_stands) (defScope s__law_stands) .none kV__law_stands dc__law_stands pm__law_stands an__law_stands cd__law_stands ct__law_stands), sl__law_stands⟩)
    (cd0__law_stands : PySem.W.codeIn K cd__law_stands "_law_stands" = true)
    (k__law_stands : PySem.W.keepIn K (.ref f__law_stands) = true)
    (a__law_tape : PySem.W.nsIn K mainGlobals "_law_tape" = some (some (.ref f__law_tape)))
    (l__law_tape : K.lookup f__law_tape = some ⟨oc__law_tape, od__law_tape, .func (PySem.W.fnOf "_law_tape" "_law_tape" (defArgs s__law_tape) (defBody s__law_tape) (defScope s__law_tape) .none kV__law_tape dc__law_tape pm__law_tape an__law_tape cd__law_tape ct__law_tape), sl__law_tape⟩)
    (cd0__law_tape : PySem.W.codeIn K cd__law_tape "_law_tape" = true)
    (k__law_tape : PySem.W.keepIn K (.ref f__law_tape) = true)
    (a__law_web : PySem.W.nsIn K mainGlobals "_law_web" = some (some (.ref f__law_web)))
    (l__law_web : K.lookup f__law_web = some ⟨oc__law_web, od__law_web, .func (PySem.W.fnOf "_law_web" "_law_web" (defArgs s__law_web) (defBody s__law_web) (defScope s__law_web) .none kV__law_web dc__law_web pm__law_web an__law_web cd__law_web ct__law_web), sl__law_web⟩)
    (cd0__law_web : PySem.W.codeIn K cd__law_web "_law_web" = true)
    (k__law_web : PySem.W.keepIn K (.ref f__law_web) = true)
    (a__law_wrong : PySem.W.nsIn K mainGlobals "_law_wrong" = some (some (.ref f__law_wrong)))
    (l__law_wrong : K.lookup f__law_wrong = some ⟨oc__law_wrong, od__law_wrong, .func (PySem.W.fnOf "_law_wrong" "_law_wrong" (defArgs s__law_wrong) (defBody s__law_wrong) (defScope s__law_wrong) .none kV__law_wrong dc__law_wrong pm__law_wrong an__law_wrong cd__law_wrong ct__law_wrong), sl__law_wrong⟩)
    (cd0__law_wrong : PySem.W.codeIn K cd__law_wrong "_law_wrong" = true)
    (k__law_wrong : PySem.W.keepIn K (.ref f__law_wrong) = true)
    (a_is_lot_below : PySem.W.nsIn K mainGlobals "is_lot_below" = some (some (.ref f_is_lot_below)))
    (l_is_lot_below : K.lookup f_is_lot_below = some ⟨oc_is_lot_below, od_is_lot_below, .func (PySem.W.fnOf "is_lot_below" "is_lot_below" (defArgs s_is_lot_below) (defBody s_is_lot_below) (defScope s_is_lot_below) .none kV_is_lot_below dc_is_lot_below pm_is_lot_below an_is_lot_below cd_is_lot_below ct_is_lot_below), sl_is_lot_below⟩)
    (cd0_is_lot_below : PySem.W.codeIn K cd_is_lot_below "is_lot_below" = true)
    (k_is_lot_below : PySem.W.keepIn K (.ref f_is_lot_below) = true)
    (a_is_pair : PySem.W.nsIn K mainGlobals "is_pair" = some (some (.ref f_is_pair)))
    (l_is_pair : K.lookup f_is_pair = some ⟨oc_is_pair, od_is_pair, .func (PySem.W.fnOf "is_pair" "is_pair" (defArgs s_is_pair) (defBody s_is_pair) (defScope s_is_pair) .none kV_is_pair dc_is_pair pm_is_pair an_is_pair cd_is_pair ct_is_pair), sl_is_pair⟩)
    (cd0_is_pair : PySem.W.codeIn K cd_is_pair "is_pair" = true)
    (k_is_pair : PySem.W.keepIn K (.ref f_is_pair) = true)
    (a_is_told_call : PySem.W.nsIn K mainGlobals "is_told_call" = some (some (.ref f_is_told_call)))
    (l_is_told_call : K.lookup f_is_told_call = some ⟨oc_is_told_call, od_is_told_call, .func (PySem.W.fnOf "is_told_call" "is_told_call" (defArgs s_is_told_call) (defBody s_is_told_call) (defScope s_is_told_call) .none kV_is_told_call dc_is_told_call pm_is_told_call an_is_told_call cd_is_told_call ct_is_told_call), sl_is_told_call⟩)
    (cd0_is_told_call : PySem.W.codeIn K cd_is_told_call "is_told_call" = true)
    (k_is_told_call : PySem.W.keepIn K (.ref f_is_told_call) = true)
    (a_is_log : PySem.W.nsIn K mainGlobals "is_log" = some (some (.ref f_is_log)))
    (l_is_log : K.lookup f_is_log = some ⟨oc_is_log, od_is_log, .func (PySem.W.fnOf "is_log" "is_log" (defArgs s_is_log) (defBody s_is_log) (defScope s_is_log) .none kV_is_log dc_is_log pm_is_log an_is_log cd_is_log ct_is_log), sl_is_log⟩)
    (cd0_is_log : PySem.W.codeIn K cd_is_log "is_log" = true)
    (k_is_log : PySem.W.keepIn K (.ref f_is_log) = true)
    (a_check_log : PySem.W.nsIn K mainGlobals "check_log" = some (some (.ref f_check_log)))
    (l_check_log : K.lookup f_check_log = some ⟨oc_check_log, od_check_log, .func (PySem.W.fnOf "check_log" "check_log" (defArgs s_check_log) (defBody s_check_log) (defScope s_check_log) .none kV_check_log dc_check_log pm_check_log an_check_log cd_check_log ct_check_log), sl_check_log⟩)
    (cd0_check_log : PySem.W.codeIn K cd_check_log "check_log" = true)
    (k_check_log : PySem.W.keepIn K (.ref f_check_log) = true)
    (a_lot_of : PySem.W.nsIn K mainGlobals "lot_of" = some (some (.ref f_lot_of)))
    (l_lot_of : K.lookup f_lot_of = some ⟨oc_lot_of, od_lot_of, .func (PySem.W.fnOf "lot_of" "lot_of" (defArgs s_lot_of) (defBody s_lot_of) (defScope s_lot_of) .none kV_lot_of dc_lot_of pm_lot_of an_lot_of cd_lot_of ct_lot_of), sl_lot_of⟩)
    (cd0_lot_of : PySem.W.codeIn K cd_lot_of "lot_of" = true)
    (k_lot_of : PySem.W.keepIn K (.ref f_lot_of) = true)
    (a_behind_told : PySem.W.nsIn K mainGlobals "behind_told" = some (some (.ref f_behind_told)))
    (l_behind_told : K.lookup f_behind_told = some ⟨oc_behind_told, od_behind_told, .func (PySem.W.fnOf "behind_told" "behind_told" (defArgs s_behind_told) (defBody s_behind_told) (defScope s_behind_told) .none kV_behind_told dc_behind_told pm_behind_told an_behind_told cd_behind_told ct_behind_told), sl_behind_told⟩)
    (cd0_behind_told : PySem.W.codeIn K cd_behind_told "behind_told" = true)
    (k_behind_told : PySem.W.keepIn K (.ref f_behind_told) = true)
    (a_bits_of : PySem.W.nsIn K mainGlobals "bits_of" = some (some (.ref f_bits_of)))
    (l_bits_of : K.lookup f_bits_of = some ⟨oc_bits_of, od_bits_of, .func (PySem.W.fnOf "bits_of" "bits_of" (defArgs s_bits_of) (defBody s_bits_of) (defScope s_bits_of) .none kV_bits_of dc_bits_of pm_bits_of an_bits_of cd_bits_of ct_bits_of), sl_bits_of⟩)
    (cd0_bits_of : PySem.W.codeIn K cd_bits_of "bits_of" = true)
    (k_bits_of : PySem.W.keepIn K (.ref f_bits_of) = true)
    (a_stands_of : PySem.W.nsIn K mainGlobals "stands_of" = some (some (.ref f_stands_of)))
    (l_stands_of : K.lookup f_stands_of = some ⟨oc_stands_of, od_stands_of, .func (PySem.W.fnOf "stands_of" "stands_of" (defArgs s_stands_of) (defBody s_stands_of) (defScope s_stands_of) .none kV_stands_of dc_stands_of pm_stands_of an_stands_of cd_stands_of ct_stands_of), sl_stands_of⟩)
    (cd0_stands_of : PySem.W.codeIn K cd_stands_of "stands_of" = true)
    (k_stands_of : PySem.W.keepIn K (.ref f_stands_of) = true)
    (a_behind : PySem.W.nsIn K mainGlobals "behind" = some (some (.ref f_behind)))
    (l_behind : K.lookup f_behind = some ⟨oc_behind, od_behind, .func (PySem.W.fnOf "behind" "behind" (defArgs s_behind) (defBody s_behind) (defScope s_behind) .none kV_behind dc_behind pm_behind an_behind cd_behind ct_behind), sl_behind⟩)
    (cd0_behind : PySem.W.codeIn K cd_behind "behind" = true)
    (k_behind : PySem.W.keepIn K (.ref f_behind) = true)
    (a_calls_of : PySem.W.nsIn K mainGlobals "calls_of" = some (some (.ref f_calls_of)))
    (l_calls_of : K.lookup f_calls_of = some ⟨oc_calls_of, od_calls_of, .func (PySem.W.fnOf "calls_of" "calls_of" (defArgs s_calls_of) (defBody s_calls_of) (defScope s_calls_of) .none kV_calls_of dc_calls_of pm_calls_of an_calls_of cd_calls_of ct_calls_of), sl_calls_of⟩)
    (cd0_calls_of : PySem.W.codeIn K cd_calls_of "calls_of" = true)
    (k_calls_of : PySem.W.keepIn K (.ref f_calls_of) = true)
    (a_tied_bits : PySem.W.nsIn K mainGlobals "tied_bits" = some (some (.ref f_tied_bits)))
    (l_tied_bits : K.lookup f_tied_bits = some ⟨oc_tied_bits, od_tied_bits, .func (PySem.W.fnOf "tied_bits" "tied_bits" (defArgs s_tied_bits) (defBody s_tied_bits) (defScope s_tied_bits) .none kV_tied_bits dc_tied_bits pm_tied_bits an_tied_bits cd_tied_bits ct_tied_bits), sl_tied_bits⟩)
    (cd0_tied_bits : PySem.W.codeIn K cd_tied_bits "tied_bits" = true)
    (k_tied_bits : PySem.W.keepIn K (.ref f_tied_bits) = true)
    (a_told_by : PySem.W.nsIn K mainGlobals "told_by" = some (some (.ref f_told_by)))
    (l_told_by : K.lookup f_told_by = some ⟨oc_told_by, od_told_by, .func (PySem.W.fnOf "told_by" "told_by" (defArgs s_told_by) (defBody s_told_by) (defScope s_told_by) .none kV_told_by dc_told_by pm_told_by an_told_by cd_told_by ct_told_by), sl_told_by⟩)
    (cd0_told_by : PySem.W.codeIn K cd_told_by "told_by" = true)
    (k_told_by : PySem.W.keepIn K (.ref f_told_by) = true)
    (a_first_wrong : PySem.W.nsIn K mainGlobals "first_wrong" = some (some (.ref f_first_wrong)))
    (l_first_wrong : K.lookup f_first_wrong = some ⟨oc_first_wrong, od_first_wrong, .func (PySem.W.fnOf "first_wrong" "first_wrong" (defArgs s_first_wrong) (defBody s_first_wrong) (defScope s_first_wrong) .none kV_first_wrong dc_first_wrong pm_first_wrong an_first_wrong cd_first_wrong ct_first_wrong), sl_first_wrong⟩)
    (cd0_first_wrong : PySem.W.codeIn K cd_first_wrong "first_wrong" = true)
    (k_first_wrong : PySem.W.keepIn K (.ref f_first_wrong) = true)
    (a_fits : PySem.W.nsIn K mainGlobals "fits" = some (some (.ref f_fits)))
    (l_fits : K.lookup f_fits = some ⟨oc_fits, od_fits, .func (PySem.W.fnOf "fits" "fits" (defArgs s_fits) (defBody s_fits) (defScope s_fits) .none kV_fits dc_fits pm_fits an_fits cd_fits ct_fits), sl_fits⟩)
    (cd0_fits : PySem.W.codeIn K cd_fits "fits" = true)
    (k_fits : PySem.W.keepIn K (.ref f_fits) = true)
    (a_behind_call : PySem.W.nsIn K mainGlobals "behind_call" = some (some (.ref f_behind_call)))
    (l_behind_call : K.lookup f_behind_call = some ⟨oc_behind_call, od_behind_call, .func (PySem.W.fnOf "behind_call" "behind_call" (defArgs s_behind_call) (defBody s_behind_call) (defScope s_behind_call) .none kV_behind_call dc_behind_call pm_behind_call an_behind_call cd_behind_call ct_behind_call), sl_behind_call⟩)
    (cd0_behind_call : PySem.W.codeIn K cd_behind_call "behind_call" = true)
    (k_behind_call : PySem.W.keepIn K (.ref f_behind_call) = true)
    (a_is_lot : PySem.W.nsIn K mainGlobals "is_lot" = some (some (.ref f_is_lot)))
    (l_is_lot : K.lookup f_is_lot = some ⟨oc_is_lot, od_is_lot, .func (PySem.W.fnOf "is_lot" "is_lot" (defArgs s_is_lot) (defBody s_is_lot) (defScope s_is_lot) .none kV_is_lot dc_is_lot pm_is_lot an_is_lot cd_is_lot ct_is_lot), sl_is_lot⟩)
    (cd0_is_lot : PySem.W.codeIn K cd_is_lot "is_lot" = true)
    (k_is_lot : PySem.W.keepIn K (.ref f_is_lot) = true)
    (a_check_stand : PySem.W.nsIn K mainGlobals "check_stand" = some (some (.ref f_check_stand)))
    (l_check_stand : K.lookup f_check_stand = some ⟨oc_check_stand, od_check_stand, .func (PySem.W.fnOf "check_stand" "check_stand" (defArgs s_check_stand) (defBody s_check_stand) (defScope s_check_stand) .none kV_check_stand dc_check_stand pm_check_stand an_check_stand cd_check_stand ct_check_stand), sl_check_stand⟩)
    (cd0_check_stand : PySem.W.codeIn K cd_check_stand "check_stand" = true)
    (k_check_stand : PySem.W.keepIn K (.ref f_check_stand) = true)
    (a_is_part : PySem.W.nsIn K mainGlobals "is_part" = some (some (.ref f_is_part)))
    (l_is_part : K.lookup f_is_part = some ⟨oc_is_part, od_is_part, .func (PySem.W.fnOf "is_part" "is_part" (defArgs s_is_part) (defBody s_is_part) (defScope s_is_part) .none kV_is_part dc_is_part pm_is_part an_is_part cd_is_part ct_is_part), sl_is_part⟩)
    (cd0_is_part : PySem.W.codeIn K cd_is_part "is_part" = true)
    (k_is_part : PySem.W.keepIn K (.ref f_is_part) = true)
    (a_is_row : PySem.W.nsIn K mainGlobals "is_row" = some (some (.ref f_is_row)))
    (l_is_row : K.lookup f_is_row = some ⟨oc_is_row, od_is_row, .func (PySem.W.fnOf "is_row" "is_row" (defArgs s_is_row) (defBody s_is_row) (defScope s_is_row) .none kV_is_row dc_is_row pm_is_row an_is_row cd_is_row ct_is_row), sl_is_row⟩)
    (cd0_is_row : PySem.W.codeIn K cd_is_row "is_row" = true)
    (k_is_row : PySem.W.keepIn K (.ref f_is_row) = true)
    (a_same_log : PySem.W.nsIn K mainGlobals "same_log" = some (some (.ref f_same_log)))
    (l_same_log : K.lookup f_same_log = some ⟨oc_same_log, od_same_log, .func (PySem.W.fnOf "same_log" "same_log" (defArgs s_same_log) (defBody s_same_log) (defScope s_same_log) .none kV_same_log dc_same_log pm_same_log an_same_log cd_same_log ct_same_log), sl_same_log⟩)
    (cd0_same_log : PySem.W.codeIn K cd_same_log "same_log" = true)
    (k_same_log : PySem.W.keepIn K (.ref f_same_log) = true)
    (a_wrong_call : PySem.W.nsIn K mainGlobals "wrong_call" = some (some (.ref f_wrong_call)))
    (l_wrong_call : K.lookup f_wrong_call = some ⟨oc_wrong_call, od_wrong_call, .func (PySem.W.fnOf "wrong_call" "wrong_call" (defArgs s_wrong_call) (defBody s_wrong_call) (defScope s_wrong_call) .none kV_wrong_call dc_wrong_call pm_wrong_call an_wrong_call cd_wrong_call ct_wrong_call), sl_wrong_call⟩)
    (cd0_wrong_call : PySem.W.codeIn K cd_wrong_call "wrong_call" = true)
    (k_wrong_call : PySem.W.keepIn K (.ref f_wrong_call) = true)
    (a_law : PySem.W.nsIn K mainGlobals "law" = some (some (.ref f_law)))
    (l_law : K.lookup f_law = some ⟨oc_law, od_law, .func (PySem.W.fnOf "law" "law" (defArgs s_law) (defBody s_law) (defScope s_law) .none kV_law dc_law pm_law an_law cd_law ct_law), sl_law⟩)
    (cd0_law : PySem.W.codeIn K cd_law "law" = true)
    (k_law : PySem.W.keepIn K (.ref f_law) = true) :
    LawG l.prog w K mg 7 fa ts := by
  have e := hfa.symm.trans (PySem.W.mg_of X G a_law)
  cases e
  have z_bool := PySem.W.mg_none_of X G b_bool
  have z_enumerate := PySem.W.mg_none_of X G b_enumerate
  have z_int := PySem.W.mg_none_of X G b_int
  have z_isinstance := PySem.W.mg_none_of X G b_isinstance
  have z_len := PySem.W.mg_none_of X G b_len
  have z_list := PySem.W.mg_none_of X G b_list
  have z_max := PySem.W.mg_none_of X G b_max
  have z_min := PySem.W.mg_none_of X G b_min
  have z_range := PySem.W.mg_none_of X G b_range
  have z_repr := PySem.W.mg_none_of X G b_repr
  have z_sorted := PySem.W.mg_none_of X G b_sorted
  have z_tuple := PySem.W.mg_none_of X G b_tuple
  have z_zip := PySem.W.mg_none_of X G b_zip
  have h_MOST_CALLS : ∃ t, mg "MOST_CALLS" = some (.int 1000 t) := ⟨_, PySem.W.mg_of X G g_MOST_CALLS⟩
  have h_MOST_LOGGED_CALLS : ∃ t, mg "MOST_LOGGED_CALLS" = some (.int 200 t) := ⟨_, PySem.W.mg_of X G g_MOST_LOGGED_CALLS⟩
  have h_MOST_LOGGED_PARTS : ∃ t, mg "MOST_LOGGED_PARTS" = some (.int 12 t) := ⟨_, PySem.W.mg_of X G g_MOST_LOGGED_PARTS⟩
  have h_MOST_PARTS : ∃ t, mg "MOST_PARTS" = some (.int 24 t) := ⟨_, PySem.W.mg_of X G g_MOST_PARTS⟩
  have cl_Web : Cls K C_Web := ⟨pg_Web, hd_Web, po_Web, sa_Web⟩
  have ci_Web : ClsI K C_Web := ⟨cl_Web, xc_Web, xg, xt, xm_Web⟩
  have fo_size : FldOk K (clF C_Web) ["Web"] "size" := fld_mk fun c hc => by
    simp only [List.mem_cons, List.mem_singleton, List.not_mem_nil, or_false] at hc
    subst hc; rw [clF_Web]; exact ⟨cl_Web, n_Web_size⟩
  have fo_ties : FldOk K (clF C_Web) ["Web"] "ties" := fld_mk fun c hc => by
    simp only [List.mem_cons, List.mem_singleton, List.not_mem_nil, or_false] at hc
    subst hc; rw [clF_Web]; exact ⟨cl_Web, n_Web_ties⟩
  have is_bool : IsaOk K (clF C_Web) (.type "bool") tbF := isa_mk fun p hp => by
    simp only [tbF, List.mem_cons, List.mem_singleton, List.not_mem_nil, or_false] at hp
    subst hp; dsimp only; rw [clF_Web]; exact ⟨ci_Web, kitD (by decide +kernel) k_Web_bool⟩
  have is_int : IsaOk K (clF C_Web) (.type "int") tbF := isa_mk fun p hp => by
    simp only [tbF, List.mem_cons, List.mem_singleton, List.not_mem_nil, or_false] at hp
    subst hp; dsimp only; rw [clF_Web]; exact ⟨ci_Web, kitD (by decide +kernel) k_Web_int⟩
  have is_list : IsaOk K (clF C_Web) (.type "list") tbF := isa_mk fun p hp => by
    simp only [tbF, List.mem_cons, List.mem_singleton, List.not_mem_nil, or_false] at hp
    subst hp; dsimp only; rw [clF_Web]; exact ⟨ci_Web, kitD (by decide +kernel) k_Web_list⟩
  have is_tuple : IsaOk K (clF C_Web) (.type "tuple") tbF := isa_mk fun p hp => by
    simp only [tbF, List.mem_cons, List.mem_singleton, List.not_mem_nil, or_false] at hp
    subst hp; dsimp only; rw [clF_Web]; exact ⟨ci_Web, kitD (by decide +kernel) k_Web_tuple⟩
  have U_is_integer := fun_mk (st := s_is_integer) l_is_integer cd0_is_integer k_is_integer
  have m_is_integer := PySem.W.mg_of X G a_is_integer
  have U_is_number := fun_mk (st := s_is_number) l_is_number cd0_is_number k_is_number
  have m_is_number := PySem.W.mg_of X G a_is_number
  have U_is_tie := fun_mk (st := s_is_tie) l_is_tie cd0_is_tie k_is_tie
  have m_is_tie := PySem.W.mg_of X G a_is_tie
  have U_wrong_tie := fun_mk (st := s_wrong_tie) l_wrong_tie cd0_wrong_tie k_wrong_tie
  have m_wrong_tie := PySem.W.mg_of X G a_wrong_tie
  have U_Web_init := fun_mk (st := s_Web_init) l_Web_init cd0_Web_init k_Web_init
  have U__law_tied := fun_mk (st := s__law_tied) l__law_tied cd0__law_tied k__law_tied
  have m__law_tied := PySem.W.mg_of X G a__law_tied
  have U__law_says := fun_mk (st := s__law_says) l__law_says cd0__law_says k__law_says
  have m__law_says := PySem.W.mg_of X G a__law_says
  have U__law_called := fun_mk (st := s__law_called) l__law_called cd0__law_called k__law_called
  have m__law_called := PySem.W.mg_of X G a__law_called
  have U__law_flag := fun_mk (st := s__law_flag) l__law_flag cd0__law_flag k__law_flag
  have m__law_flag := PySem.W.mg_of X G a__law_flag
  have U__law_pick := fun_mk (st := s__law_pick) l__law_pick cd0__law_pick k__law_pick
  have m__law_pick := PySem.W.mg_of X G a__law_pick
  have U__law_log := fun_mk (st := s__law_log) l__law_log cd0__law_log k__law_log
  have m__law_log := PySem.W.mg_of X G a__law_log
  have U__law_stands := fun_mk (st := s__law_stands) l__law_stands cd0__law_stands k__law_stands
  have m__law_stands := PySem.W.mg_of X G a__law_stands
  have U__law_tape := fun_mk (st := s__law_tape) l__law_tape cd0__law_tape k__law_tape
  have m__law_tape := PySem.W.mg_of X G a__law_tape
  have U__law_web := fun_mk (st := s__law_web) l__law_web cd0__law_web k__law_web
  have m__law_web := PySem.W.mg_of X G a__law_web
  have U__law_wrong := fun_mk (st := s__law_wrong) l__law_wrong cd0__law_wrong k__law_wrong
  have m__law_wrong := PySem.W.mg_of X G a__law_wrong
  have U_is_lot_below := fun_mk (st := s_is_lot_below) l_is_lot_below cd0_is_lot_below k_is_lot_below
  have m_is_lot_below := PySem.W.mg_of X G a_is_lot_below
  have U_is_pair := fun_mk (st := s_is_pair) l_is_pair cd0_is_pair k_is_pair
  have m_is_pair := PySem.W.mg_of X G a_is_pair
  have U_is_told_call := fun_mk (st := s_is_told_call) l_is_told_call cd0_is_told_call k_is_told_call
  have m_is_told_call := PySem.W.mg_of X G a_is_told_call
  have U_is_log := fun_mk (st := s_is_log) l_is_log cd0_is_log k_is_log
  have m_is_log := PySem.W.mg_of X G a_is_log
  have U_check_log := fun_mk (st := s_check_log) l_check_log cd0_check_log k_check_log
  have m_check_log := PySem.W.mg_of X G a_check_log
  have U_lot_of := fun_mk (st := s_lot_of) l_lot_of cd0_lot_of k_lot_of
  have m_lot_of := PySem.W.mg_of X G a_lot_of
  have U_behind_told := fun_mk (st := s_behind_told) l_behind_told cd0_behind_told k_behind_told
  have m_behind_told := PySem.W.mg_of X G a_behind_told
  have U_bits_of := fun_mk (st := s_bits_of) l_bits_of cd0_bits_of k_bits_of
  have m_bits_of := PySem.W.mg_of X G a_bits_of
  have U_stands_of := fun_mk (st := s_stands_of) l_stands_of cd0_stands_of k_stands_of
  have m_stands_of := PySem.W.mg_of X G a_stands_of
  have U_behind := fun_mk (st := s_behind) l_behind cd0_behind k_behind
  have m_behind := PySem.W.mg_of X G a_behind
  have U_calls_of := fun_mk (st := s_calls_of) l_calls_of cd0_calls_of k_calls_of
  have m_calls_of := PySem.W.mg_of X G a_calls_of
  have U_tied_bits := fun_mk (st := s_tied_bits) l_tied_bits cd0_tied_bits k_tied_bits
  have m_tied_bits := PySem.W.mg_of X G a_tied_bits
  have U_told_by := fun_mk (st := s_told_by) l_told_by cd0_told_by k_told_by
  have m_told_by := PySem.W.mg_of X G a_told_by
  have U_first_wrong := fun_mk (st := s_first_wrong) l_first_wrong cd0_first_wrong k_first_wrong
  have m_first_wrong := PySem.W.mg_of X G a_first_wrong
  have U_fits := fun_mk (st := s_fits) l_fits cd0_fits k_fits
  have m_fits := PySem.W.mg_of X G a_fits
  have U_behind_call := fun_mk (st := s_behind_call) l_behind_call cd0_behind_call k_behind_call
  have m_behind_call := PySem.W.mg_of X G a_behind_call
  have U_is_lot := fun_mk (st := s_is_lot) l_is_lot cd0_is_lot k_is_lot
  have m_is_lot := PySem.W.mg_of X G a_is_lot
  have U_check_stand := fun_mk (st := s_check_stand) l_check_stand cd0_check_stand k_check_stand
  have m_check_stand := PySem.W.mg_of X G a_check_stand
  have U_is_part := fun_mk (st := s_is_part) l_is_part cd0_is_part k_is_part
  have m_is_part := PySem.W.mg_of X G a_is_part
  have U_is_row := fun_mk (st := s_is_row) l_is_row cd0_is_row k_is_row
  have m_is_row := PySem.W.mg_of X G a_is_row
  have U_same_log := fun_mk (st := s_same_log) l_same_log cd0_same_log k_same_log
  have m_same_log := PySem.W.mg_of X G a_same_log
  have U_wrong_call := fun_mk (st := s_wrong_call) l_wrong_call cd0_wrong_call k_wrong_call
  have m_wrong_call := PySem.W.mg_of X G a_wrong_call
  have U_law := fun_mk (st := s_law) l_law cd0_law k_law
  have m_law := PySem.W.mg_of X G a_law
  refine ⟨PySem.W.fnOf "law" "law" (defArgs s_law) (defBody s_law) (defScope s_law) .none kV_law dc_law pm_law an_law cd_law ct_law, [], clF C_Web, ?_, fun s v => .of_eq rfl, fun H hH => tabs_some (fun q hq => ?_) hH, fun base _ _ hTB => ?_⟩
  · intro p hp; cases hp
  · exact .inl (clF_tab hq)
  have c_is_integer := ok_is_integer (P := l.prog) (w := w) (base := base) (cl := clF C_Web) U_is_integer m_is_integer z_bool z_int z_isinstance is_bool is_int
  have c_is_number := ok_is_number (P := l.prog) (w := w) (base := base) (cl := clF C_Web) U_is_number m_is_number c_is_integer
  have c_is_tie := ok_is_tie (P := l.prog) (w := w) (base := base) (cl := clF C_Web) U_is_tie m_is_tie z_isinstance z_len z_tuple is_tuple c_is_number
  have c_wrong_tie := ok_wrong_tie (P := l.prog) (w := w) (base := base) (cl := clF C_Web) U_wrong_tie m_wrong_tie z_enumerate c_is_tie
  have w_Web_init := ok_Web_init (P := l.prog) (w := w) (mg := mg) (base := base) (cl := clF C_Web) U_Web_init z_isinstance z_tuple h_MOST_PARTS fo_size fo_ties is_tuple c_is_number c_wrong_tie
  have mk_Web : DMk l.prog w K mg base (clF C_Web) 5 "Web" "Web" ["self", "size", "ties"] F_Web_init := ⟨f_Web_init, _, by rw [clF_Web]; exact ⟨mk0_Web, a_Web_init, i_Web_init, kc_Web⟩, w_Web_init, by rw [clF_Web]; exact PySem.W.mg_of X G a_Web, U_Web_init.binds (ps := ["self", "size", "ties"]) fun _ _ _ _ _ _ us hl => match us, hl with | [_, _, _], _ => rfl⟩
  have c__law_tied := ok__law_tied (P := l.prog) (w := w) (base := base) (cl := clF C_Web) U__law_tied m__law_tied z_max z_min
  have c__law_says := ok__law_says (P := l.prog) (w := w) (base := base) (cl := clF C_Web) U__law_says m__law_says z_len c__law_tied
  have c__law_called := ok__law_called (P := l.prog) (w := w) (base := base) (cl := clF C_Web) U__law_called m__law_called z_sorted z_tuple c__law_says
  have c__law_flag := ok__law_flag (P := l.prog) (w := w) (base := base) (cl := clF C_Web) U__law_flag m__law_flag z_bool z_isinstance is_bool
  have c__law_pick := ok__law_pick (P := l.prog) (w := w) (base := base) (cl := clF C_Web) U__law_pick m__law_pick z_int z_len
  have c__law_log := ok__law_log (P := l.prog) (w := w) (base := base) (cl := clF C_Web) U__law_log m__law_log z_range z_sorted z_tuple c__law_pick c__law_says
  have c__law_stands := ok__law_stands (P := l.prog) (w := w) (base := base) (cl := clF C_Web) U__law_stands m__law_stands z_sorted z_tuple
  have c__law_tape := ok__law_tape (P := l.prog) (w := w) (base := base) (cl := clF C_Web) U__law_tape m__law_tape z_list
  have c__law_web := ok__law_web (P := l.prog) (w := w) (base := base) (cl := clF C_Web) U__law_web m__law_web z_range z_tuple c__law_pick
  have c__law_wrong := ok__law_wrong (P := l.prog) (w := w) (base := base) (cl := clF C_Web) U__law_wrong m__law_wrong z_len z_range c__law_says c__law_stands
  have c_is_lot_below := ok_is_lot_below (P := l.prog) (w := w) (base := base) (cl := clF C_Web) U_is_lot_below m_is_lot_below z_isinstance z_tuple is_tuple c_is_number
  have c_is_pair := ok_is_pair (P := l.prog) (w := w) (base := base) (cl := clF C_Web) U_is_pair m_is_pair z_isinstance z_len z_tuple is_tuple
  have c_is_told_call := ok_is_told_call (P := l.prog) (w := w) (base := base) (cl := clF C_Web) U_is_told_call m_is_told_call z_bool z_isinstance is_bool c_is_number c_is_pair
  have c_is_log := ok_is_log (P := l.prog) (w := w) (base := base) (cl := clF C_Web) U_is_log m_is_log z_isinstance z_len z_tuple h_MOST_LOGGED_CALLS h_MOST_LOGGED_PARTS is_tuple c_is_lot_below c_is_number c_is_told_call
  have c_check_log := ok_check_log (P := l.prog) (w := w) (base := base) (cl := clF C_Web) U_check_log m_check_log c_is_log
  have c_lot_of := ok_lot_of (P := l.prog) (w := w) (base := base) (cl := clF C_Web) U_lot_of m_lot_of z_tuple
  have c_behind_told := ok_behind_told (P := l.prog) (w := w) (base := base) (cl := clF C_Web) U_behind_told m_behind_told 
  have c_bits_of := ok_bits_of (P := l.prog) (w := w) (base := base) (cl := clF C_Web) U_bits_of m_bits_of 
  have c_stands_of := ok_stands_of (P := l.prog) (w := w) (base := base) (cl := clF C_Web) U_stands_of m_stands_of c_behind_told c_bits_of
  have c_behind := ok_behind (P := l.prog) (w := w) (base := base) (cl := clF C_Web) U_behind m_behind c_check_log c_lot_of c_stands_of
  have c_calls_of := ok_calls_of (P := l.prog) (w := w) (base := base) (cl := clF C_Web) U_calls_of m_calls_of z_zip c_stands_of
  have c_tied_bits := ok_tied_bits (P := l.prog) (w := w) (base := base) (cl := clF C_Web) U_tied_bits m_tied_bits fo_size fo_ties
  have c_told_by := ok_told_by (P := l.prog) (w := w) (base := base) (cl := clF C_Web) U_told_by m_told_by 
  have c_first_wrong := ok_first_wrong (P := l.prog) (w := w) (base := base) (cl := clF C_Web) U_first_wrong m_first_wrong z_enumerate c_calls_of c_tied_bits c_told_by
  have c_fits := ok_fits (P := l.prog) (w := w) (base := base) (cl := clF C_Web) U_fits m_fits fo_size c_check_log c_first_wrong
  have c_behind_call := ok_behind_call (P := l.prog) (w := w) (base := base) (cl := clF C_Web) U_behind_call m_behind_call c_told_by
  have c_is_lot := ok_is_lot (P := l.prog) (w := w) (base := base) (cl := clF C_Web) U_is_lot m_is_lot fo_size c_is_lot_below
  have c_check_stand := ok_check_stand (P := l.prog) (w := w) (base := base) (cl := clF C_Web) U_check_stand m_check_stand c_is_lot
  have c_is_part := ok_is_part (P := l.prog) (w := w) (base := base) (cl := clF C_Web) U_is_part m_is_part fo_size c_is_number
  have c_is_row := ok_is_row (P := l.prog) (w := w) (base := base) (cl := clF C_Web) U_is_row m_is_row z_isinstance z_len z_list z_tuple h_MOST_CALLS is_list is_tuple c_is_part
  have c_same_log := ok_same_log (P := l.prog) (w := w) (base := base) (cl := clF C_Web) U_same_log m_same_log z_len z_tuple h_MOST_LOGGED_CALLS h_MOST_LOGGED_PARTS fo_size c_behind_call c_bits_of c_check_stand c_is_row c_tied_bits c_told_by
  have c_wrong_call := ok_wrong_call (P := l.prog) (w := w) (base := base) (cl := clF C_Web) U_wrong_call m_wrong_call fo_size c_check_log c_first_wrong
  exact law_ofG (cl := clF C_Web) (ok_law U_law z_bool z_int z_isinstance z_len z_repr z_tuple is_bool c__law_called c__law_flag c__law_log c__law_pick c__law_says c__law_stands c__law_tape c__law_web c__law_wrong c_behind c_fits c_same_log c_wrong_call mk_Web) law_true
theorem facts {l : PySem.W.OpenLaw} {w : PySem.World} {K : PySem.W.Frag} {h : Heap} {mg : Str → Option Value} {fa : Addr} (X : K.In h) (G : h.Ns mainGlobals mg) (hfa : mg "law" = some (.ref fa)) (c : SaysL fnL tfL exF h K) : LawG l.prog w K mg 7 fa (tfL.map fun p => (He.cT K p).2) := by
  have hx : exF K = true := c.more
  unfold exF at hx
  obtain ⟨X0, hx⟩ := He.ba hx
  obtain ⟨X1, hx⟩ := He.ba hx
  have X2 := hx
  obtain ⟨tk_MOST_CALLS, g_MOST_CALLS⟩ := gint_ok (all_at X0 0 rfl)
  obtain ⟨tk_MOST_LOGGED_CALLS, g_MOST_LOGGED_CALLS⟩ := gint_ok (all_at X0 1 rfl)
  obtain ⟨tk_MOST_LOGGED_PARTS, g_MOST_LOGGED_PARTS⟩ := gint_ok (all_at X0 2 rfl)
  obtain ⟨tk_MOST_PARTS, g_MOST_PARTS⟩ := gint_ok (all_at X0 3 rfl)
  obtain ⟨oc_is_integer, od_is_integer, sl_is_integer, kV_is_integer, dc_is_integer, pm_is_integer, an_is_integer, cd_is_integer, ct_is_integer, l_is_integer, cd0_is_integer⟩ := c.def_ 0 rfl
  obtain ⟨oc_is_number, od_is_number, sl_is_number, kV_is_number, dc_is_number, pm_is_number, an_is_number, cd_is_number, ct_is_number, l_is_number, cd0_is_number⟩ := c.def_ 1 rfl
  obtain ⟨oc_is_tie, od_is_tie, sl_is_tie, kV_is_tie, dc_is_tie, pm_is_tie, an_is_tie, cd_is_tie, ct_is_tie, l_is_tie, cd0_is_tie⟩ := c.def_ 2 rfl
  obtain ⟨oc_wrong_tie, od_wrong_tie, sl_wrong_tie, kV_wrong_tie, dc_wrong_tie, pm_wrong_tie, an_wrong_tie, cd_wrong_tie, ct_wrong_tie, l_wrong_tie, cd0_wrong_tie⟩ := c.def_ 3 rfl
  obtain ⟨oc_Web_init, od_Web_init, sl_Web_init, kV_Web_init, dc_Web_init, pm_Web_init, an_Web_init, cd_Web_init, ct_Web_init, l_Web_init, cd0_Web_init⟩ := c.def_ 4 rfl
  obtain ⟨oc__law_tied, od__law_tied, sl__law_tied, kV__law_tied, dc__law_tied, pm__law_tied, an__law_tied, cd__law_tied, ct__law_tied, l__law_tied, cd0__law_tied⟩ := c.def_ 5 rfl
  obtain ⟨oc__law_says, od__law_says, sl__law_says, kV__law_says, dc__law_says, pm__law_says, an__law_says, cd__law_says, ct__law_says, l__law_says, cd0__law_says⟩ := c.def_ 6 rfl
  obtain ⟨oc__law_called, od__law_called, sl__law_called, kV__law_called, dc__law_called, pm__law_called, an__law_called, cd__law_called, ct__law_called, l__law_called, cd0__law_called⟩ := c.def_ 7 rfl
  obtain ⟨oc__law_flag, od__law_flag, sl__law_flag, kV__law_flag, dc__law_flag, pm__law_flag, an__law_flag, cd__law_flag, ct__law_flag, l__law_flag, cd0__law_flag⟩ := c.def_ 8 rfl
  obtain ⟨oc__law_pick, od__law_pick, sl__law_pick, kV__law_pick, dc__law_pick, pm__law_pick, an__law_pick, cd__law_pick, ct__law_pick, l__law_pick, cd0__law_pick⟩ := c.def_ 9 rfl
  obtain ⟨oc__law_log, od__law_log, sl__law_log, kV__law_log, dc__law_log, pm__law_log, an__law_log, cd__law_log, ct__law_log, l__law_log, cd0__law_log⟩ := c.def_ 10 rfl
  obtain ⟨oc__law_stands, od__law_stands, sl__law_stands, kV__law_stands, dc__law_stands, pm__law_stands, an__law_stands, cd__law_stands, ct__law_stands, l__law_stands, cd0__law_stands⟩ := c.def_ 11 rfl
  obtain ⟨oc__law_tape, od__law_tape, sl__law_tape, kV__law_tape, dc__law_tape, pm__law_tape, an__law_tape, cd__law_tape, ct__law_tape, l__law_tape, cd0__law_tape⟩ := c.def_ 12 rfl
  obtain ⟨oc__law_web, od__law_web, sl__law_web, kV__law_web, dc__law_web, pm__law_web, an__law_web, cd__law_web, ct__law_web, l__law_web, cd0__law_web⟩ := c.def_ 13 rfl
  obtain ⟨oc__law_wrong, od__law_wrong, sl__law_wrong, kV__law_wrong, dc__law_wrong, pm__law_wrong, an__law_wrong, cd__law_wrong, ct__law_wrong, l__law_wrong, cd0__law_wrong⟩ := c.def_ 14 rfl
  obtain ⟨oc_is_lot_below, od_is_lot_below, sl_is_lot_below, kV_is_lot_below, dc_is_lot_below, pm_is_lot_below, an_is_lot_below, cd_is_lot_below, ct_is_lot_below, l_is_lot_below, cd0_is_lot_below⟩ := c.def_ 15 rfl
  obtain ⟨oc_is_pair, od_is_pair, sl_is_pair, kV_is_pair, dc_is_pair, pm_is_pair, an_is_pair, cd_is_pair, ct_is_pair, l_is_pair, cd0_is_pair⟩ := c.def_ 16 rfl
  obtain ⟨oc_is_told_call, od_is_told_call, sl_is_told_call, kV_is_told_call, dc_is_told_call, pm_is_told_call, an_is_told_call, cd_is_told_call, ct_is_told_call, l_is_told_call, cd0_is_told_call⟩ := c.def_ 17 rfl
  obtain ⟨oc_is_log, od_is_log, sl_is_log, kV_is_log, dc_is_log, pm_is_log, an_is_log, cd_is_log, ct_is_log, l_is_log, cd0_is_log⟩ := c.def_ 18 rfl
  obtain ⟨oc_check_log, od_check_log, sl_check_log, kV_check_log, dc_check_log, pm_check_log, an_check_log, cd_check_log, ct_check_log, l_check_log, cd0_check_log⟩ := c.def_ 19 rfl
  obtain ⟨oc_lot_of, od_lot_of, sl_lot_of, kV_lot_of, dc_lot_of, pm_lot_of, an_lot_of, cd_lot_of, ct_lot_of, l_lot_of, cd0_lot_of⟩ := c.def_ 20 rfl
  obtain ⟨oc_behind_told, od_behind_told, sl_behind_told, kV_behind_told, dc_behind_told, pm_behind_told, an_behind_told, cd_behind_told, ct_behind_told, l_behind_told, cd0_behind_told⟩ := c.def_ 21 rfl
  obtain ⟨oc_bits_of, od_bits_of, sl_bits_of, kV_bits_of, dc_bits_of, pm_bits_of, an_bits_of, cd_bits_of, ct_bits_of, l_bits_of, cd0_bits_of⟩ := c.def_ 22 rfl
  obtain ⟨oc_stands_of, od_stands_of, sl_stands_of, kV_stands_of, dc_stands_of, pm_stands_of, an_stands_of, cd_stands_of, ct_stands_of, l_stands_of, cd0_stands_of⟩ := c.def_ 23 rfl
  obtain ⟨oc_behind, od_behind, sl_behind, kV_behind, dc_behind, pm_behind, an_behind, cd_behind, ct_behind, l_behind, cd0_behind⟩ := c.def_ 24 rfl
  obtain ⟨oc_calls_of, od_calls_of, sl_calls_of, kV_calls_of, dc_calls_of, pm_calls_of, an_calls_of, cd_calls_of, ct_calls_of, l_calls_of, cd0_calls_of⟩ := c.def_ 25 rfl
  obtain ⟨oc_tied_bits, od_tied_bits, sl_tied_bits, kV_tied_bits, dc_tied_bits, pm_tied_bits, an_tied_bits, cd_tied_bits, ct_tied_bits, l_tied_bits, cd0_tied_bits⟩ := c.def_ 26 rfl
  obtain ⟨oc_told_by, od_told_by, sl_told_by, kV_told_by, dc_told_by, pm_told_by, an_told_by, cd_told_by, ct_told_by, l_told_by, cd0_told_by⟩ := c.def_ 27 rfl
  obtain ⟨oc_first_wrong, od_first_wrong, sl_first_wrong, kV_first_wrong, dc_first_wrong, pm_first_wrong, an_first_wrong, cd_first_wrong, ct_first_wrong, l_first_wrong, cd0_first_wrong⟩ := c.def_ 28 rfl
  obtain ⟨oc_fits, od_fits, sl_fits, kV_fits, dc_fits, pm_fits, an_fits, cd_fits, ct_fits, l_fits, cd0_fits⟩ := c.def_ 29 rfl
  obtain ⟨oc_behind_call, od_behind_call, sl_behind_call, kV_behind_call, dc_behind_call, pm_behind_call, an_behind_call, cd_behind_call, ct_behind_call, l_behind_call, cd0_behind_call⟩ := c.def_ 30 rfl
  obtain ⟨oc_is_lot, od_is_lot, sl_is_lot, kV_is_lot, dc_is_lot, pm_is_lot, an_is_lot, cd_is_lot, ct_is_lot, l_is_lot, cd0_is_lot⟩ := c.def_ 31 rfl
  obtain ⟨oc_check_stand, od_check_stand, sl_check_stand, kV_check_stand, dc_check_stand, pm_check_stand, an_check_stand, cd_check_stand, ct_check_stand, l_check_stand, cd0_check_stand⟩ := c.def_ 32 rfl
  obtain ⟨oc_is_part, od_is_part, sl_is_part, kV_is_part, dc_is_part, pm_is_part, an_is_part, cd_is_part, ct_is_part, l_is_part, cd0_is_part⟩ := c.def_ 33 rfl
  obtain ⟨oc_is_row, od_is_row, sl_is_row, kV_is_row, dc_is_row, pm_is_row, an_is_row, cd_is_row, ct_is_row, l_is_row, cd0_is_row⟩ := c.def_ 34 rfl
  obtain ⟨oc_same_log, od_same_log, sl_same_log, kV_same_log, dc_same_log, pm_same_log, an_same_log, cd_same_log, ct_same_log, l_same_log, cd0_same_log⟩ := c.def_ 35 rfl
  obtain ⟨oc_wrong_call, od_wrong_call, sl_wrong_call, kV_wrong_call, dc_wrong_call, pm_wrong_call, an_wrong_call, cd_wrong_call, ct_wrong_call, l_wrong_call, cd0_wrong_call⟩ := c.def_ 36 rfl
  obtain ⟨oc_law, od_law, sl_law, kV_law, dc_law, pm_law, an_law, cd_law, ct_law, l_law, cd0_law⟩ := c.def_ 37 rfl
  exact all_mk (C_Web := (He.ga K "Web")) (f_is_integer := (He.ga K "is_integer")) (f_is_number := (He.ga K "is_number")) (f_is_tie := (He.ga K "is_tie")) (f_wrong_tie := (He.ga K "wrong_tie")) (f_Web_init := (He.ma K (He.ga K "Web") "__init__")) (f__law_tied := (He.ga K "_law_tied")) (f__law_says := (He.ga K "_law_says")) (f__law_called := (He.ga K "_law_called")) (f__law_flag := (He.ga K "_law_flag")) (f__law_pick := (He.ga K "_law_pick")) (f__law_log := (He.ga K "_law_log")) (f__law_stands := (He.ga K "_law_stands")) (f__law_tape := (He.ga K "_law_tape")) (f__law_web := (He.ga K "_law_web")) (f__law_wrong := (He.ga K "_law_wrong")) (f_is_lot_below := (He.ga K "is_lot_below")) (f_is_pair := (He.ga K "is_pair")) (f_is_told_call := (He.ga K "is_told_call")) (f_is_log := (He.ga K "is_log")) (f_check_log := (He.ga K "check_log")) (f_lot_of := (He.ga K "lot_of")) (f_behind_told := (He.ga K "behind_told")) (f_bits_of := (He.ga K "bits_of")) (f_stands_of := (He.ga K "stands_of")) (f_behind := (He.ga K "behind")) (f_calls_of := (He.ga K "calls_of")) (f_tied_bits := (He.ga K "tied_bits")) (f_told_by := (He.ga K "told_by")) (f_first_wrong := (He.ga K "first_wrong")) (f_fits := (He.ga K "fits")) (f_behind_call := (He.ga K "behind_call")) (f_is_lot := (He.ga K "is_lot")) (f_check_stand := (He.ga K "check_stand")) (f_is_part := (He.ga K "is_part")) (f_is_row := (He.ga K "is_row")) (f_same_log := (He.ga K "same_log")) (f_wrong_call := (He.ga K "wrong_call")) (f_law := (He.ga K "law")) X G hfa g_MOST_CALLS g_MOST_LOGGED_CALLS g_MOST_LOGGED_PARTS g_MOST_PARTS (of_decide_eq_true (all_at X0 4 rfl)) (of_decide_eq_true (all_at X0 5 rfl)) (of_decide_eq_true (all_at X0 6 rfl)) (of_decide_eq_true (all_at X0 7 rfl)) (of_decide_eq_true (all_at X0 8 rfl)) (of_decide_eq_true (all_at X0 9 rfl)) (of_decide_eq_true (all_at X0 10 rfl)) (of_decide_eq_true (all_at X0 11 rfl)) (of_decide_eq_true (all_at X0 12 rfl)) (of_decide_eq_true (all_at X0 13 rfl)) (of_decide_eq_true (all_at X0 14 rfl)) (of_decide_eq_true (all_at X0 15 rfl)) (of_decide_eq_true (all_at X0 16 rfl)) (of_decide_eq_true (all_at X0 17 rfl)) (of_decide_eq_true (all_at X0 18 rfl)) (of_decide_eq_true (all_at X0 19 rfl)) (all_at X0 20 rfl) (all_at X0 21 rfl) (all_at X0 22 rfl) (of_decide_eq_true (all_at X0 23 rfl)) (all_at X0 24 rfl) (all_at X0 25 rfl) (of_decide_eq_true (all_at X0 26 rfl)) (of_decide_eq_true (all_at X0 27 rfl)) (of_decide_eq_true (all_at X0 28 rfl)) (of_decide_eq_true (all_at X0 29 rfl)) (of_decide_eq_true (all_at X0 30 rfl)) (of_decide_eq_true (all_at X0 31 rfl)) (of_decide_eq_true (all_at X0 32 rfl)) (of_decide_eq_true (all_at X0 33 rfl)) (of_decide_eq_true (all_at X0 34 rfl)) l_is_integer cd0_is_integer (all_at X0 35 rfl) (of_decide_eq_true (all_at X0 36 rfl)) l_is_number cd0_is_number (all_at X0 37 rfl) (of_decide_eq_true (all_at X0 38 rfl)) l_is_tie cd0_is_tie (all_at X0 39 rfl) (of_decide_eq_true (all_at X1 0 rfl)) l_wrong_tie cd0_wrong_tie (all_at X1 1 rfl) (of_decide_eq_true (all_at X1 2 rfl)) (all_at X1 3 rfl) l_Web_init cd0_Web_init (all_at X1 4 rfl) (of_decide_eq_true (all_at X1 5 rfl)) l__law_tied cd0__law_tied (all_at X1 6 rfl) (of_decide_eq_true (all_at X1 7 rfl)) l__law_says cd0__law_says (all_at X1 8 rfl) (of_decide_eq_true (all_at X1 9 rfl)) l__law_called cd0__law_called (all_at X1 10 rfl) (of_decide_eq_true (all_at X1 11 rfl)) l__law_flag cd0__law_flag (all_at X1 12 rfl) (of_decide_eq_true (all_at X1 13 rfl)) l__law_pick cd0__law_pick (all_at X1 14 rfl) (of_decide_eq_true (all_at X1 15 rfl)) l__law_log cd0__law_log (all_at X1 16 rfl) (of_decide_eq_true (all_at X1 17 rfl)) l__law_stands cd0__law_stands (all_at X1 18 rfl) (of_decide_eq_true (all_at X1 19 rfl)) l__law_tape cd0__law_tape (all_at X1 20 rfl) (of_decide_eq_true (all_at X1 21 rfl)) l__law_web cd0__law_web (all_at X1 22 rfl) (of_decide_eq_true (all_at X1 23 rfl)) l__law_wrong cd0__law_wrong (all_at X1 24 rfl) (of_decide_eq_true (all_at X1 25 rfl)) l_is_lot_below cd0_is_lot_below (all_at X1 26 rfl) (of_decide_eq_true (all_at X1 27 rfl)) l_is_pair cd0_is_pair (all_at X1 28 rfl) (of_decide_eq_true (all_at X1 29 rfl)) l_is_told_call cd0_is_told_call (all_at X1 30 rfl) (of_decide_eq_true (all_at X1 31 rfl)) l_is_log cd0_is_log (all_at X1 32 rfl) (of_decide_eq_true (all_at X1 33 rfl)) l_check_log cd0_check_log (all_at X1 34 rfl) (of_decide_eq_true (all_at X1 35 rfl)) l_lot_of cd0_lot_of (all_at X1 36 rfl) (of_decide_eq_true (all_at X1 37 rfl)) l_behind_told cd0_behind_told (all_at X1 38 rfl) (of_decide_eq_true (all_at X1 39 rfl)) l_bits_of cd0_bits_of (all_at X2 0 rfl) (of_decide_eq_true (all_at X2 1 rfl)) l_stands_of cd0_stands_of (all_at X2 2 rfl) (of_decide_eq_true (all_at X2 3 rfl)) l_behind cd0_behind (all_at X2 4 rfl) (of_decide_eq_true (all_at X2 5 rfl)) l_calls_of cd0_calls_of (all_at X2 6 rfl) (of_decide_eq_true (all_at X2 7 rfl)) l_tied_bits cd0_tied_bits (all_at X2 8 rfl) (of_decide_eq_true (all_at X2 9 rfl)) l_told_by cd0_told_by (all_at X2 10 rfl) (of_decide_eq_true (all_at X2 11 rfl)) l_first_wrong cd0_first_wrong (all_at X2 12 rfl) (of_decide_eq_true (all_at X2 13 rfl)) l_fits cd0_fits (all_at X2 14 rfl) (of_decide_eq_true (all_at X2 15 rfl)) l_behind_call cd0_behind_call (all_at X2 16 rfl) (of_decide_eq_true (all_at X2 17 rfl)) l_is_lot cd0_is_lot (all_at X2 18 rfl) (of_decide_eq_true (all_at X2 19 rfl)) l_check_stand cd0_check_stand (all_at X2 20 rfl) (of_decide_eq_true (all_at X2 21 rfl)) l_is_part cd0_is_part (all_at X2 22 rfl) (of_decide_eq_true (all_at X2 23 rfl)) l_is_row cd0_is_row (all_at X2 24 rfl) (of_decide_eq_true (all_at X2 25 rfl)) l_same_log cd0_same_log (all_at X2 26 rfl) (of_decide_eq_true (all_at X2 27 rfl)) l_wrong_call cd0_wrong_call (all_at X2 28 rfl) (of_decide_eq_true (all_at X2 29 rfl)) l_law cd0_law (all_at X2 30 rfl)
end DL

open PySem PySem.W PySem.Calls PyProof.Rows in
set_option maxRecDepth 100000 in
set_option maxHeartbeats 0 in
theorem PySem.Challenge.cw_silencers_k70_whole_logs_that_fit_or_not_holds : PySem.Challenge.rw_silencers_k70_whole_logs_that_fit_or_not.Holds := by
  w_on; o_law
  refine HandSHeadRun.head_any (r := OpenLaw.row PySem.Challenge.rw_silencers_k70_whole_logs_that_fit_or_not) (q := view (OpenLaw.row PySem.Challenge.rw_silencers_k70_whole_logs_that_fit_or_not).prog [57]) (H := DL.hkL) (ob := DL.obL) (M := 40000) (loose := DL.nL) (d := HandSHeadRun.topDef (OpenLaw.row PySem.Challenge.rw_silencers_k70_whole_logs_that_fit_or_not).prog 57) (kwd := []) DL.obL_eq
    (by kernel_rfl) (fun s => by kernel_rfl) DL.runL (by kernel_rfl) (by kernel_rfl) (by kernel_rfl) (by rfl) (by first | assumption | decide +kernel) (by decide +kernel) ⟨rfl, rfl, rfl, rfl, rfl, by decide +kernel⟩ ?hw ?hc
  case hw => w_witness2
  case hc =>
    refine DL.walkG (l := PySem.Challenge.rw_silencers_k70_whole_logs_that_fit_or_not) (k := 7) rfl (by kernel_rfl) ⟨rfl, by decide, by decide⟩ ?F
    intro w mg fa h K KX G hmg0 c
    have hmg : mg ("law" : PySem.Str) = some (.ref fa) := by
      have e : (HandSHeadRun.topDef (OpenLaw.row PySem.Challenge.rw_silencers_k70_whole_logs_that_fit_or_not).prog 57).name = ("law" : PySem.Str) := by kernel_rfl
      rw [← e]
      exact hmg0
    exact DL.facts KX G hmg c

