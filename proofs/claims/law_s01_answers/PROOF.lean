import PyProof.Rows.All
import Wide.All
import OpenK.AllK
import Wide.FinOn
import PyProof.EqAt
import PyProof.EqKinds
import PyProof.TupleCall
import Open.SpecLaws
import KE.OsGo
import PySem.Challenge.RW_patterntables_s01_answers
import HandS.ForSpec
import HandS.Comp
import HandS.Iter
import HandS.Text
import HandS.Dict
import HandS.WordsDict
import HandS.TryMany
import HandS.ExcInit
import HandS.Evl
import HandS.Flow
import HandS.CallSlots
import HandS.ExcSuper
import VahypdSpec
import HandS.Walk
import HandS.TupAny
import HandS.Deep
import KE.KDictKeyed
import KE.KDictDisplayH
import HandS.TupLen
import PyProof.Rows.TupDisplay
import HandS.SetFor
import HandS.Strs
import HandS.SortInts
import KE.GoesEnum
import HandS.Exc
import KE.GoesRaise
import PyVahypd
set_option Elab.async false
set_option linter.all false
set_option maxRecDepth 100000
set_option maxHeartbeats 2000000
/-! ## The program's own error: two fields, over Exception -/
namespace PySem
namespace FltX
open PySem.W PySem.Calls PyProof.Rows PySem.HandSPX
def fltArgs (p1 p2 p3 : Pos) : Arguments :=
  { posonlyargs := [], args := [{ arg := "self", annotation := none, pos := p1 }, { arg := "code", annotation := none, pos := p2 }, { arg := "place", annotation := none, pos := p3 }], vararg := none, kwonlyargs := [], kw_defaults := [], kwarg := none, defaults := [] }
def fltBody (q1 q2 q3 q4 q5 q6 q7 q8 : Pos) : List Stmt := [.Assign [.Attribute (.Name "self" q1) "code" q2] (.Name "code" q3) q4, .Assign [.Attribute (.Name "self" q5) "place" q6] (.Name "place" q7) q8]
def fltScope : Scope := { kind := .function, names := [(PySem.Str.ofString "self", .local), (PySem.Str.ofString "code", .local), (PySem.Str.ofString "place", .local)], isGenerator := false, isCoroutine := false, more := [] }
structure FltTxt (K : Frag) (mg : Str → Option Value) (C fI : Addr) : Prop where
  gC : mg "Fault" = some (.ref C)
  cls : ∃ nm q N bs sn sub ab col dd k0 k1 k2 k3 k5, K.lookup C = some (excClassObj nm q C N bs ESX.exTail true sn sub ab col dd k0 k1 k2 k3 k5 "Exception.__new__")
  sa : findIn K (.ref C) "__setattr__" = some (some (.builtin "object.__setattr__"))
  ga : findIn K (.ref C) "__getattribute__" = some (some (.builtin "BaseException.__getattribute__"))
  gg : findIn K (.ref C) "__getattr__" = some none
  noC : findIn K (.ref C) "code" = some none
  noP : findIn K (.ref C) "place" = some none
  iC : findIn K (.ref C) "__init__" = some (some (.ref fI))
  tC : typeIn K (.ref fI) = some (.type "function")
  kC : keepIn K (.ref C) = true
  exC : subIn K (.ref C) (.type "BaseException") = some true
  tyC : typeIn K (.ref C) = some (.type "type")
  hdC : hasDictIn K C = true
  te : exmOne K (.ref C) (.ref C) = some true
  fn : ∃ (oc : Value) (od : Option Addr) (doc pm : Value) (an : Option Addr) (cdv ct : Value) (osl : Array (Option Value)) (p1 p2 p3 q1 q2 q3 q4 q5 q6 q7 q8 : Pos),
    K.lookup fI = some ⟨oc, od, .func (fnOf "__init__" "Fault.__init__" (fltArgs p1 p2 p3) (fltBody q1 q2 q3 q4 q5 q6 q7 q8) fltScope .none .none doc pm an cdv ct), osl⟩ ∧ codeIn K cdv "Fault.__init__" = true
theorem two_size (v u : Value) : [v, u].length ≤ sizeLine := by
  rw [sizeLine_eq]
  exact (by decide : 2 ≤ 16777216)
theorem in_but {K : Frag} {h h' : Heap} {x : Addr} (X : K.In h) (hx : K.lookup x = none) (k : ∀ b o, b ≠ x → h.get? b = some o → h'.get? b = some o) : K.In h' := fun a o e =>
  k a o (fun z => by rw [z, hx] at e; cases e) (X a o e)
theorem ldN {M : Model} {s : Shared} {name : Str} {scope : Scope} {L a : Addr} {cd : Value} {m : Str → Option Value} {x : Str} {pos : Pos} {v : Value} {Q : Value → Shared → Prop} {A : Around} {E : Value → Shared → Prop} (hn : s.heap.Ns L m) (hv : m x = some v) (h : Q v s)
    (hk : scope.kind = .function := by rfl) (hl : (envOfC name scope L a cd).kindOf x = some .local := by rfl) (hd : (x == ("__debug__" : Str)) = false := by decide) :
    wpAny M A (eval (.Name x pos) (envOfC name scope L a cd)) Q E s := wpAny_Name (wpAny_loadName_local hk hl hn hv h) hd
def two (v u : Value) : Str → Option Value := fun y => if y = "place" then some u else if y = "code" then some v else none
structure Laid (h h' : Heap) (x C dx t1 : Addr) (v u : Value) : Prop where
  keep : ∀ b o, b ≠ x → h.get? b = some o → h'.get? b = some o
  obj : h'.get? x = some { cls := .ref C, dict := some dx, data := .fields #[.ref t1, .none, .none, .none, .bool false, .none] }
  dbig : h.objs.size ≤ dx
  dne : dx ≠ x
  ns : h'.Ns1 dx (two v u)
structure Made (h h' : Heap) (e C d : Addr) (v u : Value) : Prop where
  keep : ∀ b o, h.get? b = some o → h'.get? b = some o
  new : h.objs.size ≤ e
  obj : ∃ oe vs, h'.get? e = some oe ∧ oe.cls = .ref C ∧ oe.dict = some d ∧ oe.data = .fields vs ∧ vs[1]? = some .none
  dbig : h.objs.size ≤ d
  dne : d ≠ e
  ns : h'.Ns1 d (two v u)
section
variable {prog : Program} {w : World} {A : Around} {E : Value → Shared → Prop} {R : Result → Shared → Prop} {s : Shared} {K : Frag} {mg : Str → Option Value} {C fI : Addr}
theorem flt_init (T : FltTxt K mg C fI) {x t0 : Addr} {v u : Value} (X : K.In s.heap) (hlim : s.heap.NoLimit) (hx : s.heap.get? x = some (excO C t0)) (hnx : K.lookup x = none) (hroom : A.depth < recursionLimit)
    (hq : ∀ h' tk dx, Laid s.heap h' x C dx t0 v u → R (.ok (.ret .none)) { s with heap := h', toks := tk }) :
    codeAny (model prog w) A (.call (.ref fI) ⟨[.ref x, v, u], []⟩) R s := by
  obtain ⟨oc, od, doc, pm, an, cdv, ct, osl, p1, p2, p3, q1, q2, q3, q4, q5, q6, q7, q8, ho, hcd⟩ := T.fn
  obtain ⟨nm, q, N, bs, sn, sub, ab, col, dd, k0, k1, k2, k3, k5, hC⟩ := T.cls
  have hcl : clsIn K C = some { name := nm, bases := bs, mro := .ref C :: ESX.exTail, ns := N, qualname := q, hasDict := true, slotNames := sn, subclasses := sub, abstract := ab, collection := col, hasDel := false } := by unfold clsIn; rw [hC] <;> rfl
  refine Att.call_fn (binds := [("self", .ref x), ("code", v), ("place", u)]) X hlim ho hcd hroom (BindsTo.of_eq (by first | rfl | with_unfolding_all rfl)) (by first | rfl | decide | with_unfolding_all rfl) (fun s₁ IC => ?_) rfl rfl rfl
  obtain ⟨h₁, tk₁, rfl⟩ := IC.toInCall.same
  have k : ∀ b o, s.heap.get? b = some o → h₁.get? b = some o := IC.toInCall.keep
  have hn := IC.toInCall.ns
  have hxL : s.heap.objs.size ≠ x := Nat.ne_of_gt (Heap.lt_size hx)
  have X₁ : K.In h₁ := X.keeps k
  have hx₁ := k _ _ hx
  show wpAny _ _ (execs _ _) _ _ _
  refine wpAny_execs_cons (plainObj_wpAny_Assign_Attribute ?_)
  refine ldN (v := v) hn (by first | rfl | with_unfolding_all rfl | kernel_rfl) (ldN (v := .ref x) hn (by first | rfl | with_unfolding_all rfl | kernel_rfl) ?_)
  refine set_plain X₁ (ox := excO C t0) (od := none) ⟨hx₁, rfl, rfl, trivial⟩ T.sa ?_
  refine ESX.osa_new X₁ hx₁ hcl rfl rfl T.noC (fun h₃ tk₃ dx k₃ dn dne hx₃ hn₃ => ?_)
  have zL : s.heap.objs.size < h₁.objs.size := hn.lt
  have hn₃' := hn.at (h' := h₃) fun o e => k₃ _ o hxL e
  have X₃ : K.In h₃ := in_but X₁ hnx k₃
  show wpAny _ _ (execs _ _) _ _ _
  refine wpAny_execs_cons (plainObj_wpAny_Assign_Attribute ?_)
  refine ldN (v := u) hn₃' (by first | rfl | with_unfolding_all rfl | kernel_rfl) (ldN (v := .ref x) hn₃' (by first | rfl | with_unfolding_all rfl | kernel_rfl) ?_)
  have hw : Within (fun y => if y = ("code" : Str) then some v else none) [("code" : Str)] := fun y hy => by
    by_cases hc : y = ("code" : Str)
    · rw [hc]
      exact List.mem_singleton.mpr rfl
    · exact absurd (if_neg hc) hy
  obtain ⟨oD, _, _, hoD, _, _⟩ := hn₃.count hw
  refine set_plain X₃ (ox := { cls := .ref C, dict := some dx, data := .fields #[.ref t0, .none, .none, .none, .bool false, .none] }) (od := some oD) ⟨hx₃, rfl, rfl, hoD⟩ T.sa ?_
  refine ESX.osa_old X₃ hx₃ hn₃ hw (by decide) hcl rfl rfl T.noP (fun h₅ tk₅ k₅ hn₅ => ?_)
  show wpAny _ _ (execs _ _) _ _ _
  refine wpAny_execs_nil (hq h₅ tk₅ dx ⟨fun b o hb e => k₅ b o (Nat.ne_of_lt ?_) (k₃ b o hb (k b o e)), k₅ _ _ (Ne.symm dne) hx₃, Nat.le_of_lt (Nat.lt_of_lt_of_le zL dn), dne, hn₅⟩)
  exact Nat.lt_of_lt_of_le (Nat.lt_trans (Heap.lt_size e) zL) dn
theorem flt_made (T : FltTxt K mg C fI) {v u : Value} (X : K.In s.heap) (hlim : s.heap.NoLimit) (hroom : A.depth + 1 < recursionLimit)
    (hq : ∀ h' tk e d, Made s.heap h' e C d v u → R (.ok (.ret (.ref e))) { s with heap := h', toks := tk }) :
    codeAny (model prog w) A (.call (.ref C) ⟨[v, u], []⟩) R s := by
  obtain ⟨nm, q, N, bs, sn, sub, ab, col, dd, k0, k1, k2, k3, k5, hC⟩ := T.cls
  obtain ⟨hp, g, dr, tk, os⟩ := s
  have k : ∀ b o, hp.get? b = some o → ((hp.push (kdv_tup [v, u])).push (excO C hp.objs.size)).get? b = some o := fun b o e => Heap.get?_push_of_some _ (Heap.get?_push_of_some _ e)
  have hget : ((hp.push (kdv_tup [v, u])).push (excO C hp.objs.size)).get? (hp.objs.size + 1) = some (excO C hp.objs.size) := by heap_get
  have hnx : K.lookup (hp.objs.size + 1) = none := by
    cases e : K.lookup (hp.objs.size + 1) with
    | none => rfl
    | some o =>
      have z : hp.get? (hp.objs.size + 1) = some o := X _ _ e
      exact absurd (Nat.lt_of_succ_lt (Heap.lt_size z)) (Nat.lt_irrefl _)
  refine call_own F.excBase_Exception (fun X => rfl) (X _ _ hC) (looks_findIn X T.iC) (fun self => bind_fn X self T.tC) (two_size v u) ?_
  refine flt_init (s := ⟨(hp.push (kdv_tup [v, u])).push (excO C hp.objs.size), g, dr, tk, os⟩) T (X.keeps k) (hlim.keeps k) hget hnx ?_ fun h' tk' dx ⟨k', hx, dn, dne, hns⟩ => ?_
  · show A.depth + 1 < recursionLimit
    exact hroom
  · have old : ∀ b o, hp.get? b = some o → h'.get? b = some o := fun b o e => k' b o (Nat.ne_of_lt (Nat.lt_succ_of_lt (Heap.lt_size e))) (k b o e)
    have z : hp.objs.size + 1 + 1 ≤ dx := by
      first
        | (simpa only [Heap.size_push] using dn)
        | exact dn
        | (have q := dn; rw [Heap.size_push, Heap.size_push] at q; exact q)
    exact ⟨rfl, hq h' tk' (hp.objs.size + 1) dx ⟨old, Nat.le_succ _, ⟨_, _, hx, rfl, rfl, rfl, rfl⟩, Nat.le_trans (Nat.le_trans (Nat.le_succ _) (Nat.le_succ _)) z, dne, hns⟩⟩
end
end FltX
end PySem
namespace L2
open PySem PySem.Spec PyProof.Rows
/-- the fields of an error of the program's own -/
def fF (v u : V) : List (Str × V) := [(("code" : Str), v), (("place" : Str), u)]
theorem fF_code {v u : V} : List.lookup ("code" : Str) (fF v u) = some v := by simp [fF, List.lookup]
theorem fF_place {v u : V} : List.lookup ("place" : Str) (fF v u) = some u := by
  have q : (("place" : Str) == ("code" : Str)) = false := by decide +kernel
  simp [fF, List.lookup, q]
theorem relO_flt {v u : V} {v' u' : Value} (r : RelV v v') (r2 : RelV u u') (f : Str) : RelO (List.lookup f (fF v u)) (PySem.FltX.two v' u' f) := by
  unfold PySem.FltX.two
  by_cases hp : f = "place"
  · subst hp
    rw [if_pos rfl, fF_place]
    exact r2
  · rw [if_neg hp]
    by_cases hw : f = "code"
    · subst hw
      rw [if_pos rfl, fF_code]
      exact r
    · rw [if_neg hw]
      have qw : (f == ("code" : Str)) = false := by simpa using hw
      have qp : (f == ("place" : Str)) = false := by simpa using hp
      have q2 : List.lookup f (fF v u) = none := by simp [fF, List.lookup, qw, qp]
      rw [q2]
      trivial
section
variable {X : Cx} {C fI : Addr}
/-- Fault(e, f) -/
def tMkFlt (C : Addr) (ta : TA) : St → Hp → XK → Prop := fun σ H Q => ta σ H fun vs H1 => ∃ v u, vs = [v, u] ∧ ∀ d, H1 d = none → Q (.ref C) (some d) (upd H1 d (.xd (fF v u)))
theorem pmk_flt {a b : Expr} {ta : TA} {p pos : Pos} {k : Nat} (T : PySem.FltX.FltTxt X.K X.mg C fI) (hr : Room k X.A) (ha : PA X [a, b] ta) (hg : Gl X "Fault" := by rfl)
    (he : starEach (a :: [b]) X.env = (false, eval a X.env) :: starEach [b] X.env := by rfl) (hpl : (backTo pos (starEach [b] X.env)).any (·.1) = false := by rfl) :
    PMk X (.Call (.Name "Fault" p) [a, b] [] pos) (tMkFlt C ta) := by
  intro pins s σ H Q I h
  refine wpAny_Call_Name_kw (ld_glob I hg T.gC ?_)
  refine PySem.W.callWith_K (h₀ := X.base) I.ok.mod.kin T.kC (thn (ha.run pos pins s σ H _ I h) fun us s1 hh => ?_) he hpl
  obtain ⟨vs, H1, I1, r1, v, u, ev, q1⟩ := hh
  subst ev
  refine ⟨I1.kIn, ?_⟩
  cases r1 with
  | @cons _ v' _ _ rv rn =>
    cases rn with
    | @cons _ u' _ _ ru rn =>
      cases rn
      show wpAny _ _ (call (.ref C) [v', u']) _ _ _
      have hlim := I1.nolimit
      obtain ⟨hp, g, dr, tk, os⟩ := s1
      refine wpAny_call (PySem.FltX.flt_made T I1.kIn hlim (by have := hr.dp; omega) fun h' tk' e d M => ?_)
      show MkP X pins σ Q (.ref e) ⟨h', g, dr, tk', os⟩
      obtain ⟨oe, fv, hoe, hc, hd, hdat, h1⟩ := M.obj
      have hns := M.ns
      obtain ⟨G', g1, g2⟩ := restrict h' fun b => decide (b ≠ e)
      have gk : ∀ b, b ≠ e → G'.get? b = h'.get? b := fun b hb => g1 b (decide_eq_true hb)
      have ge : G'.get? e = none := g2 e (by simp)
      have old : ∀ b o, hp.get? b = some o → G'.get? b = some o := fun b o q => (gk b (Nat.ne_of_lt (Nat.lt_of_lt_of_le (Heap.lt_size q) M.new))).trans (M.keep b o q)
      have ob : ObjOk X.prog X.w (upd H1 d (.xd (fF v u))) G' d (.xd (fF v u)) := ⟨_, hns.at (fun o q => (gk d M.dne).trans q), fun f => relO_flt rv ru f⟩
      have J : Inv X pins σ (upd H1 d (.xd (fF v u))) ⟨G', g, dr, tk', os⟩ := I1.laid (t' := tk') old M.dbig ob
      refine ⟨e, oe, fv, ⟨G', g, dr, tk', os⟩, _, .ref C, some d, rfl, J, fun b o q => ?_, ge, hoe, ⟨hc, hd⟩, hdat, h1, ?_, rfl, I1.bare, raises_own T.exC T.tyC, q1 d (I1.hok.fresh M.dbig)⟩
      · by_cases hb : b = e
        · have q' : G'.get? b = some o := q
          rw [hb, ge] at q'; cases q'
        · exact (gk b hb).symm.trans q
      · rw [upd_ne (Ne.symm M.dne)]
        exact I1.hok.fresh M.new
/-- raise Fault(e, f) -/
def tRaiseFlt (C : Addr) (W : WX) (ta : TA) : TS := fun _ σ H => tMkFlt C ta σ H fun cls d H' => W cls d σ H'
theorem ps_raiseFlt {a b : Expr} {ta : TA} {W : WX} {p pos pos2 : Pos} {k : Nat} (hc : X.calm = true) (T : PySem.FltX.FltTxt X.K X.mg C fI) (hr : Room k X.A) (tk : Takes X W) (ha : PA X [a, b] ta) (hg : Gl X "Fault" := by rfl)
    (he : starEach (a :: [b]) X.env = (false, eval a X.env) :: starEach [b] X.env := by rfl) (hpl : (backTo pos (starEach [b] X.env)).any (·.1) = false := by rfl) :
    PS X (.Raise (some (.Call (.Name "Fault" p) [a, b] [] pos)) none pos2) (tRaiseFlt C W ta) := ps_raise hc tk (pmk_flt T hr ha hg he hpl)
/-- fault.f, fault the exception that the suite holds -/
def tFltFld (C : Addr) (f : Str) (a : Addr) (cls : Value) (d : Option Addr) (te : TE) : TE := fun σ H Q => te σ H fun x H1 => x = .ref a ∧ cls = .ref C ∧ ∃ (dd : Addr) (fs : List (Str × V)) (v : V), d = some dd ∧ H1 dd = some (.xd fs) ∧ fs.lookup f = some v ∧ Q v H1
theorem pe_fltFld {f : Str} {a : Addr} {oe : Obj} {cls : Value} {d : Option Addr} {pn : List (Addr × Obj)} {e : Expr} {te : TE} {pos : Pos} (T : PySem.FltX.FltTxt X.K X.mg C fI) (hno : PySem.W.findIn X.K (.ref C) f = some none) (hz : Zc cls d oe) (hf : ∃ vs, oe.data = .fields vs) (he : PE (X.suite a ((a, oe) :: pn)) e te)
    (hb : attributeBase e f X.env (eval e X.env) = eval e X.env := by rfl) :
    PE (X.suite a ((a, oe) :: pn)) (.Attribute e f pos) (tFltFld C f a cls d te) := by
  refine ⟨fun pins s σ H Q I h => ?_⟩
  refine attr_of hb (thn (he.run pins s σ H _ I h) fun u s1 hh => ?_)
  obtain ⟨x, H1, I1, rx, ex, ec, dd, fs, v, ed, ea, l, q⟩ := hh
  subst ex
  obtain rfl : u = Value.ref a := rx
  subst ec
  subst ed
  obtain ⟨ha, _⟩ := I1.pin (a, oe) (List.mem_append_left _ List.mem_cons_self)
  obtain ⟨vs, hd⟩ := hf
  have hx : ObjOk X.prog X.w H1 s1.heap dd (.xd fs) := I1.hok dd _ ea
  obtain ⟨mA, hns, hr⟩ := hx
  obtain ⟨od, ho, hl⟩ := lookIn_ns hns
  obtain ⟨u, hu, ru⟩ := RelO.some_of (v := v) (o := mA f) (by rw [← l]; exact hr f)
  have J : PySem.W.InstAt s1.heap a oe C (some od) := ⟨ha, hz.1, by unfold PySem.W.notCls; rw [hd] <;> rfl, by rw [hz.2]; exact ho⟩
  exact HandSPX.exc_get I1.kIn J T.ga T.gg T.exC (PySem.W.findObj_own T.hdC hno rfl (by rw [hl, hu])) (handed_of ru) ⟨v, H1, I1.tok _, ru, q⟩
end
end L2
set_option Elab.async false
set_option linter.all false
set_option maxRecDepth 100000
set_option maxHeartbeats 2000000
/-! ## The program's own error without fields: made without arguments -/
namespace L2
open PySem PySem.Spec PyProof.Rows
theorem pmk_own0 {X : Cx} {C : Addr} {bmB : List Value} {B newId initId : String} {x : Str} {p pos : Pos} (F : ExcBaseFacts B newId initId bmB) (q : PySem.W.excIn X.K C bmB newId = true) (gC : X.mg x = some (.ref C)) (kC : PySem.W.keepIn X.K (.ref C) = true) (r : Raises X (.ref C)) (hg : Gl X x)
    (hdb : (x == ("__debug__" : Str)) = false := by decide) : PMk X (.Call (.Name x p) [] [] pos) (fun _ H Q => Q (.ref C) none H) := by
  intro pins s σ H Q I h
  refine wpAny_Call_Name_kw (ld_glob I hg gC ?_ hdb)
  refine PySem.W.callWith_K0 I.kIn kC ?_
  show wpAny _ _ (call (.ref C) []) _ _ _
  obtain ⟨bm, N, nm, qn, bs, hdct, sn, sub, ab, col, dd, k0, k1, k2, k3, k5, mN, hC, hN, hni, T⟩ := exc_obj I.kIn q
  refine wpAny_call_exc_subT F T hC hN hni (fun h' e hm => ?_) (by show 0 ≤ sizeLine; exact Nat.zero_le _)
  exact mk_of I hm r h (I.hok.gone hm.new)
structure NtTxt (K : PySem.W.Frag) (mg : Str → Option Value) (C : Addr) : Prop where
  g : mg "NotTold" = some (.ref C)
  x : PySem.W.excIn K C [.type "Exception", .type "BaseException", .type "object"] "Exception.__new__" = true
  k : PySem.W.keepIn K (.ref C) = true
  b : PySem.W.subIn K (.ref C) (.type "BaseException") = some true
  t : PySem.W.typeIn K (.ref C) = some (.type "type")
  te : PySem.W.exmOne K (.ref C) (.ref C) = some true
theorem ps_raiseNt {X : Cx} {W : WX} {C : Addr} {p pos pos' : Pos} (hc : X.calm = true) (T : NtTxt X.K X.mg C) (tk : Takes X W) (hg : Gl X "NotTold" := by rfl) : PS X (.Raise (some (.Call (.Name "NotTold" p) [] [] pos)) none pos') (fun _ σ H => W (.ref C) none σ H) :=
  ps_raise hc tk (pmk_own0 PySem.F.excBase_Exception T.x T.g T.k (raises_own T.b T.t) hg)
end L2
set_option Elab.async false
set_option linter.all false
set_option maxRecDepth 100000
set_option maxHeartbeats 2000000
/-! ## The places of the text, scopes, records of what the top has written -/
namespace Pt
open PySem PySem.Spec PyProof.Rows L2 Evl
def topS (i : Nat) : Stmt := PySem.Challenge.pw_patterntables_s01_answers.main.body.getD i (.Pass ⟨0, 0, 0, 0⟩)
abbrev sNodeInit : Stmt := inClass (topS 1) 0
abbrev sNodeWayBy : Stmt := inClass (topS 1) 1
abbrev sTableInit : Stmt := inClass (topS 2) 0
abbrev sNodesAlong : Stmt := topS 3
abbrev sDigitsAt : Stmt := topS 4
abbrev sCountedEnds : Stmt := topS 5
abbrev sGoesOnRight : Stmt := topS 7
abbrev sIsRight : Stmt := topS 8
abbrev sTellsJust : Stmt := topS 9
abbrev sFaultInit : Stmt := inClass (topS 17) 0
abbrev sTokenInit : Stmt := inClass (topS 29) 0
abbrev sSpelled : Stmt := topS 30
abbrev sIsLetter : Stmt := topS 31
abbrev sIsDigit : Stmt := topS 32
abbrev sIsChunkByte : Stmt := topS 33
abbrev sRemarkEnd : Stmt := topS 34
abbrev sPastBlanks : Stmt := topS 35
abbrev sChunkEnd : Stmt := topS 36
abbrev sTokenAt : Stmt := topS 37
abbrev sReadTokens : Stmt := topS 38
abbrev sEntryInit : Stmt := inClass (topS 45) 0
abbrev sMarginOf : Stmt := topS 46
abbrev sAreWordLetters : Stmt := topS 47
abbrev sStandsBetweenLetters : Stmt := topS 48
abbrev sWordLetters : Stmt := topS 49
abbrev sEntryOfBody : Stmt := topS 50
abbrev sPatternEntry : Stmt := topS 51
abbrev sPatternListInit : Stmt := inClass (topS 56) 0
abbrev sTokenReaderInit : Stmt := inClass (topS 57) 0
abbrev sTokenReaderStands : Stmt := inClass (topS 57) 1
abbrev sTokenReaderTake : Stmt := inClass (topS 57) 2
abbrev sTokenReaderTakeKeyword : Stmt := inClass (topS 57) 3
abbrev sReadMargin : Stmt := topS 58
abbrev sReadMargins : Stmt := topS 59
abbrev sTakeBehindKeyword : Stmt := topS 60
abbrev sReadWord : Stmt := topS 61
abbrev sAllSigns : Stmt := topS 62
abbrev sWithEntry : Stmt := topS 63
abbrev sReadPattern : Stmt := topS 64
abbrev sReadList : Stmt := topS 65
abbrev sFoundInit : Stmt := inClass (topS 67) 0
abbrev sFoundPutOver : Stmt := inClass (topS 67) 1
abbrev sGoFrom : Stmt := topS 68
abbrev sLookUp : Stmt := topS 69
abbrev sPartedGaps : Stmt := topS 70
abbrev sPackerInit : Stmt := inClass (topS 72) 0
abbrev sPackerNumberOf : Stmt := inClass (topS 72) 1
abbrev sFirstSigns : Stmt := topS 73
abbrev sEntriesBehind : Stmt := topS 74
abbrev sDigitsHere : Stmt := topS 75
abbrev sNodeOf : Stmt := topS 76
abbrev sPacked : Stmt := topS 77
abbrev sNodesWithoutSharing : Stmt := topS 78
abbrev sSizes : Stmt := topS 79
abbrev sWaysThrough : Stmt := topS 80
abbrev sKeptNodes : Stmt := topS 81
abbrev sRowReaderInit : Stmt := inClass (topS 84) 0
abbrev sRowReaderIsDone : Stmt := inClass (topS 84) 1
abbrev sRowReaderTakeSome : Stmt := inClass (topS 84) 2
abbrev sRowReaderTakeNumber : Stmt := inClass (topS 84) 3
abbrev sRowReaderTakeRow : Stmt := inClass (topS 84) 4
abbrev sToldNode : Stmt := topS 87
abbrev sToldTable : Stmt := topS 88
abbrev sReadDigits : Stmt := topS 89
abbrev sReadWays : Stmt := topS 90
abbrev sReadNode : Stmt := topS 91
abbrev sReadTable : Stmt := topS 92
abbrev sHolderInit : Stmt := inClass (topS 104) 0
abbrev sLoad : Stmt := topS 105
abbrev sPatternsAndSizes : Stmt := topS 106
abbrev sStore : Stmt := topS 107
abbrev sLevelsBetween : Stmt := topS 108
abbrev sPart : Stmt := topS 109
abbrev sHoldEntries : Stmt := topS 110
abbrev sAdd : Stmt := topS 111
abbrev sDrop : Stmt := topS 112
abbrev sCheck : Stmt := topS 113
abbrev sFindPattern : Stmt := topS 114
abbrev sNodeAndEnds : Stmt := topS 115
abbrev sArgumentOf : Stmt := topS 116
abbrev sAnswerOf : Stmt := topS 117
abbrev sAnswers : Stmt := topS 118
theorem scNodesAlong : FnScope ["table", "signs", "reached", "sign", "number"] ["table", "signs"] (defScope sNodesAlong) := ⟨rfl, rfl, rfl, by decide +kernel, rfl, by decide +kernel, by decide +kernel⟩
theorem scDigitsAt : FnScope ["table", "signs", "reached"] ["table", "signs"] (defScope sDigitsAt) := ⟨rfl, rfl, rfl, by decide +kernel, rfl, by decide +kernel, by decide +kernel⟩
theorem scCountedEnds : FnScope ["table", "counts", "node", "own", "way"] ["table"] (defScope sCountedEnds) := ⟨rfl, rfl, rfl, by decide +kernel, rfl, by decide +kernel, by decide +kernel⟩
theorem scGoesOnRight : FnScope ["node", "number", "signs", "way"] ["node", "number"] (defScope sGoesOnRight) := ⟨rfl, rfl, rfl, by decide +kernel, rfl, by decide +kernel, by decide +kernel⟩
theorem scIsRight : FnScope ["table", "number", "node"] ["table"] (defScope sIsRight) := ⟨rfl, rfl, rfl, by decide +kernel, rfl, by decide +kernel, by decide +kernel⟩
theorem scTellsJust : FnScope ["table", "entries", "entry"] ["table", "entries"] (defScope sTellsJust) := ⟨rfl, rfl, rfl, by decide +kernel, rfl, by decide +kernel, by decide +kernel⟩
theorem scSpelled : FnScope ["word", "letter"] ["word"] (defScope sSpelled) := ⟨rfl, rfl, rfl, by decide +kernel, rfl, by decide +kernel, by decide +kernel⟩
theorem scIsLetter : FnScope ["byte"] ["byte"] (defScope sIsLetter) := ⟨rfl, rfl, rfl, by decide +kernel, rfl, by decide +kernel, by decide +kernel⟩
theorem scIsDigit : FnScope ["byte"] ["byte"] (defScope sIsDigit) := ⟨rfl, rfl, rfl, by decide +kernel, rfl, by decide +kernel, by decide +kernel⟩
theorem scIsChunkByte : FnScope ["byte"] ["byte"] (defScope sIsChunkByte) := ⟨rfl, rfl, rfl, by decide +kernel, rfl, by decide +kernel, by decide +kernel⟩
theorem scRemarkEnd : FnScope ["text", "begin", "place"] ["text", "begin"] (defScope sRemarkEnd) := ⟨rfl, rfl, rfl, by decide +kernel, rfl, by decide +kernel, by decide +kernel⟩
theorem scPastBlanks : FnScope ["text", "begin", "place"] ["text", "begin"] (defScope sPastBlanks) := ⟨rfl, rfl, rfl, by decide +kernel, rfl, by decide +kernel, by decide +kernel⟩
theorem scChunkEnd : FnScope ["text", "begin", "place"] ["text", "begin"] (defScope sChunkEnd) := ⟨rfl, rfl, rfl, by decide +kernel, rfl, by decide +kernel, by decide +kernel⟩
theorem scTokenAt : FnScope ["text", "place", "chunk"] ["text", "place"] (defScope sTokenAt) := ⟨rfl, rfl, rfl, by decide +kernel, rfl, by decide +kernel, by decide +kernel⟩
theorem scReadTokens : FnScope ["text", "tokens", "place", "token"] ["text"] (defScope sReadTokens) := ⟨rfl, rfl, rfl, by decide +kernel, rfl, by decide +kernel, by decide +kernel⟩
theorem scMarginOf : FnScope ["chunk", "margin"] ["chunk"] (defScope sMarginOf) := ⟨rfl, rfl, rfl, by decide +kernel, rfl, by decide +kernel, by decide +kernel⟩
theorem scAreWordLetters : FnScope ["row", "byte"] ["row"] (defScope sAreWordLetters) := ⟨rfl, rfl, rfl, by decide +kernel, rfl, by decide +kernel, by decide +kernel⟩
theorem scStandsBetweenLetters : FnScope ["chunk", "place"] ["chunk", "place"] (defScope sStandsBetweenLetters) := ⟨rfl, rfl, rfl, by decide +kernel, rfl, by decide +kernel, by decide +kernel⟩
theorem scWordLetters : FnScope ["chunk", "place", "byte", "letters"] ["chunk"] (defScope sWordLetters) := ⟨rfl, rfl, rfl, by decide +kernel, rfl, by decide +kernel, by decide +kernel⟩
theorem scEntryOfBody : FnScope ["body", "letters", "digits", "byte"] ["body"] (defScope sEntryOfBody) := ⟨rfl, rfl, rfl, by decide +kernel, rfl, by decide +kernel, by decide +kernel⟩
theorem scPatternEntry : FnScope ["chunk", "begin", "end", "front", "back", "entry"] ["chunk"] (defScope sPatternEntry) := ⟨rfl, rfl, rfl, by decide +kernel, rfl, by decide +kernel, by decide +kernel⟩
theorem scReadMargin : FnScope ["reader", "token", "margin"] ["reader"] (defScope sReadMargin) := ⟨rfl, rfl, rfl, by decide +kernel, rfl, by decide +kernel, by decide +kernel⟩
theorem scReadMargins : FnScope ["reader", "held"] ["reader", "held"] (defScope sReadMargins) := ⟨rfl, rfl, rfl, by decide +kernel, rfl, by decide +kernel, by decide +kernel⟩
theorem scTakeBehindKeyword : FnScope ["reader", "keyword", "before", "most", "token"] ["reader", "keyword", "before", "most"] (defScope sTakeBehindKeyword) := ⟨rfl, rfl, rfl, by decide +kernel, rfl, by decide +kernel, by decide +kernel⟩
theorem scReadWord : FnScope ["reader", "held", "token", "letters"] ["reader", "held"] (defScope sReadWord) := ⟨rfl, rfl, rfl, by decide +kernel, rfl, by decide +kernel, by decide +kernel⟩
theorem scAllSigns : FnScope ["entries", "entry"] ["entries"] (defScope sAllSigns) := ⟨rfl, rfl, rfl, by decide +kernel, rfl, by decide +kernel, by decide +kernel⟩
theorem scWithEntry : FnScope ["entries", "entry", "signs", "place"] ["entries", "entry"] (defScope sWithEntry) := ⟨rfl, rfl, rfl, by decide +kernel, rfl, by decide +kernel, by decide +kernel⟩
theorem scReadPattern : FnScope ["reader", "held", "token", "entry"] ["reader", "held"] (defScope sReadPattern) := ⟨rfl, rfl, rfl, by decide +kernel, rfl, by decide +kernel, by decide +kernel⟩
theorem scReadList : FnScope ["text", "reader", "held"] ["text"] (defScope sReadList) := ⟨rfl, rfl, rfl, by decide +kernel, rfl, by decide +kernel, by decide +kernel⟩
theorem scGoFrom : FnScope ["table", "signs", "begin", "found", "gap", "ahead", "reached", "number"] ["table", "signs", "begin", "found"] (defScope sGoFrom) := ⟨rfl, rfl, rfl, by decide +kernel, rfl, by decide +kernel, by decide +kernel⟩
theorem scLookUp : FnScope ["table", "letters", "signs", "found", "begin"] ["table", "letters"] (defScope sLookUp) := ⟨rfl, rfl, rfl, by decide +kernel, rfl, by decide +kernel, by decide +kernel⟩
theorem scPartedGaps : FnScope ["levels", "left", "right", "letters", "within", "gap"] ["levels", "left", "right"] (defScope sPartedGaps) := ⟨rfl, rfl, rfl, by decide +kernel, rfl, by decide +kernel, by decide +kernel⟩
theorem scFirstSigns : FnScope ["entries", "entry"] ["entries"] (defScope sFirstSigns) := ⟨rfl, rfl, rfl, by decide +kernel, rfl, by decide +kernel, by decide +kernel⟩
theorem scEntriesBehind : FnScope ["entries", "sign", "entry"] ["entries", "sign"] (defScope sEntriesBehind) := ⟨rfl, rfl, rfl, by decide +kernel, rfl, by decide +kernel, by decide +kernel⟩
theorem scDigitsHere : FnScope ["entries", "entry"] ["entries"] (defScope sDigitsHere) := ⟨rfl, rfl, rfl, by decide +kernel, rfl, by decide +kernel, by decide +kernel⟩
theorem scNodeOf : FnScope ["entries", "packer", "ways", "sign"] ["entries", "packer"] (defScope sNodeOf) := ⟨rfl, rfl, rfl, by decide +kernel, rfl, by decide +kernel, by decide +kernel⟩
theorem scPacked : FnScope ["entries", "packer", "first"] ["entries"] (defScope sPacked) := ⟨rfl, rfl, rfl, by decide +kernel, rfl, by decide +kernel, by decide +kernel⟩
theorem scNodesWithoutSharing : FnScope ["entries", "beginnings", "entry", "length"] ["entries"] (defScope sNodesWithoutSharing) := ⟨rfl, rfl, rfl, by decide +kernel, rfl, by decide +kernel, by decide +kernel⟩
theorem scSizes : FnScope ["table", "entries", "ways", "ends", "node"] ["table", "entries"] (defScope sSizes) := ⟨rfl, rfl, rfl, by decide +kernel, rfl, by decide +kernel, by decide +kernel⟩
theorem scWaysThrough : FnScope ["ways", "numbers", "way"] ["ways", "numbers"] (defScope sWaysThrough) := ⟨rfl, rfl, rfl, by decide +kernel, rfl, by decide +kernel, by decide +kernel⟩
theorem scKeptNodes : FnScope ["before", "after", "numbers_after", "number", "node", "kept", "told"] ["before", "after"] (defScope sKeptNodes) := ⟨rfl, rfl, rfl, by decide +kernel, rfl, by decide +kernel, by decide +kernel⟩
theorem scToldNode : FnScope ["node", "told", "way"] ["node"] (defScope sToldNode) := ⟨rfl, rfl, rfl, by decide +kernel, rfl, by decide +kernel, by decide +kernel⟩
theorem scToldTable : FnScope ["table", "told", "node"] ["table"] (defScope sToldTable) := ⟨rfl, rfl, rfl, by decide +kernel, rfl, by decide +kernel, by decide +kernel⟩
theorem scReadDigits : FnScope ["reader", "marker"] ["reader"] (defScope sReadDigits) := ⟨rfl, rfl, rfl, by decide +kernel, rfl, by decide +kernel, by decide +kernel⟩
theorem scReadWays : FnScope ["reader", "flat", "k"] ["reader"] (defScope sReadWays) := ⟨rfl, rfl, rfl, by decide +kernel, rfl, by decide +kernel, by decide +kernel⟩
theorem scReadNode : FnScope ["reader", "digits"] ["reader"] (defScope sReadNode) := ⟨rfl, rfl, rfl, by decide +kernel, rfl, by decide +kernel, by decide +kernel⟩
theorem scReadTable : FnScope ["numbers", "reader", "count", "nodes", "table", "number", "k"] ["numbers"] (defScope sReadTable) := ⟨rfl, rfl, rfl, by decide +kernel, rfl, by decide +kernel, by decide +kernel⟩
theorem scLoad : FnScope ["holder", "text", "held", "fault"] ["holder", "text"] (defScope sLoad) := ⟨rfl, rfl, rfl, by decide +kernel, rfl, by decide +kernel, by decide +kernel⟩
theorem scPatternsAndSizes : FnScope ["holder", "entries"] ["holder"] (defScope sPatternsAndSizes) := ⟨rfl, rfl, rfl, by decide +kernel, rfl, by decide +kernel, by decide +kernel⟩
theorem scStore : FnScope ["holder", "told"] ["holder"] (defScope sStore) := ⟨rfl, rfl, rfl, by decide +kernel, rfl, by decide +kernel, by decide +kernel⟩
theorem scLevelsBetween : FnScope ["holder", "letters", "found", "between"] ["holder", "letters"] (defScope sLevelsBetween) := ⟨rfl, rfl, rfl, by decide +kernel, rfl, by decide +kernel, by decide +kernel⟩
theorem scPart : FnScope ["holder", "letters", "found", "gaps"] ["holder", "letters"] (defScope sPart) := ⟨rfl, rfl, rfl, by decide +kernel, rfl, by decide +kernel, by decide +kernel⟩
theorem scHoldEntries : FnScope ["holder", "entries", "before"] ["holder", "entries"] (defScope sHoldEntries) := ⟨rfl, rfl, rfl, by decide +kernel, rfl, by decide +kernel, by decide +kernel⟩
theorem scAdd : FnScope ["holder", "pattern", "entry", "entries"] ["holder", "pattern"] (defScope sAdd) := ⟨rfl, rfl, rfl, by decide +kernel, rfl, by decide +kernel, by decide +kernel⟩
theorem scDrop : FnScope ["holder", "number", "entries"] ["holder", "number"] (defScope sDrop) := ⟨rfl, rfl, rfl, by decide +kernel, rfl, by decide +kernel, by decide +kernel⟩
theorem scCheck : FnScope ["holder", "numbers", "table", "just"] ["holder", "numbers"] (defScope sCheck) := ⟨rfl, rfl, rfl, by decide +kernel, rfl, by decide +kernel, by decide +kernel⟩
theorem scFindPattern : FnScope ["holder", "pattern", "entry", "is_there"] ["holder", "pattern"] (defScope sFindPattern) := ⟨rfl, rfl, rfl, by decide +kernel, rfl, by decide +kernel, by decide +kernel⟩
theorem scNodeAndEnds : FnScope ["holder", "number", "nodes"] ["holder", "number"] (defScope sNodeAndEnds) := ⟨rfl, rfl, rfl, by decide +kernel, rfl, by decide +kernel, by decide +kernel⟩
theorem scArgumentOf : FnScope ["reader", "call"] ["reader", "call"] (defScope sArgumentOf) := ⟨rfl, rfl, rfl, by decide +kernel, rfl, by decide +kernel, by decide +kernel⟩
theorem scAnswerOf : FnScope ["holder", "call", "argument"] ["holder", "call", "argument"] (defScope sAnswerOf) := ⟨rfl, rfl, rfl, by decide +kernel, rfl, by decide +kernel, by decide +kernel⟩
theorem scAnswers : FnScope ["calls", "reader", "holder", "told", "call", "answer"] ["calls"] (defScope sAnswers) := ⟨rfl, rfl, rfl, by decide +kernel, rfl, by decide +kernel, by decide +kernel⟩
theorem scNodeInit : FnScope ["self", "digits", "ways"] ["self", "digits", "ways"] (defScope sNodeInit) := ⟨rfl, rfl, rfl, by decide +kernel, rfl, by decide +kernel, by decide +kernel⟩
theorem scNodeWayBy : FnScope ["self", "sign", "way"] ["self", "sign"] (defScope sNodeWayBy) := ⟨rfl, rfl, rfl, by decide +kernel, rfl, by decide +kernel, by decide +kernel⟩
theorem scTableInit : FnScope ["self", "nodes", "first"] ["self", "nodes", "first"] (defScope sTableInit) := ⟨rfl, rfl, rfl, by decide +kernel, rfl, by decide +kernel, by decide +kernel⟩
theorem scFaultInit : FnScope ["self", "code", "place"] ["self", "code", "place"] (defScope sFaultInit) := ⟨rfl, rfl, rfl, by decide +kernel, rfl, by decide +kernel, by decide +kernel⟩
theorem scTokenInit : FnScope ["self", "kind", "place", "chunk"] ["self", "kind", "place", "chunk"] (defScope sTokenInit) := ⟨rfl, rfl, rfl, by decide +kernel, rfl, by decide +kernel, by decide +kernel⟩
theorem scEntryInit : FnScope ["self", "signs", "digits"] ["self", "signs", "digits"] (defScope sEntryInit) := ⟨rfl, rfl, rfl, by decide +kernel, rfl, by decide +kernel, by decide +kernel⟩
theorem scPatternListInit : FnScope ["self"] ["self"] (defScope sPatternListInit) := ⟨rfl, rfl, rfl, by decide +kernel, rfl, by decide +kernel, by decide +kernel⟩
theorem scTokenReaderInit : FnScope ["self", "tokens"] ["self", "tokens"] (defScope sTokenReaderInit) := ⟨rfl, rfl, rfl, by decide +kernel, rfl, by decide +kernel, by decide +kernel⟩
theorem scTokenReaderStands : FnScope ["self", "keyword"] ["self", "keyword"] (defScope sTokenReaderStands) := ⟨rfl, rfl, rfl, by decide +kernel, rfl, by decide +kernel, by decide +kernel⟩
theorem scTokenReaderTake : FnScope ["self", "kind", "token"] ["self", "kind"] (defScope sTokenReaderTake) := ⟨rfl, rfl, rfl, by decide +kernel, rfl, by decide +kernel, by decide +kernel⟩
theorem scTokenReaderTakeKeyword : FnScope ["self", "keyword"] ["self", "keyword"] (defScope sTokenReaderTakeKeyword) := ⟨rfl, rfl, rfl, by decide +kernel, rfl, by decide +kernel, by decide +kernel⟩
theorem scFoundInit : FnScope ["self", "gaps"] ["self", "gaps"] (defScope sFoundInit) := ⟨rfl, rfl, rfl, by decide +kernel, rfl, by decide +kernel, by decide +kernel⟩
theorem scFoundPutOver : FnScope ["self", "digits", "gap", "k", "digit"] ["self", "digits", "gap"] (defScope sFoundPutOver) := ⟨rfl, rfl, rfl, by decide +kernel, rfl, by decide +kernel, by decide +kernel⟩
theorem scPackerInit : FnScope ["self"] ["self"] (defScope sPackerInit) := ⟨rfl, rfl, rfl, by decide +kernel, rfl, by decide +kernel, by decide +kernel⟩
theorem scPackerNumberOf : FnScope ["self", "digits", "ways", "told"] ["self", "digits", "ways"] (defScope sPackerNumberOf) := ⟨rfl, rfl, rfl, by decide +kernel, rfl, by decide +kernel, by decide +kernel⟩
theorem scRowReaderInit : FnScope ["self", "numbers"] ["self", "numbers"] (defScope sRowReaderInit) := ⟨rfl, rfl, rfl, by decide +kernel, rfl, by decide +kernel, by decide +kernel⟩
theorem scRowReaderIsDone : FnScope ["self"] ["self"] (defScope sRowReaderIsDone) := ⟨rfl, rfl, rfl, by decide +kernel, rfl, by decide +kernel, by decide +kernel⟩
theorem scRowReaderTakeSome : FnScope ["self", "count", "end", "taken"] ["self", "count"] (defScope sRowReaderTakeSome) := ⟨rfl, rfl, rfl, by decide +kernel, rfl, by decide +kernel, by decide +kernel⟩
theorem scRowReaderTakeNumber : FnScope ["self"] ["self"] (defScope sRowReaderTakeNumber) := ⟨rfl, rfl, rfl, by decide +kernel, rfl, by decide +kernel, by decide +kernel⟩
theorem scRowReaderTakeRow : FnScope ["self"] ["self"] (defScope sRowReaderTakeRow) := ⟨rfl, rfl, rfl, by decide +kernel, rfl, by decide +kernel, by decide +kernel⟩
theorem scHolderInit : FnScope ["self"] ["self"] (defScope sHolderInit) := ⟨rfl, rfl, rfl, by decide +kernel, rfl, by decide +kernel, by decide +kernel⟩
theorem bdNodesAlong {K : PySem.W.Frag} {f : Addr} {fd : FuncData} (F : Fun K "nodes_along" "nodes_along" sNodesAlong f fd) : Binds K fd ["table", "signs"] [] := F.binds fun _ _ _ _ _ _ us hl => match us, hl with | [_, _], _ => rfl
theorem bdDigitsAt {K : PySem.W.Frag} {f : Addr} {fd : FuncData} (F : Fun K "digits_at" "digits_at" sDigitsAt f fd) : Binds K fd ["table", "signs"] [] := F.binds fun _ _ _ _ _ _ us hl => match us, hl with | [_, _], _ => rfl
theorem bdCountedEnds {K : PySem.W.Frag} {f : Addr} {fd : FuncData} (F : Fun K "counted_ends" "counted_ends" sCountedEnds f fd) : Binds K fd ["table"] [] := F.binds fun _ _ _ _ _ _ us hl => match us, hl with | [_], _ => rfl
theorem bdGoesOnRight {K : PySem.W.Frag} {f : Addr} {fd : FuncData} (F : Fun K "goes_on_right" "goes_on_right" sGoesOnRight f fd) : Binds K fd ["node", "number"] [] := F.binds fun _ _ _ _ _ _ us hl => match us, hl with | [_, _], _ => rfl
theorem bdIsRight {K : PySem.W.Frag} {f : Addr} {fd : FuncData} (F : Fun K "is_right" "is_right" sIsRight f fd) : Binds K fd ["table"] [] := F.binds fun _ _ _ _ _ _ us hl => match us, hl with | [_], _ => rfl
theorem bdTellsJust {K : PySem.W.Frag} {f : Addr} {fd : FuncData} (F : Fun K "tells_just" "tells_just" sTellsJust f fd) : Binds K fd ["table", "entries"] [] := F.binds fun _ _ _ _ _ _ us hl => match us, hl with | [_, _], _ => rfl
theorem bdSpelled {K : PySem.W.Frag} {f : Addr} {fd : FuncData} (F : Fun K "spelled" "spelled" sSpelled f fd) : Binds K fd ["word"] [] := F.binds fun _ _ _ _ _ _ us hl => match us, hl with | [_], _ => rfl
theorem bdIsLetter {K : PySem.W.Frag} {f : Addr} {fd : FuncData} (F : Fun K "is_letter" "is_letter" sIsLetter f fd) : Binds K fd ["byte"] [] := F.binds fun _ _ _ _ _ _ us hl => match us, hl with | [_], _ => rfl
theorem bdIsDigit {K : PySem.W.Frag} {f : Addr} {fd : FuncData} (F : Fun K "is_digit" "is_digit" sIsDigit f fd) : Binds K fd ["byte"] [] := F.binds fun _ _ _ _ _ _ us hl => match us, hl with | [_], _ => rfl
theorem bdIsChunkByte {K : PySem.W.Frag} {f : Addr} {fd : FuncData} (F : Fun K "is_chunk_byte" "is_chunk_byte" sIsChunkByte f fd) : Binds K fd ["byte"] [] := F.binds fun _ _ _ _ _ _ us hl => match us, hl with | [_], _ => rfl
theorem bdRemarkEnd {K : PySem.W.Frag} {f : Addr} {fd : FuncData} (F : Fun K "remark_end" "remark_end" sRemarkEnd f fd) : Binds K fd ["text", "begin"] [] := F.binds fun _ _ _ _ _ _ us hl => match us, hl with | [_, _], _ => rfl
theorem bdPastBlanks {K : PySem.W.Frag} {f : Addr} {fd : FuncData} (F : Fun K "past_blanks" "past_blanks" sPastBlanks f fd) : Binds K fd ["text", "begin"] [] := F.binds fun _ _ _ _ _ _ us hl => match us, hl with | [_, _], _ => rfl
theorem bdChunkEnd {K : PySem.W.Frag} {f : Addr} {fd : FuncData} (F : Fun K "chunk_end" "chunk_end" sChunkEnd f fd) : Binds K fd ["text", "begin"] [] := F.binds fun _ _ _ _ _ _ us hl => match us, hl with | [_, _], _ => rfl
theorem bdTokenAt {K : PySem.W.Frag} {f : Addr} {fd : FuncData} (F : Fun K "token_at" "token_at" sTokenAt f fd) : Binds K fd ["text", "place"] [] := F.binds fun _ _ _ _ _ _ us hl => match us, hl with | [_, _], _ => rfl
theorem bdReadTokens {K : PySem.W.Frag} {f : Addr} {fd : FuncData} (F : Fun K "read_tokens" "read_tokens" sReadTokens f fd) : Binds K fd ["text"] [] := F.binds fun _ _ _ _ _ _ us hl => match us, hl with | [_], _ => rfl
theorem bdMarginOf {K : PySem.W.Frag} {f : Addr} {fd : FuncData} (F : Fun K "margin_of" "margin_of" sMarginOf f fd) : Binds K fd ["chunk"] [] := F.binds fun _ _ _ _ _ _ us hl => match us, hl with | [_], _ => rfl
theorem bdAreWordLetters {K : PySem.W.Frag} {f : Addr} {fd : FuncData} (F : Fun K "are_word_letters" "are_word_letters" sAreWordLetters f fd) : Binds K fd ["row"] [] := F.binds fun _ _ _ _ _ _ us hl => match us, hl with | [_], _ => rfl
theorem bdStandsBetweenLetters {K : PySem.W.Frag} {f : Addr} {fd : FuncData} (F : Fun K "stands_between_letters" "stands_between_letters" sStandsBetweenLetters f fd) : Binds K fd ["chunk", "place"] [] := F.binds fun _ _ _ _ _ _ us hl => match us, hl with | [_, _], _ => rfl
theorem bdWordLetters {K : PySem.W.Frag} {f : Addr} {fd : FuncData} (F : Fun K "word_letters" "word_letters" sWordLetters f fd) : Binds K fd ["chunk"] [] := F.binds fun _ _ _ _ _ _ us hl => match us, hl with | [_], _ => rfl
theorem bdEntryOfBody {K : PySem.W.Frag} {f : Addr} {fd : FuncData} (F : Fun K "entry_of_body" "entry_of_body" sEntryOfBody f fd) : Binds K fd ["body"] [] := F.binds fun _ _ _ _ _ _ us hl => match us, hl with | [_], _ => rfl
theorem bdPatternEntry {K : PySem.W.Frag} {f : Addr} {fd : FuncData} (F : Fun K "pattern_entry" "pattern_entry" sPatternEntry f fd) : Binds K fd ["chunk"] [] := F.binds fun _ _ _ _ _ _ us hl => match us, hl with | [_], _ => rfl
theorem bdReadMargin {K : PySem.W.Frag} {f : Addr} {fd : FuncData} (F : Fun K "read_margin" "read_margin" sReadMargin f fd) : Binds K fd ["reader"] [] := F.binds fun _ _ _ _ _ _ us hl => match us, hl with | [_], _ => rfl
theorem bdReadMargins {K : PySem.W.Frag} {f : Addr} {fd : FuncData} (F : Fun K "read_margins" "read_margins" sReadMargins f fd) : Binds K fd ["reader", "held"] [] := F.binds fun _ _ _ _ _ _ us hl => match us, hl with | [_, _], _ => rfl
theorem bdTakeBehindKeyword {K : PySem.W.Frag} {f : Addr} {fd : FuncData} (F : Fun K "take_behind_keyword" "take_behind_keyword" sTakeBehindKeyword f fd) : Binds K fd ["reader", "keyword", "before", "most"] [] := F.binds fun _ _ _ _ _ _ us hl => match us, hl with | [_, _, _, _], _ => rfl
theorem bdReadWord {K : PySem.W.Frag} {f : Addr} {fd : FuncData} (F : Fun K "read_word" "read_word" sReadWord f fd) : Binds K fd ["reader", "held"] [] := F.binds fun _ _ _ _ _ _ us hl => match us, hl with | [_, _], _ => rfl
theorem bdAllSigns {K : PySem.W.Frag} {f : Addr} {fd : FuncData} (F : Fun K "all_signs" "all_signs" sAllSigns f fd) : Binds K fd ["entries"] [] := F.binds fun _ _ _ _ _ _ us hl => match us, hl with | [_], _ => rfl
theorem bdWithEntry {K : PySem.W.Frag} {f : Addr} {fd : FuncData} (F : Fun K "with_entry" "with_entry" sWithEntry f fd) : Binds K fd ["entries", "entry"] [] := F.binds fun _ _ _ _ _ _ us hl => match us, hl with | [_, _], _ => rfl
theorem bdReadPattern {K : PySem.W.Frag} {f : Addr} {fd : FuncData} (F : Fun K "read_pattern" "read_pattern" sReadPattern f fd) : Binds K fd ["reader", "held"] [] := F.binds fun _ _ _ _ _ _ us hl => match us, hl with | [_, _], _ => rfl
theorem bdReadList {K : PySem.W.Frag} {f : Addr} {fd : FuncData} (F : Fun K "read_list" "read_list" sReadList f fd) : Binds K fd ["text"] [] := F.binds fun _ _ _ _ _ _ us hl => match us, hl with | [_], _ => rfl
theorem bdGoFrom {K : PySem.W.Frag} {f : Addr} {fd : FuncData} (F : Fun K "go_from" "go_from" sGoFrom f fd) : Binds K fd ["table", "signs", "begin", "found"] [] := F.binds fun _ _ _ _ _ _ us hl => match us, hl with | [_, _, _, _], _ => rfl
theorem bdLookUp {K : PySem.W.Frag} {f : Addr} {fd : FuncData} (F : Fun K "look_up" "look_up" sLookUp f fd) : Binds K fd ["table", "letters"] [] := F.binds fun _ _ _ _ _ _ us hl => match us, hl with | [_, _], _ => rfl
theorem bdPartedGaps {K : PySem.W.Frag} {f : Addr} {fd : FuncData} (F : Fun K "parted_gaps" "parted_gaps" sPartedGaps f fd) : Binds K fd ["levels", "left", "right"] [] := F.binds fun _ _ _ _ _ _ us hl => match us, hl with | [_, _, _], _ => rfl
theorem bdFirstSigns {K : PySem.W.Frag} {f : Addr} {fd : FuncData} (F : Fun K "first_signs" "first_signs" sFirstSigns f fd) : Binds K fd ["entries"] [] := F.binds fun _ _ _ _ _ _ us hl => match us, hl with | [_], _ => rfl
theorem bdEntriesBehind {K : PySem.W.Frag} {f : Addr} {fd : FuncData} (F : Fun K "entries_behind" "entries_behind" sEntriesBehind f fd) : Binds K fd ["entries", "sign"] [] := F.binds fun _ _ _ _ _ _ us hl => match us, hl with | [_, _], _ => rfl
theorem bdDigitsHere {K : PySem.W.Frag} {f : Addr} {fd : FuncData} (F : Fun K "digits_here" "digits_here" sDigitsHere f fd) : Binds K fd ["entries"] [] := F.binds fun _ _ _ _ _ _ us hl => match us, hl with | [_], _ => rfl
theorem bdNodeOf {K : PySem.W.Frag} {f : Addr} {fd : FuncData} (F : Fun K "node_of" "node_of" sNodeOf f fd) : Binds K fd ["entries", "packer"] [] := F.binds fun _ _ _ _ _ _ us hl => match us, hl with | [_, _], _ => rfl
theorem bdPacked {K : PySem.W.Frag} {f : Addr} {fd : FuncData} (F : Fun K "packed" "packed" sPacked f fd) : Binds K fd ["entries"] [] := F.binds fun _ _ _ _ _ _ us hl => match us, hl with | [_], _ => rfl
theorem bdNodesWithoutSharing {K : PySem.W.Frag} {f : Addr} {fd : FuncData} (F : Fun K "nodes_without_sharing" "nodes_without_sharing" sNodesWithoutSharing f fd) : Binds K fd ["entries"] [] := F.binds fun _ _ _ _ _ _ us hl => match us, hl with | [_], _ => rfl
theorem bdSizes {K : PySem.W.Frag} {f : Addr} {fd : FuncData} (F : Fun K "sizes" "sizes" sSizes f fd) : Binds K fd ["table", "entries"] [] := F.binds fun _ _ _ _ _ _ us hl => match us, hl with | [_, _], _ => rfl
theorem bdWaysThrough {K : PySem.W.Frag} {f : Addr} {fd : FuncData} (F : Fun K "ways_through" "ways_through" sWaysThrough f fd) : Binds K fd ["ways", "numbers"] [] := F.binds fun _ _ _ _ _ _ us hl => match us, hl with | [_, _], _ => rfl
theorem bdKeptNodes {K : PySem.W.Frag} {f : Addr} {fd : FuncData} (F : Fun K "kept_nodes" "kept_nodes" sKeptNodes f fd) : Binds K fd ["before", "after"] [] := F.binds fun _ _ _ _ _ _ us hl => match us, hl with | [_, _], _ => rfl
theorem bdToldNode {K : PySem.W.Frag} {f : Addr} {fd : FuncData} (F : Fun K "told_node" "told_node" sToldNode f fd) : Binds K fd ["node"] [] := F.binds fun _ _ _ _ _ _ us hl => match us, hl with | [_], _ => rfl
theorem bdToldTable {K : PySem.W.Frag} {f : Addr} {fd : FuncData} (F : Fun K "told_table" "told_table" sToldTable f fd) : Binds K fd ["table"] [] := F.binds fun _ _ _ _ _ _ us hl => match us, hl with | [_], _ => rfl
theorem bdReadDigits {K : PySem.W.Frag} {f : Addr} {fd : FuncData} (F : Fun K "read_digits" "read_digits" sReadDigits f fd) : Binds K fd ["reader"] [] := F.binds fun _ _ _ _ _ _ us hl => match us, hl with | [_], _ => rfl
theorem bdReadWays {K : PySem.W.Frag} {f : Addr} {fd : FuncData} (F : Fun K "read_ways" "read_ways" sReadWays f fd) : Binds K fd ["reader"] [] := F.binds fun _ _ _ _ _ _ us hl => match us, hl with | [_], _ => rfl
theorem bdReadNode {K : PySem.W.Frag} {f : Addr} {fd : FuncData} (F : Fun K "read_node" "read_node" sReadNode f fd) : Binds K fd ["reader"] [] := F.binds fun _ _ _ _ _ _ us hl => match us, hl with | [_], _ => rfl
theorem bdReadTable {K : PySem.W.Frag} {f : Addr} {fd : FuncData} (F : Fun K "read_table" "read_table" sReadTable f fd) : Binds K fd ["numbers"] [] := F.binds fun _ _ _ _ _ _ us hl => match us, hl with | [_], _ => rfl
theorem bdLoad {K : PySem.W.Frag} {f : Addr} {fd : FuncData} (F : Fun K "load" "load" sLoad f fd) : Binds K fd ["holder", "text"] [] := F.binds fun _ _ _ _ _ _ us hl => match us, hl with | [_, _], _ => rfl
theorem bdPatternsAndSizes {K : PySem.W.Frag} {f : Addr} {fd : FuncData} (F : Fun K "patterns_and_sizes" "patterns_and_sizes" sPatternsAndSizes f fd) : Binds K fd ["holder"] [] := F.binds fun _ _ _ _ _ _ us hl => match us, hl with | [_], _ => rfl
theorem bdStore {K : PySem.W.Frag} {f : Addr} {fd : FuncData} (F : Fun K "store" "store" sStore f fd) : Binds K fd ["holder"] [] := F.binds fun _ _ _ _ _ _ us hl => match us, hl with | [_], _ => rfl
theorem bdLevelsBetween {K : PySem.W.Frag} {f : Addr} {fd : FuncData} (F : Fun K "levels_between" "levels_between" sLevelsBetween f fd) : Binds K fd ["holder", "letters"] [] := F.binds fun _ _ _ _ _ _ us hl => match us, hl with | [_, _], _ => rfl
theorem bdPart {K : PySem.W.Frag} {f : Addr} {fd : FuncData} (F : Fun K "part" "part" sPart f fd) : Binds K fd ["holder", "letters"] [] := F.binds fun _ _ _ _ _ _ us hl => match us, hl with | [_, _], _ => rfl
theorem bdHoldEntries {K : PySem.W.Frag} {f : Addr} {fd : FuncData} (F : Fun K "hold_entries" "hold_entries" sHoldEntries f fd) : Binds K fd ["holder", "entries"] [] := F.binds fun _ _ _ _ _ _ us hl => match us, hl with | [_, _], _ => rfl
theorem bdAdd {K : PySem.W.Frag} {f : Addr} {fd : FuncData} (F : Fun K "add" "add" sAdd f fd) : Binds K fd ["holder", "pattern"] [] := F.binds fun _ _ _ _ _ _ us hl => match us, hl with | [_, _], _ => rfl
theorem bdDrop {K : PySem.W.Frag} {f : Addr} {fd : FuncData} (F : Fun K "drop" "drop" sDrop f fd) : Binds K fd ["holder", "number"] [] := F.binds fun _ _ _ _ _ _ us hl => match us, hl with | [_, _], _ => rfl
theorem bdCheck {K : PySem.W.Frag} {f : Addr} {fd : FuncData} (F : Fun K "check" "check" sCheck f fd) : Binds K fd ["holder", "numbers"] [] := F.binds fun _ _ _ _ _ _ us hl => match us, hl with | [_, _], _ => rfl
theorem bdFindPattern {K : PySem.W.Frag} {f : Addr} {fd : FuncData} (F : Fun K "find_pattern" "find_pattern" sFindPattern f fd) : Binds K fd ["holder", "pattern"] [] := F.binds fun _ _ _ _ _ _ us hl => match us, hl with | [_, _], _ => rfl
theorem bdNodeAndEnds {K : PySem.W.Frag} {f : Addr} {fd : FuncData} (F : Fun K "node_and_ends" "node_and_ends" sNodeAndEnds f fd) : Binds K fd ["holder", "number"] [] := F.binds fun _ _ _ _ _ _ us hl => match us, hl with | [_, _], _ => rfl
theorem bdArgumentOf {K : PySem.W.Frag} {f : Addr} {fd : FuncData} (F : Fun K "argument_of" "argument_of" sArgumentOf f fd) : Binds K fd ["reader", "call"] [] := F.binds fun _ _ _ _ _ _ us hl => match us, hl with | [_, _], _ => rfl
theorem bdAnswerOf {K : PySem.W.Frag} {f : Addr} {fd : FuncData} (F : Fun K "answer_of" "answer_of" sAnswerOf f fd) : Binds K fd ["holder", "call", "argument"] [] := F.binds fun _ _ _ _ _ _ us hl => match us, hl with | [_, _, _], _ => rfl
theorem bdAnswers {K : PySem.W.Frag} {f : Addr} {fd : FuncData} (F : Fun K "answers" "answers" sAnswers f fd) : Binds K fd ["calls"] [] := F.binds fun _ _ _ _ _ _ us hl => match us, hl with | [_], _ => rfl
theorem bdNodeInit {K : PySem.W.Frag} {f : Addr} {fd : FuncData} (F : Fun K "__init__" "Node.__init__" sNodeInit f fd) : Binds K fd ["self", "digits", "ways"] [] := F.binds fun _ _ _ _ _ _ us hl => match us, hl with | [_, _, _], _ => rfl
theorem bdNodeWayBy {K : PySem.W.Frag} {f : Addr} {fd : FuncData} (F : Fun K "way_by" "Node.way_by" sNodeWayBy f fd) : Binds K fd ["self", "sign"] [] := F.binds fun _ _ _ _ _ _ us hl => match us, hl with | [_, _], _ => rfl
theorem bdTableInit {K : PySem.W.Frag} {f : Addr} {fd : FuncData} (F : Fun K "__init__" "Table.__init__" sTableInit f fd) : Binds K fd ["self", "nodes", "first"] [] := F.binds fun _ _ _ _ _ _ us hl => match us, hl with | [_, _, _], _ => rfl
theorem bdFaultInit {K : PySem.W.Frag} {f : Addr} {fd : FuncData} (F : Fun K "__init__" "Fault.__init__" sFaultInit f fd) : Binds K fd ["self", "code", "place"] [] := F.binds fun _ _ _ _ _ _ us hl => match us, hl with | [_, _, _], _ => rfl
theorem bdTokenInit {K : PySem.W.Frag} {f : Addr} {fd : FuncData} (F : Fun K "__init__" "Token.__init__" sTokenInit f fd) : Binds K fd ["self", "kind", "place", "chunk"] [] := F.binds fun _ _ _ _ _ _ us hl => match us, hl with | [_, _, _, _], _ => rfl
theorem bdEntryInit {K : PySem.W.Frag} {f : Addr} {fd : FuncData} (F : Fun K "__init__" "Entry.__init__" sEntryInit f fd) : Binds K fd ["self", "signs", "digits"] [] := F.binds fun _ _ _ _ _ _ us hl => match us, hl with | [_, _, _], _ => rfl
theorem bdPatternListInit {K : PySem.W.Frag} {f : Addr} {fd : FuncData} (F : Fun K "__init__" "PatternList.__init__" sPatternListInit f fd) : Binds K fd ["self"] [] := F.binds fun _ _ _ _ _ _ us hl => match us, hl with | [_], _ => rfl
theorem bdTokenReaderInit {K : PySem.W.Frag} {f : Addr} {fd : FuncData} (F : Fun K "__init__" "TokenReader.__init__" sTokenReaderInit f fd) : Binds K fd ["self", "tokens"] [] := F.binds fun _ _ _ _ _ _ us hl => match us, hl with | [_, _], _ => rfl
theorem bdTokenReaderStands {K : PySem.W.Frag} {f : Addr} {fd : FuncData} (F : Fun K "stands" "TokenReader.stands" sTokenReaderStands f fd) : Binds K fd ["self", "keyword"] [] := F.binds fun _ _ _ _ _ _ us hl => match us, hl with | [_, _], _ => rfl
theorem bdTokenReaderTake {K : PySem.W.Frag} {f : Addr} {fd : FuncData} (F : Fun K "take" "TokenReader.take" sTokenReaderTake f fd) : Binds K fd ["self", "kind"] [] := F.binds fun _ _ _ _ _ _ us hl => match us, hl with | [_, _], _ => rfl
theorem bdTokenReaderTakeKeyword {K : PySem.W.Frag} {f : Addr} {fd : FuncData} (F : Fun K "take_keyword" "TokenReader.take_keyword" sTokenReaderTakeKeyword f fd) : Binds K fd ["self", "keyword"] [] := F.binds fun _ _ _ _ _ _ us hl => match us, hl with | [_, _], _ => rfl
theorem bdFoundInit {K : PySem.W.Frag} {f : Addr} {fd : FuncData} (F : Fun K "__init__" "Found.__init__" sFoundInit f fd) : Binds K fd ["self", "gaps"] [] := F.binds fun _ _ _ _ _ _ us hl => match us, hl with | [_, _], _ => rfl
theorem bdFoundPutOver {K : PySem.W.Frag} {f : Addr} {fd : FuncData} (F : Fun K "put_over" "Found.put_over" sFoundPutOver f fd) : Binds K fd ["self", "digits", "gap"] [] := F.binds fun _ _ _ _ _ _ us hl => match us, hl with | [_, _, _], _ => rfl
theorem bdPackerInit {K : PySem.W.Frag} {f : Addr} {fd : FuncData} (F : Fun K "__init__" "Packer.__init__" sPackerInit f fd) : Binds K fd ["self"] [] := F.binds fun _ _ _ _ _ _ us hl => match us, hl with | [_], _ => rfl
theorem bdPackerNumberOf {K : PySem.W.Frag} {f : Addr} {fd : FuncData} (F : Fun K "number_of" "Packer.number_of" sPackerNumberOf f fd) : Binds K fd ["self", "digits", "ways"] [] := F.binds fun _ _ _ _ _ _ us hl => match us, hl with | [_, _, _], _ => rfl
theorem bdRowReaderInit {K : PySem.W.Frag} {f : Addr} {fd : FuncData} (F : Fun K "__init__" "RowReader.__init__" sRowReaderInit f fd) : Binds K fd ["self", "numbers"] [] := F.binds fun _ _ _ _ _ _ us hl => match us, hl with | [_, _], _ => rfl
theorem bdRowReaderIsDone {K : PySem.W.Frag} {f : Addr} {fd : FuncData} (F : Fun K "is_done" "RowReader.is_done" sRowReaderIsDone f fd) : Binds K fd ["self"] [] := F.binds fun _ _ _ _ _ _ us hl => match us, hl with | [_], _ => rfl
theorem bdRowReaderTakeSome {K : PySem.W.Frag} {f : Addr} {fd : FuncData} (F : Fun K "take_some" "RowReader.take_some" sRowReaderTakeSome f fd) : Binds K fd ["self", "count"] [] := F.binds fun _ _ _ _ _ _ us hl => match us, hl with | [_, _], _ => rfl
theorem bdRowReaderTakeNumber {K : PySem.W.Frag} {f : Addr} {fd : FuncData} (F : Fun K "take_number" "RowReader.take_number" sRowReaderTakeNumber f fd) : Binds K fd ["self"] [] := F.binds fun _ _ _ _ _ _ us hl => match us, hl with | [_], _ => rfl
theorem bdRowReaderTakeRow {K : PySem.W.Frag} {f : Addr} {fd : FuncData} (F : Fun K "take_row" "RowReader.take_row" sRowReaderTakeRow f fd) : Binds K fd ["self"] [] := F.binds fun _ _ _ _ _ _ us hl => match us, hl with | [_], _ => rfl
theorem bdHolderInit {K : PySem.W.Frag} {f : Addr} {fd : FuncData} (F : Fun K "__init__" "Holder.__init__" sHolderInit f fd) : Binds K fd ["self"] [] := F.binds fun _ _ _ _ _ _ us hl => match us, hl with | [_], _ => rfl
/-- a name of the top that stands for a value -/
def GlV (mg : Str → Option Value) (x : Str) (v : V) : Prop := ∃ u, mg x = some u ∧ RelV v u
/-- .. for a written tuple -/
structure GlT (K : PySem.W.Frag) (mg : Str → Option Value) (x : Str) (xs : List V) where
  a : Addr
  m : mg x = some (.ref a)
  t : ∀ H, SqT K H a xs
structure FnR (K : PySem.W.Frag) (mg : Str → Option Value) (x : Str) (st : Stmt) where
  f : Addr
  fd : FuncData
  F : Fun K x x st f fd
  m : mg x = some (.ref f)
structure MthR (K : PySem.W.Frag) (C : Addr) (x qual : Str) (st : Stmt) where
  f : Addr
  fd : FuncData
  F : Fun K x qual st f fd
  M : Meth K C x f
structure ClsR (K : PySem.W.Frag) (mg : Str → Option Value) (x qual : Str) (st : Stmt) where
  C : Addr
  f : Addr
  fd : FuncData
  F : Fun K "__init__" qual st f fd
  m : mg x = some (.ref C)
  cl : Cls K C
  mkc : Mk K C f
/-- what the top has written: each def, class and constant, and that the built-in names are free -/
structure Tx (K : PySem.W.Frag) (mg : Str → Option Value) : Type where
  k_TEXT_TOO_LONG : GlV mg "TEXT_TOO_LONG" (.int 1)
  k_NO_TOKEN : GlV mg "NO_TOKEN" (.int 2)
  k_NOT_ALLOWED : GlV mg "NOT_ALLOWED" (.int 3)
  k_TOO_MANY : GlV mg "TOO_MANY" (.int 4)
  k_TOLD_BEFORE : GlV mg "TOLD_BEFORE" (.int 5)
  k_NOT_AS_TOLD : GlV mg "NOT_AS_TOLD" (.int 7)
  k_BLANKS : GlT K mg "BLANKS" [.int 32, .int 9, .int 10]
  k_LINE_END : GlV mg "LINE_END" (.int 10)
  k_REMARK : GlV mg "REMARK" (.int 35)
  k_SEMICOLON : GlV mg "SEMICOLON" (.int 59)
  k_HYPHEN : GlV mg "HYPHEN" (.int 45)
  k_POINT : GlV mg "POINT" (.int 46)
  k_CHUNK : GlV mg "CHUNK" (.str "chunk")
  k_SIGN : GlV mg "SIGN" (.str "sign")
  k_END : GlV mg "END" (.str "end")
  k_LONGEST_CHUNK : GlV mg "LONGEST_CHUNK" (.int 40)
  k_GREATEST_MARGIN : GlV mg "GREATEST_MARGIN" (.int 5)
  k_FEWEST_LETTERS : GlV mg "FEWEST_LETTERS" (.int 2)
  k_MOST_LETTERS : GlV mg "MOST_LETTERS" (.int 16)
  k_MOST_PATTERN_LETTERS : GlV mg "MOST_PATTERN_LETTERS" (.int 6)
  k_EDGE : GlV mg "EDGE" (.int 0)
  k_LONGEST_TEXT : GlV mg "LONGEST_TEXT" (.int 4096)
  k_MOST_WORDS : GlV mg "MOST_WORDS" (.int 24)
  k_MOST_PATTERNS : GlV mg "MOST_PATTERNS" (.int 40)
  k_MOST_NODES : GlV mg "MOST_NODES" (.int 300)
  k_LOAD : GlV mg "LOAD" (.int 0)
  k_TABLE : GlV mg "TABLE" (.int 1)
  k_STORE : GlV mg "STORE" (.int 2)
  k_LEVELS : GlV mg "LEVELS" (.int 3)
  k_PART : GlV mg "PART" (.int 4)
  k_ADD : GlV mg "ADD" (.int 5)
  k_DROP : GlV mg "DROP" (.int 6)
  k_CHECK : GlV mg "CHECK" (.int 7)
  k_FIND : GlV mg "FIND" (.int 8)
  k_NODE : GlV mg "NODE" (.int 9)
  b_Exception : mg "Exception" = none
  b_all : mg "all" = none
  b_any : mg "any" = none
  b_enumerate : mg "enumerate" = none
  b_len : mg "len" = none
  b_list : mg "list" = none
  b_max : mg "max" = none
  b_min : mg "min" = none
  b_ord : mg "ord" = none
  b_range : mg "range" = none
  b_set : mg "set" = none
  b_sorted : mg "sorted" = none
  b_sum : mg "sum" = none
  b_tuple : mg "tuple" = none
  nodes_along : FnR K mg "nodes_along" sNodesAlong
  digits_at : FnR K mg "digits_at" sDigitsAt
  counted_ends : FnR K mg "counted_ends" sCountedEnds
  goes_on_right : FnR K mg "goes_on_right" sGoesOnRight
  is_right : FnR K mg "is_right" sIsRight
  tells_just : FnR K mg "tells_just" sTellsJust
  spelled : FnR K mg "spelled" sSpelled
  is_letter : FnR K mg "is_letter" sIsLetter
  is_digit : FnR K mg "is_digit" sIsDigit
  is_chunk_byte : FnR K mg "is_chunk_byte" sIsChunkByte
  remark_end : FnR K mg "remark_end" sRemarkEnd
  past_blanks : FnR K mg "past_blanks" sPastBlanks
  chunk_end : FnR K mg "chunk_end" sChunkEnd
  token_at : FnR K mg "token_at" sTokenAt
  read_tokens : FnR K mg "read_tokens" sReadTokens
  margin_of : FnR K mg "margin_of" sMarginOf
  are_word_letters : FnR K mg "are_word_letters" sAreWordLetters
  stands_between_letters : FnR K mg "stands_between_letters" sStandsBetweenLetters
  word_letters : FnR K mg "word_letters" sWordLetters
  entry_of_body : FnR K mg "entry_of_body" sEntryOfBody
  pattern_entry : FnR K mg "pattern_entry" sPatternEntry
  read_margin : FnR K mg "read_margin" sReadMargin
  read_margins : FnR K mg "read_margins" sReadMargins
  take_behind_keyword : FnR K mg "take_behind_keyword" sTakeBehindKeyword
  read_word : FnR K mg "read_word" sReadWord
  all_signs : FnR K mg "all_signs" sAllSigns
  with_entry : FnR K mg "with_entry" sWithEntry
  read_pattern : FnR K mg "read_pattern" sReadPattern
  read_list : FnR K mg "read_list" sReadList
  go_from : FnR K mg "go_from" sGoFrom
  look_up : FnR K mg "look_up" sLookUp
  parted_gaps : FnR K mg "parted_gaps" sPartedGaps
  first_signs : FnR K mg "first_signs" sFirstSigns
  entries_behind : FnR K mg "entries_behind" sEntriesBehind
  digits_here : FnR K mg "digits_here" sDigitsHere
  node_of : FnR K mg "node_of" sNodeOf
  packed : FnR K mg "packed" sPacked
  nodes_without_sharing : FnR K mg "nodes_without_sharing" sNodesWithoutSharing
  sizes : FnR K mg "sizes" sSizes
  ways_through : FnR K mg "ways_through" sWaysThrough
  kept_nodes : FnR K mg "kept_nodes" sKeptNodes
  told_node : FnR K mg "told_node" sToldNode
  told_table : FnR K mg "told_table" sToldTable
  read_digits : FnR K mg "read_digits" sReadDigits
  read_ways : FnR K mg "read_ways" sReadWays
  read_node : FnR K mg "read_node" sReadNode
  read_table : FnR K mg "read_table" sReadTable
  load : FnR K mg "load" sLoad
  patterns_and_sizes : FnR K mg "patterns_and_sizes" sPatternsAndSizes
  store : FnR K mg "store" sStore
  levels_between : FnR K mg "levels_between" sLevelsBetween
  part : FnR K mg "part" sPart
  hold_entries : FnR K mg "hold_entries" sHoldEntries
  add : FnR K mg "add" sAdd
  drop : FnR K mg "drop" sDrop
  check : FnR K mg "check" sCheck
  find_pattern : FnR K mg "find_pattern" sFindPattern
  node_and_ends : FnR K mg "node_and_ends" sNodeAndEnds
  argument_of : FnR K mg "argument_of" sArgumentOf
  answer_of : FnR K mg "answer_of" sAnswerOf
  answers : FnR K mg "answers" sAnswers
  cNode : ClsR K mg "Node" "Node.__init__" sNodeInit
  nNode_digits : NoAttr K cNode.C "digits"
  nNode_ways : NoAttr K cNode.C "ways"
  mNode_way_by : MthR K cNode.C "way_by" "Node.way_by" sNodeWayBy
  cTable : ClsR K mg "Table" "Table.__init__" sTableInit
  nTable_nodes : NoAttr K cTable.C "nodes"
  nTable_first : NoAttr K cTable.C "first"
  cF : Addr
  iF : Addr
  flt : PySem.FltX.FltTxt K mg cF iF
  cToken : ClsR K mg "Token" "Token.__init__" sTokenInit
  nToken_kind : NoAttr K cToken.C "kind"
  nToken_place : NoAttr K cToken.C "place"
  nToken_chunk : NoAttr K cToken.C "chunk"
  cEntry : ClsR K mg "Entry" "Entry.__init__" sEntryInit
  nEntry_signs : NoAttr K cEntry.C "signs"
  nEntry_digits : NoAttr K cEntry.C "digits"
  cPatternList : ClsR K mg "PatternList" "PatternList.__init__" sPatternListInit
  nPatternList_left : NoAttr K cPatternList.C "left"
  nPatternList_right : NoAttr K cPatternList.C "right"
  nPatternList_words : NoAttr K cPatternList.C "words"
  nPatternList_entries : NoAttr K cPatternList.C "entries"
  cTokenReader : ClsR K mg "TokenReader" "TokenReader.__init__" sTokenReaderInit
  nTokenReader_tokens : NoAttr K cTokenReader.C "tokens"
  nTokenReader_at : NoAttr K cTokenReader.C "at"
  mTokenReader_stands : MthR K cTokenReader.C "stands" "TokenReader.stands" sTokenReaderStands
  mTokenReader_take : MthR K cTokenReader.C "take" "TokenReader.take" sTokenReaderTake
  mTokenReader_take_keyword : MthR K cTokenReader.C "take_keyword" "TokenReader.take_keyword" sTokenReaderTakeKeyword
  cFound : ClsR K mg "Found" "Found.__init__" sFoundInit
  nFound_levels : NoAttr K cFound.C "levels"
  nFound_steps : NoAttr K cFound.C "steps"
  mFound_put_over : MthR K cFound.C "put_over" "Found.put_over" sFoundPutOver
  cPacker : ClsR K mg "Packer" "Packer.__init__" sPackerInit
  nPacker_nodes : NoAttr K cPacker.C "nodes"
  nPacker_numbers : NoAttr K cPacker.C "numbers"
  mPacker_number_of : MthR K cPacker.C "number_of" "Packer.number_of" sPackerNumberOf
  cN : Addr
  nt : L2.NtTxt K mg cN
  cRowReader : ClsR K mg "RowReader" "RowReader.__init__" sRowReaderInit
  nRowReader_numbers : NoAttr K cRowReader.C "numbers"
  nRowReader_at : NoAttr K cRowReader.C "at"
  mRowReader_is_done : MthR K cRowReader.C "is_done" "RowReader.is_done" sRowReaderIsDone
  mRowReader_take_some : MthR K cRowReader.C "take_some" "RowReader.take_some" sRowReaderTakeSome
  mRowReader_take_number : MthR K cRowReader.C "take_number" "RowReader.take_number" sRowReaderTakeNumber
  mRowReader_take_row : MthR K cRowReader.C "take_row" "RowReader.take_row" sRowReaderTakeRow
  cHolder : ClsR K mg "Holder" "Holder.__init__" sHolderInit
  nHolder_held : NoAttr K cHolder.C "held"
  nHolder_table : NoAttr K cHolder.C "table"
end Pt
set_option Elab.async false
set_option linter.all false
set_option maxRecDepth 100000
set_option maxHeartbeats 2000000
/-! ## records from what the heap tells -/
namespace Pt
open PySem PySem.Spec PySem.W PySem.Calls PyProof.Rows PySem.HandSPX L2
section
variable {K : PySem.W.Frag} {h : Heap} {mg : Str → Option Value}
def fnR_mk {x : Str} {st : Stmt} {f : Addr} {oc : Value} {od an : Option Addr} {osl : Array (Option Value)} {kV doc pm cdv ct : Value} (X : K.In h) (G : h.Ns mainGlobals mg)
    (a : PySem.W.nsIn K mainGlobals x = some (some (.ref f))) (l : K.lookup f = some ⟨oc, od, .func (PySem.W.fnOf x x (defArgs st) (defBody st) (defScope st) .none kV doc pm an cdv ct), osl⟩)
    (c : PySem.W.codeIn K cdv x = true) (k : PySem.W.keepIn K (.ref f) = true) : FnR K mg x st := ⟨f, _, fun_mk (st := st) l c k, PySem.W.mg_of X G a⟩
def mthR_mk {C : Addr} {x q : Str} {st : Stmt} {f : Addr} {oc : Value} {od an : Option Addr} {osl : Array (Option Value)} {kV doc pm cdv ct : Value}
    (a : PySem.W.findIn K (.ref C) x = some (some (.ref f))) (i : PySem.W.isFn K (.ref f) = true) (l : K.lookup f = some ⟨oc, od, .func (PySem.W.fnOf x q (defArgs st) (defBody st) (defScope st) .none kV doc pm an cdv ct), osl⟩)
    (c : PySem.W.codeIn K cdv q = true) (k : PySem.W.keepIn K (.ref f) = true) : MthR K C x q st := ⟨f, _, fun_mk (st := st) l c k, ⟨a, i, k⟩⟩
def clsR_mk {x q : Str} {st : Stmt} {C f : Addr} {oc : Value} {od an : Option Addr} {osl : Array (Option Value)} {kV doc pm cdv ct : Value} (X : K.In h) (G : h.Ns mainGlobals mg)
    (aC : PySem.W.nsIn K mainGlobals x = some (some (.ref C))) (a : PySem.W.findIn K (.ref C) "__init__" = some (some (.ref f))) (i : PySem.W.isFn K (.ref f) = true)
    (l : K.lookup f = some ⟨oc, od, .func (PySem.W.fnOf "__init__" q (defArgs st) (defBody st) (defScope st) .none kV doc pm an cdv ct), osl⟩) (c : PySem.W.codeIn K cdv q = true) (k : PySem.W.keepIn K (.ref f) = true)
    (pg : PySem.W.plainGet K C Str.empty = true) (hd : PySem.W.hasDictIn K C = true) (po : PySem.W.plainOver K C = true) (sa : PySem.W.findIn K (.ref C) "__setattr__" = some (some (.builtin "object.__setattr__"))) (mk : PySem.W.makesIn K C = true) (kc : PySem.W.keepIn K (.ref C) = true) : ClsR K mg x q st :=
  ⟨C, f, _, fun_mk (st := st) l c k, PySem.W.mg_of X G aC, ⟨pg, hd, po, sa⟩, ⟨mk, a, i, kc⟩⟩
theorem nAttr_mk {C : Addr} {f : Str} (n : PySem.W.findIn K (.ref C) f = some none) : L2.NoAttr K C f := n
theorem glI_mk {x : Str} {i : Int} {t : Tok} (X : K.In h) (G : h.Ns mainGlobals mg) (a : PySem.W.nsIn K mainGlobals x = some (some (.int i t))) : GlV mg x (.int i) := ⟨_, PySem.W.mg_of X G a, t, rfl⟩
theorem glS_mk {x : Str} {i : Str} {t : Tok} (X : K.In h) (G : h.Ns mainGlobals mg) (a : PySem.W.nsIn K mainGlobals x = some (some (.str i t))) : GlV mg x (.str i) := ⟨_, PySem.W.mg_of X G a, t, rfl⟩
def glT_mk {x : Str} {xs : List V} {A : Addr} {od : Option Addr} {its : Array Value} {n : Nat} {sl : Array (Option Value)} (X : K.In h) (G : h.Ns mainGlobals mg) (a : PySem.W.nsIn K mainGlobals x = some (some (.ref A)))
    (l : K.lookup A = some ⟨.type "tuple", od, .seq its n, sl⟩) (z : its.size ≤ sizeLine) (v : Vals xs its.toList) : GlT K mg x xs := ⟨A, PySem.W.mg_of X G a, fun H => .inr ⟨_, its, n, l, rfl, rfl, z, v⟩⟩
theorem exm_self {S : Addr} (h1 : PySem.W.subIn K (.ref S) (.type "BaseException") = some true) (h2 : PySem.W.isClsIn K S = true) (h3 : PySem.W.typeIn K (.ref S) = some (.type "type")) (h4 : PySem.W.subIn K (.ref S) (.ref S) = some true) :
    PySem.W.exmOne K (.ref S) (.ref S) = some true := by
  have e1 : (PySem.W.subIn K (.ref S) (.type "BaseException") == some true) = true := by rw [h1] <;> rfl
  have e2 : ((PySem.W.clsIn K S).isSome && PySem.W.typeIn K (.ref S) == some (.type "type")) = true := by
    have h2' : (PySem.W.clsIn K S).isSome = true := h2
    rw [h2', h3] <;> rfl
  show (if (PySem.W.subIn K (.ref S) (.type "BaseException") == some true) = true then (if ((PySem.W.clsIn K S).isSome && PySem.W.typeIn K (.ref S) == some (.type "type")) = true then PySem.W.subIn K (.ref S) (.ref S) else none) else none) = some true
  rw [if_pos e1, if_pos e2]
  exact h4
theorem flt_mk {C f : Addr} {nm q : Str} {N : Addr} {bs : List Value} {sn : List Str} {sub : List Value} {ab : Bool} {col : Option Bool} {dd : Option Addr} {m0 m1 m2 m3 m5 : Option Value} {oc : Value} {od an : Option Addr} {osl : Array (Option Value)} {doc pm cdv ct : Value} (X : K.In h) (G : h.Ns mainGlobals mg)
    (aC : PySem.W.nsIn K mainGlobals "Fault" = some (some (.ref C))) (xL : K.lookup C = some (excClassObj nm q C N bs ESX.exTail true sn sub ab col dd m0 m1 m2 m3 m5 "Exception.__new__"))
    (sa : PySem.W.findIn K (.ref C) "__setattr__" = some (some (.builtin "object.__setattr__"))) (ga : PySem.W.findIn K (.ref C) "__getattribute__" = some (some (.builtin "BaseException.__getattribute__"))) (gg : PySem.W.findIn K (.ref C) "__getattr__" = some none)
    (n1 : PySem.W.findIn K (.ref C) "code" = some none) (n2 : PySem.W.findIn K (.ref C) "place" = some none) (a : PySem.W.findIn K (.ref C) "__init__" = some (some (.ref f))) (t : PySem.W.typeIn K (.ref f) = some (.type "function"))
    (l : K.lookup f = some ⟨oc, od, .func (PySem.W.fnOf "__init__" "Fault.__init__" (defArgs sFaultInit) (defBody sFaultInit) (defScope sFaultInit) .none .none doc pm an cdv ct), osl⟩) (c : PySem.W.codeIn K cdv "Fault.__init__" = true)
    (kC : PySem.W.keepIn K (.ref C) = true) (eC : PySem.W.subIn K (.ref C) (.type "BaseException") = some true) (tC : PySem.W.typeIn K (.ref C) = some (.type "type")) (hC : PySem.W.hasDictIn K C = true) (iC : PySem.W.isClsIn K C = true) (sC : PySem.W.subIn K (.ref C) (.ref C) = some true) : PySem.FltX.FltTxt K mg C f :=
  { gC := PySem.W.mg_of X G aC, cls := ⟨nm, q, N, bs, sn, sub, ab, col, dd, m0, m1, m2, m3, m5, xL⟩, sa := sa, ga := ga, gg := gg, noC := n1, noP := n2, iC := a, tC := t, kC := kC, exC := eC, tyC := tC, hdC := hC, te := exm_self eC iC tC sC,
    fn := ⟨oc, od, doc, pm, an, cdv, ct, osl, _, _, _, _, _, _, _, _, _, _, _, l, c⟩ }
theorem glV_mk {x : Str} {v : V} {u : Value} (X : K.In h) (G : h.Ns mainGlobals mg) (a : PySem.W.nsIn K mainGlobals x = some (some u)) (r : RelV v u) : GlV mg x v := ⟨u, PySem.W.mg_of X G a, r⟩
theorem free_mk {x : Str} (X : K.In h) (G : h.Ns mainGlobals mg) (a : PySem.W.nsIn K mainGlobals x = some none) : mg x = none := PySem.W.mg_none_of X G a
end
end Pt
set_option autoImplicit false
namespace Mx
open VahypBase

/-! ### lexing without fuel -/
theorem inChunk_blank {b : UInt8} (h : inChunk b = true) : isBlank b = false := by
  have h' : (decide (97 ≤ b.toNat ∧ b.toNat ≤ 122) || (decide (48 ≤ b.toNat ∧ b.toNat ≤ 57) || (b == 45 || b == 46))) = true := h
  simp only [Bool.or_eq_true, decide_eq_true_eq, beq_iff_eq] at h'
  simp only [isBlank, Bool.or_eq_false_iff, beq_eq_false_iff_ne]
  refine ⟨?_, ?_, ?_⟩ <;> (rintro rfl; revert h'; decide)
theorem token_len {b : UInt8} {r : Bytes} {x : Tok × Nat} (h : token (b :: r) = some x) : 0 < x.2 ∧ x.2 ≤ (b :: r).length := by
  simp only [token] at h
  split at h
  · rename_i hb
    split at h
    · cases h
    · cases h
      refine ⟨?_, (List.takeWhile_sublist _).length_le⟩
      simp [List.takeWhile_cons, hb]
  · split at h
    · cases h
      simp
    · cases h
theorem lex_fuel : ∀ (n m at_ : Nat) (l : Bytes), l.length < n → l.length < m → lex n at_ l = lex m at_ l
  | 0, _, _, _, h, _ => by omega
  | _, 0, _, _, _, h => by omega
  | n + 1, m + 1, at_, [], _, _ => rfl
  | n + 1, m + 1, at_, b :: r, h1, h2 => by
    simp only [List.length_cons] at h1 h2
    simp only [lex]
    split
    · exact lex_fuel n m _ r (by omega) (by omega)
    · split
      · have := (List.dropWhile_sublist (fun x : UInt8 => x != 10) (l := r)).length_le
        exact lex_fuel n m _ _ (by omega) (by omega)
      · split
        · rfl
        · rename_i x e
          have := token_len e
          rw [lex_fuel n m _ ((b :: r).drop x.2) (by simp only [List.length_drop, List.length_cons]; omega) (by simp only [List.length_drop, List.length_cons]; omega)]
def lexF (at_ : Nat) (l : Bytes) : Except Fault Toks := lex (l.length + 1) at_ l
theorem lexF_nil (a : Nat) : lexF a [] = .ok [⟨a, .last⟩] := rfl
theorem lexF_blank {a : Nat} {b : UInt8} {r : Bytes} (h : isBlank b = true) : lexF a (b :: r) = lexF (a + 1) r := by
  simp only [lexF, List.length_cons]
  rw [lex]
  rw [if_pos h]
theorem lexF_rem {a : Nat} {r : Bytes} : lexF a (35 :: r) = lexF (a + 1 + (r.takeWhile (· != 10)).length) (r.dropWhile (· != 10)) := by
  simp only [lexF, List.length_cons]
  rw [lex]
  rw [if_neg (by decide), if_pos (by decide)]
  have := (List.dropWhile_sublist (fun x : UInt8 => x != 10) (l := r)).length_le
  exact lex_fuel _ _ _ _ (by omega) (by omega)
theorem lexF_none {a : Nat} {b : UInt8} {r : Bytes} (h1 : isBlank b = false) (h2 : b ≠ 35) (h : token (b :: r) = none) : lexF a (b :: r) = .error ⟨2, a⟩ := by
  simp only [lexF, List.length_cons]
  rw [lex]
  rw [if_neg (by simp [h1]), if_neg (by simpa using h2), h]
theorem lexF_some {a : Nat} {b : UInt8} {r : Bytes} {x : Tok × Nat} (h1 : isBlank b = false) (h2 : b ≠ 35) (h : token (b :: r) = some x) :
    lexF a (b :: r) = (lexF (a + x.2) ((b :: r).drop x.2)).map fun l => ⟨a, x.1⟩ :: l := by
  have := token_len h
  simp only [lexF, List.length_cons]
  rw [lex]
  rw [if_neg (by simp [h1]), if_neg (by simpa using h2), h]
  simp only
  simp only [List.length_cons] at this
  rw [lex_fuel _ (((b :: r).drop x.2).length + 1) _ _ (by simp only [List.length_drop, List.length_cons]; omega) (by omega)]

/-- from a place of the text on -/
def L (t : Bytes) (p : Nat) : Except Fault Toks := lexF p (t.drop p)
/-- where a scan ends -/
def scan (f : UInt8 → Bool) (t : Bytes) (p : Nat) : Nat := p + ((t.drop p).takeWhile f).length
theorem drop_at {t : Bytes} {p : Nat} {b : UInt8} (h : t[p]? = some b) : t.drop p = b :: t.drop (p + 1) := by
  obtain ⟨h1, e⟩ := List.getElem?_eq_some_iff.mp h
  rw [List.drop_eq_getElem_cons h1, e]
theorem scan_yes {f : UInt8 → Bool} {t : Bytes} {p : Nat} {b : UInt8} (h : t[p]? = some b) (hf : f b = true) : scan f t p = scan f t (p + 1) := by
  unfold scan
  rw [drop_at h, List.takeWhile_cons, if_pos hf, List.length_cons]
  omega
theorem scan_no {f : UInt8 → Bool} {t : Bytes} {p : Nat} {b : UInt8} (h : t[p]? = some b) (hf : f b = false) : scan f t p = p := by
  unfold scan
  rw [drop_at h, List.takeWhile_cons, if_neg (by simp [hf])]
  rfl
theorem scan_end {f : UInt8 → Bool} {t : Bytes} {p : Nat} (h : t.length ≤ p) : scan f t p = p := by
  unfold scan
  rw [List.drop_eq_nil_of_le h]
  rfl
theorem scan_le {f : UInt8 → Bool} {t : Bytes} {p : Nat} (h : p ≤ t.length) : p ≤ scan f t p ∧ scan f t p ≤ t.length := by
  have := (List.takeWhile_sublist f (l := t.drop p)).length_le
  rw [List.length_drop] at this
  unfold scan
  omega
theorem L_end {t : Bytes} {p : Nat} (h : p = t.length) : L t p = .ok [⟨p, .last⟩] := by
  unfold L
  rw [List.drop_eq_nil_of_le (by omega)]
  rfl
theorem L_blank {t : Bytes} {p : Nat} {b : UInt8} (h : t[p]? = some b) (hb : isBlank b = true) : L t p = L t (p + 1) := by
  unfold L
  rw [drop_at h, lexF_blank hb]
theorem drop_takeWhile {f : UInt8 → Bool} : ∀ (l : Bytes), l.drop (l.takeWhile f).length = l.dropWhile f
  | [] => rfl
  | b :: r => by
    by_cases h : f b = true
    · rw [List.takeWhile_cons, if_pos h, List.dropWhile_cons, if_pos h, List.length_cons, List.drop_succ_cons, drop_takeWhile r]
    · rw [List.takeWhile_cons, if_neg h, List.dropWhile_cons, if_neg h]
      rfl
theorem L_rem {t : Bytes} {p : Nat} (h : t[p]? = some 35) : L t p = L t (scan (· != 10) t p) := by
  have e : scan (· != 10) t p = scan (· != 10) t (p + 1) := scan_yes h (by decide)
  rw [e]
  unfold L
  rw [drop_at h, lexF_rem]
  unfold scan
  rw [← drop_takeWhile, List.drop_drop]
theorem L_none {t : Bytes} {p : Nat} {b : UInt8} (h : t[p]? = some b) (h1 : isBlank b = false) (h2 : b ≠ 35) (e : token (t.drop p) = none) : L t p = .error ⟨2, p⟩ := by
  unfold L
  rw [drop_at h] at e ⊢
  exact lexF_none h1 h2 e
theorem L_some {t : Bytes} {p : Nat} {b : UInt8} {x : Tok × Nat} (h : t[p]? = some b) (h1 : isBlank b = false) (h2 : b ≠ 35) (e : token (t.drop p) = some x) : L t p = (L t (p + x.2)).map fun l => ⟨p, x.1⟩ :: l := by
  unfold L
  rw [show t.drop (p + x.2) = (t.drop p).drop x.2 by rw [List.drop_drop]]
  rw [drop_at h] at e ⊢
  exact lexF_some h1 h2 e
theorem tokens_eq (t : Bytes) : tokens t = if 4096 < t.length then .error ⟨1, 4096⟩ else L t 0 := rfl
/-- what tokens look like -/
def kindOf : Tok → String
  | .chunk _ => "chunk"
  | .sign _ => "sign"
  | .last => "end"
def chunkOf : Tok → Bytes
  | .chunk b => b
  | .sign _ => [59]
  | .last => []
inductive Wf : Toks → Prop
  | last (p : Nat) : Wf [⟨p, .last⟩]
  | chunk (p : Nat) (b : Bytes) (r : Toks) (h : 0 < b.length) (h2 : b.length ≤ 40) : Wf r → Wf (⟨p, .chunk b⟩ :: r)
  | sign (p : Nat) (r : Toks) : Wf r → Wf (⟨p, .sign 59⟩ :: r)
theorem token_form {l : Bytes} {x : Tok × Nat} (h : token l = some x) : (∃ b, x = (.chunk b, b.length) ∧ b = l.takeWhile inChunk ∧ 0 < b.length ∧ b.length ≤ 40) ∨ (x = (.sign 59, 1) ∧ ∃ r, l = 59 :: r) := by
  cases l with
  | nil => cases h
  | cons b r =>
    simp only [token] at h
    split at h
    · rename_i hb
      split at h
      · cases h
      · rename_i hc
        cases h
        refine .inl ⟨_, rfl, rfl, ?_, ?_⟩
        · simp [List.takeWhile_cons, hb]
        · unfold CHUNK at hc
          omega
    · split at h
      · rename_i hb
        cases h
        have : b = 59 := by simpa using hb
        exact .inr ⟨rfl, r, by rw [this]⟩
      · cases h
/-- the test of the program at a place that holds neither blank nor remark -/
theorem token_sign (r : Bytes) : token (59 :: r) = some (.sign 59, 1) := by
  simp only [token]
  rw [if_neg (by decide), if_pos (by decide)]
theorem token_chunk {l : Bytes} (hne : l ≠ []) (h : l.head? ≠ some 59) : token l = if (l.takeWhile inChunk).length = 0 ∨ 40 < (l.takeWhile inChunk).length then none else some (.chunk (l.takeWhile inChunk), (l.takeWhile inChunk).length) := by
  cases l with
  | nil => exact absurd rfl hne
  | cons b r =>
    have hb : b ≠ 59 := fun e => h (by rw [e]; rfl)
    simp only [token]
    by_cases hc : inChunk b = true
    · rw [if_pos hc]
      have : (List.takeWhile inChunk (b :: r)).length ≠ 0 := by simp [List.takeWhile_cons, hc]
      by_cases h2 : CHUNK < (List.takeWhile inChunk (b :: r)).length
      · rw [if_pos h2, if_pos (.inr h2)]
      · rw [if_neg h2, if_neg (by rintro (z | z); exact this z; exact h2 z)]
    · rw [if_neg hc, if_neg (by simpa using hb), if_pos (.inl (by simp [List.takeWhile_cons, hc]))]
theorem L_wf : ∀ (n : Nat) {t : Bytes} {p : Nat} {l : Toks}, t.length - p < n → p ≤ t.length → L t p = .ok l → Wf l
  | 0, _, _, _, h, _, _ => by omega
  | n + 1, t, p, l, h, hp, e => by
    by_cases hl : p = t.length
    · rw [L_end hl] at e
      cases e
      exact .last _
    · have hlt : p < t.length := by omega
      have ht : t[p]? = some t[p] := List.getElem?_eq_getElem hlt
      by_cases hb : isBlank t[p] = true
      · rw [L_blank ht hb] at e
        exact L_wf n (by omega) (by omega) e
      · have hb' : isBlank t[p] = false := by simpa using hb
        by_cases hr : t[p] = 35
        · have ht' := ht
          rw [hr] at ht'
          rw [L_rem ht', scan_yes ht' (by decide)] at e
          have := scan_le (f := (· != 10)) (t := t) (p := p + 1) (by omega)
          exact L_wf n (by omega) (by omega) e
        · cases htok : token (t.drop p) with
          | none =>
            rw [L_none ht hb' hr htok] at e
            cases e
          | some x =>
            rw [L_some ht hb' hr htok] at e
            have hx := token_len (b := t[p]) (r := t.drop (p + 1)) (by rw [← drop_at ht]; exact htok)
            rw [← drop_at ht, List.length_drop] at hx
            cases hL : L t (p + x.2) with
            | error f => rw [hL] at e; cases e
            | ok l' =>
              rw [hL] at e
              have e' : ({ place := p, tok := x.1 } : PTok) :: l' = l := by
                injection e
              subst e'
              have w := L_wf n (by omega) (by omega) hL
              rcases token_form htok with ⟨b, rfl, _, h1, h2⟩ | ⟨rfl, _⟩
              · exact .chunk _ _ _ h1 h2 w
              · exact .sign _ _ w
theorem tokens_wf {t : Bytes} {l : Toks} (h : tokens t = .ok l) : Wf l := by
  rw [tokens_eq] at h
  split at h
  · cases h
  · exact L_wf _ (Nat.lt_succ_self _) (Nat.zero_le _) h
theorem Wf.ne {l : Toks} (h : Wf l) : l ≠ [] := by cases h <;> exact fun e => nomatch e

/-! ### words -/
def headL : Bytes → Bool
  | c :: _ => isLetter c
  | [] => false
def hyp : Bool → Bytes → Bool
  | _, [] => true
  | p, b :: r => if b = 45 then (p && headL r) && hyp false r else hyp (isLetter b) r
theorem hyp_45 (p : Bool) (r : Bytes) : hyp p (45 :: r) = ((p && headL r) && hyp false r) := by rw [hyp, if_pos rfl]
theorem hyp_no (p : Bool) {b : UInt8} (r : Bytes) (h : b ≠ 45) : hyp p (b :: r) = hyp (isLetter b) r := by rw [hyp, if_neg h]
theorem wordBy_eq : ∀ (n : Nat) (p : Bool) (l x : Bytes) (cs : List Nat), l.length < n → (p = true → x ≠ [] ∧ ∀ c ∈ cs, c < x.length) → (p = false → x = [] ∧ cs = [] ∨ cs.contains x.length = true ∧ ∃ k, k ∈ l.head? ∧ isLetter k = true ∧ ∀ c ∈ cs, c ≤ x.length) →
    (Vahypa.wordBy n l x cs).map (·.x) = if hyp p l = true ∧ (l.filter (· != 45)).all isLetter = true then some (x ++ l.filter (· != 45)) else none
  | 0, _, _, _, _, h, _, _ => by omega
  | n + 1, p, [], x, cs, _, _, _ => by
    simp [Vahypa.wordBy, hyp]
  | n + 1, p, b :: r, x, cs, hn, hp1, hp0 => by
    simp only [List.length_cons] at hn
    simp only [Vahypa.wordBy]
    by_cases hl : isLetter b = true
    · have h45 : b ≠ 45 := by rintro rfl; revert hl; decide
      rw [if_pos hl]
      rw [wordBy_eq n true r (x ++ [b]) cs (by omega) (fun _ => ⟨by simp, fun c hc => by
        rw [List.length_append]
        cases p with
        | true => have := (hp1 rfl).2 c hc; simp; omega
        | false =>
          rcases hp0 rfl with ⟨_, rfl⟩ | ⟨_, k, hk, _, h3⟩
          · cases hc
          · have := h3 c hc; simp; omega⟩) (fun z => nomatch z)]
      have e1 : hyp p (b :: r) = hyp true r := by rw [hyp_no p r h45, hl]
      have e2 : (b :: r).filter (· != 45) = b :: r.filter (· != 45) := by rw [List.filter_cons, if_pos (by simpa using h45)]
      rw [e1, e2, List.all_cons, hl, Bool.true_and, List.append_assoc]
      rfl
    · rw [if_neg hl]
      by_cases h45 : b = 45
      · subst h45
        have e2 : ((45 : UInt8) :: r).filter (· != 45) = r.filter (· != 45) := by rw [List.filter_cons, if_neg (by decide)]
        cases p with
        | true =>
          obtain ⟨hx, hc⟩ := hp1 rfl
          have hcn : cs.contains x.length = false := by
            cases e : cs.contains x.length with
            | false => rfl
            | true =>
              have := hc _ (List.contains_iff_mem.mp e)
              omega
          rw [if_pos ⟨by decide, hx, hcn⟩]
          cases r with
          | nil => simp [hyp, headL]
          | cons c s =>
            simp only
            by_cases hcl : isLetter c = true
            · rw [if_pos hcl]
              rw [wordBy_eq n false (c :: s) x (cs ++ [x.length]) (by omega) (fun z => nomatch z) (fun _ => .inr ⟨by simp, c, rfl, hcl, fun k hk => by
                rcases List.mem_append.mp hk with z | z
                · exact Nat.le_of_lt (hc k z)
                · simp at z; omega⟩)]
              have e1 : hyp true (45 :: c :: s) = hyp false (c :: s) := by
                rw [hyp_45]
                simp [headL, hcl]
              rw [e1, e2]
            · rw [if_neg hcl]
              have e1 : hyp true (45 :: c :: s) = false := by
                rw [hyp_45]
                simp [headL, hcl]
              rw [e1]
              simp
        | false =>
          have e1 : hyp false (45 :: r) = false := by
            rw [hyp_45]
            simp
          rw [e1, if_neg (by
            rintro ⟨_, h1, h2⟩
            rcases hp0 rfl with ⟨z, _⟩ | ⟨z, _⟩
            · exact h1 z
            · rw [h2] at z; cases z)]
          simp
      · rw [if_neg (by rintro ⟨z, _⟩; exact h45 (by simpa using z))]
        have e2 : (b :: r).filter (· != 45) = b :: r.filter (· != 45) := by rw [List.filter_cons, if_pos (by simpa using h45)]
        rw [e2, List.all_cons]
        simp [hl]
def wordX (b : Bytes) : Option Bytes := if hyp false b = true ∧ (b.filter (· != 45)).all isLetter = true ∧ 2 ≤ (b.filter (· != 45)).length ∧ (b.filter (· != 45)).length ≤ 16 then some (b.filter (· != 45)) else none
theorem wordOf_x (b : Bytes) : (Vahypa.wordOf b).map (·.x) = wordX b := by
  have h := wordBy_eq (b.length + 1) false b [] [] (Nat.lt_succ_self _) (fun z => nomatch z) (fun _ => .inl ⟨rfl, rfl⟩)
  unfold Vahypa.wordOf wordX
  cases e : Vahypa.wordBy (b.length + 1) b [] [] with
  | none =>
    rw [e] at h
    simp only [Option.map_none, Option.bind_none] at h ⊢
    split at h
    · cases h
    · rename_i hn
      rw [if_neg (fun z => hn ⟨z.1, z.2.1⟩)]
  | some w =>
    rw [e] at h
    simp only [Option.map_some, Option.bind_some] at h ⊢
    split at h
    · rename_i hy
      injection h with h
      rw [List.nil_append] at h
      rw [h]
      have eL : Vahypa.LETTERS = 16 := rfl
      by_cases hz : 2 ≤ (b.filter (· != 45)).length ∧ (b.filter (· != 45)).length ≤ 16
      · rw [if_neg (show ¬ ((b.filter (· != 45)).length < 2 ∨ Vahypa.LETTERS < (b.filter (· != 45)).length) by omega), if_pos ⟨hy.1, hy.2, hz⟩]
        simp [h]
      · rw [if_pos (show ((b.filter (· != 45)).length < 2 ∨ Vahypa.LETTERS < (b.filter (· != 45)).length) by omega), if_neg (fun z => hz z.2.2)]
        rfl
    · cases h
/-- the program's look at each hyphen -/
def between (t : Bytes) (i : Nat) : Bool := if i = 0 ∨ i + 1 = t.length then false else isLetter (t.getD (i - 1) 0) && isLetter (t.getD (i + 1) 0)
theorem hyp_iff_aux : ∀ (l pre : Bytes) (p : Bool), (p = true ↔ ∃ c, pre.getLast? = some c ∧ isLetter c = true) → (hyp p l = true ↔ ∀ i b, l[i]? = some b → b = 45 → between (pre ++ l) (pre.length + i) = true)
  | [], pre, p, _ => by simp [hyp]
  | b :: r, pre, p, hp => by
    have ih := hyp_iff_aux r (pre ++ [b]) (isLetter b) (by simp)
    have eapp : pre ++ [b] ++ r = pre ++ b :: r := by simp
    rw [eapp] at ih
    have shift : (∀ i c, (b :: r)[i]? = some c → c = 45 → between (pre ++ b :: r) (pre.length + i) = true) ↔ ((b = 45 → between (pre ++ b :: r) pre.length = true) ∧ ∀ i c, r[i]? = some c → c = 45 → between (pre ++ b :: r) ((pre ++ [b]).length + i) = true) := by
      constructor
      · intro h
        refine ⟨fun e => h 0 b rfl e, fun i c hc e => ?_⟩
        have := h (i + 1) c (by simpa using hc) e
        rw [List.length_append, List.length_singleton]
        rw [show pre.length + 1 + i = pre.length + (i + 1) by omega]
        exact this
      · rintro ⟨h0, h⟩ i c hc e
        cases i with
        | zero =>
          have : b = c := by simpa using hc
          exact h0 (this.trans e)
        | succ i =>
          have := h i c (by simpa using hc) e
          rw [List.length_append, List.length_singleton] at this
          rw [show pre.length + (i + 1) = pre.length + 1 + i by omega]
          exact this
    rw [shift, ← ih]
    by_cases h45 : b = 45
    · subst h45
      have el : isLetter (45 : UInt8) = false := by decide
      rw [hyp_45, el, Bool.and_eq_true, and_congr_left_iff]
      intro _
      constructor
      · intro h _
        rw [Bool.and_eq_true] at h
        obtain ⟨h1, h2⟩ := h
        obtain ⟨c, hc, hcl⟩ := hp.mp h1
        cases r with
        | nil => cases h2
        | cons d s =>
          have hpre : pre ≠ [] := by rintro rfl; cases hc
          have hlen : 0 < pre.length := List.length_pos_iff.mpr hpre
          unfold between
          rw [if_neg (by simp; omega)]
          have e1 : (pre ++ 45 :: d :: s).getD (pre.length - 1) 0 = c := by
            rw [List.getD_eq_getElem?_getD, List.getElem?_append_left (by omega), ← List.getLast?_eq_getElem?, hc]
            rfl
          have e2 : (pre ++ 45 :: d :: s).getD (pre.length + 1) 0 = d := by
            rw [List.getD_eq_getElem?_getD, List.getElem?_append_right (by omega)]
            simp
          rw [e1, e2, hcl, Bool.true_and]
          exact h2
      · intro h
        have h := h rfl
        unfold between at h
        split at h
        · cases h
        · rename_i hne
          rw [Bool.and_eq_true] at h ⊢
          obtain ⟨h1, h2⟩ := h
          have hpre : pre ≠ [] := by
            rintro rfl
            exact hne (.inl rfl)
          have hlen : 0 < pre.length := List.length_pos_iff.mpr hpre
          refine ⟨hp.mpr ?_, ?_⟩
          · refine ⟨pre.getLast hpre, List.getLast?_eq_some_getLast hpre, ?_⟩
            have e1 : (pre ++ 45 :: r).getD (pre.length - 1) 0 = pre.getLast hpre := by
              rw [List.getD_eq_getElem?_getD, List.getElem?_append_left (by omega), ← List.getLast?_eq_getElem?, List.getLast?_eq_some_getLast hpre]
              rfl
            rw [e1] at h1
            exact h1
          · cases r with
            | nil =>
              exfalso
              apply hne
              right
              simp
            | cons d s =>
              have e2 : (pre ++ 45 :: d :: s).getD (pre.length + 1) 0 = d := by
                rw [List.getD_eq_getElem?_getD, List.getElem?_append_right (by omega)]
                simp
              rw [e2] at h2
              exact h2
    · rw [hyp_no p r h45]
      constructor
      · intro h
        exact ⟨fun z => absurd z h45, h⟩
      · intro h
        exact h.2
theorem hyp_iff (l : Bytes) : hyp false l = true ↔ ∀ i b, l[i]? = some b → b = 45 → between l i = true := by
  have := hyp_iff_aux l [] false (by simp)
  simpa using this

/-! ### patterns -/
def setLast (ds : List Nat) (v : Nat) : List Nat := ds.dropLast ++ [v]
theorem setLast_snoc (vs : List Nat) (u v : Nat) : setLast (vs ++ [u]) v = vs ++ [v] := by
  unfold setLast
  rw [List.dropLast_concat]
/-- the program's walk over a pattern's body -/
def bodyBy : Bytes → Bytes → List Nat → Option (Bytes × List Nat)
  | [], x, ds => some (x, ds)
  | b :: r, x, ds => if isLetter b = true then bodyBy r (x ++ [b]) (ds ++ [0]) else if isDigit b = true ∧ b ≠ 48 ∧ ds.getLast? = some 0 then bodyBy r x (setLast ds (b.toNat - 48)) else none
def fin (o : Option (Bytes × List Nat × Bytes)) : Option (Bytes × List Nat × Bytes) := o.bind fun p => if p.2.2 = [] ∨ p.2.2 = [46] then some p else none
theorem letter_not_digit {b : UInt8} (h : isLetter b = true) : isDigit b = false := by
  have h' : decide (97 ≤ b.toNat ∧ b.toNat ≤ 122) = true := h
  show decide (48 ≤ b.toNat ∧ b.toNat ≤ 57) = false
  simp only [decide_eq_true_eq, decide_eq_false_iff_not] at h' ⊢
  omega
theorem u8_ne {b : UInt8} {k : Nat} (hk : k < 256) : b ≠ UInt8.ofNat k ↔ b.toNat ≠ k := by
  constructor
  · intro h e
    exact h (by rw [← e]; simp)
  · rintro h rfl
    exact h (by simp [UInt8.toNat_ofNat', Nat.mod_eq_of_lt hk])
theorem patBy_eq (tail : Bytes) (ht : tail = [] ∨ tail = [46]) : ∀ (n : Nat) (body x : Bytes) (vs : List Nat), (body ++ tail).length < n → (tail = [] → body.getLast? ≠ some 46) →
    fin (Vahypa.patBy n (body ++ tail) x vs) = (bodyBy body x (vs ++ [0])).map fun q => (q.1, q.2, tail)
  | 0, _, _, _, h, _ => by omega
  | n + 1, [], x, vs, _, _ => by
    rcases ht with rfl | rfl
    · simp [Vahypa.patBy, bodyBy, fin]
    · simp [Vahypa.patBy, bodyBy, fin, isDigit, isLetter]
  | n + 1, b :: s, x, vs, hn, hg => by
    have stop : ∀ (c : UInt8) (r : Bytes), (tail = [] → (c :: r).getLast? ≠ some 46) → ¬ (c :: r ++ tail = [] ∨ c :: r ++ tail = [46]) := by
      rintro c r hg (z | z)
      · cases z
      · rcases ht with rfl | rfl
        · rw [List.append_nil] at z
          exact hg rfl (by rw [z]; rfl)
        · have := congrArg List.length z
          simp at this
    have hg' : tail = [] → s ≠ [] → s.getLast? ≠ some 46 := by
      intro h1 h2 h3
      refine hg h1 ?_
      cases s with
      | nil => exact absurd rfl h2
      | cons c r => rw [List.getLast?_cons_cons]; exact h3
    have hgs : tail = [] → s.getLast? ≠ some 46 := by
      intro h1 h3
      exact hg' h1 (by rintro rfl; cases h3) h3
    simp only [List.cons_append, List.length_cons, List.length_append] at hn
    simp only [List.cons_append, Vahypa.patBy]
    by_cases hl : isLetter b = true
    · have hd := letter_not_digit hl
      have h48 : (b == 48) = false := by
        rw [beq_eq_false_iff_ne]
        rintro rfl
        revert hl; decide
      simp only [hd, h48, hl, Bool.false_eq_true, if_false, if_true]
      rw [patBy_eq tail ht n s (x ++ [b]) (vs ++ [0]) (by simp; omega) hgs]
      rw [bodyBy, if_pos hl]
    · by_cases hd : isDigit b = true
      · by_cases h48 : b = 48
        · subst h48
          simp [fin, bodyBy, isLetter]
        · have h48' : (b == 48) = false := by rw [beq_eq_false_iff_ne]; exact h48
          have eb : bodyBy (b :: s) x (vs ++ [0]) = bodyBy s x (vs ++ [b.toNat - 48]) := by
            rw [bodyBy, if_neg hl, if_pos ⟨hd, h48, by simp⟩, setLast_snoc]
          rw [eb]
          simp only [hd, h48', Bool.false_eq_true, if_false, if_true]
          cases s with
          | nil =>
            rw [List.nil_append]
            rcases ht with rfl | rfl
            · simp [bodyBy, fin]
            · simp [bodyBy, fin, isLetter]
          | cons c r =>
            simp only [List.cons_append]
            by_cases hcl : isLetter c = true
            · rw [if_pos hcl, bodyBy, if_pos hcl]
              simp only [List.length_cons] at hn
              exact patBy_eq tail ht n r (x ++ [c]) (vs ++ [b.toNat - 48]) (by simp; omega) (fun h1 h3 => hgs h1 (by
                cases r with
                | nil => cases h3
                | cons d q => rw [List.getLast?_cons_cons]; exact h3))
            · rw [if_neg hcl, bodyBy, if_neg hcl]
              have hv : ¬ (isDigit c = true ∧ c ≠ 48 ∧ (vs ++ [b.toNat - 48]).getLast? = some 0) := by
                rintro ⟨_, _, z⟩
                rw [List.getLast?_concat] at z
                injection z with z
                have h1 : decide (48 ≤ b.toNat ∧ b.toNat ≤ 57) = true := hd
                rw [decide_eq_true_eq] at h1
                have h2 : b.toNat ≠ 48 := (u8_ne (k := 48) (by decide)).mp h48
                omega
              rw [if_neg hv]
              have := stop c r hgs
              simp only [List.cons_append] at this
              simp only [fin, Option.bind_some, Option.map_none]
              rw [if_neg this]
      · have hd' : isDigit b = false := by simpa using hd
        have h48' : (b == 48) = false := by
          rw [beq_eq_false_iff_ne]
          rintro rfl
          exact hd (by decide)
        have eb : bodyBy (b :: s) x (vs ++ [0]) = none := by
          rw [bodyBy, if_neg hl, if_neg (fun z => hd z.1)]
        have := stop b s hg
        simp only [List.cons_append] at this
        rw [eb]
        simp only [hd', h48', hl, Bool.false_eq_true, if_false]
        simp only [fin, Option.bind_some, Option.map_none]
        rw [if_neg this]
/-- the program's own cut of the points -/
def frontOf (b : Bytes) : Bool := b.head? == some 46
def midOf (b : Bytes) : Bytes := if frontOf b = true then b.drop 1 else b
def backOf (b : Bytes) : Bool := (midOf b).getLast? == some 46
def bodyOf (b : Bytes) : Bytes := if backOf b = true then (midOf b).dropLast else midOf b
theorem patOf_eq (b : Bytes) : Vahypa.patOf b = (bodyBy (bodyOf b) [] [0]).bind fun q => if q.1.length < 1 ∨ 6 < q.1.length ∨ q.2.all (fun v => v == 0) = true then none else some ⟨frontOf b, q.1, backOf b, q.2⟩ := by
  have hl : (midOf b).length ≤ b.length := by
    unfold midOf
    split
    · simp
    · exact Nat.le_refl _
  obtain ⟨tail, ht, e, hg, hb⟩ : ∃ tail, (tail = [] ∨ tail = [46]) ∧ midOf b = bodyOf b ++ tail ∧ (tail = [] → (bodyOf b).getLast? ≠ some 46) ∧ backOf b = (tail == [46]) := by
    unfold bodyOf
    cases h : backOf b with
    | true =>
      refine ⟨[46], .inr rfl, ?_, fun z => (by cases z), rfl⟩
      rw [if_pos rfl]
      unfold backOf at h
      have h : (midOf b).getLast? = some 46 := by simpa using h
      obtain ⟨ys, hy⟩ := List.getLast?_eq_some_iff.mp h
      rw [hy, List.dropLast_concat]
    | false =>
      refine ⟨[], .inl rfl, by simp, fun _ => ?_, rfl⟩
      rw [if_neg (by simp)]
      unfold backOf at h
      simpa using h
  have key := patBy_eq tail ht (b.length + 1) (bodyOf b) [] [] (by rw [← e]; omega) hg
  rw [List.nil_append] at key
  unfold Vahypa.patOf
  show (Vahypa.patBy (b.length + 1) (midOf b) [] []).bind _ = _
  rw [e]
  cases hp : Vahypa.patBy (b.length + 1) (bodyOf b ++ tail) [] [] with
  | none =>
    rw [hp] at key
    have : bodyBy (bodyOf b) [] [0] = none := by
      have k : none = _ := key
      exact (Option.map_eq_none_iff.mp k.symm)
    rw [this]
    rfl
  | some p =>
    rw [hp] at key
    simp only [fin, Option.bind_some] at key ⊢
    by_cases hr : p.2.2 = [] ∨ p.2.2 = [46]
    · rw [if_pos hr] at key
      obtain ⟨q, hq, hqe⟩ := Option.map_eq_some_iff.mp key.symm
      rw [hq]
      subst hqe
      simp only [Option.bind_some]
      have h1 : (tail ≠ [] ∧ (tail == [46]) = false) = False := by
        apply propext
        constructor
        · rintro ⟨a, c⟩
          rcases ht with rfl | rfl
          · exact a rfl
          · cases c
        · exact False.elim
      simp only [h1, hb, false_or]
      unfold Vahypa.PIECE
      rfl
    · rw [if_neg hr] at key
      have : bodyBy (bodyOf b) [] [0] = none := Option.map_eq_none_iff.mp key.symm
      rw [this]
      have h2 : p.2.2 ≠ [] ∧ (p.2.2 == [46]) = false := ⟨fun z => hr (.inl z), by rw [beq_eq_false_iff_ne]; exact fun z => hr (.inr z)⟩
      rw [if_pos (.inr (.inr (.inl h2)))]
      rfl
end Mx
set_option Elab.async false
set_option linter.all false
set_option maxRecDepth 100000
set_option maxHeartbeats 2000000
namespace Pt
open PySem PySem.Spec PyProof.Rows L2 Evl
/-! ### words of the evaluation that the layer lacks -/
section
variable {X : Cx} {K : PySem.W.Frag} {σ : L2.St} {H H' : Hp} {ta tb tc te : TE} {x y z v : V} {r r' : R2}
theorem pe_k {n : Str} {v : V} {pos : Pos} (h : GlV X.mg n v) (hg : Gl X n := by rfl) (hd : (n == ("__debug__" : Str)) = false := by decide) : PE X (.Name n pos) (tC v) := by
  obtain ⟨u, hm, hr⟩ := h
  exact pe_glob hg hm hr hd
theorem pe_kt {n : Str} {xs : List V} {pos : Pos} (h : GlT X.K X.mg n xs) (hg : Gl X n := by rfl) (hd : (n == ("__debug__" : Str)) = false := by decide) : PE X (.Name n pos) (tC (.ref h.a)) := pe_glob hg h.m rfl hd
theorem ev_chain {k1 k2 : Bool} (ha : Ev ta σ H x) (hb : Ev tb σ H y) (hr : RV r x y H (.bl k1)) (hc : Ev tc σ H z) (hr' : RV r' y z H (.bl k2)) : Ev (tChain r r' ta tb tc) σ H (.bl (k1 && k2)) := fun H1 e Q q =>
  ha H1 e _ fun H2 e2 => hb H2 (e.trans e2) _ fun H3 e3 => hr H3 ((e.trans e2).trans e3) _ fun H4 e4 => ⟨k1, rfl, by
    cases k1 with
    | true =>
      show tc σ H4 fun w' H4 => r' y w' H4 Q
      exact hc H4 (((e.trans e2).trans e3).trans e4) _ fun H5 e5 => hr' H5 ((((e.trans e2).trans e3).trans e4).trans e5) Q fun H6 e6 => q H6 ((((e2.trans e3).trans e4).trans e5).trans e6)
    | false =>
      show Q (.bl false) H4
      exact q H4 ((e2.trans e3).trans e4)⟩
end
section
variable {P : Program} {w : World} {K : PySem.W.Frag} {mg : Str → Option Value} {base : Heap}
/-- a promise of a value alone -/
def spOf (pre : List V → Hp → V → Prop) : Sp := fun vs H Q _ => ∃ v, pre vs H v ∧ RetV v H Q
theorem SpV.of {pre : List V → Hp → V → Prop} {vs : List V} {H : Hp} {v : V} (h : ∀ H1, Ex H H1 → pre vs H1 v) : SpV (spOf pre) vs H v := fun H1 e Q q E => ⟨v, h H1 e, q⟩
/-- a call of a def of the top -/
theorem pe_fn {X : Cx} {CX : CXT} {x : Str} {st : Stmt} {k : Nat} {ps : List Str} {sp : Sp} {E : XK} {e : Expr} {es : List Expr} {t : TA} {p pos : Pos} (R : FnR X.K X.mg x st) (G : FnOk X.prog X.w X.K X.mg X.base CX k R.f R.fd ps sp) (hr : Room k X.A) (hb : Binds X.K R.fd ps []) (hx : Passes CX X E) (ha : PA X (e :: es) t) (hg : Gl X x := by rfl)
    (hdb : (x == ("__debug__" : Str)) = false := by decide) (he : starEach (e :: es) X.env = (false, eval e X.env) :: starEach es X.env := by rfl) (hpl : (backTo pos (starEach es X.env)).any (·.1) = false := by rfl) :
    PE X (.Call (.Name x p) (e :: es) [] pos) (tCall sp [] E t) := pe_call G hr hg R.m R.F.kp hb .nil hx ha hdb he hpl
/-! ### is_letter, is_digit, is_chunk_byte -/
def isL (b : Int) : Bool := decide (97 ≤ b) && decide (b ≤ 122)
def isD (b : Int) : Bool := decide (48 ≤ b) && decide (b ≤ 57)
def isC (b : Int) : Bool := isL b || (isD b || (decide (b = 45) || decide (b = 46)))
def spI (f : Int → Bool) : Sp := spOf fun vs _ v => ∃ b : Int, vs = [.int b] ∧ v = .bl (f b)
theorem spI_v {f : Int → Bool} {b : Int} {H : Hp} : SpV (spI f) [.int b] H (.bl (f b)) := SpV.of fun _ _ => ⟨b, rfl, rfl⟩
theorem ok_is_letter (T : Tx K mg) : FnOk P w K mg base CX0 1 T.is_letter.f T.is_letter.fd ["byte"] (spI isL) := by
  refine T.is_letter.F.ok scIsLetter (fun vs H Q E h => ?_) (fun cdv A outer s H vs Q E hr h => ⟨_, pss_one (ps_ret (pe_chain op_le op_le pe_int (pv 0) pe_int)), ?_⟩)
  · obtain ⟨_, ⟨b, rfl, _⟩, _⟩ := h
    rfl
  · obtain ⟨_, ⟨b, rfl, rfl⟩, k⟩ := h
    exact s_ret (ev_chain ev_c (ev_var rfl) rv_I0 ev_c rv_I0) k
theorem ok_is_digit (T : Tx K mg) : FnOk P w K mg base CX0 1 T.is_digit.f T.is_digit.fd ["byte"] (spI isD) := by
  refine T.is_digit.F.ok scIsDigit (fun vs H Q E h => ?_) (fun cdv A outer s H vs Q E hr h => ⟨_, pss_one (ps_ret (pe_chain op_le op_le pe_int (pv 0) pe_int)), ?_⟩)
  · obtain ⟨_, ⟨b, rfl, _⟩, _⟩ := h
    rfl
  · obtain ⟨_, ⟨b, rfl, rfl⟩, k⟩ := h
    exact s_ret (ev_chain ev_c (ev_var rfl) rv_I0 ev_c rv_I0) k
theorem ok_is_chunk_byte (T : Tx K mg) : FnOk P w K mg base CX0 2 T.is_chunk_byte.f T.is_chunk_byte.fd ["byte"] (spI isC) := by
  have GL : FnOk P w K mg base CX0 1 _ _ _ _ := ok_is_letter T
  have GD : FnOk P w K mg base CX0 1 _ _ _ _ := ok_is_digit T
  refine T.is_chunk_byte.F.ok scIsChunkByte (fun vs H Q E h => ?_) (fun cdv A outer s H vs Q E hr h => ⟨_, pss_one (ps_ret
    (pe_or (pe_fn T.is_letter GL hr (bdIsLetter T.is_letter.F) pass0 (pa_cons (pv 0) pa_nil)) (pe_or (pe_fn T.is_digit GD hr (bdIsDigit T.is_digit.F) pass0 (pa_cons (pv 0) pa_nil))
      (pe_or (pe_cmpR op_eq (pv 0) (pe_k T.k_HYPHEN) (nomark _)) (pe_one (pe_cmpR op_eq (pv 0) (pe_k T.k_POINT) (nomark _))))))), ?_⟩)
  · obtain ⟨_, ⟨b, rfl, _⟩, _⟩ := h
    rfl
  · obtain ⟨_, ⟨b, rfl, rfl⟩, k⟩ := h
    refine s_ret (ev_is (ev_orV (ev_call (ea_cons (ev_var rfl) ea_nil) spI_v) fun _ => ev_orV (ev_call (ea_cons (ev_var rfl) ea_nil) spI_v) fun _ => ev_orV (ev_op (ev_var rfl) ev_c (rv_eq rfl)) fun _ => ev_op (ev_var rfl) ev_c (rv_eq rfl)) ?_) k
    show V.bl _ = V.bl _
    unfold isC
    simp
end
end Pt
set_option Elab.async false
set_option linter.all false
set_option maxRecDepth 100000
set_option maxHeartbeats 2000000
namespace Pt
open PySem PySem.Spec PyProof.Rows L2 Evl
open VahypBase (Bytes)
/-! ## texts as lists of ints -/
def tx (t : Bytes) : List V := t.map fun b => .int (b.toNat : Int)
theorem tx_len (t : Bytes) : (tx t).length = t.length := List.length_map ..
theorem tx_at {t : Bytes} {q : Nat} {b : UInt8} (h : t[q]? = some b) : atI (tx t) (q : Int) = some (.int (b.toNat : Int)) := atI_nat (by unfold tx; rw [List.getElem?_map, h]; rfl)
theorem isL_u (b : UInt8) : isL (b.toNat : Int) = VahypBase.isLetter b := by
  unfold isL VahypBase.isLetter
  rw [Bool.eq_iff_iff]
  simp only [Bool.and_eq_true, decide_eq_true_eq]
  omega
theorem isD_u (b : UInt8) : isD (b.toNat : Int) = VahypBase.isDigit b := by
  unfold isD VahypBase.isDigit
  rw [Bool.eq_iff_iff]
  simp only [Bool.and_eq_true, decide_eq_true_eq]
  omega
theorem u8_is (b : UInt8) (k : UInt8) : decide ((b.toNat : Int) = (k.toNat : Int)) = (b == k) := by
  rw [Bool.eq_iff_iff]
  simp only [decide_eq_true_eq, beq_iff_eq]
  constructor
  · intro h
    exact UInt8.toNat_inj.mp (by omega)
  · rintro rfl
    rfl
theorem isC_u (b : UInt8) : isC (b.toNat : Int) = VahypBase.inChunk b := by
  unfold isC VahypBase.inChunk
  rw [isL_u, isD_u, ← u8_is b 45, ← u8_is b 46]
  rfl
section
variable {P : Program} {w : World} {K : PySem.W.Frag} {mg : Str → Option Value} {base : Heap} {X : Cx}
variable {σ : L2.St} {H H' : Hp} {ta tb tc te : TE} {x y z v : V}
/-- len(e) -/
theorem pe_len {e : Expr} {te : TE} {p pos : Pos} (T : X.mg "len" = none) (he : PE X e te) (hg : Gl X "len" := by rfl) (hs : starEach (e :: []) X.env = (false, eval e X.env) :: starEach [] X.env := by rfl) (hpl : (backTo pos (starEach [] X.env)).any (·.1) = false := by rfl) :
    PE X (.Call (.Name "len" p) [e] [] pos) (tCB (rLenS X.K) (tCons te tNil)) := pe_callB call_len_seq hg T PySem.boot_len (pa_cons he pa_nil hs) (by decide) (by decide) hs hpl
theorem ev_lenT {p : Addr} {xs : List V} (ha : Ev ta σ H (.ref p)) (h : SqT K H p xs) : Ev (tCB (rLenS K) (tCons ta tNil)) σ H (.int (xs.length : Int)) := fun H1 e Q q =>
  ha H1 e _ fun H2 e2 => ⟨p, xs, rfl, Or.inr (ex_t (e.trans e2) h), q H2 e2⟩
/-- place < len(text) -/
theorem et_below {a : Addr} {t : Bytes} {q : Nat} (h : SqL K H a (tx t)) (hq : Ev ta σ H (.int (q : Int))) (hb : Ev tb σ H (.ref a)) : EvT (tTest (tOp (rI0 fun i j => .bl (decide (i < j))) ta (tCB (rLenS K) (tCons tb tNil)))) σ H (decide (q < t.length)) := by
  refine et_is (et_test (ev_op hq (ev_len hb h) rv_I0)) ?_
  rw [tx_len, Bool.eq_iff_iff]
  simp only [decide_eq_true_eq]
  omega
/-- a walk of one place on while a test holds -/
theorem scan_loop {D : Ends} {tt : TT} {f : UInt8 → Bool} {t : Bytes} {u1 u2 : Option V} {p : Nat} (test : ∀ q H1, Ex H H1 → q ≤ t.length → EvT tt [u1, u2, some (.int (q : Int))] H1 (match t[q]? with | some b => f b | none => false)) (hp : p ≤ t.length)
    (k : ∀ H1, Ex H H1 → D.nx [u1, u2, some (.int (Mx.scan f t p : Nat))] H1) : tWhile tt (tAug 2 (tC (.int 1)) (ipI fun i j => i + j)) D [u1, u2, some (.int (p : Int))] H := by
  refine s_while (fun m σ' H' => ∃ q : Nat, σ' = [u1, u2, some (.int (q : Int))] ∧ Ex H H' ∧ q ≤ t.length ∧ Mx.scan f t q = Mx.scan f t p ∧ m = t.length - q) (t.length - p) ⟨p, rfl, Ex.refl H, hp, rfl, rfl⟩ ?_
  rintro m σ' H' ⟨q, rfl, e, hq, hs, rfl⟩
  have ht := test q H' e hq
  cases hb : t[q]? with
  | none =>
    rw [hb] at ht
    have hl : t.length ≤ q := List.getElem?_eq_none_iff.mp hb
    refine ⟨false, ht, (fun z => nomatch z), fun _ H1 e1 => ?_⟩
    rw [Mx.scan_end hl] at hs
    have := k H1 (e.trans e1)
    rw [← hs] at this
    exact this
  | some b =>
    rw [hb] at ht
    have hl : q < t.length := (List.getElem?_eq_some_iff.mp hb).1
    cases hf : f b with
    | false =>
      rw [show (match some b with | some b => f b | none => false) = false from hf] at ht
      refine ⟨false, ht, (fun z => nomatch z), fun _ H1 e1 => ?_⟩
      rw [Mx.scan_no hb hf] at hs
      have := k H1 (e.trans e1)
      rw [← hs] at this
      exact this
    | true =>
      rw [show (match some b with | some b => f b | none => false) = true from hf] at ht
      refine ⟨true, ht, fun _ H1 e1 => ⟨fun σ2 H2 => ∃ q' : Nat, q' = q + 1 ∧ σ2 = [u1, u2, some (.int (q' : Int))] ∧ Ex H H2, fun σ2 H2 ⟨q', e2, e3, e4⟩ => ⟨t.length - q', by omega, q', e3, e4, by omega, by rw [e2, ← Mx.scan_yes hb hf]; exact hs, rfl⟩, ?_⟩, fun z => nomatch z⟩
      refine s_aug (f := fun i j => i + j) (a := (q : Int)) (b := 1) rfl ev_c fun H2 e2 => ⟨q + 1, rfl, ?_, (e.trans e1).trans e2⟩
      simp
/-- remark_end -/
def spScan (K : PySem.W.Frag) (f : UInt8 → Bool) : Sp := spOf fun vs H v => ∃ (a : Addr) (t : Bytes) (p : Nat), vs = [.ref a, .int (p : Int)] ∧ SqL K H a (tx t) ∧ p ≤ t.length ∧ v = .int (Mx.scan f t p : Nat)
theorem spScan_v {f : UInt8 → Bool} {a : Addr} {t : Bytes} {p : Nat} (h : SqL K H a (tx t)) (hp : p ≤ t.length) : SpV (spScan K f) [.ref a, .int (p : Int)] H (.int (Mx.scan f t p : Nat)) := SpV.of fun H1 e => ⟨a, t, p, rfl, ex_l e h, hp, rfl⟩
theorem ok_remark_end (T : Tx K mg) : FnOk P w K mg base CX0 1 T.remark_end.f T.remark_end.fd ["text", "begin"] (spScan K (· != 10)) := by
  refine T.remark_end.F.ok scRemarkEnd (fun vs H Q E h => ?_) (fun cdv A outer s H vs Q E hr h => ⟨_, pss_cons (ps_set (i := 2) scRemarkEnd.nd rfl (.inl rfl) (pv 1))
    (pss_cons (ps_while PassesOwn.never (PW.pt (pw_and (pt_cmpR op_lt (pv 2) (pe_len T.b_len (pv 0)) (nomark _)) (pw_and1 (pt_cmpR op_ne (pe_ix ix_list (pv 0) (pv 2) (fun _ _ => rfl)) (pe_k T.k_LINE_END) (nomark _)))))
      (pss_one (ps_aug (i := 2) scRemarkEnd.nd rfl (.inl rfl) pe_int ip_add))) (pss_one (ps_ret (pv 2)))), ?_⟩)
  · obtain ⟨_, ⟨a, t, p, rfl, _⟩, _⟩ := h
    rfl
  · obtain ⟨_, ⟨a, t, p, rfl, hS, hp, rfl⟩, k⟩ := h
    refine q_asg (ev_var rfl) fun H1 e1 => ?_
    refine scan_loop (f := (· != 10)) (t := t) (fun q H2 e2 hq => ?_) hp fun H2 e2 => s_ret (ev_var rfl) fun H3 e3 => k.go ((e1.trans e2).trans e3)
    have hS2 := ex_l (e1.trans e2) hS
    cases hb : t[q]? with
    | none => exact et_is (et_and (b := false) (et_below hS2 (ev_var rfl) (ev_var rfl)) fun z => absurd (of_decide_eq_true z) (by have := List.getElem?_eq_none_iff.mp hb; omega)) (by simp)
    | some b =>
      refine et_is (et_and (et_below hS2 (ev_var rfl) (ev_var rfl)) fun z => et_test (ev_op (ev_op (ev_var rfl) (ev_var rfl) (rv_ixL hS2 (tx_at hb))) ev_c (rv_ne rfl))) ?_
      have hl : q < t.length := (List.getElem?_eq_some_iff.mp hb).1
      rw [decide_eq_true hl, Bool.true_and]
      show (!decide (V.int (b.toNat : Int) = V.int 10)) = (b != 10)
      rw [show decide (V.int (b.toNat : Int) = V.int 10) = decide ((b.toNat : Int) = 10) by simp]
      exact congrArg not (u8_is b 10)
end
end Pt
set_option autoImplicit false
namespace Mx
open VahypBase
/-! ### past blanks and remarks -/
def skipN : Nat → Bytes → Nat → Nat
  | 0, _, p => p
  | n + 1, t, p => match t[p]? with
    | none => p
    | some b => if b = 35 then skipN n t (scan (· != 10) t p) else if isBlank b = true then skipN n t (p + 1) else p
def skip (t : Bytes) (p : Nat) : Nat := skipN (t.length - p) t p
theorem rem_up {t : Bytes} {p : Nat} (h : t[p]? = some 35) : p + 1 ≤ scan (· != 10) t p ∧ scan (· != 10) t p ≤ t.length := by
  have hl := (List.getElem?_eq_some_iff.mp h).1
  rw [scan_yes h (by decide)]
  exact scan_le (by omega)
theorem skipN_fuel : ∀ (n m : Nat) (t : Bytes) (p : Nat), t.length - p ≤ n → t.length - p ≤ m → skipN n t p = skipN m t p
  | 0, m, t, p, h, _ => by
    have e : t[p]? = none := List.getElem?_eq_none_iff.mpr (by omega)
    cases m with
    | zero => rfl
    | succ m => simp [skipN, e]
  | n + 1, 0, t, p, _, h => by
    have e : t[p]? = none := List.getElem?_eq_none_iff.mpr (by omega)
    simp [skipN, e]
  | n + 1, m + 1, t, p, h1, h2 => by
    cases e : t[p]? with
    | none => simp [skipN, e]
    | some b =>
      have hl := (List.getElem?_eq_some_iff.mp e).1
      simp only [skipN, e]
      split
      · rename_i hb
        subst hb
        have := rem_up e
        exact skipN_fuel n m t _ (by omega) (by omega)
      · split
        · exact skipN_fuel n m t _ (by omega) (by omega)
        · rfl
theorem skip_end {t : Bytes} {p : Nat} (h : t.length ≤ p) : skip t p = p := by
  unfold skip
  rw [show t.length - p = 0 by omega]
  rfl
theorem skip_rem {t : Bytes} {p : Nat} (h : t[p]? = some 35) : skip t p = skip t (scan (· != 10) t p) := by
  have hl := (List.getElem?_eq_some_iff.mp h).1
  have hu := rem_up h
  unfold skip
  rw [show t.length - p = (t.length - p - 1) + 1 by omega]
  simp only [skipN, h, if_true]
  exact skipN_fuel _ _ _ _ (by omega) (by omega)
theorem skip_blank {t : Bytes} {p : Nat} {b : UInt8} (h : t[p]? = some b) (hr : b ≠ 35) (hb : isBlank b = true) : skip t p = skip t (p + 1) := by
  have hl := (List.getElem?_eq_some_iff.mp h).1
  unfold skip
  rw [show t.length - p = (t.length - (p + 1)) + 1 by omega]
  simp only [skipN, h, if_neg hr, if_pos hb]
theorem skip_no {t : Bytes} {p : Nat} {b : UInt8} (h : t[p]? = some b) (hr : b ≠ 35) (hb : isBlank b = false) : skip t p = p := by
  have hl := (List.getElem?_eq_some_iff.mp h).1
  unfold skip
  rw [show t.length - p = (t.length - (p + 1)) + 1 by omega]
  simp only [skipN, h, if_neg hr, hb]
  simp
theorem skip_all : ∀ (n : Nat) {t : Bytes} {p : Nat}, t.length - p < n → p ≤ t.length → p ≤ skip t p ∧ skip t p ≤ t.length ∧ L t (skip t p) = L t p ∧ ∀ b, t[skip t p]? = some b → b ≠ 35 ∧ isBlank b = false
  | 0, _, _, h, _ => by omega
  | n + 1, t, p, h, hp => by
    cases e : t[p]? with
    | none =>
      have hl := List.getElem?_eq_none_iff.mp e
      rw [skip_end hl]
      exact ⟨Nat.le_refl _, hp, rfl, fun b hb => by rw [e] at hb; cases hb⟩
    | some b =>
      have hl := (List.getElem?_eq_some_iff.mp e).1
      by_cases hr : b = 35
      · subst hr
        have hu := rem_up e
        obtain ⟨h1, h2, h3, h4⟩ := skip_all n (t := t) (p := scan (· != 10) t p) (by omega) hu.2
        rw [skip_rem e]
        exact ⟨by omega, h2, by rw [h3, ← L_rem e], h4⟩
      · cases hb : isBlank b with
        | true =>
          obtain ⟨h1, h2, h3, h4⟩ := skip_all n (t := t) (p := p + 1) (by omega) (by omega)
          rw [skip_blank e hr hb]
          exact ⟨by omega, h2, by rw [h3, ← L_blank e hb], h4⟩
        | false =>
          rw [skip_no e hr hb]
          exact ⟨Nat.le_refl _, hp, rfl, fun c hc => by rw [e] at hc; cases hc; exact ⟨hr, hb⟩⟩
theorem skip_spec {t : Bytes} {p : Nat} (hp : p ≤ t.length) : p ≤ skip t p ∧ skip t p ≤ t.length ∧ L t (skip t p) = L t p ∧ ∀ b, t[skip t p]? = some b → b ≠ 35 ∧ isBlank b = false := skip_all _ (Nat.lt_succ_self _) hp
end Mx
set_option Elab.async false
set_option linter.all false
set_option maxRecDepth 100000
set_option maxHeartbeats 2000000
namespace Pt
open PySem PySem.Spec PyProof.Rows L2 Evl
open VahypBase (Bytes)
/-! ## new objects -/
def EvN (te : TE) (σ : L2.St) (H : Hp) (C : Addr) (fs : List (Str × V)) : Prop := ∀ H1, Ex H H1 → ∀ Q : VK, (∀ x dx H2, H1 x = none → Ex H1 H2 → H2 x = some (.ins C dx fs) → Q (.ref x) H2) → te σ H1 Q
/-- what an __init__ that only stores does -/
def spIni (C : Addr) (n : Nat) (fs : List V → List (Str × V)) : Sp := fun vs H Q _ => ∃ p dx as, vs = .ref p :: as ∧ as.length = n ∧ H p = some (.ins C dx []) ∧ Q .non (upd H p (.ins C dx (fs as)))
theorem putF_new {f : Str} {v : V} : ∀ {fs : List (Str × V)}, f ∉ fs.map (·.1) → putF f v fs = fs ++ [(f, v)]
  | [], _ => rfl
  | (g, x) :: r, h => by
    have h1 : ¬ g = f := fun e => h (by rw [e]; exact List.mem_cons_self ..)
    have h2 : f ∉ r.map (·.1) := fun m => h (List.mem_cons_of_mem _ m)
    rw [putF, if_neg h1, putF_new h2]
    rfl
theorem puts2 {f1 f2 : Str} {v1 v2 : V} (h2 : ¬ f1 = f2) : putF f2 v2 (putF f1 v1 []) = [(f1, v1), (f2, v2)] := by simp [putF, h2]
theorem puts3 {f1 f2 f3 : Str} {v1 v2 v3 : V} (h2 : ¬ f1 = f2) (h3 : ¬ f1 = f3) (h4 : ¬ f2 = f3) : putF f3 v3 (putF f2 v2 (putF f1 v1 [])) = [(f1, v1), (f2, v2), (f3, v3)] := by simp [putF, h2, h3, h4]
section
variable {P : Program} {w : World} {K : PySem.W.Frag} {mg : Str → Option Value} {base : Heap} {X : Cx}
variable {σ : L2.St} {H H' : Hp} {ta tb tc te : TE} {x y z v : V} {C : Addr}
theorem en_make {n : Nat} {fs : List V → List (Str × V)} {t : TA} {vs : List V} (h : EvA t σ H vs) (hn : vs.length = n) : EvN (tMake C (spIni C n fs) [] E0 t) σ H C (fs vs) := fun H1 e Q q =>
  h H1 e _ fun H2 e2 x dx nx nd ne => ⟨x, dx, vs, by rw [List.append_nil], hn, upd_same, rfl, by
    rw [upd_upd]
    refine q x dx _ (fresh_back e2 nx) ?_ upd_same
    refine e2.trans ((Ex.new (o := HO.own x) nd).trans fun a u ha => ?_)
    have : a ≠ x := fun z => by
      rw [z, upd_ne (Ne.symm ne), nx] at ha
      cases ha
    rw [upd_ne this]
    exact ha⟩
theorem s_retN {D : Ends} {fs : List (Str × V)} (h : EvN te σ H C fs) (k : ∀ x dx H1, H x = none → Ex H H1 → H1 x = some (.ins C dx fs) → D.rt (.ref x) H1) : tRet te D σ H := h H (Ex.refl H) _ fun x dx H1 hx e h1 => k x dx H1 hx e h1
theorem q_asgN {D : Ends} {tz : TS} {i : Nat} {fs : List (Str × V)} (h : EvN te σ H C fs) (k : ∀ x dx H1, H x = none → Ex H H1 → H1 x = some (.ins C dx fs) → tz D (σ.set i (some (.ref x))) H1) : tSeq (tAsg te (gName i)) tz D σ H := h H (Ex.refl H) _ fun x dx H1 hx e h1 => k x dx H1 hx e h1
/-- a class's call -/
theorem pe_new {X : Cx} {x qual : Str} {st : Stmt} {k : Nat} {ps : List Str} {sp : Sp} {e : Expr} {es : List Expr} {t : TA} {p pos : Pos} (R : ClsR X.K X.mg x qual st) (G : FnOk X.prog X.w X.K X.mg X.base CX0 k R.f R.fd ps sp) (hr : Room (k + 1) X.A) (hb : Binds X.K R.fd ps []) (ha : PA X (e :: es) t) (hg : Gl X x := by rfl)
    (hdb : (x == ("__debug__" : Str)) = false := by decide) (he : starEach (e :: es) X.env = (false, eval e X.env) :: starEach es X.env := by rfl) (hpl : (backTo pos (starEach es X.env)).any (·.1) = false := by rfl) :
    PE X (.Call (.Name x p) (e :: es) [] pos) (tMake R.C sp [] E0 t) := pe_make R.mkc G hr hg R.m hb .nil pass0 ha hdb he hpl
theorem ev_fld {f : Str} {a dx : Addr} {fs : List (Str × V)} (ha : Ev ta σ H (.ref a)) (h : H a = some (.ins C dx fs)) (hc : Cls K C) (hn : NoAttr K C f) (hl : fs.lookup f = some v) : Ev (tFld K ta f) σ H v := fun H1 e Q q =>
  ha H1 e _ fun H2 e2 => ⟨a, C, dx, fs, v, rfl, (e.trans e2) a _ h, hc, hn, hl, q H2 e2⟩
theorem cut_nat (xs : List V) (p e : Nat) (h1 : p ≤ e) (h2 : e ≤ xs.length) : cutV xs (some (p : Int)) (some (e : Int)) = (xs.drop p).take (e - p) := by
  unfold cutV
  rw [show HT.sIx xs.length 0 (some (p : Int)) = p from (HT.sIx_nat xs.length 0 p).trans (Nat.min_eq_left (by omega)), show HT.sIx xs.length xs.length (some (e : Int)) = e from (HT.sIx_nat xs.length xs.length e).trans (Nat.min_eq_left h2)]
/-! ### chunk_end, past_blanks -/
theorem ok_chunk_end (T : Tx K mg) : FnOk P w K mg base CX0 3 T.chunk_end.f T.chunk_end.fd ["text", "begin"] (spScan K VahypBase.inChunk) := by
  have GC : FnOk P w K mg base CX0 2 _ _ _ _ := ok_is_chunk_byte T
  refine T.chunk_end.F.ok scChunkEnd (fun vs H Q E h => ?_) (fun cdv A outer s H vs Q E hr h => ⟨_, pss_cons (ps_set (i := 2) scChunkEnd.nd rfl (.inl rfl) (pv 1))
    (pss_cons (ps_while PassesOwn.never (PW.pt (pw_and (pt_cmpR op_lt (pv 2) (pe_len T.b_len (pv 0)) (nomark _)) (pw_and1 (pt_val (pe_fn T.is_chunk_byte GC hr (bdIsChunkByte T.is_chunk_byte.F) pass0 (pa_cons (pe_ix ix_list (pv 0) (pv 2) (fun _ _ => rfl)) pa_nil))))))
      (pss_one (ps_aug (i := 2) scChunkEnd.nd rfl (.inl rfl) pe_int ip_add))) (pss_one (ps_ret (pv 2)))), ?_⟩)
  · obtain ⟨_, ⟨a, t, p, rfl, _⟩, _⟩ := h
    rfl
  · obtain ⟨_, ⟨a, t, p, rfl, hS, hp, rfl⟩, k⟩ := h
    refine q_asg (ev_var rfl) fun H1 e1 => ?_
    refine scan_loop (f := VahypBase.inChunk) (t := t) (fun q H2 e2 hq => ?_) hp fun H2 e2 => s_ret (ev_var rfl) fun H3 e3 => k.go ((e1.trans e2).trans e3)
    have hS2 := ex_l (e1.trans e2) hS
    cases hb : t[q]? with
    | none => exact et_is (et_and (b := false) (et_below hS2 (ev_var rfl) (ev_var rfl)) fun z => absurd (of_decide_eq_true z) (by have := List.getElem?_eq_none_iff.mp hb; omega)) (by simp)
    | some b =>
      refine et_is (et_and (et_below hS2 (ev_var rfl) (ev_var rfl)) fun z => et_B (ev_call (ea_cons (ev_op (ev_var rfl) (ev_var rfl) (rv_ixL hS2 (tx_at hb))) ea_nil) spI_v)) ?_
      have hl : q < t.length := (List.getElem?_eq_some_iff.mp hb).1
      rw [decide_eq_true hl, Bool.true_and, isC_u]
theorem blank_in (b : UInt8) : inV (.int (b.toNat : Int)) [.int 32, .int 9, .int 10] = VahypBase.isBlank b := by
  show (((32 : Int) == (b.toNat : Int)) || (((9 : Int) == (b.toNat : Int)) || (((10 : Int) == (b.toNat : Int)) || false))) = (b == 32 || (b == 9 || b == 10))
  have h : ∀ (k : UInt8) (z : Int), z = (k.toNat : Int) → (z == (b.toNat : Int)) = (b == k) := fun k z e => by
    rw [← u8_is b k, e, Bool.eq_iff_iff, beq_iff_eq, decide_eq_true_eq]
    exact eq_comm
  rw [h 32 32 rfl, h 9 9 rfl, h 10 10 rfl, Bool.or_false]
def spSkip (K : PySem.W.Frag) : Sp := spOf fun vs H v => ∃ (a : Addr) (t : Bytes) (p : Nat), vs = [.ref a, .int (p : Int)] ∧ SqL K H a (tx t) ∧ p ≤ t.length ∧ v = .int (Mx.skip t p : Nat)
theorem spSkip_v {a : Addr} {t : Bytes} {p : Nat} (h : SqL K H a (tx t)) (hp : p ≤ t.length) : SpV (spSkip K) [.ref a, .int (p : Int)] H (.int (Mx.skip t p : Nat)) := SpV.of fun H1 e => ⟨a, t, p, rfl, ex_l e h, hp, rfl⟩
theorem ok_past_blanks (T : Tx K mg) : FnOk P w K mg base CX0 2 T.past_blanks.f T.past_blanks.fd ["text", "begin"] (spSkip K) := by
  have GR : FnOk P w K mg base CX0 1 _ _ _ _ := ok_remark_end T
  refine T.past_blanks.F.ok scPastBlanks (fun vs H Q E h => ?_) (fun cdv A outer s H vs Q E hr h => ⟨_, pss_cons (ps_set (i := 2) scPastBlanks.nd rfl (.inl rfl) (pv 1))
    (pss_cons (ps_while PassesOwn.never (pt_cmpR op_lt (pv 2) (pe_len T.b_len (pv 0)) (nomark _))
      (pss_one (ps_if (pt_cmpR op_eq (pe_ix ix_list (pv 0) (pv 2) (fun _ _ => rfl)) (pe_k T.k_REMARK) (nomark _))
        (pss_one (ps_set (i := 2) scPastBlanks.nd rfl (.inl rfl) (pe_fn T.remark_end GR hr (bdRemarkEnd T.remark_end.F) pass0 (pa_cons (pv 0) (pa_cons (pv 2) pa_nil)))))
        (pss_one (ps_if (pt_cmpR op_in_seq (pe_ix ix_list (pv 0) (pv 2) (fun _ _ => rfl)) (pe_kt T.k_BLANKS) (by rfl))
          (pss_one (ps_aug (i := 2) scPastBlanks.nd rfl (.inl rfl) pe_int ip_add))
          (pss_one (ps_ret (pv 2)))))))) (pss_one (ps_ret (pv 2)))), ?_⟩)
  · obtain ⟨_, ⟨a, t, p, rfl, _⟩, _⟩ := h
    rfl
  · obtain ⟨_, ⟨a, t, p, rfl, hS, hp, rfl⟩, k⟩ := h
    refine q_asg (ev_var rfl) fun H0 e0 => ?_
    refine q_while (fun m σ' H' => ∃ q : Nat, σ' = [some (.ref a), some (.int (p : Int)), some (.int (q : Int))] ∧ Ex H H' ∧ q ≤ t.length ∧ Mx.skip t q = Mx.skip t p ∧ m = t.length - q) (t.length - p) ⟨p, rfl, e0, hp, rfl, rfl⟩ ?_
    rintro m σ' H' ⟨q, rfl, e, hq, hs, rfl⟩
    have hS2 := ex_l e hS
    refine ⟨_, et_below hS2 (ev_var rfl) (ev_var rfl), fun hlt H1 e1 => ?_, fun hge H1 e1 => ?_⟩
    · have hl : q < t.length := of_decide_eq_true hlt
      obtain ⟨b, hb⟩ : ∃ b, t[q]? = some b := ⟨_, List.getElem?_eq_getElem hl⟩
      have hS3 := ex_l e1 hS2
      refine ⟨fun σ2 H2 => ∃ q' : Nat, q < q' ∧ q' ≤ t.length ∧ Mx.skip t q' = Mx.skip t p ∧ σ2 = [some (.ref a), some (.int (p : Int)), some (.int (q' : Int))] ∧ Ex H H2, fun σ2 H2 ⟨q', l1, l2, l3, e3, e4⟩ => ⟨t.length - q', by omega, q', e3, e4, l2, l3, rfl⟩, ?_⟩
      refine s_if (b := b == 35) (et_is (et_test (ev_op (ev_op (ev_var rfl) (ev_var rfl) (rv_ixL hS3 (tx_at hb))) ev_c (rv_eq rfl))) ?_) (fun hr H2 e2 => ?_) (fun hr H2 e2 => ?_)
      · rw [show decide (V.int (b.toNat : Int) = V.int 35) = decide ((b.toNat : Int) = 35) by simp]
        exact u8_is b 35
      · have hb' : t[q]? = some 35 := by rw [hb, beq_iff_eq.mp hr]
        have hu := Mx.rem_up hb'
        refine s_asg (ev_call (ea_cons (ev_var rfl) (ea_cons (ev_var rfl) ea_nil)) (spScan_v (ex_l e2 hS3) (Nat.le_of_lt hl))) fun H3 e3 => ?_
        exact ⟨_, by omega, hu.2, by rw [← Mx.skip_rem hb']; exact hs, rfl, ((e.trans e1).trans e2).trans e3⟩
      · have hne : b ≠ 35 := by simpa using hr
        refine s_if (b := VahypBase.isBlank b) (et_is (et_test (ev_op (ev_op (ev_var rfl) (ev_var rfl) (rv_ixL (ex_l e2 hS3) (tx_at hb))) ev_c (rv_isT (T.k_BLANKS.t _) rfl rfl))) (blank_in b)) (fun hbl H3 e3 => ?_) (fun hbl H3 e3 => ?_)
        · refine s_aug (f := fun i j => i + j) (a := (q : Int)) (b := 1) rfl ev_c fun H4 e4 => ⟨q + 1, by omega, by omega, by rw [← Mx.skip_blank hb hne hbl]; exact hs, ?_, (((e.trans e1).trans e2).trans e3).trans e4⟩
          simp
        · refine s_ret (ev_var rfl) fun H4 e4 => ?_
          rw [Mx.skip_no hb hne hbl] at hs
          rw [hs]
          exact k.go ((((e.trans e1).trans e2).trans e3).trans e4)
    · have hl : ¬ q < t.length := of_decide_eq_false hge
      refine s_ret (ev_var rfl) fun H2 e2 => ?_
      rw [Mx.skip_end (by omega)] at hs
      rw [hs]
      exact k.go ((e.trans e1).trans e2)
/-! ### Token -/
theorem ok_Token (T : Tx K mg) : FnOk P w K mg base CX0 1 T.cToken.f T.cToken.fd ["self", "kind", "place", "chunk"] (spIni T.cToken.C 3 fun as => [("kind", as.getD 0 .non), ("place", as.getD 1 .non), ("chunk", as.getD 2 .non)]) := by
  refine T.cToken.F.ok scTokenInit (fun vs H Q E h => ?_) (fun cdv A outer s H vs Q E hr h => ⟨_, pss_cons (ps_fld (pv 0) (pv 1) rfl) (pss_cons (ps_fld (pv 0) (pv 2) rfl) (pss_one (ps_fld (pv 0) (pv 3) rfl))), ?_⟩)
  · obtain ⟨p, dx, as, rfl, hl, _⟩ := h
    rw [List.length_cons, hl]
    rfl
  · obtain ⟨p, dx, as, rfl, hl, hp, k⟩ := h
    match as, hl with
    | [v1, v2, v3], _ =>
      refine ⟨_, rfl, _, rfl, p, T.cToken.C, dx, [], rfl, hp, T.cToken.cl, T.nToken_kind, (by show 0 < 1000; decide), ?_⟩
      refine ⟨_, rfl, _, rfl, p, T.cToken.C, dx, _, rfl, upd_same, T.cToken.cl, T.nToken_place, (by show 1 < 1000; decide), ?_⟩
      refine ⟨_, rfl, _, rfl, p, T.cToken.C, dx, _, rfl, upd_same, T.cToken.cl, T.nToken_chunk, (by rw [puts2 (by decide +kernel)]; show 2 < 1000; decide), ?_⟩
      show Q .non _
      rw [upd_upd, upd_upd, puts3 (by decide +kernel) (by decide +kernel) (by decide +kernel)]
      exact k
/-- a token as it lies -/
def TokAt (T : Tx K mg) (H : Hp) (o : Addr) (tk : VahypBase.PTok) : Prop := ∃ dx ca, H o = some (.ins T.cToken.C dx [("kind", .str (PySem.Str.ofString (Mx.kindOf tk.tok))), ("place", .int (tk.place : Nat)), ("chunk", .ref ca)]) ∧ SqL K H ca (tx (Mx.chunkOf tk.tok))
theorem TokAt.mono {T : Tx K mg} {o : Addr} {tk : VahypBase.PTok} (h : TokAt T H o tk) (e : Ex H H') : TokAt T H' o tk := let ⟨dx, ca, h1, h2⟩ := h; ⟨dx, ca, e _ _ h1, ex_l e h2⟩
end
end Pt
set_option Elab.async false
set_option linter.all false
set_option maxRecDepth 100000
set_option maxHeartbeats 2000000
namespace Pt
open PySem PySem.Spec PyProof.Rows L2 Evl
open VahypBase (Bytes)
/-! ## lists of objects; one thing that changes, the rest that stays -/
def Rep {α : Type} (R : Addr → α → Prop) (refs : List V) (xs : List α) : Prop := refs.length = xs.length ∧ ∀ (i : Nat) (x : α), xs[i]? = some x → ∃ o, refs[i]? = some (V.ref o) ∧ R o x
theorem Rep.nil {α : Type} {R : Addr → α → Prop} : Rep R [] [] := ⟨rfl, fun i x h => by simp at h⟩
theorem Rep.snoc {α : Type} {R : Addr → α → Prop} {refs : List V} {xs : List α} {o : Addr} {x : α} (h : Rep R refs xs) (r : R o x) : Rep R (refs ++ [.ref o]) (xs ++ [x]) := by
  obtain ⟨h1, h2⟩ := h
  refine ⟨by simp [h1], fun i y hy => ?_⟩
  by_cases hi : i < xs.length
  · rw [List.getElem?_append_left hi] at hy
    obtain ⟨p, hp, hr⟩ := h2 i y hy
    exact ⟨p, by rw [List.getElem?_append_left (by omega)]; exact hp, hr⟩
  · rw [List.getElem?_append_right (by omega)] at hy
    have hi2 : i - xs.length = 0 := by
      have := (List.getElem?_eq_some_iff.mp hy).1
      simp at this
      omega
    rw [hi2] at hy
    have e : x = y := by simpa using hy
    subst e
    refine ⟨o, ?_, r⟩
    rw [List.getElem?_append_right (by omega), h1, hi2]
    rfl
theorem Rep.mono {α : Type} {R R' : Addr → α → Prop} {refs : List V} {xs : List α} (h : Rep R refs xs) (k : ∀ o x, R o x → R' o x) : Rep R' refs xs :=
  ⟨h.1, fun i x hx => let ⟨o, h1, h2⟩ := h.2 i x hx; ⟨o, h1, k o x h2⟩⟩
theorem ex_split {G H1 : Hp} {l : Addr} {o : HO} (hl : G l = none) (e : Ex (upd G l o) H1) : ∃ G1 : Hp, G1 l = none ∧ Ex G G1 ∧ H1 = upd G1 l o := by
  refine ⟨fun b => if b = l then none else H1 b, if_pos rfl, fun b u hb => ?_, ?_⟩
  · have hne : b ≠ l := fun z => by rw [z, hl] at hb; cases hb
    show (if b = l then none else H1 b) = some u
    rw [if_neg hne]
    exact e b u (by rw [upd_ne hne]; exact hb)
  · funext b
    by_cases hb : b = l
    · rw [hb, upd_same]
      exact e l o upd_same
    · rw [upd_ne hb, if_neg hb]
theorem ex_upd {G : Hp} {l : Addr} {o : HO} (hl : G l = none) : Ex G (upd G l o) := Ex.new hl
section
variable {P : Program} {w : World} {K : PySem.W.Frag} {mg : Str → Option Value} {base : Heap} {X : Cx}
variable {σ : L2.St} {H H' : Hp} {ta tb tc te : TE} {x y z v : V} {C : Addr}
/-- arguments, the last one a new list -/
def EvAL (ta : TA) (σ : L2.St) (H : Hp) (xs : List V) (vs : Addr → List V) : Prop := ∀ H1, Ex H H1 → ∀ Q : List V → Hp → Prop, (∀ p H2, H1 p = none → Ex H1 H2 → H2 p = some (.lst xs) → Q (vs p) H2) → ta σ H1 Q
theorem eal_last {xs : List V} (h : EvL te σ H xs) : EvAL (tCons te tNil) σ H xs (fun p => [.ref p]) := fun H1 e Q q => h H1 e _ fun p H2 hp e2 h2 => q p H2 hp e2 h2
theorem eal_cons {xs : List V} {tr : TA} {vs : Addr → List V} (h : Ev te σ H v) (hr : EvAL tr σ H xs vs) : EvAL (tCons te tr) σ H xs (fun p => v :: vs p) := fun H1 e Q q => h H1 e _ fun H2 e2 => hr H2 (e.trans e2) _ fun p H3 hp e3 h3 => q p H3 (fresh_back e2 hp) (e2.trans e3) h3
theorem mk_l {n : Nat} {fs : List V → List (Str × V)} {t : TA} {xs : List V} {vs : Addr → List V} (h : EvAL t σ H xs vs) (hn : ∀ p, (vs p).length = n) {Q : VK} (q : ∀ x dx p H2, H x = none → H p = none → x ≠ p → Ex H H2 → H2 x = some (.ins C dx (fs (vs p))) → H2 p = some (.lst xs) → Q (.ref x) H2) :
    tMake C (spIni C n fs) [] E0 t σ H Q := h H (Ex.refl H) _ fun p H2 hp e2 h2 x dx nx nd ne => ⟨x, dx, vs p, by rw [List.append_nil], hn p, upd_same, rfl, by
    rw [upd_upd]
    have hx : x ≠ p := fun z => by rw [z, h2] at nx; cases nx
    have E2 : Ex H2 (upd (upd H2 dx (.own x)) x (.ins C dx (fs (vs p)))) := fun a u ha => by
      have h1 : a ≠ x := fun z => by rw [z, nx] at ha; cases ha
      rw [upd_ne h1]
      exact Ex.new nd a u ha
    exact q x dx p _ (fresh_back e2 nx) hp hx (e2.trans E2) upd_same (E2 p _ h2)⟩
theorem mk_v {n : Nat} {fs : List V → List (Str × V)} {t : TA} {vs : List V} (h : EvA t σ H vs) (hn : vs.length = n) {Q : VK} (q : ∀ x dx H2, H x = none → Ex H H2 → H2 x = some (.ins C dx (fs vs)) → Q (.ref x) H2) :
    tMake C (spIni C n fs) [] E0 t σ H Q := en_make h hn H (Ex.refl H) Q q
/-! ### the wish of an error -/
def FE (T : Tx K mg) (E : XK) (H : Hp) (c p : Nat) : Prop := ∀ d H', Ex H H' → H' d = some (.xd (fF (.int (c : Int)) (.int (p : Int)))) → E (.ref T.cF) (some d) H'
theorem FE.go {T : Tx K mg} {E : XK} {c p : Nat} (h : FE T E H c p) (e : Ex H H') : FE T E H' c p := fun d H2 e2 h2 => h d H2 (e.trans e2) h2
theorem s_raise {W : WX} {D : Ends} {t : TA} {c p : V} (h : EvA t σ H [c, p]) (k : ∀ d H1, H d = none → Ex H H1 → H1 d = some (.xd (fF c p)) → W (.ref C) (some d) σ H1) : tRaiseFlt C W t D σ H :=
  h H (Ex.refl H) _ fun H2 e2 => ⟨_, _, rfl, fun d hd => k d _ (fresh_back e2 hd) (e2.trans (Ex.new hd)) upd_same⟩
/-! ### token_at -/
def TokNew (T : Tx K mg) (H H2 : Hp) (o : Addr) (tk : VahypBase.PTok) : Prop := ∃ dx ca, H o = none ∧ H ca = none ∧ H2 o = some (.ins T.cToken.C dx [("kind", .str (PySem.Str.ofString (Mx.kindOf tk.tok))), ("place", .int (tk.place : Nat)), ("chunk", .ref ca)]) ∧ H2 ca = some (.lst (tx (Mx.chunkOf tk.tok)))
theorem TokNew.at_ {T : Tx K mg} {o : Addr} {tk : VahypBase.PTok} (h : TokNew T H H' o tk) : TokAt T H' o tk := let ⟨dx, ca, _, _, h1, h2⟩ := h; ⟨dx, ca, h1, sq_of h2⟩
def spTokenAt (T : Tx K mg) : Sp := fun vs H Q E => ∃ (a : Addr) (t : Bytes) (p : Nat), vs = [.ref a, .int (p : Int)] ∧ SqL K H a (tx t) ∧ p < t.length ∧ t.length ≤ 4096 ∧
  match VahypBase.token (t.drop p) with
  | none => FE T E H 2 p
  | some x => ∀ o H2, Ex H H2 → TokNew T H H2 o ⟨p, x.1⟩ → Q (.ref o) H2
theorem tx_drop (t : Bytes) (n : Nat) : (tx t).drop n = tx (t.drop n) := by unfold tx; rw [List.map_drop]
theorem tx_take (t : Bytes) (n : Nat) : (tx t).take n = tx (t.take n) := by unfold tx; rw [List.map_take]
theorem take_scan (f : UInt8 → Bool) (t : Bytes) (p : Nat) : (t.drop p).take (Mx.scan f t p - p) = (t.drop p).takeWhile f := by
  unfold Mx.scan
  rw [Nat.add_sub_cancel_left]
  have : ∀ l : Bytes, l.take (l.takeWhile f).length = l.takeWhile f := by
    intro l
    induction l with
    | nil => rfl
    | cons b r ih =>
      rw [List.takeWhile_cons]
      split
      · rw [List.length_cons, List.take_succ_cons, ih]
      · rfl
  exact this _
theorem ok_token_at (T : Tx K mg) : FnOk P w K mg base (L2.CX P w) 4 T.token_at.f T.token_at.fd ["text", "place"] (spTokenAt T) := by
  have GC : FnOk P w K mg base CX0 3 _ _ _ _ := ok_chunk_end T
  have GT : FnOk P w K mg base CX0 1 _ _ _ _ := ok_Token T
  refine T.token_at.F.okX scTokenAt (fun vs H Q E h => ?_) (fun cdv A outer s H vs Q E hr h => ?_)
  · obtain ⟨a, t, p, rfl, _⟩ := h
    rfl
  have hr2 : Room 2 _ := hr.mono (by decide)
  refine ⟨_, pss_cons (ps_if (pt_cmpR op_eq (pe_ix ix_list (pv 0) (pv 1) (fun _ _ => rfl)) (pe_k T.k_SEMICOLON) (nomark _))
      (pss_one (ps_ret (pe_make T.cToken.mkc GT hr2 rfl T.cToken.m (bdTokenInit T.cToken.F) .nil pass0 (pa_cons (pe_k T.k_SIGN) (pa_cons (pv 1) (pa_cons (pe_lst (pa_cons (pe_k T.k_SEMICOLON) pa_nil)) pa_nil)))))) pss_nil)
    (pss_cons (ps_set (i := 2) scTokenAt.nd rfl (.inl rfl) (pe_slice sl_list (pv 0) (po_some (pv 1)) (po_some (pe_fn T.chunk_end GC hr (bdChunkEnd T.chunk_end.F) pass0 (pa_cons (pv 0) (pa_cons (pv 1) pa_nil))))))
    (pss_cons (ps_if (PW.pt (pw_or (pt_cmpR op_eq (pe_len T.b_len (pv 2)) pe_int (nomark _)) (pw_or1 (pt_cmpR op_gt (pe_len T.b_len (pv 2)) (pe_k T.k_LONGEST_CHUNK) (nomark _)))))
      (pss_one (ps_raiseFlt rfl T.flt hr (takes_of rfl rfl rfl rfl) (pa_cons (pe_k T.k_NO_TOKEN) (pa_cons (pv 1) pa_nil)))) pss_nil)
    (pss_one (ps_ret (pe_make T.cToken.mkc GT hr2 rfl T.cToken.m (bdTokenInit T.cToken.F) .nil pass0 (pa_cons (pe_k T.k_CHUNK) (pa_cons (pv 1) (pa_cons (pv 2) pa_nil)))))))), ?_⟩
  obtain ⟨a, t, p, rfl, hS, hp, hz, k⟩ := h
  obtain ⟨b, hb⟩ : ∃ b, t[p]? = some b := ⟨_, List.getElem?_eq_getElem hp⟩
  refine q_when (b := b == 59) (et_is (et_test (ev_op (ev_op (ev_var rfl) (ev_var rfl) (rv_ixL hS (tx_at hb))) ev_c (rv_eq rfl))) ?_) (fun hs H1 e1 => ?_) (fun hs H1 e1 => ?_)
  · rw [show decide (V.int (b.toNat : Int) = V.int 59) = decide ((b.toNat : Int) = 59) by simp]
    exact u8_is b 59
  · have hb' : b = 59 := beq_iff_eq.mp hs
    rw [Mx.drop_at hb, hb', Mx.token_sign] at k
    refine mk_l (n := 3) (eal_cons ev_c (eal_cons (ev_var rfl) (eal_last (el_lst (ea_cons ev_c ea_nil) (by decide))))) (fun _ => rfl) fun x dx pl H2 hx hpl hne e2 h1 h2 => ?_
    exact k x H2 (e1.trans e2) ⟨dx, pl, fresh_back e1 hx, fresh_back e1 hpl, h1, h2⟩
  · have hb' : b ≠ 59 := by simpa using hs
    have htk := Mx.token_chunk (l := t.drop p) (by rw [Mx.drop_at hb]; exact fun z => nomatch z) (by rw [Mx.drop_at hb]; exact fun z => hb' (by simpa using z))
    have hsc := Mx.scan_le (f := VahypBase.inChunk) (Nat.le_of_lt hp)
    refine q_asgL (el_sl (ev_var rfl) (eo_some (ev_var rfl)) (eo_some (ev_call (ea_cons (ev_var rfl) (ea_cons (ev_var rfl) ea_nil)) (spScan_v (ex_l e1 hS) (Nat.le_of_lt hp)))) (ex_l e1 hS)) fun l H2 hl e2 h2 => ?_
    rw [cut_nat _ _ _ hsc.1 (by rw [tx_len]; exact hsc.2), tx_drop, tx_take, take_scan] at h2
    obtain ⟨c, hc⟩ : ∃ c, c = (t.drop p).takeWhile VahypBase.inChunk := ⟨_, rfl⟩
    rw [← hc] at h2 htk
    have hlen : Ev (tCB (rLenS K) (tCons (tVar 2) tNil)) [some (.ref a), some (.int (p : Int)), some (.ref l)] H2 (.int (c.length : Int)) := by
      have := ev_len (K := K) (ta := tVar 2) (σ := [some (.ref a), some (.int (p : Int)), some (.ref l)]) (ev_var rfl) (sq_of h2)
      rw [tx_len] at this
      exact this
    refine q_when (b := decide (c.length = 0 ∨ 40 < c.length)) (et_is (et_or (et_test (ev_op hlen ev_c (rv_eq rfl))) fun _ => et_test (ev_op hlen ev_c rv_I0)) ?_) (fun hs H3 e3 => ?_) (fun hs H3 e3 => ?_)
    · rw [Bool.eq_iff_iff]
      simp only [Bool.or_eq_true, decide_eq_true_eq, V.int.injEq]
      omega
    · rw [htk, if_pos (of_decide_eq_true hs)] at k
      exact s_raise (ea_cons ev_c (ea_cons (ev_var rfl) ea_nil)) fun d H4 hd e4 h4 => k d H4 (((e1.trans e2).trans e3).trans e4) h4
    · rw [htk, if_neg (of_decide_eq_false hs)] at k
      refine mk_v (n := 3) (ea_cons ev_c (ea_cons (ev_var rfl) (ea_cons (ev_var rfl) ea_nil))) rfl fun x dx H4 hx e4 h4 => ?_
      exact k x H4 (((e1.trans e2).trans e3).trans e4) ⟨dx, l, fresh_back e1 (fresh_back e2 (fresh_back e3 hx)), fresh_back e1 hl, h4, (e3.trans e4) _ _ h2⟩
end
end Pt
set_option Elab.async false
set_option linter.all false
set_option maxRecDepth 100000
set_option maxHeartbeats 2000000
namespace Pt
open PySem PySem.Spec PyProof.Rows L2 Evl
open VahypBase (Bytes)
theorem ex_split0 {H H1 : Hp} {l : Addr} {o : HO} (hl : H l = none) (e : Ex H H1) (h : H1 l = some o) : ∃ G1 : Hp, G1 l = none ∧ Ex H G1 ∧ H1 = upd G1 l o := by
  refine ⟨fun b => if b = l then none else H1 b, if_pos rfl, fun b u hb => ?_, ?_⟩
  · have hne : b ≠ l := fun z => by rw [z, hl] at hb; cases hb
    show (if b = l then none else H1 b) = some u
    rw [if_neg hne]
    exact e b u hb
  · funext b
    by_cases hb : b = l
    · rw [hb, upd_same, h]
    · rw [upd_ne hb, if_neg hb]
section
variable {P : Program} {w : World} {K : PySem.W.Frag} {mg : Str → Option Value} {base : Heap} {X : Cx}
variable {σ : L2.St} {H H' : Hp} {ta tb tc te : TE} {x y z v : V} {C : Addr} {D : Ends} {tz : TS}
/-- a value told by what is true of it: ahead, the value, behind -/
def EvQ (te : TE) (σ : L2.St) (H : Hp) (P : Hp → V → Hp → Prop) : Prop := ∀ H1, Ex H H1 → ∀ Q : VK, (∀ v H2, Ex H1 H2 → P H1 v H2 → Q v H2) → te σ H1 Q
theorem eq_v (h : Ev te σ H v) : EvQ te σ H (fun _ u _ => u = v) := fun H1 e Q q => h H1 e Q fun H2 e2 => q v H2 e2 rfl
theorem eq_l {xs : List V} (h : EvL te σ H xs) : EvQ te σ H (fun H1 u H2 => ∃ p, u = .ref p ∧ H1 p = none ∧ H2 p = some (.lst xs)) := fun H1 e Q q => h H1 e Q fun p H2 hp e2 h2 => q _ H2 e2 ⟨p, rfl, hp, h2⟩
theorem eq_u {xs : List V} (h : EvU te σ H xs) : EvQ te σ H (fun H1 u H2 => ∃ p, u = .ref p ∧ H1 p = none ∧ H2 p = some (.tup xs)) := fun H1 e Q q => h H1 e Q fun p H2 hp e2 h2 => q _ H2 e2 ⟨p, rfl, hp, h2⟩
theorem EvAL.mono {t : TA} {xs : List V} {vs : Addr → List V} (e : Ex H H') (h : EvAL t σ H xs vs) : EvAL t σ H' xs vs := fun H1 a Q q => h H1 (e.trans a) Q q
theorem eq_mkl {n : Nat} {fs : List V → List (Str × V)} {t : TA} {xs : List V} {vs : Addr → List V} (h : EvAL t σ H xs vs) (hn : ∀ p, (vs p).length = n) :
    EvQ (tMake C (spIni C n fs) [] E0 t) σ H (fun H1 u H2 => ∃ x dx p, u = .ref x ∧ H1 x = none ∧ H1 p = none ∧ x ≠ p ∧ H2 x = some (.ins C dx (fs (vs p))) ∧ H2 p = some (.lst xs)) :=
  fun H1 e Q q => mk_l (h.mono e) hn fun x dx p H2 hx hp hne e2 h1 h2 => q _ H2 e2 ⟨x, dx, p, rfl, hx, hp, hne, h1, h2⟩
theorem eq_mkv {n : Nat} {fs : List V → List (Str × V)} {t : TA} {vs : List V} (h : EvA t σ H vs) (hn : vs.length = n) :
    EvQ (tMake C (spIni C n fs) [] E0 t) σ H (fun H1 u H2 => ∃ x dx, u = .ref x ∧ H1 x = none ∧ H2 x = some (.ins C dx (fs vs))) :=
  fun H1 e Q q => mk_v (h.mono e) hn fun x dx H2 hx e2 h1 => q _ H2 e2 ⟨x, dx, rfl, hx, h1⟩
theorem s_asgQ {i : Nat} {R : Hp → V → Hp → Prop} (h : EvQ te σ H R) (k : ∀ v H1, Ex H H1 → R H v H1 → D.nx (σ.set i (some v)) H1) : tAsg te (gName i) D σ H := h H (Ex.refl H) _ k
theorem q_asgQ {i : Nat} {R : Hp → V → Hp → Prop} (h : EvQ te σ H R) (k : ∀ v H1, Ex H H1 → R H v H1 → tz D (σ.set i (some v)) H1) : tSeq (tAsg te (gName i)) tz D σ H := h H (Ex.refl H) _ k
theorem s_retQ {R : Hp → V → Hp → Prop} (h : EvQ te σ H R) (k : ∀ v H1, Ex H H1 → R H v H1 → D.rt v H1) : tRet te D σ H := h H (Ex.refl H) _ k
theorem s_appQ {l : Addr} {xs : List V} {R : Hp → V → Hp → Prop} (hl : H l = some (.lst xs)) (ha : Ev ta σ H (.ref l)) (h : EvQ te σ H R) (hz : xs.length < 100000) (k : ∀ v H1 H2, Ex H H1 → Ex H1 H2 → R H1 v H2 → D.nx σ (upd H2 l (.lst (xs ++ [v])))) :
    tDrop (tBM K "list" rAppend ta (tCons te tNil)) D σ H := ha H (Ex.refl H) _ fun H1 e1 =>
  ⟨Or.inl ⟨rfl, xs, sq_of (e1 l _ hl)⟩, h H1 e1 _ fun v H2 e2 r => ⟨l, xs, v, rfl, rfl, e2 l _ (e1 l _ hl), sz_lt hz, k v H1 H2 e1 e2 r⟩⟩
theorem q_appQ {l : Addr} {xs : List V} {R : Hp → V → Hp → Prop} (hl : H l = some (.lst xs)) (ha : Ev ta σ H (.ref l)) (h : EvQ te σ H R) (hz : xs.length < 100000) (k : ∀ v H1 H2, Ex H H1 → Ex H1 H2 → R H1 v H2 → tz D σ (upd H2 l (.lst (xs ++ [v])))) :
    tSeq (tDrop (tBM K "list" rAppend ta (tCons te tNil))) tz D σ H := s_appQ (D := { D with nx := tz D }) hl ha h hz k
/-- a call, by its promise -/
theorem t_call {sp : Sp} {E : XK} {t : TA} {vs : List V} {Q : VK} (h : EvA t σ H vs) (k : ∀ H1, Ex H H1 → sp vs H1 Q E) : tCall sp [] E t σ H Q := h H (Ex.refl H) _ fun H1 e => by
  rw [List.append_nil]
  exact k H1 e
/-! ### token_at's rest: the tokens of a text -/
def TokList (T : Tx K mg) (H : Hp) (l : Addr) (ts : VahypBase.Toks) : Prop := ∃ refs, SqL K H l refs ∧ Rep (TokAt T H) refs ts
theorem TokList.mono {T : Tx K mg} {l : Addr} {ts : VahypBase.Toks} (h : TokList T H l ts) (e : Ex H H') : TokList T H' l ts := let ⟨refs, h1, h2⟩ := h; ⟨refs, ex_l e h1, h2.mono fun _ _ r => r.mono e⟩
theorem TokNew.off {T : Tx K mg} {H1 H2 G : Hp} {o l : Addr} {tk : VahypBase.PTok} {u u' : HO} (h : TokNew T H1 H2 o tk) (hl : H1 l = some u) (e : H2 = upd G l u') : TokAt T G o tk := by
  obtain ⟨dx, ca, h1, h2, h3, h4⟩ := h
  have n1 : o ≠ l := fun z => by rw [z, hl] at h1; cases h1
  have n2 : ca ≠ l := fun z => by rw [z, hl] at h2; cases h2
  rw [e, upd_ne n1] at h3
  rw [e, upd_ne n2] at h4
  exact ⟨dx, ca, h3, sq_of h4⟩
def spReadTokens (T : Tx K mg) : Sp := fun vs H Q E => ∃ (a : Addr) (t : Bytes), vs = [.ref a] ∧ SqL K H a (tx t) ∧ t.length ≤ 4096 ∧
  match Mx.L t 0 with
  | .error f => FE T E H f.code f.place
  | .ok ts => ∀ l H2, H l = none → Ex H H2 → TokList T H2 l ts → Q (.ref l) H2
theorem emap {α β γ : Type} {f : β → γ} {g : α → β} {e : Except VahypBase.Fault α} : (e.map g).map f = e.map fun a => f (g a) := by cases e <;> rfl
theorem ok_read_tokens (T : Tx K mg) : FnOk P w K mg base (L2.CX P w) 5 T.read_tokens.f T.read_tokens.fd ["text"] (spReadTokens T) := by
  have GA : FnOk P w K mg base (L2.CX P w) 4 _ _ _ _ := ok_token_at T
  have GS : FnOk P w K mg base CX0 4 _ _ _ _ := (ok_past_blanks T).mono (by decide)
  have GT : FnOk P w K mg base CX0 1 _ _ _ _ := ok_Token T
  refine T.read_tokens.F.okX scReadTokens (fun vs H Q E h => ?_) (fun cdv A outer s H vs Q E hr h => ?_)
  · obtain ⟨a, t, rfl, _⟩ := h
    rfl
  have hr2 : Room 2 _ := hr.mono (by decide)
  refine ⟨_, pss_cons (ps_set (i := 1) scReadTokens.nd rfl (.inl rfl) (pe_lst pa_nil))
    (pss_cons (ps_set (i := 2) scReadTokens.nd rfl (.inl rfl) (pe_fn T.past_blanks GS hr (bdPastBlanks T.past_blanks.F) pass0 (pa_cons (pv 0) (pa_cons pe_int pa_nil))))
    (pss_cons (ps_while (passes_of rfl) (pt_cmpR op_lt (pv 2) (pe_len T.b_len (pv 0)) (nomark _))
      (pss_cons (ps_set (i := 3) scReadTokens.nd rfl (.inl rfl) (pe_fn T.token_at GA hr (bdTokenAt T.token_at.F) (passes_call (takes_of rfl rfl rfl rfl) (fun _ _ _ _ h => h)) (pa_cons (pv 0) (pa_cons (pv 2) pa_nil))))
      (pss_cons (ps_expr (pe_bm PySem.F.plainAttrs_list PySem.F.slot_list_append PySem.F.type_list_append mt_append (pv 1) (pa_cons (pv 3) pa_nil)))
      (pss_one (ps_set (i := 2) scReadTokens.nd rfl (.inl rfl) (pe_fn T.past_blanks GS hr (bdPastBlanks T.past_blanks.F) pass0 (pa_cons (pv 0) (pa_cons (pe_op op_add (pv 2) (pe_len T.b_len (pe_fld (pv 3) rfl))) pa_nil))))))))
    (pss_cons (ps_expr (pe_bm PySem.F.plainAttrs_list PySem.F.slot_list_append PySem.F.type_list_append mt_append (pv 1) (pa_cons (pe_make T.cToken.mkc GT hr2 rfl T.cToken.m (bdTokenInit T.cToken.F) .nil pass0 (pa_cons (pe_k T.k_END) (pa_cons (pv 2) (pa_cons (pe_lst pa_nil) pa_nil)))) pa_nil)))
    (pss_one (ps_ret (pv 1)))))), ?_⟩
  obtain ⟨a, t, rfl, hS, hlen, k⟩ := h
  refine q_asgL (el_lst ea_nil (by decide)) fun l H1 hl e1 h1 => ?_
  refine q_asg (v := .int (Mx.skip t 0 : Nat)) (ev_call (ea_cons (ev_var rfl) (ea_cons ev_c ea_nil)) (spSkip_v (p := 0) (ex_l e1 hS) (Nat.zero_le _))) fun H2 e2 => ?_
  obtain ⟨G, hG, eG, rfl⟩ := ex_split0 hl (e1.trans e2) (e2 l _ h1)
  have sk := Mx.skip_spec (t := t) (p := 0) (Nat.zero_le _)
  refine q_while (fun m σ' H' => ∃ (q : Nat) (ts : VahypBase.Toks) (refs : List V) (G : Hp) (u : Option V), σ' = [some (.ref a), some (.ref l), some (.int (q : Int)), u] ∧ G l = none ∧ Ex H G ∧ H' = upd G l (.lst refs) ∧ Rep (TokAt T G) refs ts ∧
    ts.length ≤ q ∧ q ≤ t.length ∧ (∀ b, t[q]? = some b → b ≠ 35 ∧ VahypBase.isBlank b = false) ∧ Mx.L t 0 = (Mx.L t q).map (ts ++ ·) ∧ m = t.length - q) (t.length - Mx.skip t 0)
    ⟨_, [], [], G, _, rfl, hG, eG, rfl, Rep.nil, Nat.zero_le _, sk.2.1, sk.2.2.2, ?_, rfl⟩ ?_
  · rw [← sk.2.2.1]
    cases Mx.L t (Mx.skip t 0) <;> rfl
  rintro m σ' H' ⟨q, ts, refs, G, u, rfl, hG, eG, rfl, hR, hb1, hb2, hb3, hL, rfl⟩
  have eU : Ex H (upd G l (.lst refs)) := eG.trans (ex_upd hG)
  refine ⟨_, et_below (ex_l eU hS) (ev_var rfl) (ev_var rfl), fun hlt H3 e3 => ?_, fun hge H3 e3 => ?_⟩
  · have hlt : q < t.length := of_decide_eq_true hlt
    refine ⟨fun σ2 H2 => ∃ m', m' < t.length - q ∧ ∃ (q : Nat) (ts : VahypBase.Toks) (refs : List V) (G : Hp) (u : Option V), σ2 = [some (.ref a), some (.ref l), some (.int (q : Int)), u] ∧ G l = none ∧ Ex H G ∧ H2 = upd G l (.lst refs) ∧ Rep (TokAt T G) refs ts ∧
      ts.length ≤ q ∧ q ≤ t.length ∧ (∀ b, t[q]? = some b → b ≠ 35 ∧ VahypBase.isBlank b = false) ∧ Mx.L t 0 = (Mx.L t q).map (ts ++ ·) ∧ m' = t.length - q, fun σ2 H2 h => h, ?_⟩
    refine t_call (ea_cons (ev_var rfl) (ea_cons (ev_var rfl) ea_nil)) fun H4 e4 => ⟨a, t, q, rfl, ex_l ((eU.trans e3).trans e4) hS, hlt, hlen, ?_⟩
    obtain ⟨b, hb⟩ : ∃ b, t[q]? = some b := ⟨_, List.getElem?_eq_getElem hlt⟩
    obtain ⟨hr35, hbl⟩ := hb3 b hb
    cases htok : VahypBase.token (t.drop q) with
    | none =>
      rw [Mx.L_none hb hbl hr35 htok] at hL
      rw [hL] at k
      exact FE.go k ((eU.trans e3).trans e4)
    | some x =>
      show ∀ o H2, Ex H4 H2 → TokNew T H4 H2 o ⟨q, x.1⟩ → _
      intro o H5 e5 hN
      rw [Mx.L_some hb hbl hr35 htok] at hL
      have hx := Mx.token_len (b := b) (r := t.drop (q + 1)) (by rw [← Mx.drop_at hb]; exact htok)
      rw [← Mx.drop_at hb, List.length_drop] at hx
      have hcl : (Mx.chunkOf x.1).length = x.2 := by
        rcases Mx.token_form htok with ⟨c, rfl, _⟩ | ⟨rfl, _⟩ <;> rfl
      obtain ⟨G5, hG5, eG5, E5⟩ := ex_split hG ((e3.trans e4).trans e5)
      have hA : TokAt T G5 o ⟨q, x.1⟩ := hN.off ((e3.trans e4) l _ upd_same) E5
      have hl5 : H5 l = some (.lst refs) := by rw [E5]; exact upd_same
      refine q_appQ hl5 (ev_var rfl) (eq_v (ev_var (v := .ref o) rfl)) (by rw [hR.1]; omega) fun v H6 H7 e6 e7 ev => ?_
      subst ev
      have E57 : Ex (upd G5 l (.lst refs)) H7 := E5 ▸ e6.trans e7
      obtain ⟨G7, hG7, eG7, E7⟩ := ex_split hG5 E57
      rw [E7, upd_upd]
      obtain ⟨dx, ca, ho, hca⟩ := hA.mono eG7
      have U7 : Ex G7 (upd G7 l (.lst (refs ++ [.ref o]))) := ex_upd hG7
      refine s_asg (v := .int (Mx.skip t (q + x.2) : Nat)) (ev_call (ea_cons (ev_var rfl) (ea_cons (ev_is (ev_op (ev_var rfl) (ev_len (ev_fld (ev_var rfl) (U7 _ _ ho) T.cToken.cl T.nToken_chunk (by rfl)) (ex_l U7 hca)) rv_I0) ?_) ea_nil)) (spSkip_v (p := q + x.2) (ex_l (((eG.trans eG5).trans eG7).trans U7) hS) (by omega))) fun H8 e8 => ?_
      · rw [tx_len, hcl]
        simp
      · have sk := Mx.skip_spec (t := t) (p := q + x.2) (by omega)
        obtain ⟨G8, hG8, eG8, E8⟩ := ex_split hG7 e8
        refine ⟨_, ?_, _, ts ++ [⟨q, x.1⟩], refs ++ [.ref o], G8, _, rfl, hG8, ((eG.trans eG5).trans eG7).trans eG8, E8, (Rep.snoc ((hR.mono fun _ _ r => r.mono (eG5.trans eG7))) ⟨dx, ca, ho, hca⟩).mono fun _ _ r => r.mono eG8, ?_, sk.2.1, sk.2.2.2, ?_, rfl⟩
        · omega
        · simp
          omega
        · rw [hL, sk.2.2.1, emap]
          simp
  · have hge : ¬ q < t.length := of_decide_eq_false hge
    have hq : q = t.length := by omega
    obtain ⟨G3, hG3, eG3, rfl⟩ := ex_split hG e3
    rw [Mx.L_end hq] at hL
    rw [hL] at k
    refine q_appQ upd_same (ev_var rfl) (eq_mkl (eal_cons ev_c (eal_cons (ev_var rfl) (eal_last (el_lst ea_nil (by decide))))) fun _ => rfl) (by rw [hR.1]; omega) fun v H6 H7 e6 e7 hv => ?_
    obtain ⟨o, dx, p, rfl, ho, hp, hne, h7, h8⟩ := hv
    obtain ⟨G7, hG7, eG7, E7⟩ := ex_split hG3 (e6.trans e7)
    have hN : TokNew T H6 H7 o ⟨q, .last⟩ := ⟨dx, p, ho, hp, h7, h8⟩
    have hA : TokAt T G7 o ⟨q, .last⟩ := hN.off (e6 l _ upd_same) E7
    rw [E7, upd_upd]
    have U7 : Ex G7 (upd G7 l (.lst (refs ++ [.ref o]))) := ex_upd hG7
    refine s_ret (ev_var rfl) fun H8 e8 => ?_
    refine k l H8 hl ((((eG.trans eG3).trans eG7).trans U7).trans e8) ⟨refs ++ [.ref o], sq_of (e8 l _ upd_same), ?_⟩
    exact (Rep.snoc (hR.mono fun _ _ r => r.mono (eG3.trans eG7)) hA).mono fun _ _ r => r.mono (U7.trans e8)
end
end Pt
set_option Elab.async false
set_option linter.all false
set_option maxRecDepth 100000
set_option maxHeartbeats 2000000
namespace Pt
open PySem PySem.Spec PyProof.Rows L2 Evl
open VahypBase (Bytes)
theorem nb1 : ∀ {b : Bool}, (!b) = true → b = false := by decide
theorem nb2 : ∀ {b : Bool}, (!b) = false → b = true := by decide
/-! ## comprehensions -/
theorem given_map {xs : List V} (p : V → Bool) (g : V → V) : given xs.length (fun i => p (xs.getD i .non)) (fun i => g (xs.getD i .non)) = (xs.filter p).map g := by
  unfold given
  have h : xs = (List.range xs.length).map fun i => xs.getD i .non := by
    refine List.ext_getElem (by simp) fun i h1 h2 => ?_
    simp [List.getD_eq_getElem?_getD, h1]
  conv => rhs; rw [h, List.filter_map, List.map_map]
  rfl
section
variable {P : Program} {w : World} {K : PySem.W.Frag} {mg : Str → Option Value} {base : Heap} {X : Cx}
variable {σ : L2.St} {H H' : Hp} {ta tb tc te tl : TE} {t : TT} {x y z v : V} {C : Addr} {D : Ends} {tz : TS}
theorem getD_of {xs : List V} {i : Nat} {x : V} (h : xs[i]? = some x) : xs.getD i .non = x := by rw [List.getD_eq_getElem?_getD, h]; rfl
theorem el_lcF {a : Addr} {xs : List V} {j : Nat} {vs : List Nat} (p : V → Bool) (g : V → V) (h : Ev tl σ H (.ref a)) (hx : SqL K H a xs) (hz : xs.length ≤ 40000) (hw : ∀ x, wipe ((wipe σ vs).set j (some x)) vs = wipe σ vs)
    (ht : ∀ (x : V) H1, Ex H H1 → x ∈ xs → EvT t ((wipe σ vs).set j (some x)) H1 (p x)) (he : ∀ (x : V) H1, Ex H H1 → x ∈ xs → p x = true → Ev te ((wipe σ vs).set j (some x)) H1 (g x)) :
    EvL (tLc (iList K tl) (gName j) t te vs) σ H ((xs.filter p).map g) := by
  rw [← given_map]
  refine el_lcL (fun i => p (xs.getD i .non)) (fun i => g (xs.getD i .non)) h hx hz hw (fun i x H1 e hi => ?_) (fun i x H1 e hi hf => ?_)
  · rw [getD_of hi]
    exact ht x H1 e (List.mem_of_getElem? hi)
  · rw [getD_of hi] at hf ⊢
    exact he x H1 e (List.mem_of_getElem? hi) hf
theorem et_yes : EvT tYes σ H true := fun H1 _ Q q => q H1 (Ex.refl H1)
/-- no test -/
theorem el_lcA {a : Addr} {xs : List V} {j : Nat} {vs : List Nat} (g : V → V) (h : Ev tl σ H (.ref a)) (hx : SqL K H a xs) (hz : xs.length ≤ 40000) (hw : ∀ x, wipe ((wipe σ vs).set j (some x)) vs = wipe σ vs)
    (he : ∀ (x : V) H1, Ex H H1 → x ∈ xs → Ev te ((wipe σ vs).set j (some x)) H1 (g x)) : EvL (tLc (iList K tl) (gName j) tYes te vs) σ H (xs.map g) := by
  have := el_lcF (K := K) (t := tYes) (te := te) (tl := tl) (fun _ => true) g h hx hz hw (fun _ _ _ _ => et_yes) (fun x H1 e hm _ => he x H1 e hm)
  rw [List.filter_eq_self.mpr (fun _ _ => rfl)] at this
  exact this
/-- over a text -/
theorem el_lcS {z : Str} {j : Nat} {vs : List Nat} (g : Nat → V) (h : Ev tl σ H (.str z)) (hz : z.cps.size ≤ 40000) (hw : ∀ x, wipe ((wipe σ vs).set j (some x)) vs = wipe σ vs)
    (he : ∀ (c : Nat) H1, Ex H H1 → Ev te ((wipe σ vs).set j (some (.str ⟨#[c]⟩))) H1 (g c)) : EvL (tLc (iStr tl) (gName j) tYes te vs) σ H (z.cps.toList.map g) := fun H0 e Q q => h H0 e _ fun H1 e1 => ⟨z, rfl, fun Dl hD =>
  lc_it walk_str (fun i H' => H1 Dl = none ∧ Ex H1 H' ∧ H' Dl = some (.lst ((z.cps.toList.take i).map g))) ⟨hD, Ex.new hD, upd_same⟩ (fun _ _ _ _ => trivial) (fun i x H2 H3 hi p y => by
    obtain ⟨rfl, c, hc, rfl⟩ := y
    obtain ⟨p1, p2, p3⟩ := p
    refine ⟨hw _, ?_⟩
    refine et_yes (H := H3) H3 (Ex.refl H3) _ fun H5 e5 => ?_
    refine iteT ?_
    refine he c H5 (e.trans (e1.trans (p2.trans e5))) H5 (Ex.refl H5) _ fun H4 e4 => ⟨_, e4 _ _ (e5 _ _ p3), sz_lt (by rw [List.length_map]; have := List.length_take_le i z.cps.toList; omega), p1, Ex.mut ((p2.trans e5).trans e4) p1, ?_⟩
    have hc' : z.cps.toList[i]? = some c := by simpa using hc
    rw [upd_same, List.take_add_one, List.map_append, hc']
    rfl) fun H' p => by
      have hp := p.2.2
      rw [List.take_of_length_le (by simp)] at hp
      exact q Dl H' (fresh_back e1 p.1) (e1.trans p.2.1) hp⟩
theorem ev_all {bs : List Bool} (h : EvL te σ H (bs.map V.bl)) : Ev (tCB (rAll K) (tCons te tNil)) σ H (.bl (bs.all id)) := fun H1 e Q q => h H1 e _ fun p H2 _ e2 h2 => ⟨p, bs, rfl, sq_of h2, q H2 e2⟩
theorem ev_neg1 : Ev (tUn (rU fun i => V.int (-i)) (tC (.int 1))) σ H (.int (-1)) := ev_un ev_c ru_neg
/-! ### spelled -/
def codes (z : Str) : List V := z.cps.toList.map fun (c : Nat) => .int (c : Int)
def spSpelled : Sp := fun vs H Q _ => ∃ z : Str, vs = [.str z] ∧ z.cps.size ≤ 1000 ∧ RetL (codes z) H Q
theorem ok_spelled (T : Tx K mg) : FnOk P w K mg base CX0 1 T.spelled.f T.spelled.fd ["word"] spSpelled := by
  refine T.spelled.F.ok scSpelled (fun vs H Q E h => ?_) (fun cdv A outer s H vs Q E hr h => ⟨_, pss_one (ps_ret (pe_lc (own := [("letter", 1)]) (g := gName 1) (tt := tYes) rfl scSpelled.nd (pi_str (pv 0)) (blkOk_by (N := ["word", "letter"]) (sc := defScope sSpelled) (by decide +kernel)) (fun _ _ _ _ _ => pg_name (i := 1) scSpelled.nd rfl (Or.inl rfl)) (fun _ _ _ _ _ => pts_nil)
    (fun _ _ _ _ _ => pe_callB call_ord (by rfl) T.b_ord (by decide +kernel) (pa_cons (pv 1) pa_nil)))), ?_⟩)
  · obtain ⟨z, rfl, _⟩ := h
    rfl
  · obtain ⟨z, rfl, hz, k⟩ := h
    exact s_retL (el_lcS (fun (c : Nat) => .int (c : Int)) (ev_var rfl) (by omega) (fun _ => rfl) fun c H1 e1 => ev_cb (ea_cons (ev_var rfl) ea_nil) fun H2 e2 Q q => ⟨⟨#[c]⟩, rfl, rfl, q H2 (Ex.refl H2)⟩) fun p H1 hp e h => k p H1 hp e h
/-! ### margin_of, are_word_letters, stands_between_letters -/
def marginV (c : Bytes) : Option Nat := match c with
  | [b] => if VahypBase.isDigit b = true ∧ b.toNat - 48 ≤ 5 then some (b.toNat - 48) else none
  | _ => none
def optI : Option Nat → V
  | some n => .int (n : Int)
  | none => .non
def spMargin (K : PySem.W.Frag) : Sp := spOf fun vs H v => ∃ (a : Addr) (c : Bytes), vs = [.ref a] ∧ SqL K H a (tx c) ∧ v = optI (marginV c)
theorem spMargin_v {a : Addr} {c : Bytes} (h : SqL K H a (tx c)) : SpV (spMargin K) [.ref a] H (optI (marginV c)) := SpV.of fun H1 e => ⟨a, c, rfl, ex_l e h, rfl⟩
theorem digit_ge {b : UInt8} (h : VahypBase.isDigit b = true) : 48 ≤ b.toNat ∧ b.toNat ≤ 57 := of_decide_eq_true h
theorem ok_margin_of (T : Tx K mg) : FnOk P w K mg base CX0 2 T.margin_of.f T.margin_of.fd ["chunk"] (spMargin K) := by
  have GD : FnOk P w K mg base CX0 1 _ _ _ _ := ok_is_digit T
  refine T.margin_of.F.ok scMarginOf (fun vs H Q E h => ?_) (fun cdv A outer s H vs Q E hr h => ⟨_,
    pss_cons (ps_if (PW.pt (pw_or (pt_cmpR op_ne (pe_len T.b_len (pv 0)) pe_int (nomark _)) (pw_or1 (pt_not (pt_val (pe_fn T.is_digit GD hr (bdIsDigit T.is_digit.F) pass0 (pa_cons (pe_ix ix_list (pv 0) pe_int (fun _ _ => rfl)) pa_nil))))))) (pss_one (ps_ret pe_non)) pss_nil)
    (pss_cons (ps_set (i := 1) scMarginOf.nd rfl (.inl rfl) (pe_op op_sub (pe_ix ix_list (pv 0) pe_int (fun _ _ => rfl)) pe_int))
    (pss_one (ps_ret (pe_ifExp (pt_cmpR op_le (pv 1) (pe_k T.k_GREATEST_MARGIN) (nomark _)) (pv 1) pe_non)))), ?_⟩)
  · obtain ⟨_, ⟨a, c, rfl, _⟩, _⟩ := h
    rfl
  · obtain ⟨_, ⟨a, c, rfl, hS, rfl⟩, k⟩ := h
    have hlen : ∀ σ : L2.St, σ[0]? = some (some (.ref a)) → ∀ H1, Ex H H1 → Ev (tCB (rLenS K) (tCons (tVar 0) tNil)) σ H1 (.int (c.length : Int)) := fun σ hσ H1 e1 => by
      have := ev_len (K := K) (ta := tVar 0) (σ := σ) (ev_var hσ) (ex_l e1 hS)
      rw [tx_len] at this
      exact this
    by_cases h1 : c.length = 1
    · obtain ⟨b, rfl⟩ : ∃ b, c = [b] := by
        match c, h1 with
        | [b], _ => exact ⟨b, rfl⟩
      have hat : atI (tx [b]) 0 = some (.int (b.toNat : Int)) := tx_at (t := [b]) (q := 0) (b := b) rfl
      refine q_when (b := !VahypBase.isDigit b) (et_is (et_or (et_test (ev_op (hlen _ rfl _ (Ex.refl H)) ev_c (rv_ne rfl))) fun _ => et_not (et_B (ev_call (ea_cons (ev_op (ev_var rfl) ev_c (rv_ixL hS hat)) ea_nil) spI_v))) ?_) (fun hs H1 e1 => ?_) (fun hs H1 e1 => ?_)
      · rw [isD_u]
        simp
      · have hd : VahypBase.isDigit b = false := by simpa using hs
        refine s_ret ev_c fun H2 e2 => ?_
        have : marginV [b] = none := by simp [marginV, hd]
        rw [this] at k
        exact k.go (e1.trans e2)
      · have hd : VahypBase.isDigit b = true := by simpa using hs
        have hge := digit_ge hd
        refine q_asg (v := .int ((b.toNat - 48 : Nat) : Int)) (ev_is (ev_op (ev_op (ev_var rfl) ev_c (rv_ixL (ex_l e1 hS) hat)) ev_c rv_I0) ?_) fun H2 e2 => ?_
        · show V.int ((b.toNat : Int) - 48) = _
          congr 1
          omega
        refine s_ret (v := optI (marginV [b])) (ev_if (b := decide (b.toNat - 48 ≤ 5)) (et_is (et_test (ev_op (ev_var rfl) ev_c rv_I0)) ?_) (fun h5 => ?_) (fun h5 => ?_)) fun H3 e3 => k.go ((e1.trans e2).trans e3)
        · rw [Bool.eq_iff_iff]
          simp only [decide_eq_true_eq]
          omega
        · have : marginV [b] = some (b.toNat - 48) := by simp [marginV, hd, of_decide_eq_true h5]
          rw [this]
          exact ev_var rfl
        · have : marginV [b] = none := by
            have h5 := of_decide_eq_false h5
            simp only [marginV]
            rw [if_neg (fun z => h5 z.2)]
          rw [this]
          exact ev_c
    · refine q_when (b := true) (et_is (et_or (b := false) (et_test (ev_op (hlen _ rfl _ (Ex.refl H)) ev_c (rv_ne rfl))) fun z => absurd z ?_) ?_) (fun _ H1 e1 => ?_) (fun z => nomatch z)
      · have h2 : ¬ ((c.length : Int) = 1) := by omega
        simp [h2]
      · have h2 : ¬ ((c.length : Int) = 1) := by omega
        simp [h2]
      · refine s_ret ev_c fun H2 e2 => ?_
        have : marginV c = none := by
          match c, h1 with
          | [], _ => rfl
          | [b], h => exact absurd rfl h
          | _ :: _ :: _, _ => rfl
        rw [this] at k
        exact k.go (e1.trans e2)
def lettersB (ns : List Int) : Bool := decide (2 ≤ ns.length ∧ ns.length ≤ 16) && ns.all isL
def spAreL (K : PySem.W.Frag) : Sp := spOf fun vs H v => ∃ (a : Addr) (ns : List Int), vs = [.ref a] ∧ SqL K H a (ns.map V.int) ∧ v = .bl (lettersB ns)
theorem spAreL_v {a : Addr} {ns : List Int} (h : SqL K H a (ns.map V.int)) : SpV (spAreL K) [.ref a] H (.bl (lettersB ns)) := SpV.of fun H1 e => ⟨a, ns, rfl, ex_l e h, rfl⟩
def isLV : V → V
  | .int i => .bl (isL i)
  | _ => .bl false
theorem ok_are_word_letters (T : Tx K mg) : FnOk P w K mg base CX0 2 T.are_word_letters.f T.are_word_letters.fd ["row"] (spAreL K) := by
  have GL : FnOk P w K mg base CX0 1 _ _ _ _ := ok_is_letter T
  refine T.are_word_letters.F.ok scAreWordLetters (fun vs H Q E h => ?_) (fun cdv A outer s H vs Q E hr h => ⟨_,
    pss_cons (ps_if (PW.pt (pw_or (pt_cmpR op_lt (pe_len T.b_len (pv 0)) (pe_k T.k_FEWEST_LETTERS) (nomark _)) (pw_or1 (pt_cmpR op_gt (pe_len T.b_len (pv 0)) (pe_k T.k_MOST_LETTERS) (nomark _))))) (pss_one (ps_ret pe_bl)) pss_nil)
    (pss_one (ps_ret (pe_callB (cr_all rfl) (by rfl) T.b_all (by decide +kernel) (pa_cons (pe_lc (own := [("byte", 1)]) (g := gName 1) (tt := tYes) rfl scAreWordLetters.nd (pi_list (pv 0)) (blkOk_by (N := ["row", "byte"]) (sc := defScope sAreWordLetters) (by decide +kernel)) (fun _ _ _ _ _ => pg_name (i := 1) scAreWordLetters.nd rfl (Or.inl rfl)) (fun _ _ _ _ _ => pts_nil)
      (fun _ _ _ _ _ => pe_fn T.is_letter GL (hr.mono (by decide)) (bdIsLetter T.is_letter.F) pass0 (pa_cons (pv 1) pa_nil))) pa_nil)))), ?_⟩)
  · obtain ⟨_, ⟨a, ns, rfl, _⟩, _⟩ := h
    rfl
  · obtain ⟨_, ⟨a, ns, rfl, hS, rfl⟩, k⟩ := h
    have hlen : Ev (tCB (rLenS K) (tCons (tVar 0) tNil)) [some (.ref a), none] H (.int (ns.length : Int)) := by
      have := ev_len (K := K) (ta := tVar 0) (σ := [some (.ref a), none]) (ev_var rfl) hS
      rw [List.length_map] at this
      exact this
    refine q_when (b := !decide (2 ≤ ns.length ∧ ns.length ≤ 16)) (et_is (et_or (et_test (ev_op hlen ev_c rv_I0)) fun _ => et_test (ev_op hlen ev_c rv_I0)) ?_) (fun hs H1 e1 => ?_) (fun hs H1 e1 => ?_)
    · rw [Bool.eq_iff_iff]
      simp only [Bool.or_eq_true, decide_eq_true_eq, Bool.not_eq_true', decide_eq_false_iff_not]
      omega
    · refine s_ret ev_c fun H2 e2 => ?_
      have : lettersB ns = false := by
        unfold lettersB
        have h2 : decide (2 ≤ ns.length ∧ ns.length ≤ 16) = false := nb1 hs
        rw [h2, Bool.false_and]
      rw [this] at k
      exact k.go (e1.trans e2)
    · have h2 : decide (2 ≤ ns.length ∧ ns.length ≤ 16) = true := nb2 hs
      have h3 := of_decide_eq_true h2
      refine s_ret (ev_is (ev_all (bs := ns.map isL) ?_) ?_) fun H2 e2 => k.go (e1.trans e2)
      · have := el_lcA (K := K) (σ := [some (.ref a), none]) (H := H1) (tl := tVar 0) (te := tCall (spI isL) [] E0 (tCons (tVar 1) tNil)) (j := 1) (vs := [1]) isLV (ev_var rfl) (ex_l e1 hS) (by rw [List.length_map]; omega) (fun _ => rfl) (fun x H2 e2 hx => by
          obtain ⟨i, _, rfl⟩ := List.mem_map.mp hx
          exact ev_call (ea_cons (ev_var rfl) ea_nil) spI_v)
        rw [List.map_map] at this ⊢
        exact this
      · unfold lettersB
        rw [h2, Bool.true_and, List.all_map]
        rfl
end
end Pt
set_option Elab.async false
set_option linter.all false
set_option maxRecDepth 100000
set_option maxHeartbeats 2000000
namespace Pt
open PySem PySem.Spec PyProof.Rows L2 Evl
open VahypBase (Bytes)
section
variable {P : Program} {w : World} {K : PySem.W.Frag} {mg : Str → Option Value} {base : Heap} {X : Cx}
variable {σ : L2.St} {H H' : Hp} {ta tb tc te tl : TE} {t : TT} {x y z v : V} {C : Addr} {D : Ends} {tz : TS}
theorem getD_u8 {c : Bytes} {i : Nat} (h : i < c.length) : c[i]? = some (c.getD i 0) := by
  rw [List.getD_eq_getElem?_getD, List.getElem?_eq_getElem h]
  rfl
theorem ev_lenX {a : Addr} {c : Bytes} (ha : Ev ta σ H (.ref a)) (h : SqL K H a (tx c)) : Ev (tCB (rLenS K) (tCons ta tNil)) σ H (.int (c.length : Int)) := by
  have := ev_len (K := K) ha h
  rw [tx_len] at this
  exact this
/-! ### stands_between_letters -/
def spBetween (K : PySem.W.Frag) : Sp := spOf fun vs H v => ∃ (a : Addr) (c : Bytes) (i : Nat), vs = [.ref a, .int (i : Int)] ∧ SqL K H a (tx c) ∧ i < c.length ∧ v = .bl (Mx.between c i)
theorem spBetween_v {a : Addr} {c : Bytes} {i : Nat} (h : SqL K H a (tx c)) (hi : i < c.length) : SpV (spBetween K) [.ref a, .int (i : Int)] H (.bl (Mx.between c i)) := SpV.of fun H1 e => ⟨a, c, i, rfl, ex_l e h, hi, rfl⟩
theorem ok_stands (T : Tx K mg) : FnOk P w K mg base CX0 2 T.stands_between_letters.f T.stands_between_letters.fd ["chunk", "place"] (spBetween K) := by
  have GL : FnOk P w K mg base CX0 1 _ _ _ _ := ok_is_letter T
  refine T.stands_between_letters.F.ok scStandsBetweenLetters (fun vs H Q E h => ?_) (fun cdv A outer s H vs Q E hr h => ⟨_,
    pss_cons (ps_if (PW.pt (pw_or (pt_cmpR op_eq (pv 1) pe_int (nomark _)) (pw_or1 (pt_cmpR op_eq (pe_op op_add (pv 1) pe_int) (pe_len T.b_len (pv 0)) (nomark _))))) (pss_one (ps_ret pe_bl)) pss_nil)
    (pss_one (ps_ret (pe_and (pe_fn T.is_letter GL hr (bdIsLetter T.is_letter.F) pass0 (pa_cons (pe_ix ix_list (pv 0) (pe_op op_sub (pv 1) pe_int) (fun _ _ => rfl)) pa_nil))
      (pe_one (pe_fn T.is_letter GL hr (bdIsLetter T.is_letter.F) pass0 (pa_cons (pe_ix ix_list (pv 0) (pe_op op_add (pv 1) pe_int) (fun _ _ => rfl)) pa_nil)))))), ?_⟩)
  · obtain ⟨_, ⟨a, c, i, rfl, _⟩, _⟩ := h
    rfl
  · obtain ⟨_, ⟨a, c, i, rfl, hS, hi, rfl⟩, k⟩ := h
    refine q_when (b := decide (i = 0 ∨ i + 1 = c.length)) (et_is (et_or (et_test (ev_op (ev_var rfl) ev_c (rv_eq rfl))) fun _ => et_test (ev_op (ev_op (ev_var rfl) ev_c rv_I0) (ev_lenX (ev_var rfl) hS) (rv_eq rfl))) ?_) (fun hs H1 e1 => ?_) (fun hs H1 e1 => ?_)
    · rw [Bool.eq_iff_iff]
      simp only [Bool.or_eq_true, decide_eq_true_eq, V.int.injEq]
      omega
    · refine s_ret ev_c fun H2 e2 => ?_
      unfold Mx.between at k
      rw [if_pos (of_decide_eq_true hs)] at k
      exact k.go (e1.trans e2)
    · have hs := of_decide_eq_false hs
      have hS1 := ex_l e1 hS
      have h1 : atI (tx c) ((i : Int) - 1) = some (.int ((c.getD (i - 1) 0).toNat : Int)) := by
        rw [show ((i : Int) - 1) = ((i - 1 : Nat) : Int) by omega]
        exact tx_at (getD_u8 (by omega))
      have h2 : atI (tx c) ((i : Int) + 1) = some (.int ((c.getD (i + 1) 0).toNat : Int)) := by
        rw [show ((i : Int) + 1) = ((i + 1 : Nat) : Int) by omega]
        exact tx_at (getD_u8 (by omega))
      refine s_ret (ev_is (ev_andV (ev_call (ea_cons (ev_op (ev_var rfl) (ev_op (ev_var rfl) ev_c rv_I0) (rv_ixL hS1 h1)) ea_nil) spI_v) fun _ => ev_call (ea_cons (ev_op (ev_var rfl) (ev_op (ev_var rfl) ev_c rv_I0) (rv_ixL hS1 h2)) ea_nil) spI_v) ?_) fun H2 e2 => k.go (e1.trans e2)
      unfold Mx.between
      rw [if_neg hs, isL_u, isL_u]
/-! ### word_letters -/
def spWordL (K : PySem.W.Frag) : Sp := fun vs H Q _ => ∃ (a : Addr) (c : Bytes), vs = [.ref a] ∧ SqL K H a (tx c) ∧ c.length ≤ 4096 ∧ match Mx.wordX c with
  | none => RetV .non H Q
  | some x => RetL (tx x) H Q
theorem letters_tx (x : Bytes) : lettersB (x.map fun b => (b.toNat : Int)) = decide (2 ≤ x.length ∧ x.length ≤ 16 ∧ x.all VahypBase.isLetter = true) := by
  unfold lettersB
  rw [List.length_map, List.all_map, Bool.eq_iff_iff]
  simp only [Bool.and_eq_true, decide_eq_true_eq, List.all_eq_true, Function.comp, isL_u, and_assoc]
theorem tx_map (x : Bytes) : tx x = (x.map fun b => (b.toNat : Int)).map V.int := by unfold tx; rw [List.map_map]; rfl
def neV (n : Int) : V → Bool := fun v => !decide (v = .int n)
theorem tx_filter (c : Bytes) : ((tx c).filter (neV 45)).map (fun v => v) = tx (c.filter (· != 45)) := by
  unfold tx
  rw [List.map_id', List.filter_map]
  congr 1
  refine List.filter_congr fun b _ => ?_
  show (!decide (V.int (b.toNat : Int) = V.int 45)) = (b != 45)
  rw [show decide (V.int (b.toNat : Int) = V.int 45) = decide ((b.toNat : Int) = 45) by simp]
  exact congrArg not (u8_is b 45)
theorem wordX_no {c : Bytes} {i : Nat} (h : c[i]? = some 45) (hb : Mx.between c i = false) : Mx.wordX c = none := by
  unfold Mx.wordX
  rw [if_neg]
  rintro ⟨z, _⟩
  have := (Mx.hyp_iff c).mp z i 45 h rfl
  rw [this] at hb
  cases hb
theorem ok_word_letters (T : Tx K mg) : FnOk P w K mg base CX0 3 T.word_letters.f T.word_letters.fd ["chunk"] (spWordL K) := by
  have GB : FnOk P w K mg base CX0 2 _ _ _ _ := ok_stands T
  have GA : FnOk P w K mg base CX0 2 _ _ _ _ := ok_are_word_letters T
  refine T.word_letters.F.ok scWordLetters (fun vs H Q E h => ?_) (fun cdv A outer s H vs Q E hr h => ⟨_,
    pss_cons (ps_for PassesOwn.never rfl (pi_enum rfl T.b_enumerate (pa_cons (pv 0) pa_nil)) (pg_tup rfl (pgs_cons (pg_name (i := 1) scWordLetters.nd rfl (.inl rfl)) (pgs_cons (pg_name (i := 2) scWordLetters.nd rfl (.inl rfl)) pgs_nil)))
      (pss_one (ps_if (PW.pt (pw_and (pt_cmpR op_eq (pv 2) (pe_k T.k_HYPHEN) (nomark _)) (pw_and1 (pt_not (pt_val (pe_fn T.stands_between_letters GB hr (bdStandsBetweenLetters T.stands_between_letters.F) pass0 (pa_cons (pv 0) (pa_cons (pv 1) pa_nil))))))))
        (pss_one (ps_ret pe_non)) pss_nil)))
    (pss_cons (ps_setLc (i := 3) (own := [("byte", 2)]) (g := gName 2) (tt := tTest (tOp rNe (tVar 2) (tC (.int 45)))) rfl scWordLetters.nd rfl rfl (sw_true rfl rfl rfl (by decide +kernel)) (pi_list (pv 0)) (blkOk_by (N := ["chunk", "place", "byte", "letters"]) (sc := defScope sWordLetters) (by decide +kernel)) (fun _ _ _ _ _ => pg_name (i := 2) scWordLetters.nd rfl (Or.inl rfl)) (fun _ _ _ _ _ => pts_one (pt_cmpR op_ne (pv 2) (pe_k T.k_HYPHEN) (nomark _)))
      (fun _ _ _ _ _ => pv 2))
    (pss_one (ps_ret (pe_ifExp (pt_val (pe_fn T.are_word_letters GA hr (bdAreWordLetters T.are_word_letters.F) pass0 (pa_cons (pv 3) pa_nil))) (pv 3) pe_non)))), ?_⟩)
  · obtain ⟨a, c, rfl, _⟩ := h
    rfl
  obtain ⟨a, c, rfl, hS, hlen, k⟩ := h
  have key : ∀ H1 : Hp, Ex H H1 → ∀ u1 u2 : Option V, (∀ i b, c[i]? = some b → b = 45 → Mx.between c i = true) → (match Mx.wordX c with | none => RetV .non H Q | some x => RetL (tx x) H Q) →
      tSeq (tAsg (tLc (iList K (tVar 0)) (gName 2) (tTest (tOp rNe (tVar 2) (tC (.int 45)))) (tVar 2) [2]) (gName 3)) (tRet (tIf (tB (tCall (spAreL K) [] E0 (tCons (tVar 3) tNil))) (tVar 3) (tC .non))) { nx := fun _ H' => Q .non H', rt := Q } [some (.ref a), u1, u2, none] H1 := by
    intro H1 e1 u1 u2 hy k
    have hy' : Mx.hyp false c = true := (Mx.hyp_iff c).mpr hy
    refine q_asgL (xs := tx (c.filter (· != 45))) ?_ fun p H2 hp e2 h2 => ?_
    · have := el_lcF (K := K) (σ := [some (.ref a), u1, u2, none]) (H := H1) (tl := tVar 0) (t := tTest (tOp rNe (tVar 2) (tC (.int 45)))) (te := tVar 2) (j := 2) (vs := [2]) (neV 45) (fun v => v) (ev_var rfl) (ex_l e1 hS) (by rw [tx_len]; omega) (fun _ => rfl) (fun x H2 e2 hx => by
          obtain ⟨i, _, rfl⟩ := List.mem_map.mp hx
          exact et_test (ev_op (ev_var rfl) ev_c (rv_ne rfl))) (fun x H2 e2 hx _ => ev_var rfl)
      rw [tx_filter] at this
      exact this
    · refine (et_B (ev_call (ea_cons (ev_var (v := .ref p) rfl) ea_nil) (spAreL_v (ns := (c.filter (· != 45)).map fun b => (b.toNat : Int)) (by rw [← tx_map]; exact sq_of h2)))) H2 (Ex.refl H2) _ fun H3 e3 => ?_
      rw [letters_tx]
      have e123 := (e1.trans e2).trans e3
      by_cases hw : 2 ≤ (c.filter (· != 45)).length ∧ (c.filter (· != 45)).length ≤ 16 ∧ (c.filter (· != 45)).all VahypBase.isLetter = true
      · have hx : Mx.wordX c = some (c.filter (· != 45)) := by
          unfold Mx.wordX
          rw [if_pos ⟨hy', hw.2.2, hw.1, hw.2.1⟩]
        rw [hx] at k
        rw [decide_eq_true hw]
        refine iteT ?_
        exact (ev_var (v := .ref p) rfl) H3 (Ex.refl H3) _ fun H4 e4 => k p H4 (fresh_back e1 hp) (e123.trans e4) ((e3.trans e4) _ _ h2)
      · have hx : Mx.wordX c = none := by
          unfold Mx.wordX
          rw [if_neg (fun z => hw ⟨z.2.2.1, z.2.2.2, z.2.1⟩)]
        rw [hx] at k
        rw [decide_eq_false hw]
        refine iteF ?_
        exact k.go e123
  refine ⟨_, rfl, a, tx c, rfl, hS, for_it walk_enum (fun i σ' H' => ∃ u1 u2, σ' = [some (.ref a), u1, u2, none] ∧ Ex H H' ∧ ∀ j b, j < i → c[j]? = some b → b = 45 → Mx.between c j = true) ⟨_, _, rfl, Ex.refl H, fun j b h => by omega⟩ (fun i σ' H' _ ⟨_, _, _, e, _⟩ => ex_l e hS) ?_ ?_⟩
  · rintro i x σ' H1 H2 hi ⟨u1, u2, rfl, e, hd⟩ ⟨T', x1, x2, rfl, hT, rfl, h1, h2⟩
    rw [tx_len] at hi
    have hb := getD_u8 hi
    obtain ⟨b, hbe⟩ : ∃ b, b = c.getD i 0 := ⟨_, rfl⟩
    rw [← hbe] at hb
    have hx2 : x2 = .int (b.toNat : Int) := by
      have h3 : (tx c)[i]? = some x2 := h2
      unfold tx at h3
      rw [List.getElem?_map, hb] at h3
      exact (Option.some.inj h3).symm
    have hx1 : x1 = .int (i : Int) := (Option.some.inj h1).symm
    subst hx1 hx2
    have e2 : Ex H (upd H1 T' (.tup [.int (i : Int), .int (b.toNat : Int)])) := e.trans (Ex.new hT)
    refine ⟨T', _, rfl, st_of upd_same, rfl, _, _, rfl, _, _, rfl, rfl, ?_⟩
    refine s_when (b := b == 45 && !Mx.between c i) (et_is (et_and (et_test (ev_op (ev_var rfl) ev_c (rv_eq rfl))) fun _ => et_not (et_B (ev_call (ea_cons (ev_var rfl) (ea_cons (ev_var rfl) ea_nil)) (spBetween_v (ex_l e2 hS) hi)))) ?_) (fun hs H3 e3 => ?_) (fun hs H3 e3 => ?_)
    · rw [show decide (V.int (b.toNat : Int) = V.int 45) = decide ((b.toNat : Int) = 45) by simp]
      exact congrArg (· && _) (u8_is b 45)
    · rw [Bool.and_eq_true] at hs
      have h45 : b = 45 := beq_iff_eq.mp hs.1
      rw [h45] at hb
      rw [wordX_no hb (nb1 hs.2)] at k
      exact s_ret ev_c fun H4 e4 => k.go ((e2.trans e3).trans e4)
    · refine ⟨_, _, rfl, e2.trans e3, fun j b' hj hc h45 => ?_⟩
      by_cases hji : j < i
      · exact hd j b' hji hc h45
      · have : j = i := by omega
        subst this
        rw [hb] at hc
        cases hc
        rw [h45] at hs
        simpa using hs
  · rintro σ' H' ⟨u1, u2, rfl, e, hd⟩
    refine key H' e u1 u2 (fun i b hi h45 => hd i b ?_ hi h45) k
    rw [tx_len]
    exact (List.getElem?_eq_some_iff.mp hi).1
end
end Pt
set_option Elab.async false
set_option linter.all false
set_option maxRecDepth 100000
set_option maxHeartbeats 2000000
namespace Pt
open PySem PySem.Spec PyProof.Rows L2 Evl
open VahypBase (Bytes)
/-! ## entries -/
def nv (l : List Nat) : List V := l.map fun (n : Nat) => .int (n : Int)
theorem nv_len (l : List Nat) : (nv l).length = l.length := List.length_map ..
theorem nv_snoc (l : List Nat) (n : Nat) : nv (l ++ [n]) = nv l ++ [.int (n : Int)] := by unfold nv; rw [List.map_append]; rfl
theorem tx_snoc (t : Bytes) (b : UInt8) : tx (t ++ [b]) = tx t ++ [.int (b.toNat : Int)] := by unfold tx; rw [List.map_append]; rfl
theorem tx_nv (t : Bytes) : tx t = nv (t.map (·.toNat)) := by unfold tx nv; rw [List.map_map]; rfl
theorem nv_ints (l : List Nat) : nv l = (l.map fun (n : Nat) => (n : Int)).map V.int := by unfold nv; rw [List.map_map]; rfl
theorem ex_split2 {G H1 : Hp} {l m : Addr} {o u : HO} (hl : G l = none) (hm : G m = none) (hne : m ≠ l) (e : Ex (upd (upd G l o) m u) H1) : ∃ G1 : Hp, G1 l = none ∧ G1 m = none ∧ Ex G G1 ∧ H1 = upd (upd G1 l o) m u := by
  obtain ⟨G1, h1, h2, h3⟩ := ex_split (G := upd G l o) (by rw [upd_ne hne]; exact hm) e
  obtain ⟨G2, h4, h5, h6⟩ := ex_split hl h2
  refine ⟨G2, h4, ?_, h5, by rw [h3, h6]⟩
  rw [h6, upd_ne hne] at h1
  exact h1
theorem upd_comm {G : Hp} {l m : Addr} {o u : HO} (h : m ≠ l) : upd (upd G l o) m u = upd (upd G m u) l o := by
  funext b
  by_cases h1 : b = m
  · subst h1
    rw [upd_same, upd_ne h, upd_same]
  · by_cases h2 : b = l
    · subst h2
      rw [upd_ne h1, upd_same, upd_same]
    · rw [upd_ne h1, upd_ne h2, upd_ne h2, upd_ne h1]
theorem upd_first {G : Hp} {l m : Addr} {o o' u : HO} (h : m ≠ l) : upd (upd (upd G l o) m u) l o' = upd (upd G l o') m u := by
  rw [upd_comm (G := G) h, upd_upd, ← upd_comm h]
section
variable {P : Program} {w : World} {K : PySem.W.Frag} {mg : Str → Option Value} {base : Heap} {X : Cx}
variable {σ : L2.St} {H H' : Hp} {ta tb tc te tl : TE} {t : TT} {x y z v : V} {C : Addr} {D : Ends} {tz : TS}
theorem ok_Entry (T : Tx K mg) : FnOk P w K mg base CX0 1 T.cEntry.f T.cEntry.fd ["self", "signs", "digits"] (spIni T.cEntry.C 2 fun as => [("signs", as.getD 0 .non), ("digits", as.getD 1 .non)]) := by
  refine T.cEntry.F.ok scEntryInit (fun vs H Q E h => ?_) (fun cdv A outer s H vs Q E hr h => ⟨_, pss_cons (ps_fld (pv 0) (pv 1) rfl) (pss_one (ps_fld (pv 0) (pv 2) rfl)), ?_⟩)
  · obtain ⟨p, dx, as, rfl, hl, _⟩ := h
    rw [List.length_cons, hl]
    rfl
  · obtain ⟨p, dx, as, rfl, hl, hp, k⟩ := h
    match as, hl with
    | [v1, v2], _ =>
      refine ⟨_, rfl, _, rfl, p, T.cEntry.C, dx, [], rfl, hp, T.cEntry.cl, T.nEntry_signs, (by show 0 < 1000; decide), ?_⟩
      refine ⟨_, rfl, _, rfl, p, T.cEntry.C, dx, _, rfl, upd_same, T.cEntry.cl, T.nEntry_digits, (by show 1 < 1000; decide), ?_⟩
      show Q .non _
      rw [upd_upd, puts2 (by decide +kernel)]
      exact k
/-- an entry as it lies -/
def EntAt (T : Tx K mg) (H : Hp) (o : Addr) (e : List Nat × List Nat) : Prop := ∃ dx sa da, H o = some (.ins T.cEntry.C dx [("signs", .ref sa), ("digits", .ref da)]) ∧ SqT K H sa (nv e.1) ∧ SqT K H da (nv e.2)
theorem EntAt.mono {T : Tx K mg} {o : Addr} {en : List Nat × List Nat} (h : EntAt T H o en) (e : Ex H H') : EntAt T H' o en := let ⟨dx, sa, da, h1, h2, h3⟩ := h; ⟨dx, sa, da, e _ _ h1, ex_t e h2, ex_t e h3⟩
/-- .. a new one -/
def EntNew (T : Tx K mg) (H H2 : Hp) (o : Addr) (e : List Nat × List Nat) : Prop := H o = none ∧ ∃ dx sa da, H sa = none ∧ H da = none ∧ H2 o = some (.ins T.cEntry.C dx [("signs", .ref sa), ("digits", .ref da)]) ∧ SqT K H2 sa (nv e.1) ∧ SqT K H2 da (nv e.2)
theorem EntNew.at_ {T : Tx K mg} {o : Addr} {en : List Nat × List Nat} (h : EntNew T H H' o en) : EntAt T H' o en := let ⟨_, dx, sa, da, _, _, h1, h2, h3⟩ := h; ⟨dx, sa, da, h1, h2, h3⟩
/-- a new instance, its arguments at hand -/
theorem mk_fin {n : Nat} {fs : List V → List (Str × V)} {vs : List V} (hn : vs.length = n) {R : Addr → Hp → Prop} (q : ∀ x dx H2, H x = none → Ex H H2 → H2 x = some (.ins C dx (fs vs)) → R x H2) :
    ∀ x dx, H x = none → H dx = none → dx ≠ x → spIni C n fs (.ref x :: (vs ++ [])) (upd (upd H dx (.own x)) x (.ins C dx [])) (fun v H2 => v = .non ∧ R x H2) E0 := fun x dx nx nd ne =>
  ⟨x, dx, vs, by rw [List.append_nil], hn, upd_same, rfl, by
    rw [upd_upd]
    refine q x dx _ nx ((Ex.new (o := HO.own x) nd).trans fun a u ha => ?_) upd_same
    have : a ≠ x := fun z => by
      rw [z, upd_ne (Ne.symm ne), nx] at ha
      cases ha
    rw [upd_ne this]
    exact ha⟩
/-- tuple(e) of a list -/
def rTupOf (K : PySem.W.Frag) : List V → Hp → VK → Prop := fun xs H Q => ∃ p ys, xs = [.ref p] ∧ ((SqL K H p ys ∧ ∀ l, H l = none → Q (.ref l) (upd H l (.tup ys))) ∨ (SqT K H p ys ∧ Q (.ref p) H))
theorem eu_tupL {p : Addr} {ys : List V} (ha : Ev ta σ H (.ref p)) (h : SqL K H p ys) : EvU (tCB (rTupOf K) (tCons ta tNil)) σ H ys := fun H1 e Q q => ha H1 e _ fun H2 e2 => ⟨p, ys, rfl, .inl ⟨ex_l (e.trans e2) h, fun l hl => q l _ (fresh_back e2 hl) (e2.trans (Ex.new hl)) upd_same⟩⟩
theorem pe_tuple {e : Expr} {te : TE} {p pos : Pos} (T : X.mg "tuple" = none) (he : PE X e te) (hg : Gl X "tuple" := by rfl) (hs : starEach (e :: []) X.env = (false, eval e X.env) :: starEach [] X.env := by rfl) (hpl : (backTo pos (starEach [] X.env)).any (·.1) = false := by rfl) :
    PE X (.Call (.Name "tuple" p) [e] [] pos) (tCB (rTupOf X.K) (tCons te tNil)) := pe_callTy call_tuple_of hg T (by decide +kernel) (pa_cons he pa_nil hs) (by decide) (by decide) hs hpl
/-- max(e) == 0 -/
theorem max_zero {p : Addr} {ds : List Nat} (ha : Ev ta σ H (.ref p)) (h : SqL K H p (nv ds)) (hne : ds ≠ []) : EvT (tTest (tOp rEq (tCB (rMax K) (tCons ta tNil)) (tC (.int 0)))) σ H (ds.all (· == 0)) := fun H1 e Q q =>
  ha H1 e _ fun H2 e2 => ⟨p, ds.map fun (n : Nat) => (n : Int), rfl, by rw [← nv_ints]; exact ex_l (e.trans e2) h, by rw [List.length_map]; exact List.length_pos_iff.mpr hne, fun m hm hle => ⟨rfl, decide (m = 0), by simp, by
    have : decide (m = 0) = ds.all (· == 0) := by
      rw [Bool.eq_iff_iff, decide_eq_true_eq, List.all_eq_true]
      constructor
      · intro hm0 d hd
        have h1 := hle (d : Int) (List.mem_map.mpr ⟨d, hd, rfl⟩)
        rw [beq_iff_eq]
        omega
      · intro hall
        obtain ⟨d, hd, rfl⟩ := List.mem_map.mp hm
        have := beq_iff_eq.mp (hall d hd)
        omega
    rw [this]
    exact q H2 e2⟩⟩
/-- the end of entry_of_body -/
def bodyE (c : Bytes) : Option (Bytes × List Nat) := (Mx.bodyBy c [] [0]).bind fun q => if q.1.length < 1 ∨ 6 < q.1.length ∨ q.2.all (fun v => v == 0) = true then none else some q
def spBody (T : Tx K mg) : Sp := fun vs H Q _ => ∃ (a : Addr) (c : Bytes), vs = [.ref a] ∧ SqL K H a (tx c) ∧ c.length ≤ 9000 ∧ match bodyE c with
  | none => RetV .non H Q
  | some q => ∀ o H2, Ex H H2 → EntNew T H H2 o (q.1.map (·.toNat), q.2) → Q (.ref o) H2
theorem setLast_set (ds : List Nat) (v : Nat) (h : ds ≠ []) : (nv ds).set (ds.length - 1) (.int (v : Int)) = nv (Mx.setLast ds v) := by
  obtain ⟨ys, y, rfl⟩ : ∃ ys y, ds = ys ++ [y] := ⟨ds.dropLast, ds.getLast h, (List.dropLast_concat_getLast h).symm⟩
  rw [Mx.setLast_snoc, nv_snoc, nv_snoc, List.length_append, List.length_singleton, Nat.add_sub_cancel]
  rw [List.set_append_right _ _ (by rw [nv_len]; exact Nat.le_refl _), nv_len, Nat.sub_self]
  rfl
theorem last_at (ds : List Nat) (h : ds ≠ []) : ∃ y, ds.getLast? = some y ∧ atI (nv ds) (-1) = some (.int (y : Int)) := by
  obtain ⟨ys, y, rfl⟩ : ∃ ys y, ds = ys ++ [y] := ⟨ds.dropLast, ds.getLast h, (List.dropLast_concat_getLast h).symm⟩
  exact ⟨y, by simp, by rw [nv_snoc]; exact atI_last _ _⟩
theorem ixN_last {n : Nat} (h : 0 < n) : ixN n (-1) = some (n - 1) := by
  unfold ixN
  rw [if_neg (by omega), if_pos (by omega)]
  congr 1
  omega
theorem setLast_ne (ds : List Nat) (v : Nat) : Mx.setLast ds v ≠ [] := by unfold Mx.setLast; simp
theorem setLast_len (ds : List Nat) (v : Nat) : (Mx.setLast ds v).length ≤ ds.length + 1 := by unfold Mx.setLast; simp
theorem ok_entry_of_body (T : Tx K mg) : FnOk P w K mg base CX0 3 T.entry_of_body.f T.entry_of_body.fd ["body"] (spBody T) := by
  have GL : FnOk P w K mg base CX0 2 _ _ _ _ := (ok_is_letter T).mono (by decide)
  have GD : FnOk P w K mg base CX0 2 _ _ _ _ := (ok_is_digit T).mono (by decide)
  have GE : FnOk P w K mg base CX0 1 _ _ _ _ := ok_Entry T
  refine T.entry_of_body.F.ok scEntryOfBody (fun vs H Q E h => ?_) (fun cdv A outer s H vs Q E hr h => ⟨_,
    pss_cons (ps_set (i := 1) scEntryOfBody.nd rfl (.inl rfl) (pe_lst pa_nil))
    (pss_cons (ps_set (i := 2) scEntryOfBody.nd rfl (.inl rfl) (pe_lst (pa_cons pe_int pa_nil)))
    (pss_cons (ps_for PassesOwn.never rfl (pi_list (pv 0)) (pg_name (i := 3) scEntryOfBody.nd rfl (.inl rfl))
      (pss_one (ps_if (pt_val (pe_fn T.is_letter GL hr (bdIsLetter T.is_letter.F) pass0 (pa_cons (pv 3) pa_nil)))
        (pss_cons (ps_expr (pe_bm PySem.F.plainAttrs_list PySem.F.slot_list_append PySem.F.type_list_append mt_append (pv 1) (pa_cons (pv 3) pa_nil)))
          (pss_one (ps_expr (pe_bm PySem.F.plainAttrs_list PySem.F.slot_list_append PySem.F.type_list_append mt_append (pv 2) (pa_cons pe_int pa_nil)))))
        (pss_one (ps_if (PW.pt (pw_and (pt_val (pe_fn T.is_digit GD hr (bdIsDigit T.is_digit.F) pass0 (pa_cons (pv 3) pa_nil))) (pw_and (pt_cmpR op_ne (pv 3) pe_int (nomark _)) (pw_and1 (pt_cmpR op_eq (pe_ix ix_list (pv 2) (pe_un un_neg pe_int) (fun _ _ => rfl)) pe_int (nomark _))))))
          (pss_one (ps_asg (pe_op op_sub (pv 3) pe_int) (pg_sub (pv 2) (pe_un un_neg pe_int) set_list)))
          (pss_one (ps_ret pe_non)))))))
    (pss_cons (ps_if (PW.pt (pw_or (pt_cmpR op_eq (pe_len T.b_len (pv 1)) pe_int (nomark _)) (pw_or (pt_cmpR op_gt (pe_len T.b_len (pv 1)) (pe_k T.k_MOST_PATTERN_LETTERS) (nomark _)) (pw_or1 (pt_cmpR op_eq (pe_callB (cr_max rfl) (by rfl) T.b_max (by decide +kernel) (pa_cons (pv 2) pa_nil)) pe_int (nomark _))))))
      (pss_one (ps_ret pe_non)) pss_nil)
    (pss_one (ps_ret (pe_make T.cEntry.mkc GE hr rfl T.cEntry.m (bdEntryInit T.cEntry.F) .nil pass0 (pa_cons (pe_tuple T.b_tuple (pv 1)) (pa_cons (pe_tuple T.b_tuple (pv 2)) pa_nil)))))))), ?_⟩)
  · obtain ⟨a, c, rfl, _⟩ := h
    rfl
  obtain ⟨a, c, rfl, hS, hlen, k⟩ := h
  refine q_asgL (el_lst ea_nil (by decide)) fun l H1 hl e1 h1 => ?_
  refine q_asgL (el_lst (ea_cons ev_c ea_nil) (by decide)) fun m H2 hm e2 h2 => ?_
  have hne : m ≠ l := fun z => by rw [z, h1] at hm; cases hm
  obtain ⟨G1, hG1, eG1, rfl⟩ := ex_split0 hl e1 h1
  obtain ⟨G2, hG2, eG2, rfl⟩ := ex_split0 hm e2 h2
  obtain ⟨G3, hG3, eG3, rfl⟩ := ex_split hG1 eG2
  have hG3m : G3 m = none := by rw [upd_ne hne] at hG2; exact hG2
  have eG : Ex H G3 := eG1.trans eG3
  refine q_forLn (a := a) (xs := tx c) (ev_var rfl) (ex_l ((eG.trans (ex_upd hG3)).trans (ex_upd hG2)) hS) (fun i σ' H' => ∃ (x : Bytes) (ds : List Nat) (G : Hp) (u : Option V), σ' = [some (.ref a), some (.ref l), some (.ref m), u] ∧ G l = none ∧ G m = none ∧ Ex H G ∧ H' = upd (upd G l (.lst (tx x))) m (.lst (nv ds)) ∧
    ds ≠ [] ∧ x.length ≤ i ∧ ds.length ≤ i + 1 ∧ Mx.bodyBy c [] [0] = Mx.bodyBy (c.drop i) x ds) (fun H1 e1 => ?_) (fun i σ' H' _ p => ?_) ?_ ?_
  · obtain ⟨G4, a1, a2, a3, a4⟩ := ex_split2 hG3 hG3m hne e1
    exact ⟨[], [0], G4, none, rfl, a1, a2, eG.trans a3, a4, by simp, Nat.le_refl _, Nat.le_refl _, rfl⟩
  · obtain ⟨x, ds, G, u, _, a1, a2, a3, rfl, _⟩ := p
    exact ex_l ((a3.trans (ex_upd a1)).trans (ex_upd (by rw [upd_ne hne]; exact a2))) hS
  · rintro i xv σ' H' hi ⟨x, ds, G, u, rfl, a1, a2, a3, rfl, a4, a5, a6, a7⟩
    obtain ⟨b, hb, rfl⟩ : ∃ b : UInt8, c[i]? = some b ∧ xv = .int (b.toNat : Int) := by
      unfold tx at hi
      rw [List.getElem?_map] at hi
      cases hc : c[i]? with
      | none => rw [hc] at hi; cases hi
      | some b => rw [hc] at hi; exact ⟨b, rfl, (Option.some.inj hi).symm⟩
    have hil : i < c.length := (List.getElem?_eq_some_iff.mp hb).1
    rw [Mx.drop_at hb] at a7
    have hfl : (upd (upd G l (.lst (tx x))) m (.lst (nv ds))) l = some (.lst (tx x)) := by rw [upd_ne (Ne.symm hne)]; exact upd_same
    refine s_if (b := VahypBase.isLetter b) (et_is (et_B (ev_call (ea_cons (ev_var rfl) ea_nil) spI_v)) (isL_u b)) (fun hL H3 e3 => ?_) (fun hL H3 e3 => ?_)
    · obtain ⟨G4, c1, c2, c3, rfl⟩ := ex_split2 a1 a2 hne e3
      have hfl : (upd (upd G4 l (.lst (tx x))) m (.lst (nv ds))) l = some (.lst (tx x)) := by rw [upd_ne (Ne.symm hne)]; exact upd_same
      refine q_app hfl (ev_var rfl) (ev_var rfl) (by rw [tx_len]; omega) fun H4 e4 => ?_
      obtain ⟨G5, d1, d2, d3, rfl⟩ := ex_split2 c1 c2 hne e4
      rw [upd_first hne, ← tx_snoc]
      refine s_app upd_same (ev_var rfl) ev_c (by rw [nv_len]; omega) fun H5 e5 => ?_
      obtain ⟨G6, f1, f2, f3, rfl⟩ := ex_split2 d1 d2 hne e5
      refine ⟨x ++ [b], ds ++ [0], G6, _, rfl, f1, f2, ((a3.trans c3).trans d3).trans f3, ?_, by simp, by simp; omega, by simp; omega, ?_⟩
      · rw [upd_upd, nv_snoc]
        rfl
      · rw [a7, Mx.bodyBy, if_pos hL]
    · obtain ⟨y, hy1, hy2⟩ := last_at ds a4
      obtain ⟨G4, c1, c2, c3, rfl⟩ := ex_split2 a1 a2 hne e3
      have hsq : SqL K (upd (upd G4 l (.lst (tx x))) m (.lst (nv ds))) m (nv ds) := sq_of upd_same
      refine s_if (b := decide (VahypBase.isDigit b = true ∧ b ≠ 48 ∧ ds.getLast? = some 0)) (et_is (et_and (et_B (ev_call (ea_cons (ev_var rfl) ea_nil) spI_v)) fun _ => et_and (et_test (ev_op (ev_var rfl) ev_c (rv_ne rfl))) fun _ => et_test (ev_op (ev_op (ev_var rfl) ev_neg1 (rv_ixL hsq hy2)) ev_c (rv_eq rfl))) ?_) (fun hs H4 e4 => ?_) (fun hs H4 e4 => ?_)
      · have h48 : (!decide (V.int (b.toNat : Int) = V.int 48)) = (b != 48) := by
          rw [show decide (V.int (b.toNat : Int) = V.int 48) = decide ((b.toNat : Int) = 48) by simp]
          exact congrArg not (u8_is b 48)
        rw [isD_u, h48, hy1, Bool.eq_iff_iff]
        simp
      · obtain ⟨hd, h48, hz⟩ := of_decide_eq_true hs
        have hge := digit_ge hd
        obtain ⟨G5, d1, d2, d3, rfl⟩ := ex_split2 c1 c2 hne e4
        refine (ev_is (w := .int ((b.toNat - 48 : Nat) : Int)) (ev_op (ev_var rfl) ev_c rv_I0) ?_) _ (Ex.refl _) _ fun H5 e5 => ?_
        · show V.int ((b.toNat : Int) - 48) = _
          congr 1
          omega
        refine (ev_var (v := .ref m) rfl) H5 (Ex.refl _) _ fun H6 e6 => ev_neg1 H6 (Ex.refl _) _ fun H7 e7 => ?_
        obtain ⟨G8, f1, f2, f3, rfl⟩ := ex_split2 d1 d2 hne ((e5.trans e6).trans e7)
        refine ⟨m, nv ds, -1, ds.length - 1, rfl, rfl, upd_same, by rw [nv_len]; exact ixN_last (List.length_pos_iff.mpr a4), ?_⟩
        refine ⟨x, Mx.setLast ds (b.toNat - 48), G8, _, rfl, f1, f2, ((a3.trans c3).trans d3).trans f3, ?_, setLast_ne _ _, by omega, ?_, ?_⟩
        · rw [upd_upd, setLast_set _ _ a4]
        · have := setLast_len ds (b.toNat - 48)
          omega
        · rw [a7, Mx.bodyBy, if_neg (by rw [hL]; decide), if_pos ⟨hd, h48, hz⟩]
      · have hs := of_decide_eq_false hs
        have hn : Mx.bodyBy c [] [0] = none := by rw [a7, Mx.bodyBy, if_neg (by rw [hL]; decide), if_neg hs]
        have : bodyE c = none := by unfold bodyE; rw [hn]; rfl
        rw [this] at k
        obtain ⟨G5, d1, d2, d3, rfl⟩ := ex_split2 c1 c2 hne e4
        exact s_ret ev_c fun H5 e5 => k.go ((((a3.trans c3).trans d3).trans ((ex_upd d1).trans (ex_upd (by rw [upd_ne hne]; exact d2)))).trans e5)
  · rintro σ' H' ⟨x, ds, G, u, rfl, a1, a2, a3, rfl, a4, a5, a6, a7⟩
    rw [tx_len, List.drop_length] at a7
    have a7 : Mx.bodyBy c [] [0] = some (x, ds) := a7
    have eT : Ex H (upd (upd G l (.lst (tx x))) m (.lst (nv ds))) := (a3.trans (ex_upd a1)).trans (ex_upd (by rw [upd_ne hne]; exact a2))
    have hfl : (upd (upd G l (.lst (tx x))) m (.lst (nv ds))) l = some (.lst (tx x)) := by rw [upd_ne (Ne.symm hne)]; exact upd_same
    have hlx := ev_lenX (K := K) (ta := tVar 1) (σ := [some (.ref a), some (.ref l), some (.ref m), u]) (c := x) (H := upd (upd G l (.lst (tx x))) m (.lst (nv ds))) (ev_var rfl) (sq_of hfl)
    refine q_when (b := decide (x.length < 1 ∨ 6 < x.length ∨ ds.all (fun v => v == 0) = true)) (et_is (et_or (et_test (ev_op hlx ev_c (rv_eq rfl))) fun _ => et_or (et_test (ev_op hlx ev_c rv_I0)) fun _ => max_zero (ev_var rfl) (sq_of upd_same) a4) ?_) (fun hs H1 e1 => ?_) (fun hs H1 e1 => ?_)
    · have h1 : ((x.length : Int) = 0) ↔ x.length < 1 := by omega
      have h2 : ((6 : Int) < (x.length : Int)) ↔ 6 < x.length := by omega
      rw [Bool.eq_iff_iff]
      simp only [Bool.or_eq_true, decide_eq_true_eq, V.int.injEq, h1, h2]
    · have : bodyE c = none := by unfold bodyE; rw [a7]; exact if_pos (of_decide_eq_true hs)
      rw [this] at k
      exact s_ret ev_c fun H2 e2 => k.go ((eT.trans e1).trans e2)
    · have : bodyE c = some (x, ds) := by unfold bodyE; rw [a7]; exact if_neg (of_decide_eq_false hs)
      rw [this] at k
      refine (eu_tupL (ev_var rfl) (sq_of (e1 _ _ hfl))) H1 (Ex.refl _) _ fun p H2 hp e2 h2 => (eu_tupL (ev_var rfl) (sq_of ((e1.trans e2) _ _ upd_same))) H2 (Ex.refl _) _ fun q H3 hq e3 h3 => ?_
      refine mk_fin (n := 2) rfl fun o dx H4 ho e4 h4 => ?_
      refine k o H4 ((((eT.trans e1).trans e2).trans e3).trans e4) ⟨fresh_back (((eT.trans e1).trans e2).trans e3) ho, dx, p, q, fresh_back (eT.trans e1) hp, fresh_back ((eT.trans e1).trans e2) hq, h4, ?_, ?_⟩
      · rw [← tx_nv]
        exact st_of ((e3.trans e4) _ _ h2)
      · exact st_of (e4 _ _ h3)
end
end Pt
set_option Elab.async false
set_option linter.all false
set_option maxRecDepth 100000
set_option maxHeartbeats 2000000
namespace Pt
open PySem PySem.Spec PyProof.Rows L2 Evl
open VahypBase (Bytes)
theorem u8v (b k : UInt8) (n : Int) (h : n = (k.toNat : Int)) : decide (V.int (b.toNat : Int) = V.int n) = (b == k) := by
  rw [h, show decide (V.int (b.toNat : Int) = V.int (k.toNat : Int)) = decide ((b.toNat : Int) = (k.toNat : Int)) by simp]
  exact u8_is b k
/-! ## a heap of what stays (G) and what changes (M) -/
def over (G M : Hp) : Hp := fun b => match M b with
  | some o => some o
  | none => G b
def Apart (G M : Hp) : Prop := ∀ b o, M b = some o → G b = none
theorem over_m {G M : Hp} {b : Addr} {o : HO} (h : M b = some o) : over G M b = some o := by unfold over; rw [h]
theorem over_g {G M : Hp} {b : Addr} (h : M b = none) : over G M b = G b := by unfold over; rw [h]
theorem ex_over {G M : Hp} (d : Apart G M) : Ex G (over G M) := fun b o h => by
  cases hm : M b with
  | none => rw [over_g hm]; exact h
  | some u => rw [d b u hm] at h; cases h
theorem over_split {G M H1 : Hp} (d : Apart G M) (e : Ex (over G M) H1) : ∃ G1, Apart G1 M ∧ Ex G G1 ∧ H1 = over G1 M := by
  refine ⟨fun b => match M b with | some _ => none | none => H1 b, fun b o h => by simp only [h], fun b o h => ?_, ?_⟩
  · cases hm : M b with
    | some u => rw [d b u hm] at h; cases h
    | none =>
      show (match M b with | some _ => none | none => H1 b) = some o
      rw [hm]
      exact e b o (by rw [over_g hm]; exact h)
  · funext b
    cases hm : M b with
    | some u => rw [over_m hm]; exact e b u (over_m hm)
    | none =>
      rw [over_g hm]
      show H1 b = (match M b with | some _ => none | none => H1 b)
      rw [hm]
theorem over_upd {G M : Hp} {a : Addr} {o : HO} : upd (over G M) a o = over G (upd M a o) := by
  funext b
  by_cases h : b = a
  · subst h
    rw [upd_same, over_m upd_same]
  · rw [upd_ne h]
    cases hm : M b with
    | some u => rw [over_m hm, over_m (by rw [upd_ne h]; exact hm)]
    | none => rw [over_g hm, over_g (by rw [upd_ne h]; exact hm)]
theorem Apart.add {G M : Hp} {a : Addr} {o : HO} (d : Apart G M) (h : G a = none) : Apart G (upd M a o) := fun b u hb => by
  by_cases e : b = a
  · rw [e]; exact h
  · rw [upd_ne e] at hb
    exact d b u hb
theorem Apart.put {G M : Hp} {a : Addr} {o u : HO} (d : Apart G M) (h : M a = some u) : Apart G (upd M a o) := d.add (d a u h)
def noHp : Hp := fun _ => none
theorem over_no {H : Hp} : over H noHp = H := by funext b; rfl
theorem apart_no {H : Hp} : Apart H noHp := fun b o h => by cases h
/-- a new thing is made one that changes -/
theorem over_take {G M H1 : Hp} {l : Addr} {o : HO} (d : Apart G M) (e : Ex (over G M) H1) (hl : over G M l = none) (h : H1 l = some o) : ∃ G1, Apart G1 (upd M l o) ∧ Ex G G1 ∧ H1 = over G1 (upd M l o) := by
  have hm : M l = none := by
    cases hm : M l with
    | none => rfl
    | some u => rw [over_m hm] at hl; cases hl
  obtain ⟨G1, d1, e1, rfl⟩ := over_split d e
  obtain ⟨G2, g1, g2, g3⟩ := ex_split0 (H := G) (H1 := G1) (l := l) (o := o) (by rw [over_g hm] at hl; exact hl) e1 (by rw [over_g hm] at h; exact h)
  refine ⟨G2, fun b u hb => ?_, g2, ?_⟩
  · by_cases hbl : b = l
    · rw [hbl]; exact g1
    · rw [upd_ne hbl] at hb
      have := d1 b u hb
      rw [g3, upd_ne hbl] at this
      exact this
  · rw [g3]
    funext b
    by_cases hbl : b = l
    · rw [hbl, over_m upd_same, over_g hm, upd_same]
    · cases hb : M b with
      | some u => rw [over_m hb, over_m (by rw [upd_ne hbl]; exact hb)]
      | none => rw [over_g hb, over_g (by rw [upd_ne hbl]; exact hb), upd_ne hbl]
section
variable {P : Program} {w : World} {K : PySem.W.Frag} {mg : Str → Option Value} {base : Heap} {X : Cx}
variable {σ : L2.St} {H H' : Hp} {ta tb tc te tl : TE} {t : TT} {x y z v : V} {C : Addr} {D : Ends} {tz : TS}
theorem rv_isN : RV (fun x y H Q => y = V.non ∧ Q (.bl (decide (x = .non))) H) x .non H (.bl (decide (x = .non))) := fun H1 _ Q q => ⟨rfl, q H1 (Ex.refl H1)⟩
theorem rv_notN : RV (fun x y H Q => y = V.non ∧ Q (.bl (!decide (x = .non))) H) x .non H (.bl (!decide (x = .non))) := fun H1 _ Q q => ⟨rfl, q H1 (Ex.refl H1)⟩
/-- a tuple, wherever -/
def EvS (K : PySem.W.Frag) (F : Addr → Prop) (te : TE) (σ : L2.St) (H : Hp) (xs : List V) : Prop := EvQ te σ H (fun _ v H2 => ∃ p, v = .ref p ∧ F p ∧ SqT K H2 p xs)
theorem es_var {F : Addr → Prop} {a : Addr} {xs : List V} (h : Ev te σ H (.ref a)) (hf : F a) (ht : SqT K H a xs) : EvS K F te σ H xs := fun H1 e Q q => h H1 e Q fun H2 e2 => q _ H2 e2 ⟨a, rfl, hf, ex_t (e.trans e2) ht⟩
theorem es_cat {F : Addr → Prop} {xs ys : List V} (hF : ∀ n, H n = none → F n) (ha : EvS K F ta σ H xs) (hb : EvS K F tb σ H ys) (hz : xs.length + ys.length ≤ 100000) : EvS K F (tOp (rCatA K) ta tb) σ H (xs ++ ys) := fun H1 e Q q =>
  ha H1 e _ fun v H2 e2 ⟨p, ev, fp, hp⟩ => hb H2 (e.trans e2) _ fun u H3 e3 ⟨r, eu, fr, hr⟩ => ⟨p, r, xs, ys, ev, eu, ex_t e3 hp, hr, sz_of hz,
    fun hx => q _ H3 (e2.trans e3) ⟨r, rfl, fr, by rw [hx]; exact hr⟩, fun _ hy => q _ H3 (e2.trans e3) ⟨p, rfl, fp, by rw [hy, List.append_nil]; exact ex_t e3 hp⟩,
    fun _ _ n hn => q _ _ ((e2.trans e3).trans (Ex.new hn)) ⟨n, rfl, hF n (fresh_back ((e.trans e2).trans e3) hn), st_of upd_same⟩⟩
/-! ### pattern_entry -/
theorem patOf_body (c : Bytes) : Vahypa.patOf c = (bodyE (Mx.bodyOf c)).map fun q => ⟨Mx.frontOf c, q.1, Mx.backOf c, q.2⟩ := by
  rw [Mx.patOf_eq]
  unfold bodyE
  cases Mx.bodyBy (Mx.bodyOf c) [] [0] with
  | none => rfl
  | some q =>
    simp only [Option.bind_some]
    split <;> rfl
def edgeL (b : Bool) : List Nat := if b = true then [0] else []
theorem signsOf_edges (p : Vahypa.Pat) : nv (Vahypd.signsOf p) = nv (edgeL p.front) ++ nv (p.x.map (·.toNat)) ++ nv (edgeL p.halt_) := by
  unfold Vahypd.signsOf nv edgeL
  rw [List.map_append, List.map_append, List.append_assoc]
def spPat (T : Tx K mg) : Sp := fun vs H Q _ => ∃ (a : Addr) (c : Bytes), vs = [.ref a] ∧ SqL K H a (tx c) ∧ c.length ≤ 9000 ∧ match Vahypa.patOf c with
  | none => RetV .non H Q
  | some p => ∀ o H2, Ex H H2 → EntNew T H H2 o (Vahypd.signsOf p, p.levels) → Q (.ref o) H2
theorem ok_pattern_entry (T : Tx K mg) : FnOk P w K mg base CX0 4 T.pattern_entry.f T.pattern_entry.fd ["chunk"] (spPat T) := by
  have GB : FnOk P w K mg base CX0 3 _ _ _ _ := ok_entry_of_body T
  have GE : FnOk P w K mg base CX0 2 _ _ _ _ := (ok_Entry T).mono (by decide)
  refine T.pattern_entry.F.ok scPatternEntry (fun vs H Q E h => ?_) (fun cdv A outer s H vs Q E hr h => ⟨_,
    pss_cons (ps_set (i := 1) scPatternEntry.nd rfl (.inl rfl) pe_int)
    (pss_cons (ps_set (i := 2) scPatternEntry.nd rfl (.inl rfl) (pe_len T.b_len (pv 0)))
    (pss_cons (ps_set (i := 3) scPatternEntry.nd rfl (.inl rfl) (pe_tup pa_nil))
    (pss_cons (ps_set (i := 4) scPatternEntry.nd rfl (.inl rfl) (pe_tup pa_nil))
    (pss_cut (ps_if (PW.pt (pw_and (pt_cmpR op_lt (pv 1) (pv 2) (nomark _)) (pw_and1 (pt_cmpR op_eq (pe_ix ix_list (pv 0) (pv 1) (fun _ _ => rfl)) (pe_k T.k_POINT) (nomark _)))))
      (pss_cons (ps_aug (i := 1) scPatternEntry.nd rfl (.inl rfl) pe_int ip_add) (pss_one (ps_set (i := 3) scPatternEntry.nd rfl (.inl rfl) (pe_tup (pa_cons (pe_k T.k_EDGE) pa_nil))))) pss_nil)
    (pss_cut (ps_if (PW.pt (pw_and (pt_cmpR op_lt (pv 1) (pv 2) (nomark _)) (pw_and1 (pt_cmpR op_eq (pe_ix ix_list (pv 0) (pe_op op_sub (pv 2) pe_int) (fun _ _ => rfl)) (pe_k T.k_POINT) (nomark _)))))
      (pss_cons (ps_aug (i := 2) scPatternEntry.nd rfl (.inl rfl) pe_int ip_sub) (pss_one (ps_set (i := 4) scPatternEntry.nd rfl (.inl rfl) (pe_tup (pa_cons (pe_k T.k_EDGE) pa_nil))))) pss_nil)
    (pss_cons (ps_set (i := 5) scPatternEntry.nd rfl (.inl rfl) (pe_fn T.entry_of_body GB hr (bdEntryOfBody T.entry_of_body.F) pass0 (pa_cons (pe_slice sl_list (pv 0) (po_some (pv 1)) (po_some (pv 2))) pa_nil)))
    (pss_cons (ps_if (pt_cmpR op_isN (pv 5) pe_non (nomark _)) (pss_one (ps_ret pe_non)) pss_nil)
    (pss_one (ps_ret (pe_make T.cEntry.mkc GE hr rfl T.cEntry.m (bdEntryInit T.cEntry.F) .nil pass0 (pa_cons (pe_op op_catA (pe_op op_catA (pv 3) (pe_fld (pv 5) rfl)) (pv 4)) (pa_cons (pe_fld (pv 5) rfl) pa_nil)))))))))))), ?_⟩)
  · obtain ⟨a, c, rfl, _⟩ := h
    rfl
  obtain ⟨a, c, rfl, hS, hlen, k⟩ := h
  rw [patOf_body] at k
  refine q_asg ev_c fun H1 e1 => q_asg (ev_lenX (ev_var rfl) (ex_l e1 hS)) fun H2 e2 => q_asgU (eu_tup ea_nil (by decide)) fun fa H3 hfa e3 h3 => q_asgU (eu_tup ea_nil (by decide)) fun ba H4 hba e4 h4 => ?_
  have e14 := ((e1.trans e2).trans e3).trans e4
  refine q_cut (M := fun σ' H' => ∃ fa, σ' = [some (.ref a), some (.int ((c.length - (Mx.midOf c).length : Nat) : Int)), some (.int (c.length : Int)), some (.ref fa), some (.ref ba), none] ∧ Ex H4 H' ∧ SqT K H' fa (nv (edgeL (Mx.frontOf c))) ∧ H fa = none) ?_ ?_
  · cases hc : c[0]? with
    | none =>
      have h0 : c = [] := by
        have := List.getElem?_eq_none_iff.mp hc
        exact List.length_eq_zero_iff.mp (by omega)
      subst h0
      refine s_when (b := false) (et_is (et_and (b := false) (et_test (ev_op (ev_var rfl) (ev_var rfl) rv_I0)) fun z => by simp at z) (by simp)) (fun z => nomatch z) fun _ H5 e5 => ⟨fa, rfl, e5, st_of ((e4.trans e5) _ _ h3), fresh_back (e1.trans e2) hfa⟩
    | some b =>
      obtain ⟨r, rfl⟩ : ∃ r, c = b :: r := by
        cases c with
        | nil => cases hc
        | cons x r => exact ⟨r, by rw [(Option.some.inj hc : x = b)]⟩
      have hf : Mx.frontOf (b :: r) = (b == 46) := rfl
      refine s_when (b := b == 46) (et_is (et_and (et_test (ev_op (ev_var rfl) (ev_var rfl) rv_I0)) fun z => et_test (ev_op (ev_op (ev_var rfl) (ev_var rfl) (rv_ixL (ex_l e14 hS) (tx_at (q := 0) (b := b) rfl))) ev_c (rv_eq rfl))) ?_) (fun hs H5 e5 => ?_) (fun hs H5 e5 => ?_)
      · rw [u8v b 46 46 rfl]
        rw [decide_eq_true (by rw [List.length_cons]; omega), Bool.true_and]
      · refine s_aug (f := fun i j => i + j) (a := 0) (b := 1) rfl ev_c fun H6 e6 => ?_
        refine s_asgU (eu_tup (ea_cons ev_c ea_nil) (by decide)) fun fb H7 hfb e7 h7 => ⟨fb, ?_, (e5.trans e6).trans e7, ?_, fresh_back ((e14.trans e5).trans e6) hfb⟩
        · have : Mx.midOf (b :: r) = r := by unfold Mx.midOf; rw [hf, hs]; rfl
          rw [this, List.length_cons]
          show _ = [some (V.ref a), some (V.int ((r.length + 1 - r.length : Nat) : Int)), _, _, _, _]
          rw [Nat.add_sub_cancel_left]
          rfl
        · rw [hf, hs]
          exact st_of h7
      · have : Mx.midOf (b :: r) = b :: r := by unfold Mx.midOf; rw [hf, hs]; rfl
        refine ⟨fa, by rw [this, Nat.sub_self]; rfl, e5, ?_, fresh_back (e1.trans e2) hfa⟩
        rw [hf, hs]
        exact st_of ((e4.trans e5) _ _ h3)
  rintro σ' H5 ⟨fa, rfl, e5, hF, hfa⟩
  obtain ⟨d, hd, hd1⟩ : ∃ d, Mx.midOf c = c.drop d ∧ d ≤ c.length := by
    unfold Mx.midOf
    split
    · rename_i hf
      refine ⟨1, rfl, ?_⟩
      cases c with
      | nil => cases hf
      | cons _ _ => simp
    · exact ⟨0, rfl, Nat.zero_le _⟩
  have hml : (Mx.midOf c).length = c.length - d := by rw [hd, List.length_drop]
  have hbg : c.length - (Mx.midOf c).length = d := by omega
  rw [hbg]
  refine q_cut (M := fun σ' H' => ∃ ba, σ' = [some (.ref a), some (.int (d : Int)), some (.int ((d + (Mx.bodyOf c).length : Nat) : Int)), some (.ref fa), some (.ref ba), none] ∧ Ex H5 H' ∧ SqT K H' ba (nv (edgeL (Mx.backOf c))) ∧ H ba = none) ?_ ?_
  · by_cases hlt : d < c.length
    · have hb := getD_u8 (c := c) (i := c.length - 1) (by omega)
      obtain ⟨b, hbe⟩ : ∃ b, b = c.getD (c.length - 1) 0 := ⟨_, rfl⟩
      rw [← hbe] at hb
      have hlast : (Mx.midOf c).getLast? = some b := by
        rw [hd, List.getLast?_eq_getElem?, List.length_drop, List.getElem?_drop, show d + (c.length - d - 1) = c.length - 1 by omega]
        exact hb
      have hf : Mx.backOf c = (b == 46) := by unfold Mx.backOf; rw [hlast]; rfl
      have hat : atI (tx c) ((c.length : Int) - 1) = some (.int (b.toNat : Int)) := by
        rw [show ((c.length : Int) - 1) = ((c.length - 1 : Nat) : Int) by omega]
        exact tx_at hb
      refine s_when (b := b == 46) (et_is (et_and (et_test (ev_op (ev_var rfl) (ev_var rfl) rv_I0)) fun z => et_test (ev_op (ev_op (ev_var rfl) (ev_op (ev_var rfl) ev_c rv_I0) (rv_ixL (ex_l (e14.trans e5) hS) hat)) ev_c (rv_eq rfl))) ?_) (fun hs H6 e6 => ?_) (fun hs H6 e6 => ?_)
      · rw [u8v b 46 46 rfl]
        rw [decide_eq_true (by omega), Bool.true_and]
      · refine s_aug (f := fun i j => i - j) (a := (c.length : Int)) (b := 1) rfl ev_c fun H7 e7 => ?_
        refine s_asgU (eu_tup (ea_cons ev_c ea_nil) (by decide)) fun bb H8 hbb e8 h8 => ⟨bb, ?_, (e6.trans e7).trans e8, ?_, fresh_back (((e14.trans e5).trans e6).trans e7) hbb⟩
        · have : (Mx.bodyOf c).length = c.length - d - 1 := by unfold Mx.bodyOf; rw [hf, hs, if_pos rfl, List.length_dropLast, hml]
          rw [this, show ((d + (c.length - d - 1) : Nat) : Int) = (c.length : Int) - 1 by omega]
          rfl
        · rw [hf, hs]
          exact st_of h8
      · have : (Mx.bodyOf c).length = c.length - d := by unfold Mx.bodyOf; rw [hf, hs, if_neg (by decide), hml]
        refine ⟨ba, by rw [this, show ((d + (c.length - d) : Nat) : Int) = (c.length : Int) by omega], e6, ?_, fresh_back ((e1.trans e2).trans e3) hba⟩
        rw [hf, hs]
        exact st_of ((e5.trans e6) _ _ h4)
    · have hm : Mx.midOf c = [] := List.length_eq_zero_iff.mp (by omega)
      have hf : Mx.backOf c = false := by unfold Mx.backOf; rw [hm]; rfl
      refine s_when (b := false) (et_is (et_and (b := false) (et_test (ev_op (ev_var rfl) (ev_var rfl) rv_I0)) fun z => absurd (of_decide_eq_true z) (by omega)) (by simp)) (fun z => nomatch z) fun _ H6 e6 => ?_
      have : (Mx.bodyOf c).length = 0 := by unfold Mx.bodyOf; rw [hf, if_neg (by decide), hm]; rfl
      refine ⟨ba, by rw [this, Nat.add_zero, show (d : Int) = (c.length : Int) by omega], e6, ?_, fresh_back ((e1.trans e2).trans e3) hba⟩
      rw [hf]
      exact st_of ((e5.trans e6) _ _ h4)
  rintro σ' H6 ⟨ba, rfl, e6, hB, hba⟩
  have hbl : d + (Mx.bodyOf c).length ≤ c.length := by
    have : (Mx.bodyOf c).length ≤ (Mx.midOf c).length := by
      unfold Mx.bodyOf
      split
      · rw [List.length_dropLast]; omega
      · exact Nat.le_refl _
    omega
  have hbody : (c.drop d).take (Mx.bodyOf c).length = Mx.bodyOf c := by
    rw [← hd]
    unfold Mx.bodyOf
    split
    · rw [List.length_dropLast, List.dropLast_eq_take]
    · rw [List.take_length]
  have e16 := (e14.trans e5).trans e6
  refine (el_sl (ev_var rfl) (eo_some (ev_var rfl)) (eo_some (ev_var rfl)) (ex_l e16 hS)) H6 (Ex.refl _) _ fun p H7 hp e7 h7 => ?_
  rw [cut_nat _ _ _ (by omega) (by rw [tx_len]; exact hbl), tx_drop, tx_take, Nat.add_sub_cancel_left, hbody] at h7
  refine ⟨p, Mx.bodyOf c, rfl, sq_of h7, by omega, ?_⟩
  cases hE : bodyE (Mx.bodyOf c) with
  | none =>
    rw [hE] at k
    intro H8 e8
    refine q_when (D := { nx := fun _ H' => Q .non H', rt := Q }) (b := true) (et_test (ev_op (ev_var (v := .non) rfl) ev_c rv_isN)) (fun _ H9 e9 => s_ret ev_c fun H10 e10 => k.go ((((e16.trans e7).trans e8).trans e9).trans e10)) (fun z => nomatch z)
  | some q =>
    rw [hE] at k
    intro o H8 e8 hO
    refine q_when (b := false) (et_test (ev_op (ev_var (v := .ref o) rfl) ev_c rv_isN)) (fun z => nomatch z) fun _ H9 e9 => ?_
    obtain ⟨ho0, dx, sa, da, hsa0, hda0, ho, hsa, hda⟩ := hO
    replace ho := e9 _ _ ho
    replace hsa := ex_t e9 hsa
    replace hda := ex_t e9 hda
    have e17 := e16.trans e7
    have e69 := (e7.trans e8).trans e9
    refine (es_cat (F := fun a => H a = none) (xs := nv (edgeL (Mx.frontOf c)) ++ nv (q.1.map (·.toNat))) (ys := nv (edgeL (Mx.backOf c))) (fun n hn => fresh_back (e16.trans e69) hn) (es_cat (fun n hn => fresh_back (e16.trans e69) hn) (es_var (ev_var rfl) hfa (ex_t (e6.trans e69) hF)) (es_var (ev_fld (ev_var rfl) ho T.cEntry.cl T.nEntry_signs (by rfl)) (fresh_back e17 hsa0) hsa) ?_) (es_var (ev_var rfl) hba (ex_t e69 hB)) ?_) H9 (Ex.refl _) _ fun u H10 e10 ⟨r, hu, hrf, hr⟩ => ?_
    · have h1 : (edgeL (Mx.frontOf c)).length ≤ 1 := by unfold edgeL; split <;> simp
      have h2 : q.1.length ≤ 6 := by
        unfold bodyE at hE
        cases hb : Mx.bodyBy (Mx.bodyOf c) [] [0] with
        | none => rw [hb] at hE; cases hE
        | some q' =>
          rw [hb] at hE
          simp only [Option.bind_some] at hE
          split at hE
          · cases hE
          · cases hE
            omega
      rw [nv_len, nv_len, List.length_map]
      omega
    · have h1 : (edgeL (Mx.frontOf c)).length ≤ 1 := by unfold edgeL; split <;> simp
      have h3 : (edgeL (Mx.backOf c)).length ≤ 1 := by unfold edgeL; split <;> simp
      have h2 : q.1.length ≤ 6 := by
        unfold bodyE at hE
        cases hb : Mx.bodyBy (Mx.bodyOf c) [] [0] with
        | none => rw [hb] at hE; cases hE
        | some q' =>
          rw [hb] at hE
          simp only [Option.bind_some] at hE
          split at hE
          · cases hE
          · cases hE
            omega
      rw [List.length_append, nv_len, nv_len, nv_len, List.length_map]
      omega
    subst hu
    refine (ev_fld (ev_var rfl) (e10 _ _ ho) T.cEntry.cl T.nEntry_digits (v := .ref da) (by rfl)) H10 (Ex.refl _) _ fun H11 e11 => ?_
    refine mk_fin (n := 2) rfl fun o2 dx2 H12 ho2 e12 h12 => ?_
    refine k o2 H12 ((((e16.trans e69).trans e10).trans e11).trans e12) ⟨fresh_back (((e16.trans e69).trans e10).trans e11) ho2, dx2, r, da, hrf, fresh_back e17 hda0, h12, ?_, ex_t ((e10.trans e11).trans e12) hda⟩
    rw [signsOf_edges]
    exact ex_t (e11.trans e12) hr
end
end Pt
set_option Elab.async false
set_option linter.all false
set_option maxRecDepth 100000
set_option maxHeartbeats 2000000
namespace Pt
open PySem PySem.Spec PyProof.Rows L2 Evl
open VahypBase (Bytes)
/-! ## data of ints, by == -/
def dx (c : Bytes) : PyData := .list (c.map fun b => .int (b.toNat : Int))
def dn (l : List Nat) : PyData := .tuple (l.map fun (n : Nat) => .int (n : Int))
theorem eqvAll_u8 : ∀ c d : Bytes, PyData.eqvAll (c.map fun b => .int (b.toNat : Int)) (d.map fun b => .int (b.toNat : Int)) = (c == d)
  | [], [] => rfl
  | [], _ :: _ => rfl
  | _ :: _, [] => rfl
  | b :: c, e :: d => by
    show (((b.toNat : Int) == (e.toNat : Int)) && PyData.eqvAll _ _) = _
    rw [eqvAll_u8 c d, List.cons_beq_cons]
    congr 1
    rw [← u8_is b e, Bool.eq_iff_iff, beq_iff_eq, decide_eq_true_eq]
theorem eqv_dx (c d : Bytes) : PyData.eqv (dx c) (dx d) = (c == d) := eqvAll_u8 c d
theorem eqvAll_nat : ∀ c d : List Nat, PyData.eqvAll (c.map fun (n : Nat) => .int (n : Int)) (d.map fun (n : Nat) => .int (n : Int)) = (c == d)
  | [], [] => rfl
  | [], _ :: _ => rfl
  | _ :: _, [] => rfl
  | b :: c, e :: d => by
    show (((b : Int) == (e : Int)) && PyData.eqvAll _ _) = _
    rw [eqvAll_nat c d, List.cons_beq_cons]
    congr 1
    rw [Bool.eq_iff_iff, beq_iff_eq, beq_iff_eq]
    omega
theorem eqv_dn (c d : List Nat) : PyData.eqv (dn c) (dn d) = (c == d) := eqvAll_nat c d
theorem lay_ints {α : Type} (f : α → Int) : ∀ l : List α, PyData.canLayAll0 (l.map fun a => .int (f a)) = true
  | [] => rfl
  | a :: l => by
    show (PyData.canLay0 (.int (f a)) && PyData.canLayAll0 _) = true
    rw [lay_ints f l]
    rfl
theorem deep_ints {α : Type} (f : α → Int) : ∀ l : List α, PyData.depthAll (l.map fun a => .int (f a)) ≤ 1
  | [] => by
    show PyData.depthAll [] ≤ 1
    decide
  | a :: l => by
    show max (PyData.depth (.int (f a))) (PyData.depthAll _) ≤ 1
    have := deep_ints f l
    exact Nat.max_le.mpr ⟨by simp [PyData.depth], this⟩
theorem shaped_dx (c : Bytes) : SeqAt.shaped (dx c) = true := by
  unfold SeqAt.shaped
  rw [Bool.and_eq_true]
  refine ⟨?_, decide_eq_true ?_⟩
  · show PyData.canLayAll0 _ = true
    exact lay_ints _ c
  · have := deep_ints (fun b : UInt8 => (b.toNat : Int)) c
    show PyData.depthAll _ + 1 ≤ 64
    omega
theorem hu64 {k : Nat} {A : Around} (hr : Room k A) : A.units + 64 < cLine := by have := hr.un; omega
theorem hu65 {k : Nat} {A : Around} (hr : Room k A) : A.units + 65 < cLine := by have := hr.un; omega
/-! ## the reader of tokens -/
section
variable {P : Program} {w : World} {K : PySem.W.Frag} {mg : Str → Option Value} {base : Heap} {X : Cx}
variable {σ : L2.St} {H H' : Hp} {ta tb tc te tl : TE} {t : TT} {x y z v : V} {C : Addr} {D : Ends} {tz : TS}
theorem dp_tx {a : Addr} {c : Bytes} (h : SqL K H a (tx c)) : Dp K H (.ref a) (dx c) := by
  refine Dp.lst h ?_
  unfold tx
  induction c with
  | nil => exact DpAll.nil
  | cons b r ih =>
    clear h
    refine DpAll.cons (Dp.int _) ?_
    have : ∀ l : Bytes, DpAll K H (l.map fun b => V.int (b.toNat : Int)) (l.map fun b => PyData.int (b.toNat : Int)) := by
      intro l
      induction l with
      | nil => exact DpAll.nil
      | cons b r ih => exact DpAll.cons (Dp.int _) ih
    exact this r
theorem dp_nv {a : Addr} {l : List Nat} (h : SqT K H a (nv l)) : Dp K H (.ref a) (dn l) := by
  refine Dp.tup h ?_
  unfold nv
  clear h
  induction l with
  | nil => exact DpAll.nil
  | cons b r ih => exact DpAll.cons (Dp.int _) ih
def rF (tl : Addr) (i : Nat) : List (Str × V) := [("tokens", .ref tl), ("at", .int (i : Int))]
theorem rF_put {tl : Addr} {i j : Nat} : putF ("at" : Str) (.int (j : Int)) (rF tl i) = rF tl j := by
  unfold rF
  rw [putF, if_neg (by decide +kernel), putF, if_pos rfl]
theorem ok_TokenReader (T : Tx K mg) : FnOk P w K mg base CX0 1 T.cTokenReader.f T.cTokenReader.fd ["self", "tokens"] (spIni T.cTokenReader.C 1 fun as => [("tokens", as.getD 0 .non), ("at", .int 0)]) := by
  refine T.cTokenReader.F.ok scTokenReaderInit (fun vs H Q E h => ?_) (fun cdv A outer s H vs Q E hr h => ⟨_, pss_cons (ps_fld (pv 0) (pv 1) rfl) (pss_one (ps_fld (pv 0) pe_int rfl)), ?_⟩)
  · obtain ⟨p, dx, as, rfl, hl, _⟩ := h
    rw [List.length_cons, hl]
    rfl
  · obtain ⟨p, dx, as, rfl, hl, hp, k⟩ := h
    match as, hl with
    | [v1], _ =>
      refine ⟨_, rfl, _, rfl, p, T.cTokenReader.C, dx, [], rfl, hp, T.cTokenReader.cl, T.nTokenReader_tokens, (by show 0 < 1000; decide), ?_⟩
      refine ⟨_, rfl, p, T.cTokenReader.C, dx, _, rfl, upd_same, T.cTokenReader.cl, T.nTokenReader_at, (by show 1 < 1000; decide), ?_⟩
      show Q .non _
      rw [upd_upd, puts2 (by decide +kernel)]
      exact k
/-- stands -/
def spStands (T : Tx K mg) : Sp := fun vs H Q _ => ∃ (r tl dr : Addr) (i : Nat) (all : VahypBase.Toks) (tk : VahypBase.PTok) (z : Str) (bs : Bytes), vs = [.ref r, .str z] ∧ H r = some (.ins T.cTokenReader.C dr (rF tl i)) ∧ TokList T H tl all ∧ all[i]? = some tk ∧ z.cps.size ≤ 1000 ∧ codes z = tx bs ∧ RetV (.bl (Mx.chunkOf tk.tok == bs)) H Q
theorem rv_eqX {a b : Addr} {c d : Bytes} (h1 : SqL K H a (tx c)) (h2 : SqL K H b (tx d)) : RV (rEqD K) (.ref a) (.ref b) H (.bl (c == d)) := fun H1 e Q q =>
  ⟨dx c, dx d, dp_tx (ex_l e h1), dp_tx (ex_l e h2), shaped_dx c, shaped_dx d, by rw [eqv_dx]; exact q H1 (Ex.refl H1)⟩
theorem ev_tok {T : Tx K mg} {r tl dr : Addr} {i : Nat} {all : VahypBase.Toks} {tk : VahypBase.PTok} (hr : H r = some (.ins T.cTokenReader.C dr (rF tl i))) (hT : TokList T H tl all) (hi : all[i]? = some tk) (h0 : σ[0]? = some (some (.ref r))) :
    ∃ o, TokAt T H o tk ∧ ∀ H1, Ex H H1 → Ev (tOp (rIxL K) (tFld K (tVar 0) "tokens") (tFld K (tVar 0) "at")) σ H1 (.ref o) := by
  obtain ⟨refs, h1, h2⟩ := hT
  obtain ⟨o, ho, hA⟩ := h2.2 i tk hi
  exact ⟨o, hA, fun H1 e => ev_op (ev_fld (ev_var h0) (e _ _ hr) T.cTokenReader.cl T.nTokenReader_tokens (by rfl)) (ev_fld (ev_var h0) (e _ _ hr) T.cTokenReader.cl T.nTokenReader_at (v := .int (i : Int)) (by rfl)) (rv_ixL (ex_l e h1) (atI_nat ho))⟩
theorem ok_stands_r (T : Tx K mg) : FnOk P w K mg base CX0 2 T.mTokenReader_stands.f T.mTokenReader_stands.fd ["self", "keyword"] (spStands T) := by
  have GS : FnOk P w K mg base CX0 1 _ _ _ _ := ok_spelled T
  refine T.mTokenReader_stands.F.ok scTokenReaderStands (fun vs H Q E h => ?_) (fun cdv A outer s H vs Q E hr h => ⟨_, pss_one (ps_ret (pe_cmpR (op_eqD (hu64 hr)) (pe_fld (pe_ix ix_list (pe_fld (pv 0) rfl) (pe_fld (pv 0) rfl) (fun _ _ => rfl)) rfl)
    (pe_fn T.spelled GS hr (bdSpelled T.spelled.F) pass0 (pa_cons (pv 1) pa_nil)) (nomark _))), ?_⟩)
  · obtain ⟨r, tl, dr, i, all, tk, z, bs, rfl, _⟩ := h
    rfl
  · obtain ⟨r, tl, dr, i, all, tk, z, bs, rfl, h1, h2, h3, h4, h5, k⟩ := h
    obtain ⟨o, ⟨dx, ca, ho, hca⟩, hv⟩ := ev_tok (σ := [some (.ref r), some (.str z)]) h1 h2 h3 rfl
    refine s_ret ?_ k
    intro H1 e1 Q1 q1
    refine (ev_fld (hv H (Ex.refl H)) ho T.cToken.cl T.nToken_chunk (v := .ref ca) (by rfl)) H1 e1 _ fun H2 e2 => ?_
    refine t_call (ea_cons (ev_var rfl) ea_nil) fun H3 e3 => ⟨z, rfl, h4, fun p H4 hp e4 hpl => ?_⟩
    rw [h5] at hpl
    exact (rv_eqX (K := K) (ex_l (((e1.trans e2).trans e3).trans e4) hca) (sq_of hpl)) H4 (Ex.refl _) Q1 fun H5 e5 => q1 H5 (((e2.trans e3).trans e4).trans e5)
end
end Pt
set_option Elab.async false
set_option linter.all false
set_option maxRecDepth 100000
set_option maxHeartbeats 2000000
namespace Pt
open PySem PySem.Spec PyProof.Rows L2 Evl
open VahypBase (Bytes Toks PTok Fault)
section
variable {P : Program} {w : World} {K : PySem.W.Frag} {mg : Str → Option Value} {base : Heap} {X : Cx}
variable {σ : L2.St} {H H' : Hp} {ta tb tc te tl : TE} {t : TT} {x y z v : V} {C : Addr} {D : Ends} {tz : TS}
structure RdS (T : Tx K mg) (G M : Hp) (r tl dr : Addr) (all : Toks) (i : Nat) : Prop where
  ap : Apart G M
  rd : M r = some (.ins T.cTokenReader.C dr (rF tl i))
  tk : TokList T G tl all
/-- the reader at another place -/
def bump (T : Tx K mg) (M : Hp) (r tl dr : Addr) (i : Nat) : Hp := upd M r (.ins T.cTokenReader.C dr (rF tl i))
theorem RdS.bump {T : Tx K mg} {G M : Hp} {r tl dr : Addr} {all : Toks} {i : Nat} (h : RdS T G M r tl dr all i) (j : Nat) : RdS T G (bump T M r tl dr j) r tl dr all j := ⟨h.ap.put h.rd, upd_same, h.tk⟩
theorem RdS.grow {T : Tx K mg} {G G2 M : Hp} {r tl dr : Addr} {all : Toks} {i : Nat} (h : RdS T G M r tl dr all i) (e : Ex G G2) (a : Apart G2 M) : RdS T G2 M r tl dr all i := ⟨a, h.rd, h.tk.mono e⟩
theorem bump2 {T : Tx K mg} {M : Hp} {r tl dr : Addr} {i j : Nat} : bump T (bump T M r tl dr i) r tl dr j = bump T M r tl dr j := upd_upd
theorem t_meth {m : Str} {sp : Sp} {E : XK} {ta : TE} {t : TA} {a dx : Addr} {fs : List (Str × V)} {vs : List V} {Q : VK} (ha : Ev ta σ H (.ref a)) (h : H a = some (.ins C dx fs)) (hl : fs.lookup m = none) (ht : EvA t σ H vs) (k : ∀ H1, Ex H H1 → sp (.ref a :: vs) H1 Q E) : tMeth C m sp [] E ta t σ H Q :=
  ha H (Ex.refl H) _ fun H1 e1 => ⟨a, dx, fs, rfl, e1 _ _ h, hl, ht H1 e1 _ fun H2 e2 => by
    rw [List.append_nil]
    exact k H2 (e1.trans e2)⟩
/-! ### take -/
theorem kinds {a b : String} (ha : a = "chunk" ∨ a = "sign" ∨ a = "end") (hb : b = "chunk" ∨ b = "sign" ∨ b = "end") : decide (V.str (PySem.Str.ofString a) = V.str (PySem.Str.ofString b)) = decide (a = b) := by
  rcases ha with rfl | rfl | rfl <;> rcases hb with rfl | rfl | rfl <;> decide +kernel
theorem kind_one (t : VahypBase.Tok) : Mx.kindOf t = "chunk" ∨ Mx.kindOf t = "sign" ∨ Mx.kindOf t = "end" := by
  cases t
  · exact .inl rfl
  · exact .inr (.inl rfl)
  · exact .inr (.inr rfl)
def spTake (T : Tx K mg) : Sp := fun vs H Q E => ∃ (r tl dr : Addr) (i : Nat) (all : Toks) (tk : PTok) (k : String) (G M : Hp), vs = [.ref r, .str (PySem.Str.ofString k)] ∧ H = over G M ∧ RdS T G M r tl dr all i ∧ all[i]? = some tk ∧ (k = "chunk" ∨ k = "sign" ∨ k = "end") ∧
  (Mx.kindOf tk.tok = k → ∀ o G2, Ex G G2 → TokAt T G2 o tk → RdS T G2 (bump T M r tl dr (i + 1)) r tl dr all (i + 1) → Q (.ref o) (over G2 (bump T M r tl dr (i + 1)))) ∧ (Mx.kindOf tk.tok ≠ k → FE T E G 3 tk.place)
theorem ok_take (T : Tx K mg) : FnOk P w K mg base (L2.CX P w) 2 T.mTokenReader_take.f T.mTokenReader_take.fd ["self", "kind"] (spTake T) := by
  refine T.mTokenReader_take.F.okX scTokenReaderTake (fun vs H Q E h => ?_) (fun cdv A outer s H vs Q E hr h => ⟨_,
    pss_cons (ps_set (i := 2) scTokenReaderTake.nd rfl (.inl rfl) (pe_ix ix_list (pe_fld (pv 0) rfl) (pe_fld (pv 0) rfl) (fun _ _ => rfl)))
    (pss_cons (ps_if (pt_cmpR op_ne (pe_fld (pv 2) rfl) (pv 1) (nomark _)) (pss_one (ps_raiseFlt rfl T.flt hr (takes_of rfl rfl rfl rfl) (pa_cons (pe_k T.k_NOT_ALLOWED) (pa_cons (pe_fld (pv 2) rfl) pa_nil)))) pss_nil)
    (pss_cons (ps_fldaug (pv 0) pe_int in_add) (pss_one (ps_ret (pv 2))))), ?_⟩)
  · obtain ⟨r, tl, dr, i, all, tk, k, G, M, rfl, _⟩ := h
    rfl
  obtain ⟨r, tl, dr, i, all, tk, k, G, M, rfl, rfl, hR, hi, hk, k1, k2⟩ := h
  have eG := ex_over hR.ap
  obtain ⟨o, hA, hv⟩ := ev_tok (σ := [some (.ref r), some (.str (PySem.Str.ofString k)), none]) (over_m (G := G) hR.rd) (hR.tk.mono eG) hi rfl
  obtain ⟨o', hA', hv'⟩ : ∃ o', TokAt T G o' tk ∧ ∀ H1, Ex (over G M) H1 → Ev (tOp (rIxL K) (tFld K (tVar 0) "tokens") (tFld K (tVar 0) "at")) [some (.ref r), some (.str (PySem.Str.ofString k)), none] H1 (.ref o') := by
    obtain ⟨refs, h1, h2⟩ := hR.tk
    obtain ⟨o, ho, hA⟩ := h2.2 i tk hi
    exact ⟨o, hA, fun H1 e => ev_op (ev_fld (ev_var rfl) (e _ _ (over_m hR.rd)) T.cTokenReader.cl T.nTokenReader_tokens (by rfl)) (ev_fld (ev_var rfl) (e _ _ (over_m hR.rd)) T.cTokenReader.cl T.nTokenReader_at (v := .int (i : Int)) (by rfl)) (rv_ixL (ex_l (eG.trans e) h1) (atI_nat ho))⟩
  refine q_asg (hv' _ (Ex.refl _)) fun H1 e1 => ?_
  obtain ⟨dx, ca, ho, hca⟩ := hA'.mono (eG.trans e1)
  refine q_when (b := !decide (Mx.kindOf tk.tok = k)) (et_is (et_test (ev_op (ev_fld (ev_var rfl) ho T.cToken.cl T.nToken_kind (by rfl)) (ev_var rfl) (rv_ne rfl))) (by rw [kinds (kind_one _) hk])) (fun hs H2 e2 => ?_) (fun hs H2 e2 => ?_)
  · have hs := of_decide_eq_false (nb1 hs)
    exact s_raise (ea_cons ev_c (ea_cons (ev_fld (ev_var rfl) (e2 _ _ ho) T.cToken.cl T.nToken_place (v := .int (tk.place : Int)) (by rfl)) ea_nil)) fun d H3 _ e3 h3 => k2 hs d H3 (((eG.trans e1).trans e2).trans e3) h3
  · have hs := of_decide_eq_true (nb2 hs)
    obtain ⟨G2, a2, eG2, rfl⟩ := over_split hR.ap (e1.trans e2)
    refine ⟨_, rfl, r, T.cTokenReader.C, dr, rF tl i, .int (i : Int), rfl, over_m hR.rd, T.cTokenReader.cl, T.nTokenReader_at, by rfl, (i : Int), 1, rfl, rfl, dr, rF tl i, over_m hR.rd, by show 2 < 1000; decide, ?_⟩
    have e3 : putF ("at" : Str) (.int ((i : Int) + 1)) (rF tl i) = rF tl (i + 1) := rF_put (j := i + 1)
    rw [e3, over_upd]
    have hb := (hR.grow eG2 a2).bump (i + 1)
    refine s_ret (ev_var (v := .ref o') rfl) fun H3 e3 => ?_
    obtain ⟨G3, a3, eG3, rfl⟩ := over_split hb.ap e3
    exact k1 hs o' G3 (eG2.trans eG3) (hA'.mono (eG2.trans eG3)) (hb.grow eG3 a3)
/-! ### take_keyword -/
def spTakeKw (T : Tx K mg) : Sp := fun vs H Q E => ∃ (r tl dr : Addr) (i : Nat) (all : Toks) (tk : PTok) (z : Str) (bs : Bytes) (G M : Hp), vs = [.ref r, .str z] ∧ H = over G M ∧ RdS T G M r tl dr all i ∧ all[i]? = some tk ∧ z.cps.size ≤ 1000 ∧ codes z = tx bs ∧ 2 ≤ bs.length ∧
  (tk.tok = .chunk bs → ∀ o G2, Ex G G2 → TokAt T G2 o tk → RdS T G2 (bump T M r tl dr (i + 1)) r tl dr all (i + 1) → Q (.ref o) (over G2 (bump T M r tl dr (i + 1)))) ∧ (tk.tok ≠ .chunk bs → FE T E G 3 tk.place)
theorem chunk_is {t : VahypBase.Tok} {bs : Bytes} (h : 2 ≤ bs.length) : (Mx.chunkOf t == bs) = true ↔ t = .chunk bs := by
  rw [beq_iff_eq]
  cases t with
  | chunk b => exact ⟨fun e => by rw [show b = bs from e], fun e => by injection e⟩
  | sign c => exact ⟨fun e => by rw [← show [59] = bs from e] at h; simp at h, fun e => nomatch e⟩
  | last => exact ⟨fun e => by rw [← show [] = bs from e] at h; simp at h, fun e => nomatch e⟩
theorem ok_take_keyword (T : Tx K mg) : FnOk P w K mg base (L2.CX P w) 3 T.mTokenReader_take_keyword.f T.mTokenReader_take_keyword.fd ["self", "keyword"] (spTakeKw T) := by
  have GS : FnOk P w K mg base CX0 2 _ _ _ _ := ok_stands_r T
  have GT : FnOk P w K mg base (L2.CX P w) 2 _ _ _ _ := ok_take T
  refine T.mTokenReader_take_keyword.F.okX scTokenReaderTakeKeyword (fun vs H Q E h => ?_) (fun cdv A outer s H vs Q E hr h => ⟨_,
    pss_cons (ps_if (pt_not (pt_val (pe_meth (pv 0) T.cTokenReader.cl T.mTokenReader_stands.M GS hr (bdTokenReaderStands T.mTokenReader_stands.F) .nil pass0 (pa_cons (pv 1) pa_nil))))
      (pss_one (ps_raiseFlt rfl T.flt hr (takes_of rfl rfl rfl rfl) (pa_cons (pe_k T.k_NOT_ALLOWED) (pa_cons (pe_fld (pe_ix ix_list (pe_fld (pv 0) rfl) (pe_fld (pv 0) rfl) (fun _ _ => rfl)) rfl) pa_nil)))) pss_nil)
    (pss_one (ps_ret (pe_meth (pv 0) T.cTokenReader.cl T.mTokenReader_take.M GT hr (bdTokenReaderTake T.mTokenReader_take.F) .nil (passes_call (takes_of rfl rfl rfl rfl) (fun _ _ _ _ h => h)) (pa_cons (pe_k T.k_CHUNK) pa_nil)))), ?_⟩)
  · obtain ⟨r, tl, dr, i, all, tk, z, bs, G, M, rfl, _⟩ := h
    rfl
  obtain ⟨r, tl, dr, i, all, tk, z, bs, G, M, rfl, rfl, hR, hi, hz, hc, hbs, k1, k2⟩ := h
  have eG := ex_over hR.ap
  have hst : EvT (tNot (tB (tMeth T.cTokenReader.C "stands" (spStands T) [] E0 (tVar 0) (tCons (tVar 1) tNil)))) [some (.ref r), some (.str z)] (over G M) (!(Mx.chunkOf tk.tok == bs)) := by
    refine et_not (et_B fun H1 e1 Q1 q1 => ?_)
    refine t_meth (a := r) (ev_var rfl) (e1 _ _ (over_m hR.rd)) (by rfl) (ea_cons (ev_var rfl) ea_nil) fun H2 e2 => ?_
    exact ⟨r, tl, dr, i, all, tk, z, bs, rfl, (e1.trans e2) _ _ (over_m hR.rd), hR.tk.mono (eG.trans (e1.trans e2)), hi, hz, hc, fun H3 e3 => q1 H3 (e2.trans e3)⟩
  refine q_when hst (fun hs H2 e2 => ?_) (fun hs H2 e2 => ?_)
  · have hn : tk.tok ≠ .chunk bs := fun e => by
      have := (chunk_is hbs).mpr e
      rw [nb1 hs] at this
      cases this
    obtain ⟨o, ⟨dx, ca, ho, hca⟩, hv⟩ := ev_tok (σ := [some (.ref r), some (.str z)]) (e2 _ _ (over_m hR.rd)) (hR.tk.mono (eG.trans e2)) hi rfl
    exact s_raise (ea_cons ev_c (ea_cons (ev_fld (hv _ (Ex.refl _)) ho T.cToken.cl T.nToken_place (v := .int (tk.place : Int)) (by rfl)) ea_nil)) fun d H3 _ e3 h3 => k2 hn d H3 ((eG.trans e2).trans e3) h3
  · have he : tk.tok = .chunk bs := (chunk_is hbs).mp (nb2 hs)
    obtain ⟨G2, a2, eG2, rfl⟩ := over_split hR.ap e2
    refine t_meth (a := r) (ev_var rfl) (over_m hR.rd) (by rfl) (ea_cons ev_c ea_nil) fun H3 e3 => ?_
    obtain ⟨G3, a3, eG3, rfl⟩ := over_split a2 e3
    refine ⟨r, tl, dr, i, all, tk, "chunk", G3, M, rfl, rfl, hR.grow (eG2.trans eG3) a3, hi, .inl rfl, fun _ o G4 e4 hA hR4 => k1 he o G4 ((eG2.trans eG3).trans e4) hA hR4, fun hn => absurd ?_ hn⟩
    rw [he]
    rfl
end
end Pt
set_option autoImplicit false
namespace Mx
open VahypBase Vahypa
/-! ### taking tokens, one at a time -/
theorem drop_tok {all : Toks} {i : Nat} {tk : PTok} (h : all[i]? = some tk) : all.drop i = tk :: all.drop (i + 1) := by
  obtain ⟨h1, e⟩ := List.getElem?_eq_some_iff.mp h
  rw [List.drop_eq_getElem_cons h1, e]
theorem Wf.head {all : Toks} {i : Nat} (h : Wf (all.drop i)) : ∃ tk, all[i]? = some tk := by
  have hne := h.ne
  have : i < all.length := by
    rcases Nat.lt_or_ge i all.length with z | z
    · exact z
    · exact absurd (List.drop_eq_nil_of_le z) hne
  exact ⟨_, List.getElem?_eq_getElem this⟩
theorem Wf.tail {tk : PTok} {r : Toks} (h : Wf (tk :: r)) (hl : tk.tok ≠ .last) : Wf r := by
  cases h with
  | last p => exact absurd rfl hl
  | chunk p b r h1 h2 h3 => exact h3
  | sign p r h3 => exact h3
theorem Wf.sign59 {tk : PTok} {r : Toks} {c : Nat} (h : Wf (tk :: r)) (e : tk.tok = .sign c) : c = 59 := by
  cases h with
  | last p => cases e
  | chunk p b r h1 h2 h3 => cases e
  | sign p r h3 => cases e; rfl
theorem Wf.chunkLe {tk : PTok} {r : Toks} {b : Bytes} (h : Wf (tk :: r)) (e : tk.tok = .chunk b) : b.length ≤ 40 := by
  cases h with
  | last p => cases e
  | chunk p b' r h1 h2 h3 => cases e; exact h2
  | sign p r h3 => cases e
theorem tokEq_chunk {t : Tok} {b : Bytes} : tokEq t (.chunk b) = true ↔ t = .chunk b := by
  cases t with
  | chunk a =>
    show (a == b) = true ↔ _
    rw [beq_iff_eq]
    exact ⟨fun e => by rw [e], fun e => by injection e⟩
  | sign c => exact ⟨(fun e => nomatch e), (fun e => nomatch e)⟩
  | last => exact ⟨(fun e => nomatch e), (fun e => nomatch e)⟩
theorem tokEq_sign {t : Tok} {c : Nat} : tokEq t (.sign c) = true ↔ t = .sign c := by
  cases t with
  | chunk a => exact ⟨(fun e => nomatch e), (fun e => nomatch e)⟩
  | sign d =>
    show (d == c) = true ↔ _
    rw [beq_iff_eq]
    exact ⟨fun e => by rw [e], fun e => by injection e⟩
  | last => exact ⟨(fun e => nomatch e), (fun e => nomatch e)⟩
theorem tokEq_last {t : Tok} : tokEq t .last = true ↔ t = .last := by
  cases t with
  | chunk a => exact ⟨(fun e => nomatch e), (fun e => nomatch e)⟩
  | sign d => exact ⟨(fun e => nomatch e), (fun e => nomatch e)⟩
  | last => exact ⟨fun _ => rfl, fun _ => rfl⟩
theorem takeWord_yes {s : String} {tk : PTok} {r : Toks} (h : tk.tok = .chunk (word s)) : takeWord s (tk :: r) = .ok r := by
  show (if tokEq tk.tok (.chunk (word s)) = true then Except.ok r else _) = _
  rw [if_pos (tokEq_chunk.mpr h)]
theorem takeWord_no {s : String} {tk : PTok} {r : Toks} (h : tk.tok ≠ .chunk (word s)) : takeWord s (tk :: r) = .error ⟨3, tk.place⟩ := by
  show (if tokEq tk.tok (.chunk (word s)) = true then Except.ok r else (Except.error (⟨3, tk.place⟩ : Fault) : Except Fault Toks)) = _
  rw [if_neg (fun z => h (tokEq_chunk.mp z))]
theorem takeSign_yes {tk : PTok} {r : Toks} (h : tk.tok = .sign 59) : takeSign 59 (tk :: r) = .ok r := by
  show (if tokEq tk.tok (.sign 59) = true then Except.ok r else _) = _
  rw [if_pos (tokEq_sign.mpr h)]
theorem takeSign_no {tk : PTok} {r : Toks} (h : tk.tok ≠ .sign 59) : takeSign 59 (tk :: r) = .error ⟨3, tk.place⟩ := by
  show (if tokEq tk.tok (.sign 59) = true then Except.ok r else (Except.error (⟨3, tk.place⟩ : Fault) : Except Fault Toks)) = _
  rw [if_neg (fun z => h (tokEq_sign.mp z))]
theorem takeChunk_yes {tk : PTok} {r : Toks} {b : Bytes} (h : tk.tok = .chunk b) : takeChunk (tk :: r) = .ok (tk.place, b, r) := by
  obtain ⟨p, t⟩ := tk
  cases h
  rfl
theorem takeChunk_no {tk : PTok} {r : Toks} (h : kindOf tk.tok ≠ "chunk") : takeChunk (tk :: r) = .error ⟨3, tk.place⟩ := by
  obtain ⟨p, t⟩ := tk
  cases t with
  | chunk b => exact absurd rfl h
  | sign c => rfl
  | last => rfl
theorem kind_chunk {t : Tok} (h : kindOf t = "chunk") : ∃ b, t = .chunk b := by
  cases t with
  | chunk b => exact ⟨b, rfl⟩
  | sign c => exact absurd h (by simp [kindOf])
  | last => exact absurd h (by simp [kindOf])
theorem kind_sign {t : Tok} (h : kindOf t = "sign") : ∃ c, t = .sign c := by
  cases t with
  | chunk b => exact absurd h (by simp [kindOf])
  | sign c => exact ⟨c, rfl⟩
  | last => exact absurd h (by simp [kindOf])
theorem kind_last {t : Tok} (h : kindOf t = "end") : t = .last := by
  cases t with
  | chunk b => exact absurd h (by simp [kindOf])
  | sign c => exact absurd h (by simp [kindOf])
  | last => rfl
def marginO (c : Bytes) : Option Nat := match c with
  | [b] => if isDigit b = true ∧ b.toNat - 48 ≤ 5 then some (b.toNat - 48) else none
  | _ => none
theorem takeMargin_chunk {tk : PTok} {r : Toks} {b : Bytes} (h : tk.tok = .chunk b) : takeMargin (tk :: r) = match marginO b with
    | some m => .ok (m, r)
    | none => .error ⟨7, tk.place⟩ := by
  unfold takeMargin
  rw [takeChunk_yes h]
  simp only [Except.bind]
  unfold marginO
  match b with
  | [] => rfl
  | [x] =>
    simp only
    have eM : MARGIN = 5 := rfl
    rw [eM]
    split <;> rfl
  | _ :: _ :: _ => rfl
theorem takeMargin_no {tk : PTok} {r : Toks} (h : kindOf tk.tok ≠ "chunk") : takeMargin (tk :: r) = .error ⟨3, tk.place⟩ := by
  unfold takeMargin
  rw [takeChunk_no h]
  rfl
/-- margins L R ; -/
def rmargins (l : Toks) : Except Fault (Nat × Nat × Toks) := (takeWord "margins" l).bind fun l => (takeMargin l).bind fun a => (takeMargin a.2).bind fun z => (takeSign 59 z.2).bind fun l => .ok (a.1, z.1, l)
/-- behind a keyword -/
def tbk (bs : Bytes) (b n : Nat) (l : Toks) : Except Fault (Nat × Bytes × Toks) := if next (.chunk bs) l = true then (if b = n then .error ⟨4, here l⟩ else takeChunk (l.drop 1)) else .error ⟨3, here l⟩
/-- one word -/
def wstep (ws : List Word) (l : Toks) : Except Fault (List Word × Toks) := if WORDS ≤ ws.length then .error ⟨4, here l⟩ else (takeChunk (l.drop 1)).bind fun x => match wordOf x.2.1 with
      | none => .error ⟨7, x.1⟩
      | some w => if ws.any (fun v => v.x == w.x) = true then .error ⟨5, x.1⟩ else (takeSign 59 x.2.2).bind fun m => .ok (ws ++ [w], m)
theorem takeWords_step (n : Nat) (ws : List Word) (l : Toks) : takeWords (n + 1) ws l = if nextWord "word" l = true then (wstep ws l).bind fun x => takeWords n x.1 x.2 else .ok (ws, l) := by
  rw [takeWords]
  split
  · unfold wstep
    split
    · rfl
    · cases takeChunk (l.drop 1) with
      | error f => rfl
      | ok x =>
        simp only [Except.bind]
        cases wordOf x.2.1 with
        | none => rfl
        | some w =>
          simp only
          split
          · rfl
          · cases takeSign 59 x.2.2 <;> rfl
  · rfl
/-- one pattern -/
def pstep (ps : List Pat) (l : Toks) : Except Fault (List Pat × Toks) := if PATS ≤ ps.length then .error ⟨4, here l⟩ else (takeChunk (l.drop 1)).bind fun x => match patOf x.2.1 with
      | none => .error ⟨7, x.1⟩
      | some p => if ps.any (fun q => q.x == p.x && (q.front == p.front && q.halt_ == p.halt_)) = true then .error ⟨5, x.1⟩ else (takeSign 59 x.2.2).bind fun m => .ok (ps ++ [p], m)
theorem next_last {tk : PTok} {r : Toks} : next .last (tk :: r) = true ↔ tk.tok = .last := tokEq_last
theorem next_chunk {bs : Bytes} {tk : PTok} {r : Toks} : next (.chunk bs) (tk :: r) = true ↔ tk.tok = .chunk bs := tokEq_chunk
theorem nextWord_iff {s : String} {tk : PTok} {r : Toks} : nextWord s (tk :: r) = true ↔ tk.tok = .chunk (word s) := tokEq_chunk
theorem takePats_step (n : Nat) (ps : List Pat) (tk : PTok) (r : Toks) : takePats (n + 1) ps (tk :: r) = if next .last (tk :: r) = true then .ok ps else if nextWord "pattern" (tk :: r) = true then (pstep ps (tk :: r)).bind fun x => takePats n x.1 x.2 else .error ⟨3, tk.place⟩ := by
  rw [takePats]
  by_cases h : next .last (tk :: r) = true
  · rw [if_pos h, if_pos h]
  · rw [if_neg h, if_neg h]
    by_cases hw : nextWord "pattern" (tk :: r) = true
    · rw [if_pos hw, takeWord_yes (nextWord_iff.mp hw)]
      unfold pstep
      show (if PATS ≤ ps.length then _ else _) = _
      split
      · rfl
      · show _ = ((takeChunk r).bind _).bind _
        cases takeChunk r with
        | error f => rfl
        | ok x =>
          simp only [Except.bind]
          cases patOf x.2.1 with
          | none => rfl
          | some w =>
            simp only
            split
            · rfl
            · cases takeSign 59 x.2.2 <;> rfl
    · rw [if_neg hw, takeWord_no (fun z => hw (nextWord_iff.mpr z))]
      rfl
end Mx
set_option Elab.async false
set_option linter.all false
set_option maxRecDepth 100000
set_option maxHeartbeats 2000000
namespace Pt
open PySem PySem.Spec PyProof.Rows L2 Evl
open VahypBase (Bytes Toks PTok Fault)
section
variable {P : Program} {w : World} {K : PySem.W.Frag} {mg : Str → Option Value} {base : Heap} {X : Cx}
variable {σ : L2.St} {H H' : Hp} {ta tb tc te tl : TE} {t : TT} {x y z v : V} {C : Addr} {D : Ends} {tz : TS}
/-- take, at a reader's place -/
theorem take_by {T : Tx K mg} {G M : Hp} {r tl dr : Addr} {all : Toks} {i : Nat} {tk : PTok} {k : String} {Q : VK} {E : XK} {te : TE} {tk' : TE} (hR : RdS T G M r tl dr all i) (hi : all[i]? = some tk) (hk : k = "chunk" ∨ k = "sign" ∨ k = "end") (h0 : ∀ H1, Ex (over G M) H1 → Ev te σ H1 (.ref r)) (h1 : ∀ H1, Ex (over G M) H1 → Ev tk' σ H1 (.str (PySem.Str.ofString k)))
    (k1 : Mx.kindOf tk.tok = k → ∀ o G2, Ex G G2 → TokAt T G2 o tk → RdS T G2 (bump T M r tl dr (i + 1)) r tl dr all (i + 1) → Q (.ref o) (over G2 (bump T M r tl dr (i + 1)))) (k2 : Mx.kindOf tk.tok ≠ k → FE T E G 3 tk.place) :
    tMeth T.cTokenReader.C "take" (spTake T) [] E te (tCons tk' tNil) σ (over G M) Q :=
  t_meth (a := r) (h0 _ (Ex.refl _)) (over_m hR.rd) (by rfl) (ea_cons (h1 _ (Ex.refl _)) ea_nil) fun H1 e1 => by
    obtain ⟨G2, a2, e2, rfl⟩ := over_split hR.ap e1
    exact ⟨r, tl, dr, i, all, tk, k, G2, M, rfl, rfl, hR.grow e2 a2, hi, hk, fun h o G3 e3 hA hR3 => k1 h o G3 (e2.trans e3) hA hR3, fun h => (k2 h).go e2⟩
theorem kw_by {T : Tx K mg} {G M : Hp} {r tl dr : Addr} {all : Toks} {i : Nat} {tk : PTok} {z : Str} {bs : Bytes} {Q : VK} {E : XK} {te tz : TE} (hR : RdS T G M r tl dr all i) (hi : all[i]? = some tk) (hz : z.cps.size ≤ 1000) (hc : codes z = tx bs) (hb : 2 ≤ bs.length) (h0 : ∀ H1, Ex (over G M) H1 → Ev te σ H1 (.ref r)) (h1 : ∀ H1, Ex (over G M) H1 → Ev tz σ H1 (.str z))
    (k1 : tk.tok = .chunk bs → ∀ o G2, Ex G G2 → TokAt T G2 o tk → RdS T G2 (bump T M r tl dr (i + 1)) r tl dr all (i + 1) → Q (.ref o) (over G2 (bump T M r tl dr (i + 1)))) (k2 : tk.tok ≠ .chunk bs → FE T E G 3 tk.place) :
    tMeth T.cTokenReader.C "take_keyword" (spTakeKw T) [] E te (tCons tz tNil) σ (over G M) Q :=
  t_meth (a := r) (h0 _ (Ex.refl _)) (over_m hR.rd) (by rfl) (ea_cons (h1 _ (Ex.refl _)) ea_nil) fun H1 e1 => by
    obtain ⟨G2, a2, e2, rfl⟩ := over_split hR.ap e1
    exact ⟨r, tl, dr, i, all, tk, z, bs, G2, M, rfl, rfl, hR.grow e2 a2, hi, hz, hc, hb, fun h o G3 e3 hA hR3 => k1 h o G3 (e2.trans e3) hA hR3, fun h => (k2 h).go e2⟩
/-! ### read_margin -/
def spReadMargin (T : Tx K mg) : Sp := fun vs H Q E => ∃ (r tl dr : Addr) (i : Nat) (all : Toks) (G M : Hp), vs = [.ref r] ∧ H = over G M ∧ RdS T G M r tl dr all i ∧ Mx.Wf (all.drop i) ∧ match Vahypa.takeMargin (all.drop i) with
  | .error f => FE T E G f.code f.place
  | .ok x => ∀ G2, Ex G G2 → x.2 = all.drop (i + 1) → Mx.Wf x.2 → RdS T G2 (bump T M r tl dr (i + 1)) r tl dr all (i + 1) → Q (.int (x.1 : Int)) (over G2 (bump T M r tl dr (i + 1)))
theorem marginO_V (c : Bytes) : Mx.marginO c = marginV c := rfl
theorem ok_read_margin (T : Tx K mg) : FnOk P w K mg base (L2.CX P w) 3 T.read_margin.f T.read_margin.fd ["reader"] (spReadMargin T) := by
  have GT : FnOk P w K mg base (L2.CX P w) 2 _ _ _ _ := ok_take T
  have GM : FnOk P w K mg base CX0 2 _ _ _ _ := ok_margin_of T
  refine T.read_margin.F.okX scReadMargin (fun vs H Q E h => ?_) (fun cdv A outer s H vs Q E hr h => ⟨_,
    pss_cons (ps_set (i := 1) scReadMargin.nd rfl (.inl rfl) (pe_meth (pv 0) T.cTokenReader.cl T.mTokenReader_take.M GT hr (bdTokenReaderTake T.mTokenReader_take.F) .nil (passes_call (takes_of rfl rfl rfl rfl) (fun _ _ _ _ h => h)) (pa_cons (pe_k T.k_CHUNK) pa_nil)))
    (pss_cons (ps_set (i := 2) scReadMargin.nd rfl (.inl rfl) (pe_fn T.margin_of GM hr (bdMarginOf T.margin_of.F) pass0 (pa_cons (pe_fld (pv 1) rfl) pa_nil)))
    (pss_cons (ps_if (pt_cmpR op_isN (pv 2) pe_non (nomark _)) (pss_one (ps_raiseFlt rfl T.flt hr (takes_of rfl rfl rfl rfl) (pa_cons (pe_k T.k_NOT_AS_TOLD) (pa_cons (pe_fld (pv 1) rfl) pa_nil)))) pss_nil)
    (pss_one (ps_ret (pv 2))))), ?_⟩)
  · obtain ⟨r, tl, dr, i, all, G, M, rfl, _⟩ := h
    rfl
  obtain ⟨r, tl, dr, i, all, G, M, rfl, rfl, hR, hW, k⟩ := h
  obtain ⟨tk, hi⟩ := hW.head
  rw [Mx.drop_tok hi] at k hW
  refine take_by (k := "chunk") hR hi (.inl rfl) (fun _ _ => ev_var rfl) (fun _ _ => ev_c) (fun hc o G2 e2 hA hR2 => ?_) (fun hn => ?_)
  · obtain ⟨b, hb⟩ := Mx.kind_chunk hc
    rw [Mx.takeMargin_chunk hb, marginO_V] at k
    have hW2 : Mx.Wf (all.drop (i + 1)) := hW.tail (by rw [hb]; exact fun z => nomatch z)
    obtain ⟨dx, ca, ho, hca⟩ := hA
    rw [hb] at hca
    have eo := ex_over hR2.ap
    refine q_asg (D := { nx := fun _ H' => Q .non H', rt := Q }) (ev_call (ea_cons (ev_fld (ev_var (v := .ref o) rfl) (eo _ _ ho) T.cToken.cl T.nToken_chunk (v := .ref ca) (by rfl)) ea_nil) (spMargin_v (c := b) (ex_l eo hca))) fun H3 e3 => ?_
    cases hm : marginV b with
    | none =>
      rw [hm] at k
      refine q_when (b := true) (et_test (ev_op (ev_var (v := .non) rfl) ev_c rv_isN)) (fun _ H4 e4 => ?_) (fun z => nomatch z)
      exact s_raise (ea_cons ev_c (ea_cons (ev_fld (ev_var (v := .ref o) rfl) (((eo.trans e3).trans e4) _ _ ho) T.cToken.cl T.nToken_place (v := .int (tk.place : Int)) (by rfl)) ea_nil)) fun d H5 _ e5 h5 => k d H5 (((e2.trans eo).trans (e3.trans e4)).trans e5) h5
    | some m =>
      rw [hm] at k
      refine q_when (b := false) (et_test (ev_op (ev_var (v := .int (m : Int)) rfl) ev_c rv_isN)) (fun z => nomatch z) fun _ H4 e4 => ?_
      refine s_ret (ev_var (v := .int (m : Int)) rfl) fun H5 e5 => ?_
      obtain ⟨G5, a5, eG5, rfl⟩ := over_split hR2.ap ((e3.trans e4).trans e5)
      exact k G5 (e2.trans eG5) rfl hW2 (hR2.grow eG5 a5)
  · rw [Mx.takeMargin_no hn] at k
    exact k
/-! ### PatternList -/
def hF (l r : Nat) (wl el : Addr) : List (Str × V) := [("left", .int (l : Int)), ("right", .int (r : Int)), ("words", .ref wl), ("entries", .ref el)]
theorem hF_left {l r l' : Nat} {wl el : Addr} : putF ("left" : Str) (.int (l' : Int)) (hF l r wl el) = hF l' r wl el := by
  unfold hF
  rw [putF, if_pos rfl]
theorem hF_right {l r r' : Nat} {wl el : Addr} : putF ("right" : Str) (.int (r' : Int)) (hF l r wl el) = hF l r' wl el := by
  unfold hF
  rw [putF, if_neg (by decide +kernel), putF, if_pos rfl]
theorem r_ne_h {M : Hp} {r h C C2 d d2 : Addr} {tl : Addr} {i l r' : Nat} {wl el : Addr} (h1 : M r = some (.ins C d (rF tl i))) (h2 : M h = some (.ins C2 d2 (hF l r' wl el))) : h ≠ r := fun e => by
  rw [e, h1] at h2
  injection h2 with h2
  injection h2 with _ _ h2
  have := congrArg List.length h2
  simp [rF, hF] at this
theorem RdS.other {T : Tx K mg} {G M : Hp} {r tl dr b : Addr} {all : Toks} {i : Nat} {o u : HO} (h : RdS T G M r tl dr all i) (hb : M b = some u) (hne : b ≠ r) : RdS T G (upd M b o) r tl dr all i := ⟨h.ap.put hb, by rw [upd_ne (Ne.symm hne)]; exact h.rd, h.tk⟩
/-! ### read_margins -/
def spReadMargins (T : Tx K mg) : Sp := fun vs H Q E => ∃ (r tl dr h dh wl el : Addr) (i l0 r0 : Nat) (all : Toks) (G M : Hp), vs = [.ref r, .ref h] ∧ H = over G M ∧ RdS T G M r tl dr all i ∧ Mx.Wf (all.drop i) ∧ M h = some (.ins T.cPatternList.C dh (hF l0 r0 wl el)) ∧ match Mx.rmargins (all.drop i) with
  | .error f => FE T E G f.code f.place
  | .ok x => ∀ j G2 M2, Ex G G2 → x.2.2 = all.drop j → Mx.Wf x.2.2 → RdS T G2 M2 r tl dr all j → M2 h = some (.ins T.cPatternList.C dh (hF x.1 x.2.1 wl el)) → (∀ b, b ≠ r → b ≠ h → M2 b = M b) → Q .non (over G2 M2)
theorem word_margins : codes (PySem.Str.ofString "margins") = tx (VahypBase.word "margins") := by decide +kernel
theorem word_word : codes (PySem.Str.ofString "word") = tx (VahypBase.word "word") := by decide +kernel
theorem word_pattern : codes (PySem.Str.ofString "pattern") = tx (VahypBase.word "pattern") := by decide +kernel
theorem t_fn {sp : Sp} {E : XK} {t : TA} {vs : List V} {Q : VK} (h : EvA t σ H vs) (k : ∀ H1, Ex H H1 → sp vs H1 Q E) : tCall sp [] E t σ H Q := t_call h k
theorem ok_read_margins (T : Tx K mg) : FnOk P w K mg base (L2.CX P w) 4 T.read_margins.f T.read_margins.fd ["reader", "held"] (spReadMargins T) := by
  have GT : FnOk P w K mg base (L2.CX P w) 3 _ _ _ _ := (ok_take T).mono (by decide)
  have GK : FnOk P w K mg base (L2.CX P w) 3 _ _ _ _ := ok_take_keyword T
  have GM : FnOk P w K mg base (L2.CX P w) 3 _ _ _ _ := ok_read_margin T
  refine T.read_margins.F.okX scReadMargins (fun vs H Q E h => ?_) (fun cdv A outer s H vs Q E hr h => ⟨_,
    pss_cons (ps_expr (pe_meth (pv 0) T.cTokenReader.cl T.mTokenReader_take_keyword.M GK hr (bdTokenReaderTakeKeyword T.mTokenReader_take_keyword.F) .nil (passes_call (takes_of rfl rfl rfl rfl) (fun _ _ _ _ h => h)) (pa_cons pe_str pa_nil)))
    (pss_cons (ps_fld (pv 1) (pe_fn T.read_margin GM hr (bdReadMargin T.read_margin.F) (passes_call (takes_of rfl rfl rfl rfl) (fun _ _ _ _ h => h)) (pa_cons (pv 0) pa_nil)) rfl)
    (pss_cons (ps_fld (pv 1) (pe_fn T.read_margin GM hr (bdReadMargin T.read_margin.F) (passes_call (takes_of rfl rfl rfl rfl) (fun _ _ _ _ h => h)) (pa_cons (pv 0) pa_nil)) rfl)
    (pss_one (ps_expr (pe_meth (pv 0) T.cTokenReader.cl T.mTokenReader_take.M GT hr (bdTokenReaderTake T.mTokenReader_take.F) .nil (passes_call (takes_of rfl rfl rfl rfl) (fun _ _ _ _ h => h)) (pa_cons (pe_k T.k_SIGN) pa_nil)))))), ?_⟩)
  · obtain ⟨r, tl, dr, h, dh, wl, el, i, l0, r0, all, G, M, rfl, _⟩ := h
    rfl
  obtain ⟨r, tl, dr, h, dh, wl, el, i, l0, r0, all, G, M, rfl, rfl, hR, hW, hH, k⟩ := h
  have hne := r_ne_h hR.rd hH
  obtain ⟨tk, hi⟩ := hW.head
  rw [Mx.drop_tok hi] at k hW
  unfold Mx.rmargins at k
  refine kw_by (bs := VahypBase.word "margins") hR hi (by decide) word_margins (by decide) (fun _ _ => ev_var rfl) (fun _ _ => ev_c) (fun hc o G2 e2 _ hR2 => ?_) (fun hn => ?_)
  · rw [Mx.takeWord_yes hc] at k
    have hW2 : Mx.Wf (all.drop (i + 1)) := hW.tail (by rw [hc]; exact fun z => nomatch z)
    refine t_fn (ea_cons (ev_var rfl) ea_nil) fun H3 e3 => ?_
    obtain ⟨G3, a3, eG3, rfl⟩ := over_split hR2.ap e3
    refine ⟨r, tl, dr, i + 1, all, G3, _, rfl, rfl, hR2.grow eG3 a3, hW2, ?_⟩
    cases hm1 : Vahypa.takeMargin (all.drop (i + 1)) with
    | error f =>
      simp only [Except.bind, hm1] at k
      exact FE.go k (e2.trans eG3)
    | ok x =>
      intro G4 e4 hx hWx hR4
      have hH4 : bump T (bump T M r tl dr (i + 1)) r tl dr (i + 1 + 1) h = some (.ins T.cPatternList.C dh (hF l0 r0 wl el)) := by
        unfold bump
        rw [upd_ne hne, upd_ne hne]
        exact hH
      refine ⟨_, rfl, h, T.cPatternList.C, dh, _, rfl, over_m hH4, T.cPatternList.cl, T.nPatternList_left, (by show 4 < 1000; decide), ?_⟩
      rw [over_upd, hF_left]
      have hR5 := hR4.other (o := .ins T.cPatternList.C dh (hF x.1 r0 wl el)) hH4 hne
      refine t_fn (ea_cons (ev_var rfl) ea_nil) fun H6 e6 => ?_
      obtain ⟨G6, a6, eG6, rfl⟩ := over_split hR5.ap e6
      rw [hx] at hWx
      refine ⟨r, tl, dr, i + 1 + 1, all, G6, _, rfl, rfl, hR5.grow eG6 a6, hWx, ?_⟩
      cases hm2 : Vahypa.takeMargin (all.drop (i + 1 + 1)) with
      | error f =>
        simp only [Except.bind, hm1, hx, hm2] at k
        exact FE.go k (((e2.trans eG3).trans e4).trans eG6)
      | ok y =>
        intro G7 e7 hy hWy hR7
        have hH7 : bump T (upd (bump T (bump T M r tl dr (i + 1)) r tl dr (i + 1 + 1)) h (.ins T.cPatternList.C dh (hF x.1 r0 wl el))) r tl dr (i + 1 + 1 + 1) h = some (.ins T.cPatternList.C dh (hF x.1 r0 wl el)) := by
          unfold bump
          rw [upd_ne hne]
          exact upd_same
        refine ⟨_, rfl, h, T.cPatternList.C, dh, _, rfl, over_m hH7, T.cPatternList.cl, T.nPatternList_right, (by show 4 < 1000; decide), ?_⟩
        rw [over_upd, hF_right]
        have hR8 := hR7.other (o := .ins T.cPatternList.C dh (hF x.1 y.1 wl el)) hH7 hne
        rw [hy] at hWy
        obtain ⟨tk2, hi2⟩ := hWy.head
        have eAll := (((e2.trans eG3).trans e4).trans eG6).trans e7
        simp only [Except.bind, hm1, hx, hm2, hy] at k
        rw [Mx.drop_tok hi2] at k hWy
        refine take_by (k := "sign") hR8 hi2 (.inr (.inl rfl)) (fun _ _ => ev_var rfl) (fun _ _ => ev_c) (fun hc o G9 e9 _ hR9 => ?_) (fun hn => ?_)
        · obtain ⟨c, hc⟩ := Mx.kind_sign hc
          have h59 := hWy.sign59 hc
          subst h59
          rw [Mx.takeSign_yes hc] at k
          refine k _ G9 _ (eAll.trans e9) rfl (hWy.tail (by rw [hc]; exact fun z => nomatch z)) hR9 ?_ fun b h1 h2 => ?_
          · unfold bump
            rw [upd_ne hne]
            exact upd_same
          · unfold bump
            rw [upd_ne h1, upd_ne h2, upd_ne h1, upd_ne h2, upd_ne h1, upd_ne h1]
        · have hn' : tk2.tok ≠ .sign 59 := fun z => hn (by rw [z]; rfl)
          rw [Mx.takeSign_no hn'] at k
          exact FE.go k eAll
  · rw [Mx.takeWord_no hn] at k
    exact k
end
end Pt
set_option Elab.async false
set_option linter.all false
set_option maxRecDepth 100000
set_option maxHeartbeats 2000000
namespace Pt
open PySem PySem.Spec PyProof.Rows L2 Evl
open VahypBase (Bytes Toks PTok Fault)
section
variable {P : Program} {w : World} {K : PySem.W.Frag} {mg : Str → Option Value} {base : Heap} {X : Cx}
variable {σ : L2.St} {H H' : Hp} {ta tb tc te tl : TE} {t : TT} {x y z v : V} {C : Addr} {D : Ends} {tz : TS}
/-! ### take_behind_keyword -/
def spTbk (T : Tx K mg) : Sp := fun vs H Q E => ∃ (r tl dr : Addr) (i b n : Nat) (all : Toks) (z : Str) (bs : Bytes) (G M : Hp), vs = [.ref r, .str z, .int (b : Int), .int (n : Int)] ∧ H = over G M ∧ RdS T G M r tl dr all i ∧ Mx.Wf (all.drop i) ∧ z.cps.size ≤ 1000 ∧ codes z = tx bs ∧ 2 ≤ bs.length ∧
  match Mx.tbk bs b n (all.drop i) with
  | .error f => FE T E G f.code f.place
  | .ok x => ∀ o G2, Ex G G2 → TokAt T G2 o ⟨x.1, .chunk x.2.1⟩ → x.2.1.length ≤ 40 → x.2.2 = all.drop (i + 2) → Mx.Wf x.2.2 → RdS T G2 (bump T M r tl dr (i + 2)) r tl dr all (i + 2) → Q (.ref o) (over G2 (bump T M r tl dr (i + 2)))
theorem tbk_no {bs : Bytes} {b n : Nat} {tk : PTok} {r : Toks} (h : tk.tok ≠ .chunk bs) : Mx.tbk bs b n (tk :: r) = .error ⟨3, tk.place⟩ := by
  unfold Mx.tbk
  rw [if_neg (fun z => h (Mx.next_chunk.mp z))]
  rfl
theorem tbk_many {bs : Bytes} {b n : Nat} {tk : PTok} {r : Toks} (h : tk.tok = .chunk bs) (hb : b = n) : Mx.tbk bs b n (tk :: r) = .error ⟨4, tk.place⟩ := by
  unfold Mx.tbk
  rw [if_pos (Mx.next_chunk.mpr h), if_pos hb]
  rfl
theorem tbk_yes {bs : Bytes} {b n : Nat} {tk : PTok} {r : Toks} (h : tk.tok = .chunk bs) (hb : b ≠ n) : Mx.tbk bs b n (tk :: r) = VahypBase.takeChunk r := by
  unfold Mx.tbk
  rw [if_pos (Mx.next_chunk.mpr h), if_neg hb]
  rfl
theorem ok_tbk (T : Tx K mg) : FnOk P w K mg base (L2.CX P w) 4 T.take_behind_keyword.f T.take_behind_keyword.fd ["reader", "keyword", "before", "most"] (spTbk T) := by
  have GT : FnOk P w K mg base (L2.CX P w) 3 _ _ _ _ := (ok_take T).mono (by decide)
  have GK : FnOk P w K mg base (L2.CX P w) 3 _ _ _ _ := ok_take_keyword T
  refine T.take_behind_keyword.F.okX scTakeBehindKeyword (fun vs H Q E h => ?_) (fun cdv A outer s H vs Q E hr h => ⟨_,
    pss_cons (ps_set (i := 4) scTakeBehindKeyword.nd rfl (.inl rfl) (pe_meth (pv 0) T.cTokenReader.cl T.mTokenReader_take_keyword.M GK hr (bdTokenReaderTakeKeyword T.mTokenReader_take_keyword.F) .nil (passes_call (takes_of rfl rfl rfl rfl) (fun _ _ _ _ h => h)) (pa_cons (pv 1) pa_nil)))
    (pss_cons (ps_if (pt_cmpR op_eq (pv 2) (pv 3) (nomark _)) (pss_one (ps_raiseFlt rfl T.flt hr (takes_of rfl rfl rfl rfl) (pa_cons (pe_k T.k_TOO_MANY) (pa_cons (pe_fld (pv 4) rfl) pa_nil)))) pss_nil)
    (pss_one (ps_ret (pe_meth (pv 0) T.cTokenReader.cl T.mTokenReader_take.M GT hr (bdTokenReaderTake T.mTokenReader_take.F) .nil (passes_call (takes_of rfl rfl rfl rfl) (fun _ _ _ _ h => h)) (pa_cons (pe_k T.k_CHUNK) pa_nil))))), ?_⟩)
  · obtain ⟨r, tl, dr, i, b, n, all, z, bs, G, M, rfl, _⟩ := h
    rfl
  obtain ⟨r, tl, dr, i, b, n, all, z, bs, G, M, rfl, rfl, hR, hW, hz, hc, hbs, k⟩ := h
  obtain ⟨tk, hi⟩ := hW.head
  rw [Mx.drop_tok hi] at k hW
  refine kw_by hR hi hz hc hbs (fun _ _ => ev_var rfl) (fun _ _ => ev_var rfl) (fun hc o G2 e2 hA hR2 => ?_) (fun hn => ?_)
  · have hW2 : Mx.Wf (all.drop (i + 1)) := hW.tail (by rw [hc]; exact fun z => nomatch z)
    obtain ⟨dx, ca, ho, hca⟩ := hA
    have eo := ex_over hR2.ap
    refine q_when (D := { nx := fun _ H' => Q .non H', rt := Q }) (b := decide (b = n)) (et_is (et_test (ev_op (ev_var (v := .int (b : Int)) rfl) (ev_var (v := .int (n : Int)) rfl) (rv_eq rfl))) ?_) (fun hs H3 e3 => ?_) (fun hs H3 e3 => ?_)
    · rw [Bool.eq_iff_iff]
      simp only [decide_eq_true_eq, V.int.injEq]
      omega
    · rw [tbk_many hc (of_decide_eq_true hs)] at k
      exact s_raise (ea_cons ev_c (ea_cons (ev_fld (ev_var (v := .ref o) rfl) ((eo.trans e3) _ _ ho) T.cToken.cl T.nToken_place (v := .int (tk.place : Int)) (by rfl)) ea_nil)) fun d H5 _ e5 h5 => k d H5 (((e2.trans eo).trans e3).trans e5) h5
    · rw [tbk_yes hc (of_decide_eq_false hs)] at k
      obtain ⟨G3, a3, eG3, rfl⟩ := over_split hR2.ap e3
      have hR3 := hR2.grow eG3 a3
      obtain ⟨tk2, hi2⟩ := hW2.head
      rw [Mx.drop_tok hi2] at k hW2
      refine take_by (k := "chunk") hR3 hi2 (.inl rfl) (fun _ _ => ev_var rfl) (fun _ _ => ev_c) (fun hc2 o2 G4 e4 hA4 hR4 => ?_) (fun hn => ?_)
      · obtain ⟨c, hc2⟩ := Mx.kind_chunk hc2
        rw [Mx.takeChunk_yes hc2] at k
        rw [bump2] at hR4 ⊢
        refine k o2 G4 ((e2.trans eG3).trans e4) ?_ (hW2.chunkLe hc2) rfl (hW2.tail (by rw [hc2]; exact fun z => nomatch z)) hR4
        obtain ⟨p2, t2⟩ := tk2
        cases hc2
        exact hA4
      · rw [Mx.takeChunk_no hn] at k
        exact FE.go k (e2.trans eG3)
  · rw [tbk_no hn] at k
    exact k
end
end Pt
set_option autoImplicit false
namespace Mx
open VahypBase Vahypa
/-! ### the whole list, without fuel -/
theorem takeChunk_len {l : Toks} {x : Nat × Bytes × Toks} (h : takeChunk l = .ok x) : x.2.2.length < l.length := by
  cases l with
  | nil => cases h
  | cons tk r =>
    obtain ⟨p, t⟩ := tk
    cases t with
    | chunk b =>
      cases h
      simp
    | sign c => cases h
    | last => cases h
theorem takeSign_len {l m : Toks} (h : takeSign 59 l = .ok m) : m.length ≤ l.length := by
  unfold takeSign taken at h
  split at h
  · cases h
    simp
  · cases h
theorem wstep_len {ws : List Word} {l : Toks} {x : List Word × Toks} (h : wstep ws l = .ok x) : x.2.length < l.length := by
  unfold wstep at h
  split at h
  · cases h
  · cases hc : takeChunk (l.drop 1) with
    | error f => rw [hc] at h; cases h
    | ok y =>
      rw [hc] at h
      simp only [Except.bind] at h
      have h1 := takeChunk_len hc
      rw [List.length_drop] at h1
      cases hw : wordOf y.2.1 with
      | none => rw [hw] at h; cases h
      | some w =>
        rw [hw] at h
        simp only at h
        split at h
        · cases h
        · cases hs : takeSign 59 y.2.2 with
          | error f => rw [hs] at h; cases h
          | ok m =>
            rw [hs] at h
            cases h
            have := takeSign_len hs
            show m.length < l.length
            omega
theorem pstep_len {ps : List Pat} {l : Toks} {x : List Pat × Toks} (h : pstep ps l = .ok x) : x.2.length < l.length := by
  unfold pstep at h
  split at h
  · cases h
  · cases hc : takeChunk (l.drop 1) with
    | error f => rw [hc] at h; cases h
    | ok y =>
      rw [hc] at h
      simp only [Except.bind] at h
      have h1 := takeChunk_len hc
      rw [List.length_drop] at h1
      cases hw : patOf y.2.1 with
      | none => rw [hw] at h; cases h
      | some w =>
        rw [hw] at h
        simp only at h
        split at h
        · cases h
        · cases hs : takeSign 59 y.2.2 with
          | error f => rw [hs] at h; cases h
          | ok m =>
            rw [hs] at h
            cases h
            have := takeSign_len hs
            show m.length < l.length
            omega
theorem tw_fuel : ∀ (n m : Nat) (ws : List Word) (l : Toks), l.length < n → l.length < m → takeWords n ws l = takeWords m ws l
  | 0, _, _, _, h, _ => by omega
  | _, 0, _, _, _, h => by omega
  | n + 1, m + 1, ws, l, h1, h2 => by
    rw [takeWords_step, takeWords_step]
    split
    · cases hs : wstep ws l with
      | error f => rfl
      | ok x =>
        have := wstep_len hs
        exact tw_fuel n m x.1 x.2 (by omega) (by omega)
    · rfl
def TW (ws : List Word) (l : Toks) : Except Fault (List Word × Toks) := takeWords (l.length + 1) ws l
theorem TW_yes {ws : List Word} {l : Toks} (h : nextWord "word" l = true) : TW ws l = (wstep ws l).bind fun x => TW x.1 x.2 := by
  unfold TW
  rw [takeWords_step, if_pos h]
  cases hs : wstep ws l with
  | error f => rfl
  | ok x =>
    have := wstep_len hs
    exact tw_fuel _ _ x.1 x.2 (by omega) (by omega)
theorem TW_no {ws : List Word} {l : Toks} (h : nextWord "word" l = false) : TW ws l = .ok (ws, l) := by
  unfold TW
  rw [takeWords_step, if_neg (by rw [h]; decide)]
theorem tp_fuel : ∀ (n m : Nat) (ps : List Pat) (l : Toks), l ≠ [] → l.length < n → l.length < m → (∀ (ps : List Pat) (l : Toks) (x : List Pat × Toks), pstep ps l = .ok x → Wf l → Wf x.2) → Wf l → takePats n ps l = takePats m ps l
  | 0, _, _, _, _, h, _, _, _ => by omega
  | _, 0, _, _, _, _, h, _, _ => by omega
  | n + 1, m + 1, ps, [], h, _, _, _, _ => absurd rfl h
  | n + 1, m + 1, ps, tk :: r, _, h1, h2, hw, hW => by
    rw [takePats_step, takePats_step]
    split
    · rfl
    · split
      · cases hs : pstep ps (tk :: r) with
        | error f => rfl
        | ok x =>
          have h3 := pstep_len hs
          have h4 := hw _ _ _ hs hW
          exact tp_fuel n m x.1 x.2 h4.ne (by omega) (by omega) hw h4
      · rfl
theorem Wf.drop1 {l : Toks} {x : Nat × Bytes × Toks} (h : Wf l) (hn : next .last l = false) (hc : takeChunk (l.drop 1) = .ok x) : Wf x.2.2 := by
  cases l with
  | nil => exact absurd rfl h.ne
  | cons tk r =>
    have hl : tk.tok ≠ .last := fun z => by
      rw [next_last.mpr z] at hn
      cases hn
    have hr := h.tail hl
    cases r with
    | nil => exact absurd rfl hr.ne
    | cons t2 r2 =>
      by_cases hk : kindOf t2.tok = "chunk"
      · obtain ⟨b, hb⟩ := kind_chunk hk
        have : takeChunk (t2 :: r2) = .ok x := hc
        rw [takeChunk_yes hb] at this
        cases this
        exact hr.tail (by rw [hb]; exact fun z => nomatch z)
      · have : takeChunk (t2 :: r2) = .ok x := hc
        rw [takeChunk_no hk] at this
        cases this
theorem Wf.past {l m : Toks} (h : Wf l) (hs : takeSign 59 l = .ok m) : Wf m := by
  cases l with
  | nil => exact absurd rfl h.ne
  | cons tk r =>
    by_cases hk : tk.tok = .sign 59
    · rw [takeSign_yes hk] at hs
      cases hs
      exact h.tail (by rw [hk]; exact fun z => nomatch z)
    · rw [takeSign_no hk] at hs
      cases hs
theorem last_only {tk : PTok} {r : Toks} (h : Wf (tk :: r)) (e : tk.tok = .last) : r = [] := by
  cases h with
  | last p => rfl
  | chunk p b r h1 h2 h3 => cases e
  | sign p r h3 => cases e
theorem pstep_wf (ps : List Pat) (l : Toks) (x : List Pat × Toks) (h : pstep ps l = .ok x) (hW : Wf l) : Wf x.2 := by
  unfold pstep at h
  split at h
  · cases h
  · cases hc : takeChunk (l.drop 1) with
    | error f => rw [hc] at h; cases h
    | ok y =>
      rw [hc] at h
      simp only [Except.bind] at h
      have hn : next .last l = false := by
        cases hz : next .last l with
        | false => rfl
        | true =>
          cases l with
          | nil => exact absurd rfl hW.ne
          | cons tk r =>
            have := last_only hW (next_last.mp hz)
            subst this
            cases hc
      have hy := hW.drop1 hn hc
      cases hw : patOf y.2.1 with
      | none => rw [hw] at h; cases h
      | some w =>
        rw [hw] at h
        simp only at h
        split at h
        · cases h
        · cases hs : takeSign 59 y.2.2 with
          | error f => rw [hs] at h; cases h
          | ok m =>
            rw [hs] at h
            cases h
            exact hy.past hs
def TP (ps : List Pat) (l : Toks) : Except Fault (List Pat) := takePats (l.length + 1) ps l
theorem TP_eq {n : Nat} {ps : List Pat} {l : Toks} (h : l.length < n) (hW : Wf l) : takePats n ps l = TP ps l := tp_fuel _ _ _ _ hW.ne h (Nat.lt_succ_self _) pstep_wf hW
theorem TP_last {ps : List Pat} {tk : PTok} {r : Toks} (h : tk.tok = .last) : TP ps (tk :: r) = .ok ps := by
  unfold TP
  rw [takePats_step, if_pos (next_last.mpr h)]
theorem TP_no {ps : List Pat} {tk : PTok} {r : Toks} (h : tk.tok ≠ .last) (h2 : nextWord "pattern" (tk :: r) = false) : TP ps (tk :: r) = .error ⟨3, tk.place⟩ := by
  unfold TP
  rw [takePats_step, if_neg (fun z => h (next_last.mp z)), if_neg (by rw [h2]; decide)]
theorem TP_yes {ps : List Pat} {l : Toks} (hW : Wf l) (h2 : nextWord "pattern" l = true) : TP ps l = (pstep ps l).bind fun x => TP x.1 x.2 := by
  cases l with
  | nil => exact absurd rfl hW.ne
  | cons tk r =>
    have hl : tk.tok ≠ .last := fun z => by
      have := nextWord_iff.mp h2
      rw [z] at this
      cases this
    show takePats _ ps (tk :: r) = _
    rw [takePats_step, if_neg (fun z => hl (next_last.mp z)), if_pos h2]
    cases hs : pstep ps (tk :: r) with
    | error f => rfl
    | ok x =>
      have := pstep_len hs
      exact TP_eq (by omega) (pstep_wf _ _ _ hs hW)
theorem wstep_wf (ws : List Word) (l : Toks) (x : List Word × Toks) (h : wstep ws l = .ok x) (hW : Wf l) : Wf x.2 := by
  unfold wstep at h
  split at h
  · cases h
  · cases hc : takeChunk (l.drop 1) with
    | error f => rw [hc] at h; cases h
    | ok y =>
      rw [hc] at h
      simp only [Except.bind] at h
      have hn : next .last l = false := by
        cases hz : next .last l with
        | false => rfl
        | true =>
          cases l with
          | nil => exact absurd rfl hW.ne
          | cons tk r =>
            have := last_only hW (next_last.mp hz)
            subst this
            cases hc
      have hy := hW.drop1 hn hc
      cases hw : wordOf y.2.1 with
      | none => rw [hw] at h; cases h
      | some w =>
        rw [hw] at h
        simp only at h
        split at h
        · cases h
        · cases hs : takeSign 59 y.2.2 with
          | error f => rw [hs] at h; cases h
          | ok m =>
            rw [hs] at h
            cases h
            exact hy.past hs
theorem TW_wf : ∀ (n : Nat) (ws : List Word) (l : Toks) (x : List Word × Toks), l.length < n → Wf l → TW ws l = .ok x → Wf x.2 ∧ x.2.length ≤ l.length
  | 0, _, _, _, h, _, _ => by omega
  | n + 1, ws, l, x, h, hW, e => by
    cases hw : nextWord "word" l with
    | false =>
      rw [TW_no hw] at e
      cases e
      exact ⟨hW, Nat.le_refl _⟩
    | true =>
      rw [TW_yes hw] at e
      cases hs : wstep ws l with
      | error f => rw [hs] at e; cases e
      | ok y =>
        rw [hs] at e
        have h1 := wstep_len hs
        obtain ⟨a, b⟩ := TW_wf n y.1 y.2 x (by omega) (wstep_wf _ _ _ hs hW) e
        exact ⟨a, by omega⟩
theorem takeMargin_wf {l : Toks} {x : Nat × Toks} (hW : Wf l) (h : takeMargin l = .ok x) : Wf x.2 ∧ x.2.length < l.length := by
  cases l with
  | nil => exact absurd rfl hW.ne
  | cons tk r =>
    by_cases hk : kindOf tk.tok = "chunk"
    · obtain ⟨b, hb⟩ := kind_chunk hk
      rw [takeMargin_chunk hb] at h
      cases hm : marginO b with
      | none => rw [hm] at h; cases h
      | some m =>
        rw [hm] at h
        cases h
        exact ⟨hW.tail (by rw [hb]; exact fun z => nomatch z), by simp⟩
    · rw [takeMargin_no hk] at h
      cases h
theorem rmargins_wf {l : Toks} {x : Nat × Nat × Toks} (hW : Wf l) (h : rmargins l = .ok x) : Wf x.2.2 := by
  unfold rmargins at h
  cases hk : takeWord "margins" l with
  | error f => rw [hk] at h; cases h
  | ok l1 =>
    have h1 : Wf l1 := by
      cases l with
      | nil => exact absurd rfl hW.ne
      | cons tk r =>
        by_cases ht : tk.tok = .chunk (word "margins")
        · rw [takeWord_yes ht] at hk
          cases hk
          exact hW.tail (by rw [ht]; exact fun z => nomatch z)
        · rw [takeWord_no ht] at hk
          cases hk
    simp only [hk, Except.bind] at h
    cases h2 : takeMargin l1 with
    | error f => rw [h2] at h; cases h
    | ok a =>
      simp only [h2] at h
      have h3 := takeMargin_wf h1 h2
      cases h4 : takeMargin a.2 with
      | error f => rw [h4] at h; cases h
      | ok z =>
        simp only [h4] at h
        have h5 := takeMargin_wf h3.1 h4
        cases h6 : takeSign 59 z.2 with
        | error f => rw [h6] at h; cases h
        | ok l3 =>
          simp only [h6] at h
          cases h
          exact h5.1.past h6
theorem read_eq (b : Bytes) : Vahypa.read b = (tokens b).bind fun l => (rmargins l).bind fun x => (TW [] x.2.2).bind fun ws => (TP [] ws.2).map fun ps => ⟨x.1, x.2.1, ws.1, ps⟩ := by
  unfold Vahypa.read
  cases ht : tokens b with
  | error f => rfl
  | ok l =>
    have hW := tokens_wf ht
    show _ = (rmargins l).bind _
    cases hm : rmargins l with
    | error f =>
      show _ = Except.error f
      unfold rmargins at hm
      simp only [Except.bind] at hm ⊢
      revert hm
      cases takeWord "margins" l with
      | error f => exact fun h => by cases h; rfl
      | ok l1 =>
        simp only
        cases takeMargin l1 with
        | error f => exact fun h => by cases h; rfl
        | ok a =>
          simp only
          cases takeMargin a.2 with
          | error f => exact fun h => by cases h; rfl
          | ok z =>
            simp only
            cases takeSign 59 z.2 with
            | error f => exact fun h => by cases h; rfl
            | ok l3 => exact fun h => nomatch h
    | ok x =>
      have hWx := rmargins_wf hW hm
      show _ = (TW [] x.2.2).bind _
      unfold rmargins at hm
      simp only [Except.bind] at hm ⊢
      revert hm
      cases takeWord "margins" l with
      | error f => exact fun h => nomatch h
      | ok l1 =>
        simp only
        cases takeMargin l1 with
        | error f => exact fun h => nomatch h
        | ok a =>
          simp only
          cases takeMargin a.2 with
          | error f => exact fun h => nomatch h
          | ok z =>
            simp only
            cases takeSign 59 z.2 with
            | error f => exact fun h => nomatch h
            | ok l3 =>
              intro h
              cases h
              have eT : takeWords (l3.length + 1) [] l3 = TW [] l3 := rfl
              simp only [eT]
              cases hw : TW [] l3 with
              | error f => rfl
              | ok ws =>
                have h7 := TW_wf _ _ _ _ (Nat.lt_succ_self _) hWx hw
                have hl : ws.2.length ≤ l3.length := h7.2
                simp only
                rw [TP_eq (by omega) h7.1]
/-! ### what a read pattern is -/
structure OkPat (p : Pat) : Prop where
  lo : 1 ≤ p.x.length
  hi : p.x.length ≤ 6
  let_ : ∀ b ∈ p.x, isLetter b = true
  lev : p.levels.length = p.x.length + 1
  dig : ∀ v ∈ p.levels, v ≤ 9
theorem setLast_mem {ds : List Nat} {v d : Nat} (h : d ∈ setLast ds v) : d ∈ ds ∨ d = v := by
  unfold setLast at h
  rcases List.mem_append.mp h with h | h
  · exact .inl (List.dropLast_subset ds h)
  · exact .inr (List.mem_singleton.mp h)
theorem bodyBy_ok : ∀ (c x : Bytes) (ds : List Nat) (q : Bytes × List Nat), bodyBy c x ds = some q → (∀ b ∈ x, isLetter b = true) → ds.length = x.length + 1 → (∀ v ∈ ds, v ≤ 9) → (∀ b ∈ q.1, isLetter b = true) ∧ q.2.length = q.1.length + 1 ∧ ∀ v ∈ q.2, v ≤ 9
  | [], x, ds, q, h, h1, h2, h3 => by
    cases h
    exact ⟨h1, h2, h3⟩
  | b :: c, x, ds, q, h, h1, h2, h3 => by
    rw [bodyBy] at h
    split at h
    · rename_i hb
      refine bodyBy_ok c _ _ q h (fun e he => ?_) (by simp [h2]) (fun v hv => ?_)
      · rcases List.mem_append.mp he with z | z
        · exact h1 e z
        · rw [List.mem_singleton.mp z]; exact hb
      · rcases List.mem_append.mp hv with z | z
        · exact h3 v z
        · rw [List.mem_singleton.mp z]; omega
    · split at h
      · rename_i hb
        refine bodyBy_ok c _ _ q h h1 ?_ (fun v hv => ?_)
        · unfold setLast
          rw [List.length_append, List.length_dropLast, List.length_singleton]
          omega
        · rcases setLast_mem hv with z | z
          · exact h3 v z
          · have hd : decide (48 ≤ b.toNat ∧ b.toNat ≤ 57) = true := hb.1
            rw [decide_eq_true_eq] at hd
            omega
      · cases h
theorem patOf_ok {c : Bytes} {p : Pat} (h : patOf c = some p) : OkPat p := by
  rw [patOf_eq] at h
  cases hb : bodyBy (bodyOf c) [] [0] with
  | none => rw [hb] at h; cases h
  | some q =>
    rw [hb] at h
    simp only [Option.bind_some] at h
    split at h
    · cases h
    · rename_i hn
      cases h
      obtain ⟨h1, h2, h3⟩ := bodyBy_ok _ _ _ _ hb (by simp) rfl (by simp)
      have hn1 : ¬ q.1.length < 1 := fun z => hn (.inl z)
      have hn2 : ¬ 6 < q.1.length := fun z => hn (.inr (.inl z))
      exact ⟨by show 1 ≤ q.1.length; omega, by show q.1.length ≤ 6; omega, h1, h2, h3⟩
theorem letter_pos {b : UInt8} (h : isLetter b = true) : b.toNat ≠ 0 := by
  have h' : decide (97 ≤ b.toNat ∧ b.toNat ≤ 122) = true := h
  rw [decide_eq_true_eq] at h'
  omega
theorem toNat_inj : ∀ {a b : Bytes}, a.map (·.toNat) = b.map (·.toNat) → a = b
  | [], [], _ => rfl
  | [], _ :: _, h => nomatch h
  | _ :: _, [], h => nomatch h
  | a :: r, b :: s, h => by
    simp only [List.map_cons, List.cons.injEq] at h
    rw [UInt8.toNat_inj.mp h.1, toNat_inj h.2]
/-- signs tell letters and points -/
theorem signs_inj {p q : Pat} (hp : OkPat p) (hq : OkPat q) (h : Vahypd.signsOf p = Vahypd.signsOf q) : p.x = q.x ∧ p.front = q.front ∧ p.halt_ = q.halt_ := by
  unfold Vahypd.signsOf at h
  have front : ∀ {p q : Pat}, OkPat p → OkPat q → (if p.front = true then [0] else []) ++ (p.x.map (fun b => b.toNat) ++ (if p.halt_ = true then [0] else [])) = (if q.front = true then [0] else []) ++ (q.x.map (fun b => b.toNat) ++ (if q.halt_ = true then [0] else [])) → p.front = true → q.front = true := by
    intro p q hp hq h hf
    cases hq2 : q.front with
    | true => rfl
    | false =>
      simp only [hf, hq2, if_true, Bool.false_eq_true, if_false, List.nil_append] at h
      cases hx : q.x with
      | nil => have := hq.lo; rw [hx] at this; simp at this
      | cons b r =>
        rw [hx] at h
        have h0 : (0 : Nat) = b.toNat := by
          have := congrArg List.head? h
          simpa using this
        exact absurd h0.symm (letter_pos (hq.let_ b (by rw [hx]; exact List.mem_cons_self ..)))
  have back : ∀ {p q : Pat}, OkPat p → OkPat q → p.x.map (fun b => b.toNat) ++ (if p.halt_ = true then [0] else []) = q.x.map (fun b => b.toNat) ++ (if q.halt_ = true then [0] else []) → p.halt_ = true → q.halt_ = true := by
    intro p q hp hq h hf
    cases hq2 : q.halt_ with
    | true => rfl
    | false =>
      simp only [hf, hq2, if_true, Bool.false_eq_true, if_false, List.append_nil] at h
      have h0 : (0 : Nat) ∈ q.x.map fun b => b.toNat := by rw [← h]; simp
      obtain ⟨b, hb, he⟩ := List.mem_map.mp h0
      exact absurd he (letter_pos (hq.let_ b hb))
  have e1 : p.front = q.front := by
    cases h1 : p.front with
    | true => exact (front hp hq h h1).symm
    | false =>
      cases h2 : q.front with
      | false => rfl
      | true =>
        have := front hq hp h.symm h2
        rw [h1] at this
        cases this
  rw [e1] at h
  have h := List.append_cancel_left h
  have e2 : p.halt_ = q.halt_ := by
    cases h1 : p.halt_ with
    | true => exact (back hp hq h h1).symm
    | false =>
      cases h2 : q.halt_ with
      | false => rfl
      | true =>
        have := back hq hp h.symm h2
        rw [h1] at this
        cases this
  rw [e2] at h
  exact ⟨toNat_inj (List.append_cancel_right h), e1, e2⟩
theorem same_signs {p q : Pat} (hp : OkPat p) (hq : OkPat q) : (q.x == p.x && (q.front == p.front && q.halt_ == p.halt_)) = (Vahypd.signsOf q == Vahypd.signsOf p) := by
  rw [Bool.eq_iff_iff]
  simp only [Bool.and_eq_true, beq_iff_eq]
  constructor
  · rintro ⟨h1, h2, h3⟩
    unfold Vahypd.signsOf
    rw [h1, h2, h3]
  · intro h
    exact signs_inj hq hp h
end Mx
set_option Elab.async false
set_option linter.all false
set_option maxRecDepth 100000
set_option maxHeartbeats 2000000
namespace Pt
open PySem PySem.Spec PyProof.Rows L2 Evl
open VahypBase (Bytes Toks PTok Fault)
theorem Rep.cons {α : Type} {R : Addr → α → Prop} {v : V} {refs : List V} {x : α} {xs : List α} (h : Rep R (v :: refs) (x :: xs)) : (∃ o, v = .ref o ∧ R o x) ∧ Rep R refs xs := by
  obtain ⟨h1, h2⟩ := h
  obtain ⟨o, ho, hr⟩ := h2 0 x rfl
  exact ⟨⟨o, by simpa using ho, hr⟩, by simpa using h1, fun i y hy => by
    obtain ⟨p, hp, hr⟩ := h2 (i + 1) y (by simpa using hy)
    exact ⟨p, by simpa using hp, hr⟩⟩
theorem Rep.map {α β : Type} {R : Addr → β → Prop} (f : α → β) {refs : List V} {xs : List α} : Rep R refs (xs.map f) ↔ Rep (fun o a => R o (f a)) refs xs := by
  unfold Rep
  rw [List.length_map]
  constructor
  · rintro ⟨h1, h2⟩
    refine ⟨h1, fun i x hx => h2 i (f x) (by rw [List.getElem?_map, hx]; rfl)⟩
  · rintro ⟨h1, h2⟩
    refine ⟨h1, fun i y hy => ?_⟩
    rw [List.getElem?_map] at hy
    obtain ⟨x, hx, rfl⟩ := Option.map_eq_some_iff.mp hy
    exact h2 i x hx
section
variable {P : Program} {w : World} {K : PySem.W.Frag} {mg : Str → Option Value} {base : Heap} {X : Cx}
variable {σ : L2.St} {H H' : Hp} {ta tb tc te tl : TE} {t : TT} {x y z v : V} {C : Addr} {D : Ends} {tz : TS}
theorem rep_dp {α : Type} {R : Addr → α → Prop} {f : α → PyData} : ∀ {refs : List V} {xs : List α}, Rep R refs xs → (∀ o x, R o x → Dp K H (.ref o) (f x)) → DpAll K H refs (xs.map f)
  | [], [], _, _ => DpAll.nil
  | [], _ :: _, h, _ => by have := h.1; simp at this
  | _ :: _, [], h, _ => by have := h.1; simp at this
  | v :: refs, x :: xs, h, k => by
    obtain ⟨⟨o, rfl, hr⟩, h2⟩ := h.cons
    exact DpAll.cons (k o x hr) (rep_dp h2 k)
theorem lay_all {ds : List PyData} (h : ∀ d ∈ ds, d.canLay0 = true ∧ d.depth ≤ 2) : PyData.canLayAll0 ds = true ∧ PyData.depthAll ds ≤ 2 := by
  induction ds with
  | nil => exact ⟨rfl, by show 0 ≤ 2; omega⟩
  | cons d r ih =>
    have h1 := h d (List.mem_cons_self ..)
    have h2 := ih fun e he => h e (List.mem_cons_of_mem _ he)
    refine ⟨?_, ?_⟩
    · show (d.canLay0 && PyData.canLayAll0 r) = true
      rw [h1.1, h2.1]
      rfl
    · show max d.depth (PyData.depthAll r) ≤ 2
      exact Nat.max_le.mpr ⟨h1.2, h2.2⟩
theorem shaped_list {ds : List PyData} (h : ∀ d ∈ ds, d.canLay0 = true ∧ d.depth ≤ 2) : SeqAt.shaped (.list ds) = true := by
  obtain ⟨h1, h2⟩ := lay_all h
  unfold SeqAt.shaped
  rw [Bool.and_eq_true]
  refine ⟨h1, decide_eq_true ?_⟩
  show PyData.depthAll ds + 1 ≤ 64
  omega
theorem dx_small (c : Bytes) : (dx c).canLay0 = true ∧ (dx c).depth ≤ 2 := by
  have := deep_ints (fun b : UInt8 => (b.toNat : Int)) c
  exact ⟨lay_ints _ c, by show PyData.depthAll _ + 1 ≤ 2; omega⟩
theorem dn_small (c : List Nat) : (dn c).canLay0 = true ∧ (dn c).depth ≤ 2 := by
  have := deep_ints (fun n : Nat => (n : Int)) c
  exact ⟨lay_ints _ c, by show PyData.depthAll _ + 1 ≤ 2; omega⟩
theorem shaped_dn (c : List Nat) : SeqAt.shaped (dn c) = true := by
  obtain ⟨h1, h2⟩ := dn_small c
  unfold SeqAt.shaped
  rw [Bool.and_eq_true]
  exact ⟨h1, decide_eq_true (by omega)⟩
/-- in a list of things -/
theorem rv_inD {α : Type} {R : Addr → α → Prop} {f : α → PyData} {refs : List V} {xs : List α} {l : Addr} {x : V} {d : PyData} (hl : SqL K H l refs) (hR : Rep R refs xs) (k : ∀ H1, Ex H H1 → ∀ o a, R o a → Dp K H1 (.ref o) (f a)) (hs : ∀ a, (f a).canLay0 = true ∧ (f a).depth ≤ 2) (hx : ∀ H1, Ex H H1 → Dp K H1 x d) (hd : SeqAt.shaped d = true) :
    RV (rInD K) x (.ref l) H (.bl (xs.any fun a => PyData.eqv (f a) d)) := fun H1 e Q q =>
  ⟨d, xs.map f, hx H1 e, Dp.lst (ex_l e hl) (rep_dp hR (k H1 e)), hd, shaped_list (fun e he => by obtain ⟨a, _, rfl⟩ := List.mem_map.mp he; exact hs a), by
    rw [List.any_map]
    exact q H1 (Ex.refl H1)⟩
/-! ### read_word -/
def spReadWord (T : Tx K mg) : Sp := fun vs H Q E => ∃ (r tl dr h dh wl el : Addr) (i a z : Nat) (all : Toks) (ws : List Vahypa.Word) (wrefs : List V) (G M : Hp), vs = [.ref r, .ref h] ∧ H = over G M ∧ RdS T G M r tl dr all i ∧ Mx.Wf (all.drop i) ∧ M h = some (.ins T.cPatternList.C dh (hF a z wl el)) ∧ M wl = some (.lst wrefs) ∧
  Rep (fun o (w : Vahypa.Word) => SqL K G o (tx w.x)) wrefs ws ∧ ws.length ≤ 24 ∧ VahypBase.nextWord "word" (all.drop i) = true ∧ match Mx.wstep ws (all.drop i) with
  | .error f => FE T E G f.code f.place
  | .ok x => ∀ j G2 M2 wrefs2, Ex G G2 → x.2 = all.drop j → Mx.Wf x.2 → x.1.length = ws.length + 1 → RdS T G2 M2 r tl dr all j → M2 wl = some (.lst wrefs2) → Rep (fun o (w : Vahypa.Word) => SqL K G2 o (tx w.x)) wrefs2 x.1 → (∀ b, b ≠ r → b ≠ wl → M2 b = M b) → Q .non (over G2 M2)
theorem r_ne_l {M : Hp} {r l C d tl : Addr} {i : Nat} {xs : List V} (h1 : M r = some (.ins C d (rF tl i))) (h2 : M l = some (.lst xs)) : l ≠ r := fun e => by
  rw [e, h1] at h2
  cases h2
theorem ok_read_word (T : Tx K mg) : FnOk P w K mg base (L2.CX P w) 5 T.read_word.f T.read_word.fd ["reader", "held"] (spReadWord T) := by
  have GT : FnOk P w K mg base (L2.CX P w) 4 _ _ _ _ := (ok_take T).mono (by decide)
  have GB : FnOk P w K mg base (L2.CX P w) 4 _ _ _ _ := ok_tbk T
  have GW : FnOk P w K mg base CX0 4 _ _ _ _ := (ok_word_letters T).mono (by decide)
  refine T.read_word.F.okX scReadWord (fun vs H Q E h => ?_) (fun cdv A outer s H vs Q E hr h => ⟨_,
    pss_cons (ps_set (i := 2) scReadWord.nd rfl (.inl rfl) (pe_fn T.take_behind_keyword GB hr (bdTakeBehindKeyword T.take_behind_keyword.F) (passes_call (takes_of rfl rfl rfl rfl) (fun _ _ _ _ h => h)) (pa_cons (pv 0) (pa_cons pe_str (pa_cons (pe_len T.b_len (pe_fld (pv 1) rfl)) (pa_cons (pe_k T.k_MOST_WORDS) pa_nil))))))
    (pss_cons (ps_set (i := 3) scReadWord.nd rfl (.inl rfl) (pe_fn T.word_letters GW hr (bdWordLetters T.word_letters.F) pass0 (pa_cons (pe_fld (pv 2) rfl) pa_nil)))
    (pss_cons (ps_if (pt_cmpR op_isN (pv 3) pe_non (nomark _)) (pss_one (ps_raiseFlt rfl T.flt hr (takes_of rfl rfl rfl rfl) (pa_cons (pe_k T.k_NOT_AS_TOLD) (pa_cons (pe_fld (pv 2) rfl) pa_nil)))) pss_nil)
    (pss_cons (ps_if (pt_cmpR (op_inD (hu65 hr)) (pv 3) (pe_fld (pv 1) rfl) (by rfl)) (pss_one (ps_raiseFlt rfl T.flt hr (takes_of rfl rfl rfl rfl) (pa_cons (pe_k T.k_TOLD_BEFORE) (pa_cons (pe_fld (pv 2) rfl) pa_nil)))) pss_nil)
    (pss_cons (ps_expr (pe_bm PySem.F.plainAttrs_list PySem.F.slot_list_append PySem.F.type_list_append mt_append (pe_fld (pv 1) rfl) (pa_cons (pv 3) pa_nil)))
    (pss_one (ps_expr (pe_meth (pv 0) T.cTokenReader.cl T.mTokenReader_take.M GT hr (bdTokenReaderTake T.mTokenReader_take.F) .nil (passes_call (takes_of rfl rfl rfl rfl) (fun _ _ _ _ h => h)) (pa_cons (pe_k T.k_SIGN) pa_nil)))))))), ?_⟩)
  · obtain ⟨r, tl, dr, h, dh, wl, el, i, a, z, all, ws, wrefs, G, M, rfl, _⟩ := h
    rfl
  obtain ⟨r, tl, dr, h, dh, wl, el, i, a, z, all, ws, wrefs, G, M, rfl, rfl, hR, hW, hH, hL, hRep, hlen, hnw, k⟩ := h
  have hne := r_ne_h hR.rd hH
  have hnl := r_ne_l hR.rd hL
  obtain ⟨tk, hi⟩ := hW.head
  rw [Mx.drop_tok hi] at k hW hnw
  have hkw := Mx.nextWord_iff.mp hnw
  refine t_fn (vs := [.ref r, .str (PySem.Str.ofString "word"), .int (ws.length : Int), .int (24 : Nat)]) (ea_cons (ev_var rfl) (ea_cons ev_c (ea_cons (ev_is (ev_len (ev_fld (ev_var rfl) (over_m hH) T.cPatternList.cl T.nPatternList_words (v := .ref wl) (by rfl)) (sq_of (over_m hL))) (by rw [hRep.1])) (ea_cons ev_c ea_nil)))) fun H1 e1 => ?_
  obtain ⟨G1, a1, eG1, rfl⟩ := over_split hR.ap e1
  refine ⟨r, tl, dr, i, ws.length, 24, all, _, VahypBase.word "word", G1, M, rfl, rfl, hR.grow eG1 a1, by rw [Mx.drop_tok hi]; exact hW, by decide, word_word, by decide, ?_⟩
  rw [Mx.drop_tok hi]
  have eWORDS : Vahypa.WORDS = 24 := rfl
  by_cases h24 : ws.length = 24
  · rw [tbk_many hkw h24]
    unfold Mx.wstep at k
    rw [if_pos (by omega)] at k
    exact FE.go k eG1
  rw [tbk_yes hkw h24]
  unfold Mx.wstep at k
  rw [if_neg (by omega)] at k
  rw [List.drop_succ_cons, List.drop_zero] at k
  cases hc : VahypBase.takeChunk (all.drop (i + 1)) with
  | error f =>
    rw [hc] at k
    exact FE.go k eG1
  | ok x =>
    intro o G2 e2 hA hx40 hx hWx hR2
    rw [hc] at k
    simp only [Except.bind] at k
    obtain ⟨dxx, ca, ho, hca⟩ := hA
    have hca : SqL K G2 ca (tx x.2.1) := hca
    have eo := ex_over hR2.ap
    have eG2 := eG1.trans e2
    have hH2 : bump T M r tl dr (i + 2) h = some (.ins T.cPatternList.C dh (hF a z wl el)) := by unfold bump; rw [upd_ne hne]; exact hH
    have hL2 : bump T M r tl dr (i + 2) wl = some (.lst wrefs) := by unfold bump; rw [upd_ne hnl]; exact hL
    refine t_fn (vs := [.ref ca]) (ea_cons (ev_fld (ev_var (v := .ref o) rfl) (eo _ _ ho) T.cToken.cl T.nToken_chunk (v := .ref ca) (by rfl)) ea_nil) fun H3 e3 => ⟨ca, x.2.1, rfl, ex_l (eo.trans e3) hca, by omega, ?_⟩
    have hwx := Mx.wordOf_x x.2.1
    cases hw : Vahypa.wordOf x.2.1 with
    | none =>
      rw [hw] at k hwx
      rw [← hwx]
      intro H4 e4
      refine q_when (D := { nx := fun _ H' => Q .non H', rt := Q }) (b := true) (et_test (ev_op (ev_var (v := .non) rfl) ev_c rv_isN)) (fun _ H5 e5 => ?_) (fun z => nomatch z)
      exact s_raise (ea_cons ev_c (ea_cons (ev_fld (ev_var (v := .ref o) rfl) (((eo.trans e3).trans (e4.trans e5)) _ _ ho) T.cToken.cl T.nToken_place (v := .int (x.1 : Int)) (by rfl)) ea_nil)) fun d H6 _ e6 h6 => k d H6 ((eG2.trans eo).trans ((e3.trans (e4.trans e5)).trans e6)) h6
    | some wd =>
      rw [hw] at k hwx
      rw [← hwx]
      show RetL (tx wd.x) H3 _
      intro la H4 hla e4 h4
      have e34 := e3.trans e4
      simp only at k
      refine q_when (D := { nx := fun _ H' => Q .non H', rt := Q }) (b := false) (et_test (ev_op (ev_var (v := .ref la) rfl) ev_c rv_isN)) (fun z => nomatch z) fun _ H5 e5 => ?_
      have e35 := e34.trans e5
      refine q_when (D := { nx := fun _ H' => Q .non H', rt := Q }) (b := ws.any fun v => v.x == wd.x) (et_is (et_test (ev_op (ev_var (v := .ref la) rfl) (ev_fld (ev_var (v := .ref h) rfl) (e35 _ _ (over_m hH2)) T.cPatternList.cl T.nPatternList_words (v := .ref wl) (by rfl))
        (rv_inD (f := fun w : Vahypa.Word => dx w.x) (sq_of (e35 _ _ (over_m hL2))) hRep (fun H6 e6 o a hr => dp_tx (ex_l (((eG2.trans eo).trans e35).trans e6) hr)) (fun a => dx_small a.x) (fun H6 e6 => dp_tx (sq_of ((e5.trans e6) _ _ h4))) (shaped_dx _)))) ?_) (fun hs H6 e6 => ?_) (fun hs H6 e6 => ?_)
      · simp only [eqv_dx]
      · rw [if_pos hs] at k
        exact s_raise (ea_cons ev_c (ea_cons (ev_fld (ev_var (v := .ref o) rfl) ((eo.trans (e35.trans e6)) _ _ ho) T.cToken.cl T.nToken_place (v := .int (x.1 : Int)) (by rfl)) ea_nil)) fun d H7 _ e7 h7 => k d H7 ((eG2.trans eo).trans ((e35.trans e6).trans e7)) h7
      · rw [if_neg (by rw [hs]; decide)] at k
        obtain ⟨G6, a6, eG6, E6⟩ := over_split hR2.ap (e35.trans e6)
        subst E6
        have hR6 := hR2.grow eG6 a6
        have hlaM : bump T M r tl dr (i + 2) la = none := by
          cases hz : bump T M r tl dr (i + 2) la with
          | none => rfl
          | some u =>
            have := e3 _ _ (over_m (G := G2) hz)
            rw [hla] at this
            cases this
        have h6 : G6 la = some (.lst (tx wd.x)) := by
          have := (e5.trans e6) _ _ h4
          rw [over_g hlaM] at this
          exact this
        refine q_appQ (D := { nx := fun _ H' => Q .non H', rt := Q }) (over_m hL2) (ev_fld (ev_var (v := .ref h) rfl) (over_m hH2) T.cPatternList.cl T.nPatternList_words (v := .ref wl) (by rfl)) (eq_v (ev_var (v := .ref la) rfl)) (by rw [hRep.1]; omega) fun u H7 H8 e7 e8 hu => ?_
        subst hu
        obtain ⟨G8, a8, eG8, rfl⟩ := over_split hR6.ap (e7.trans e8)
        rw [over_upd]
        have hR8 := (hR6.grow eG8 a8).other (o := .lst (wrefs ++ [.ref la])) hL2 hnl
        have eAll := (eG2.trans eG6).trans eG8
        rw [hx] at hWx
        obtain ⟨tk2, hi2⟩ := hWx.head
        rw [hx, Mx.drop_tok hi2] at k
        rw [Mx.drop_tok hi2] at hWx
        refine take_by (k := "sign") hR8 hi2 (.inr (.inl rfl)) (fun _ _ => ev_var rfl) (fun _ _ => ev_c) (fun hc o G9 e9 _ hR9 => ?_) (fun hn => ?_)
        · obtain ⟨c, hc⟩ := Mx.kind_sign hc
          have h59 := hWx.sign59 hc
          subst h59
          rw [Mx.takeSign_yes hc] at k
          refine k _ G9 _ (wrefs ++ [.ref la]) (eAll.trans e9) rfl (hWx.tail (by rw [hc]; exact fun z => nomatch z)) (by simp) hR9 ?_ ?_ fun b h1 h2 => ?_
          · unfold bump
            rw [upd_ne hnl]
            exact upd_same
          · exact Rep.snoc (hRep.mono fun _ _ q => ex_l (eAll.trans e9) q) (sq_of ((eG8.trans e9) _ _ h6))
          · unfold bump
            rw [upd_ne h1, upd_ne h2, upd_ne h1]
        · have hn' : tk2.tok ≠ .sign 59 := fun z => hn (by rw [z]; rfl)
          rw [Mx.takeSign_no hn'] at k
          exact FE.go k eAll
end
end Pt
set_option Elab.async false
set_option linter.all false
set_option maxRecDepth 100000
set_option maxHeartbeats 2000000
namespace Pt
open PySem PySem.Spec PyProof.Rows L2 Evl
open VahypBase (Bytes Toks PTok Fault)
section
variable {P : Program} {w : World} {K : PySem.W.Frag} {mg : Str → Option Value} {base : Heap} {X : Cx}
variable {σ : L2.St} {H H' : Hp} {ta tb tc te tl : TE} {t : TT} {x y z v : V} {C : Addr} {D : Ends} {tz : TS}
/-- the first field of an object of the heap -/
def fst1 (H : Hp) : V → V
  | .ref o => match H o with
    | some (.ins _ _ ((_, v) :: _)) => v
    | _ => .non
  | _ => .non
theorem fst1_ent {T : Tx K mg} {o dx sa da : Addr} (h : H o = some (.ins T.cEntry.C dx [("signs", .ref sa), ("digits", .ref da)])) : fst1 H (.ref o) = .ref sa := by
  unfold fst1
  simp only [h]
theorem rep_signs {T : Tx K mg} {α : Type} {f : α → List Nat × List Nat} : ∀ {refs : List V} {xs : List α}, Rep (fun o a => EntAt T H o (f a)) refs xs → Rep (fun o a => SqT K H o (nv (f a).1)) (refs.map (fst1 H)) xs
  | refs, xs, h => by
    refine ⟨by rw [List.length_map]; exact h.1, fun i x hx => ?_⟩
    obtain ⟨o, ho, dx, sa, da, h1, h2, h3⟩ := h.2 i x hx
    exact ⟨sa, by rw [List.getElem?_map, ho]; exact congrArg some (fst1_ent h1), h2⟩
theorem sqt_off {G M : Hp} {a : Addr} {xs : List V} (h : SqT K (over G M) a xs) (hm : M a = none) : SqT K G a xs := by
  rcases h with (h | ⟨o, h⟩) | h
  · rw [over_g hm] at h
    exact .inl (.inl h)
  · rw [over_g hm] at h
    exact .inl (.inr ⟨o, h⟩)
  · exact .inr h
theorem Rep.map_ {α β : Type} {R : Addr → β → Prop} {f : α → β} {refs : List V} {xs : List α} (h : Rep (fun o x => R o (f x)) refs xs) : Rep R refs (xs.map f) := by
  refine ⟨by rw [List.length_map]; exact h.1, fun i y hy => ?_⟩
  rw [List.getElem?_map] at hy
  cases hx : xs[i]? with
  | none => rw [hx] at hy; cases hy
  | some x =>
    rw [hx] at hy
    obtain ⟨o, h1, h2⟩ := h.2 i x hx
    exact ⟨o, h1, by rw [← (Option.some.inj hy : f x = y)]; exact h2⟩
/-- a new entry is none of what changes -/
theorem EntNew.off {T : Tx K mg} {H1 H2 G M : Hp} {o : Addr} {en : List Nat × List Nat} (h : EntNew T H1 H2 o en) (hM : ∀ b, H1 b = none → M b = none) (e : Ex H2 (over G M)) : EntAt T G o en := by
  obtain ⟨h0, dx, sa, da, h1, h2, h3, h4, h5⟩ := h
  refine ⟨dx, sa, da, ?_, sqt_off (ex_t e h4) (hM _ h1), sqt_off (ex_t e h5) (hM _ h2)⟩
  have := e _ _ h3
  rw [over_g (hM _ h0)] at this
  exact this
theorem none_of_over {G M H1 : Hp} (e : Ex (over G M) H1) (b : Addr) (h : H1 b = none) : M b = none := by
  cases hm : M b with
  | none => rfl
  | some u =>
    have := e _ _ (over_m (G := G) hm)
    rw [h] at this
    cases this
/-! ### all_signs -/
def spAllSigns (T : Tx K mg) : Sp := fun vs H Q _ => ∃ (a : Addr) (refs : List V) (es : List (List Nat × List Nat)), vs = [.ref a] ∧ SqL K H a refs ∧ Rep (EntAt T H) refs es ∧ es.length ≤ 1000 ∧ RetL (refs.map (fst1 H)) H Q
theorem fst1_up {T : Tx K mg} {refs : List V} {es : List (List Nat × List Nat)} (h : Rep (EntAt T H) refs es) (e : Ex H H') : refs.map (fst1 H') = refs.map (fst1 H) := by
  refine List.map_congr_left fun u hu => ?_
  obtain ⟨ix, hix⟩ := List.getElem?_of_mem hu
  have hlt : ix < es.length := by
    rw [← h.1]
    exact (List.getElem?_eq_some_iff.mp hix).1
  obtain ⟨oo, hoo, dxo, sao, dao, g1, g2, g3⟩ := h.2 ix _ (List.getElem?_eq_getElem hlt)
  rw [hix] at hoo
  cases hoo
  rw [fst1_ent g1, fst1_ent (e _ _ g1)]
theorem ok_all_signs (T : Tx K mg) : FnOk P w K mg base CX0 1 T.all_signs.f T.all_signs.fd ["entries"] (spAllSigns T) := by
  refine T.all_signs.F.ok scAllSigns (fun vs H Q E h => ?_) (fun cdv A outer s H vs Q E hr h => ⟨_,
    pss_one (ps_ret (pe_lc (own := [("entry", 1)]) (g := gName 1) (tt := tYes) (te := tFld K (tVar 1) "signs") rfl scAllSigns.nd (pi_list (pv 0)) (blkOk_by (N := ["entries", "entry"]) (sc := defScope sAllSigns) (by decide +kernel)) (fun _ _ _ _ _ => pg_name (i := 1) scAllSigns.nd rfl (Or.inl rfl)) (fun _ _ _ _ _ => pts_nil) (fun _ _ _ _ _ => pe_fld (pv 1) rfl))), ?_⟩)
  · obtain ⟨a, refs, es, rfl, _⟩ := h
    rfl
  obtain ⟨a, refs, es, rfl, hL, hR, hz, k⟩ := h
  refine s_retL (el_lcA (fst1 H) (ev_var rfl) hL (by rw [hR.1]; omega) (fun _ => rfl) (fun u H6 e6 hu => ?_)) fun p H1 hp e h => k p H1 hp e h
  obtain ⟨ix, hix⟩ := List.getElem?_of_mem hu
  have hlt : ix < es.length := by
    rw [← hR.1]
    exact (List.getElem?_eq_some_iff.mp hix).1
  obtain ⟨oo, hoo, dxo, sao, dao, g1, g2, g3⟩ := hR.2 ix _ (List.getElem?_eq_getElem hlt)
  rw [hix] at hoo
  cases hoo
  rw [fst1_ent g1]
  exact ev_fld (ev_var (v := .ref oo) rfl) (e6 _ _ g1) T.cEntry.cl T.nEntry_signs (v := .ref sao) (by rfl)
theorem el_signs {T : Tx K mg} {a : Addr} {refs : List V} {es : List (List Nat × List Nat)} {E : XK} (h : Ev ta σ H (.ref a)) (hL : SqL K H a refs) (hR : Rep (EntAt T H) refs es) (hz : es.length ≤ 1000) : EvL (tCall (spAllSigns T) [] E (tCons ta tNil)) σ H (refs.map (fst1 H)) := fun H1 e Q q =>
  t_fn (ea_cons (h.mono e) ea_nil) fun H2 e2 => ⟨a, refs, es, rfl, ex_l (e.trans e2) hL, hR.mono fun _ _ r => r.mono (e.trans e2), hz, fun p H3 hp e3 h3 => by
    rw [fst1_up hR (e.trans e2)] at h3
    exact q p H3 (fresh_back e2 hp) (e2.trans e3) h3⟩
/-! ### read_pattern -/
def spReadPattern (T : Tx K mg) : Sp := fun vs H Q E => ∃ (r tl dr h dh wl el : Addr) (i a z : Nat) (all : Toks) (ps : List Vahypa.Pat) (erefs : List V) (G M : Hp), vs = [.ref r, .ref h] ∧ H = over G M ∧ RdS T G M r tl dr all i ∧ Mx.Wf (all.drop i) ∧ M h = some (.ins T.cPatternList.C dh (hF a z wl el)) ∧ M el = some (.lst erefs) ∧
  Rep (fun o (p : Vahypa.Pat) => EntAt T G o (Vahypd.entryOf p)) erefs ps ∧ (∀ p ∈ ps, Mx.OkPat p) ∧ ps.length ≤ 40 ∧ VahypBase.nextWord "pattern" (all.drop i) = true ∧ match Mx.pstep ps (all.drop i) with
  | .error f => FE T E G f.code f.place
  | .ok x => ∀ j G2 M2 erefs2, Ex G G2 → x.2 = all.drop j → Mx.Wf x.2 → x.1.length = ps.length + 1 → (∀ p ∈ x.1, Mx.OkPat p) → RdS T G2 M2 r tl dr all j → M2 el = some (.lst erefs2) → Rep (fun o (p : Vahypa.Pat) => EntAt T G2 o (Vahypd.entryOf p)) erefs2 x.1 → (∀ b, b ≠ r → b ≠ el → M2 b = M b) → Q .non (over G2 M2)
theorem ok_read_pattern (T : Tx K mg) : FnOk P w K mg base (L2.CX P w) 5 T.read_pattern.f T.read_pattern.fd ["reader", "held"] (spReadPattern T) := by
  have GT : FnOk P w K mg base (L2.CX P w) 4 _ _ _ _ := (ok_take T).mono (by decide)
  have GB : FnOk P w K mg base (L2.CX P w) 4 _ _ _ _ := ok_tbk T
  have GS : FnOk P w K mg base CX0 4 _ _ _ _ := (ok_all_signs T).mono (by decide)
  have GW : FnOk P w K mg base CX0 4 _ _ _ _ := ok_pattern_entry T
  refine T.read_pattern.F.okX scReadPattern (fun vs H Q E h => ?_) (fun cdv A outer s H vs Q E hr h => ⟨_,
    pss_cons (ps_set (i := 2) scReadPattern.nd rfl (.inl rfl) (pe_fn T.take_behind_keyword GB hr (bdTakeBehindKeyword T.take_behind_keyword.F) (passes_call (takes_of rfl rfl rfl rfl) (fun _ _ _ _ h => h)) (pa_cons (pv 0) (pa_cons pe_str (pa_cons (pe_len T.b_len (pe_fld (pv 1) rfl)) (pa_cons (pe_k T.k_MOST_PATTERNS) pa_nil))))))
    (pss_cons (ps_set (i := 3) scReadPattern.nd rfl (.inl rfl) (pe_fn T.pattern_entry GW hr (bdPatternEntry T.pattern_entry.F) pass0 (pa_cons (pe_fld (pv 2) rfl) pa_nil)))
    (pss_cons (ps_if (pt_cmpR op_isN (pv 3) pe_non (nomark _)) (pss_one (ps_raiseFlt rfl T.flt hr (takes_of rfl rfl rfl rfl) (pa_cons (pe_k T.k_NOT_AS_TOLD) (pa_cons (pe_fld (pv 2) rfl) pa_nil)))) pss_nil)
    (pss_cons (ps_if (pt_cmpR (op_inD (hu65 hr)) (pe_fld (pv 3) rfl) (pe_fn T.all_signs GS hr (bdAllSigns T.all_signs.F) pass0 (pa_cons (pe_fld (pv 1) rfl) pa_nil)) (by rfl))
      (pss_one (ps_raiseFlt rfl T.flt hr (takes_of rfl rfl rfl rfl) (pa_cons (pe_k T.k_TOLD_BEFORE) (pa_cons (pe_fld (pv 2) rfl) pa_nil)))) pss_nil)
    (pss_cons (ps_expr (pe_bm PySem.F.plainAttrs_list PySem.F.slot_list_append PySem.F.type_list_append mt_append (pe_fld (pv 1) rfl) (pa_cons (pv 3) pa_nil)))
    (pss_one (ps_expr (pe_meth (pv 0) T.cTokenReader.cl T.mTokenReader_take.M GT hr (bdTokenReaderTake T.mTokenReader_take.F) .nil (passes_call (takes_of rfl rfl rfl rfl) (fun _ _ _ _ h => h)) (pa_cons (pe_k T.k_SIGN) pa_nil)))))))), ?_⟩)
  · obtain ⟨r, tl, dr, h, dh, wl, el, i, a, z, all, ps, erefs, G, M, rfl, _⟩ := h
    rfl
  obtain ⟨r, tl, dr, h, dh, wl, el, i, a, z, all, ps, erefs, G, M, rfl, rfl, hR, hW, hH, hL, hRep, hok, hlen, hnw, k⟩ := h
  have hne := r_ne_h hR.rd hH
  have hnl := r_ne_l hR.rd hL
  obtain ⟨tk, hi⟩ := hW.head
  rw [Mx.drop_tok hi] at k hW hnw
  have hkw := Mx.nextWord_iff.mp hnw
  refine t_fn (vs := [.ref r, .str (PySem.Str.ofString "pattern"), .int (ps.length : Int), .int (40 : Nat)]) (ea_cons (ev_var rfl) (ea_cons ev_c (ea_cons (ev_is (ev_len (ev_fld (ev_var rfl) (over_m hH) T.cPatternList.cl T.nPatternList_entries (v := .ref el) (by rfl)) (sq_of (over_m hL))) (by rw [hRep.1])) (ea_cons ev_c ea_nil)))) fun H1 e1 => ?_
  obtain ⟨G1, a1, eG1, rfl⟩ := over_split hR.ap e1
  refine ⟨r, tl, dr, i, ps.length, 40, all, _, VahypBase.word "pattern", G1, M, rfl, rfl, hR.grow eG1 a1, by rw [Mx.drop_tok hi]; exact hW, by decide, word_pattern, by decide, ?_⟩
  rw [Mx.drop_tok hi]
  have ePATS : Vahypa.PATS = 40 := rfl
  by_cases h40 : ps.length = 40
  · rw [tbk_many hkw h40]
    unfold Mx.pstep at k
    rw [if_pos (by omega)] at k
    exact FE.go k eG1
  rw [tbk_yes hkw h40]
  unfold Mx.pstep at k
  rw [if_neg (by omega)] at k
  rw [List.drop_succ_cons, List.drop_zero] at k
  cases hc : VahypBase.takeChunk (all.drop (i + 1)) with
  | error f =>
    rw [hc] at k
    exact FE.go k eG1
  | ok x =>
    intro o G2 e2 hA hx40 hx hWx hR2
    rw [hc] at k
    simp only [Except.bind] at k
    obtain ⟨dxx, ca, ho, hca⟩ := hA
    have hca : SqL K G2 ca (tx x.2.1) := hca
    have eo := ex_over hR2.ap
    have eG2 := eG1.trans e2
    have hH2 : bump T M r tl dr (i + 2) h = some (.ins T.cPatternList.C dh (hF a z wl el)) := by unfold bump; rw [upd_ne hne]; exact hH
    have hL2 : bump T M r tl dr (i + 2) el = some (.lst erefs) := by unfold bump; rw [upd_ne hnl]; exact hL
    refine t_fn (vs := [.ref ca]) (ea_cons (ev_fld (ev_var (v := .ref o) rfl) (eo _ _ ho) T.cToken.cl T.nToken_chunk (v := .ref ca) (by rfl)) ea_nil) fun H3 e3 => ⟨ca, x.2.1, rfl, ex_l (eo.trans e3) hca, by omega, ?_⟩
    cases hw : Vahypa.patOf x.2.1 with
    | none =>
      rw [hw] at k
      intro H4 e4
      refine q_when (D := { nx := fun _ H' => Q .non H', rt := Q }) (b := true) (et_test (ev_op (ev_var (v := .non) rfl) ev_c rv_isN)) (fun _ H5 e5 => ?_) (fun z => nomatch z)
      exact s_raise (ea_cons ev_c (ea_cons (ev_fld (ev_var (v := .ref o) rfl) (((eo.trans e3).trans (e4.trans e5)) _ _ ho) T.cToken.cl T.nToken_place (v := .int (x.1 : Int)) (by rfl)) ea_nil)) fun d H6 _ e6 h6 => k d H6 ((eG2.trans eo).trans ((e3.trans (e4.trans e5)).trans e6)) h6
    | some pt =>
      rw [hw] at k
      have hpo := Mx.patOf_ok hw
      intro la H4 e4 h4
      have e34 := e3.trans e4
      simp only at k
      have hsame : ps.any (fun q => q.x == pt.x && (q.front == pt.front && q.halt_ == pt.halt_)) = ps.any fun q => PyData.eqv (dn (Vahypd.entryOf q).1) (dn (Vahypd.signsOf pt)) := by
        rw [Bool.eq_iff_iff, List.any_eq_true, List.any_eq_true]
        constructor
        · rintro ⟨q, hq, h⟩
          refine ⟨q, hq, ?_⟩
          rw [Mx.same_signs hpo (hok q hq)] at h
          rw [eqv_dn]
          exact h
        · rintro ⟨q, hq, h⟩
          refine ⟨q, hq, ?_⟩
          rw [Mx.same_signs hpo (hok q hq)]
          rw [eqv_dn] at h
          exact h
      rw [hsame] at k
      refine q_when (D := { nx := fun _ H' => Q .non H', rt := Q }) (b := false) (et_test (ev_op (ev_var (v := .ref la) rfl) ev_c rv_isN)) (fun z => nomatch z) fun _ H5 e5 => ?_
      have e35 := e34.trans e5
      have hEnt := h4.at_.mono e5
      obtain ⟨dxe, sae, dae, hE1, hE2, hE3⟩ := hEnt
      have hRep5 : Rep (fun o (p : Vahypa.Pat) => EntAt T H5 o (Vahypd.entryOf p)) erefs ps := hRep.mono fun _ _ q => q.mono ((eG2.trans eo).trans e35)
      refine q_when (D := { nx := fun _ H' => Q .non H', rt := Q }) (b := ps.any fun q => PyData.eqv (dn (Vahypd.entryOf q).1) (dn (Vahypd.signsOf pt))) (et_test (ev_opL (xs := erefs.map (fst1 H5)) (ev_fld (ev_var (v := .ref la) rfl) hE1 T.cEntry.cl T.nEntry_signs (v := .ref sae) (by rfl))
        (el_signs (es := ps.map Vahypd.entryOf) (ev_fld (ev_var (v := .ref h) rfl) (e35 _ _ (over_m hH2)) T.cPatternList.cl T.nPatternList_entries (v := .ref el) (by rfl)) (sq_of (e35 _ _ (over_m hL2))) hRep5.map_ (by rw [List.length_map]; omega))
        fun p H6 hp e6 => rv_inD (f := fun q : Vahypa.Pat => dn (Vahypd.entryOf q).1) (sq_of hp) (rep_signs hRep5) (fun H7 e7 o a hr => dp_nv (ex_t (e6.trans e7) hr)) (fun a => dn_small _) (fun H7 e7 => dp_nv (ex_t (e6.trans e7) hE2)) (shaped_dn _))) (fun hs H6 e6 => ?_) (fun hs H6 e6 => ?_)
      · rw [if_pos hs] at k
        exact s_raise (ea_cons ev_c (ea_cons (ev_fld (ev_var (v := .ref o) rfl) ((eo.trans (e35.trans e6)) _ _ ho) T.cToken.cl T.nToken_place (v := .int (x.1 : Int)) (by rfl)) ea_nil)) fun d H7 _ e7 h7 => k d H7 ((eG2.trans eo).trans ((e35.trans e6).trans e7)) h7
      · rw [if_neg (by rw [hs]; decide)] at k
        obtain ⟨G6, a6, eG6, E6⟩ := over_split hR2.ap (e35.trans e6)
        have hEntG : EntAt T G6 la (Vahypd.entryOf pt) := h4.off (fun b hb => none_of_over e3 b hb) (by rw [← E6]; exact e5.trans e6)
        subst E6
        have hR6 := hR2.grow eG6 a6
        refine q_appQ (D := { nx := fun _ H' => Q .non H', rt := Q }) (over_m hL2) (ev_fld (ev_var (v := .ref h) rfl) (over_m hH2) T.cPatternList.cl T.nPatternList_entries (v := .ref el) (by rfl)) (eq_v (ev_var (v := .ref la) rfl)) (by rw [hRep.1]; omega) fun u H7 H8 e7 e8 hu => ?_
        subst hu
        obtain ⟨G8, a8, eG8, rfl⟩ := over_split hR6.ap (e7.trans e8)
        rw [over_upd]
        have hR8 := (hR6.grow eG8 a8).other (o := .lst (erefs ++ [.ref la])) hL2 hnl
        have eAll := (eG2.trans eG6).trans eG8
        rw [hx] at hWx
        obtain ⟨tk2, hi2⟩ := hWx.head
        rw [hx, Mx.drop_tok hi2] at k
        rw [Mx.drop_tok hi2] at hWx
        refine take_by (k := "sign") hR8 hi2 (.inr (.inl rfl)) (fun _ _ => ev_var rfl) (fun _ _ => ev_c) (fun hc o G9 e9 _ hR9 => ?_) (fun hn => ?_)
        · obtain ⟨c, hc⟩ := Mx.kind_sign hc
          have h59 := hWx.sign59 hc
          subst h59
          rw [Mx.takeSign_yes hc] at k
          refine k _ G9 _ (erefs ++ [.ref la]) (eAll.trans e9) rfl (hWx.tail (by rw [hc]; exact fun z => nomatch z)) (by simp) (fun p hp => ?_) hR9 ?_ ?_ fun b h1 h2 => ?_
          · rcases List.mem_append.mp hp with z | z
            · exact hok p z
            · rw [List.mem_singleton.mp z]; exact hpo
          · unfold bump
            rw [upd_ne hnl]
            exact upd_same
          · exact Rep.snoc (hRep.mono fun _ _ q => q.mono (eAll.trans e9)) (hEntG.mono (eG8.trans e9))
          · unfold bump
            rw [upd_ne h1, upd_ne h2, upd_ne h1]
        · have hn' : tk2.tok ≠ .sign 59 := fun z => hn (by rw [z]; rfl)
          rw [Mx.takeSign_no hn'] at k
          exact FE.go k eAll
end
end Pt
set_option Elab.async false
set_option linter.all false
set_option maxRecDepth 100000
set_option maxHeartbeats 2000000
namespace Pt
open PySem PySem.Spec PyProof.Rows L2 Evl
open VahypBase (Bytes Toks PTok Fault)
section
variable {P : Program} {w : World} {K : PySem.W.Frag} {mg : Str → Option Value} {base : Heap} {X : Cx}
variable {σ : L2.St} {H H' : Hp} {ta tb tc te tl : TE} {t : TT} {x y z v : V} {C : Addr} {D : Ends} {tz : TS}
/-! ### PatternList() -/
def spPL (T : Tx K mg) : Sp := fun vs H Q _ => ∃ (p d : Addr), vs = [.ref p] ∧ H p = some (.ins T.cPatternList.C d []) ∧ ∀ wl el, H wl = none → H el = none → wl ≠ el →
  Q .non (upd (upd (upd H wl (.lst [])) el (.lst [])) p (.ins T.cPatternList.C d (hF 0 0 wl el)))
theorem puts4 {f1 f2 f3 f4 : Str} {v1 v2 v3 v4 : V} (h2 : ¬ f1 = f2) (h3 : ¬ f1 = f3) (h4 : ¬ f2 = f3) (h5 : ¬ f1 = f4) (h6 : ¬ f2 = f4) (h7 : ¬ f3 = f4) : putF f4 v4 (putF f3 v3 (putF f2 v2 (putF f1 v1 []))) = [(f1, v1), (f2, v2), (f3, v3), (f4, v4)] := by simp [putF, h2, h3, h4, h5, h6, h7]
theorem ok_PatternList (T : Tx K mg) : FnOk P w K mg base CX0 1 T.cPatternList.f T.cPatternList.fd ["self"] (spPL T) := by
  refine T.cPatternList.F.ok scPatternListInit (fun vs H Q E h => ?_) (fun cdv A outer s H vs Q E hr h => ⟨_, pss_cons (ps_fld (pv 0) pe_int rfl) (pss_cons (ps_fld (pv 0) pe_int rfl) (pss_cons (ps_fld (pv 0) (pe_lst pa_nil) rfl) (pss_one (ps_fld (pv 0) (pe_lst pa_nil) rfl)))), ?_⟩)
  · obtain ⟨p, dx, rfl, _⟩ := h
    rfl
  · obtain ⟨p, dx, rfl, hp, k⟩ := h
    refine ⟨_, rfl, p, T.cPatternList.C, dx, [], rfl, hp, T.cPatternList.cl, T.nPatternList_left, (by show 0 < 1000; decide), ?_⟩
    refine ⟨_, rfl, p, T.cPatternList.C, dx, _, rfl, upd_same, T.cPatternList.cl, T.nPatternList_right, (by show 1 < 1000; decide), ?_⟩
    rw [upd_upd, puts2 (by decide +kernel)]
    refine ⟨(by show 0 ≤ sizeLine; exact Nat.zero_le _), fun wl hwl => ?_⟩
    have hwp : wl ≠ p := fun e => by rw [e, upd_same] at hwl; cases hwl
    rw [upd_ne hwp] at hwl
    refine ⟨_, rfl, p, T.cPatternList.C, dx, _, rfl, by rw [upd_ne (Ne.symm hwp)]; exact upd_same, T.cPatternList.cl, T.nPatternList_words, (by show 2 < 1000; decide), ?_⟩
    refine ⟨(by show 0 ≤ sizeLine; exact Nat.zero_le _), fun el hel => ?_⟩
    have hep : el ≠ p := fun e => by rw [e, upd_same] at hel; cases hel
    rw [upd_ne hep] at hel
    have hew : el ≠ wl := fun e => by rw [e, upd_same] at hel; cases hel
    rw [upd_ne hew, upd_ne hep] at hel
    refine ⟨_, rfl, p, T.cPatternList.C, dx, _, rfl, by rw [upd_ne (Ne.symm hep)]; exact upd_same, T.cPatternList.cl, T.nPatternList_entries, (by show 3 < 1000; decide), ?_⟩
    have hq := k wl el hwl hel (Ne.symm hew)
    show Q .non _
    have e4 : putF ("entries" : Str) (.ref el) (putF "words" (.ref wl) [("left", .int 0), ("right", .int 0)]) = hF 0 0 wl el := by
      have := puts4 (f1 := ("left" : Str)) (f2 := "right") (f3 := "words") (f4 := "entries") (v1 := .int 0) (v2 := .int 0) (v3 := .ref wl) (v4 := .ref el) (by decide +kernel) (by decide +kernel) (by decide +kernel) (by decide +kernel) (by decide +kernel) (by decide +kernel)
      rw [puts2 (by decide +kernel)] at this
      exact this
    rw [e4]
    have eH : upd (upd (upd (upd (upd H p (.ins T.cPatternList.C dx [("left", .int 0), ("right", .int 0)])) wl (.lst [])) p (.ins T.cPatternList.C dx (putF "words" (.ref wl) [("left", .int 0), ("right", .int 0)]))) el (.lst [])) p (.ins T.cPatternList.C dx (hF 0 0 wl el))
        = upd (upd (upd H wl (.lst [])) el (.lst [])) p (.ins T.cPatternList.C dx (hF 0 0 wl el)) := by
      funext b
      by_cases h1 : b = p
      · rw [h1, upd_same, upd_same]
      · rw [upd_ne h1, upd_ne h1]
        by_cases h2 : b = el
        · rw [h2, upd_same, upd_same]
        · rw [upd_ne h2, upd_ne h1, upd_ne h2]
          by_cases h3 : b = wl
          · rw [h3, upd_same, upd_same]
          · rw [upd_ne h3, upd_ne h1, upd_ne h3]
    rw [eH]
    exact hq
theorem eq_PL (T : Tx K mg) : EvQ (tMake T.cPatternList.C (spPL T) [] E0 tNil) σ H (fun H1 u H2 => ∃ h d wl el, u = .ref h ∧ H1 h = none ∧ H1 wl = none ∧ H1 el = none ∧ h ≠ wl ∧ h ≠ el ∧ wl ≠ el ∧ H2 h = some (.ins T.cPatternList.C d (hF 0 0 wl el)) ∧ H2 wl = some (.lst []) ∧ H2 el = some (.lst [])) := fun H1 e Q q x dx nx nd ne =>
  ⟨x, dx, rfl, upd_same, fun wl el hwl hel hne => ⟨rfl, by
    have w1 : wl ≠ x := fun z => by rw [z, upd_same] at hwl; cases hwl
    have w2 : el ≠ x := fun z => by rw [z, upd_same] at hel; cases hel
    rw [upd_ne w1] at hwl
    rw [upd_ne w2] at hel
    have w3 : wl ≠ dx := fun z => by rw [z, upd_same] at hwl; cases hwl
    have w4 : el ≠ dx := fun z => by rw [z, upd_same] at hel; cases hel
    rw [upd_ne w3] at hwl
    rw [upd_ne w4] at hel
    refine q _ _ (fun b o hb => ?_) ⟨x, dx, wl, el, rfl, nx, hwl, hel, Ne.symm w1, Ne.symm w2, hne, upd_same, by rw [upd_ne w1, upd_ne hne, upd_same], by rw [upd_ne w2, upd_same]⟩
    have b1 : b ≠ x := fun z => by rw [z, nx] at hb; cases hb
    have b2 : b ≠ el := fun z => by rw [z, hel] at hb; cases hb
    have b3 : b ≠ wl := fun z => by rw [z, hwl] at hb; cases hb
    have b4 : b ≠ dx := fun z => by rw [z, nd] at hb; cases hb
    rw [upd_ne b1, upd_ne b2, upd_ne b3, upd_ne b1, upd_ne b4]
    exact hb⟩⟩
/-! ### read_list -/
structure HdS (T : Tx K mg) (G M : Hp) (h dh wl el : Addr) (wrefs erefs : List V) (s : Vahypa.Lst) : Prop where
  mh : M h = some (.ins T.cPatternList.C dh (hF s.l s.r wl el))
  mw : M wl = some (.lst wrefs)
  me : M el = some (.lst erefs)
  ne : wl ≠ el
  ws : Rep (fun o (w : Vahypa.Word) => SqL K G o (tx w.x)) wrefs s.words
  ps : Rep (fun o (p : Vahypa.Pat) => EntAt T G o (Vahypd.entryOf p)) erefs s.pats
  ok : ∀ p ∈ s.pats, Mx.OkPat p
  wn : s.words.length ≤ 24
  pn : s.pats.length ≤ 40
theorem HdS.grow {T : Tx K mg} {G G2 M : Hp} {h dh wl el : Addr} {wrefs erefs : List V} {s : Vahypa.Lst} (x : HdS T G M h dh wl el wrefs erefs s) (e : Ex G G2) : HdS T G2 M h dh wl el wrefs erefs s :=
  ⟨x.mh, x.mw, x.me, x.ne, x.ws.mono fun _ _ q => ex_l e q, x.ps.mono fun _ _ q => q.mono e, x.ok, x.wn, x.pn⟩
def spReadList (T : Tx K mg) : Sp := fun vs H Q E => ∃ (a : Addr) (b : Bytes), vs = [.ref a] ∧ SqL K H a (tx b) ∧ match Vahypa.read b with
  | .error f => FE T E H f.code f.place
  | .ok s => ∀ h dh wl el wrefs erefs G2 M2, Ex H G2 → Apart G2 M2 → H h = none → H wl = none → H el = none → HdS T G2 M2 h dh wl el wrefs erefs s → Q (.ref h) (over G2 M2)
theorem stands_by {T : Tx K mg} {G M : Hp} {r tl dr : Addr} {all : Toks} {i : Nat} {tk : PTok} {z : Str} {bs : Bytes} {te tz : TE} (hR : RdS T G M r tl dr all i) (hi : all[i]? = some tk) (hz : z.cps.size ≤ 1000) (hc : codes z = tx bs) (h0 : ∀ H1, Ex (over G M) H1 → Ev te σ H1 (.ref r)) (h1 : ∀ H1, Ex (over G M) H1 → Ev tz σ H1 (.str z)) :
    EvT (tB (tMeth T.cTokenReader.C "stands" (spStands T) [] E0 te (tCons tz tNil))) σ (over G M) (Mx.chunkOf tk.tok == bs) := et_B fun H1 e1 Q1 q1 =>
  t_meth (a := r) (h0 H1 e1) (e1 _ _ (over_m hR.rd)) (by rfl) (ea_cons (h1 H1 e1) ea_nil) fun H2 e2 =>
    ⟨r, tl, dr, i, all, tk, z, bs, rfl, (e1.trans e2) _ _ (over_m hR.rd), hR.tk.mono ((ex_over hR.ap).trans (e1.trans e2)), hi, hz, hc, fun H3 e3 => q1 H3 (e2.trans e3)⟩
theorem stands_kw {tk : PTok} {s : String} (h : 2 ≤ (VahypBase.word s).length) {r : Toks} : (Mx.chunkOf tk.tok == VahypBase.word s) = VahypBase.nextWord s (tk :: r) := by
  rw [Bool.eq_iff_iff, chunk_is h]
  exact Mx.nextWord_iff.symm
theorem h_ne_l {M : Hp} {h l C d wl el : Addr} {a z : Nat} {xs : List V} (h1 : M h = some (.ins C d (hF a z wl el))) (h2 : M l = some (.lst xs)) : l ≠ h := fun e => by
  rw [e, h1] at h2
  cases h2
theorem ok_read_list (T : Tx K mg) : FnOk P w K mg base (L2.CX P w) 6 T.read_list.f T.read_list.fd ["text"] (spReadList T) := by
  have GT : FnOk P w K mg base (L2.CX P w) 5 _ _ _ _ := (ok_take T).mono (by decide)
  have GR : FnOk P w K mg base (L2.CX P w) 5 _ _ _ _ := ok_read_tokens T
  have GI : FnOk P w K mg base CX0 4 _ _ _ _ := (ok_TokenReader T).mono (by decide)
  have GP : FnOk P w K mg base CX0 4 _ _ _ _ := (ok_PatternList T).mono (by decide)
  have GM : FnOk P w K mg base (L2.CX P w) 5 _ _ _ _ := (ok_read_margins T).mono (by decide)
  have GS : FnOk P w K mg base CX0 5 _ _ _ _ := (ok_stands_r T).mono (by decide)
  have GW : FnOk P w K mg base (L2.CX P w) 5 _ _ _ _ := ok_read_word T
  have GN : FnOk P w K mg base (L2.CX P w) 5 _ _ _ _ := ok_read_pattern T
  refine T.read_list.F.okX scReadList (fun vs H Q E h => ?_) (fun cdv A outer s H vs Q E hr h => ⟨_,
    pss_cons (ps_if (pt_cmpR op_gt (pe_len T.b_len (pv 0)) (pe_k T.k_LONGEST_TEXT) (nomark _)) (pss_one (ps_raiseFlt rfl T.flt hr (takes_of rfl rfl rfl rfl) (pa_cons (pe_k T.k_TEXT_TOO_LONG) (pa_cons (pe_k T.k_LONGEST_TEXT) pa_nil)))) pss_nil)
    (pss_cons (ps_set (i := 1) scReadList.nd rfl (.inl rfl) (pe_make T.cTokenReader.mkc GI hr rfl T.cTokenReader.m (bdTokenReaderInit T.cTokenReader.F) .nil pass0 (pa_cons (pe_fn T.read_tokens GR hr (bdReadTokens T.read_tokens.F) (passes_call (takes_of rfl rfl rfl rfl) (fun _ _ _ _ h => h)) (pa_cons (pv 0) pa_nil)) pa_nil)))
    (pss_cons (ps_set (i := 2) scReadList.nd rfl (.inl rfl) (pe_make0 T.cPatternList.mkc GP hr rfl T.cPatternList.m (bdPatternListInit T.cPatternList.F) .nil pass0))
    (pss_cons (ps_expr (pe_fn T.read_margins GM hr (bdReadMargins T.read_margins.F) (passes_call (takes_of rfl rfl rfl rfl) (fun _ _ _ _ h => h)) (pa_cons (pv 1) (pa_cons (pv 2) pa_nil))))
    (pss_cons (ps_while (passes_of rfl) (pt_val (pe_meth (pv 1) T.cTokenReader.cl T.mTokenReader_stands.M GS hr (bdTokenReaderStands T.mTokenReader_stands.F) .nil pass0 (pa_cons pe_str pa_nil)))
      (pss_one (ps_expr (pe_fn T.read_word GW hr (bdReadWord T.read_word.F) (passes_call (takes_of rfl rfl rfl rfl) (fun _ _ _ _ h => h)) (pa_cons (pv 1) (pa_cons (pv 2) pa_nil))))))
    (pss_cons (ps_while (passes_of rfl) (pt_val (pe_meth (pv 1) T.cTokenReader.cl T.mTokenReader_stands.M GS hr (bdTokenReaderStands T.mTokenReader_stands.F) .nil pass0 (pa_cons pe_str pa_nil)))
      (pss_one (ps_expr (pe_fn T.read_pattern GN hr (bdReadPattern T.read_pattern.F) (passes_call (takes_of rfl rfl rfl rfl) (fun _ _ _ _ h => h)) (pa_cons (pv 1) (pa_cons (pv 2) pa_nil))))))
    (pss_cons (ps_expr (pe_meth (pv 1) T.cTokenReader.cl T.mTokenReader_take.M GT hr (bdTokenReaderTake T.mTokenReader_take.F) .nil (passes_call (takes_of rfl rfl rfl rfl) (fun _ _ _ _ h => h)) (pa_cons (pe_k T.k_END) pa_nil)))
    (pss_one (ps_ret (pv 2))))))))), ?_⟩)
  · obtain ⟨a, b, rfl, _⟩ := h
    rfl
  obtain ⟨a, b, rfl, hS, k⟩ := h
  rw [Mx.read_eq, Mx.tokens_eq] at k
  refine q_when (b := decide (4096 < b.length)) (et_is (et_test (ev_op (ev_lenX (ev_var rfl) hS) ev_c rv_I0)) ?_) (fun hs H1 e1 => ?_) (fun hs H1 e1 => ?_)
  · rw [Bool.eq_iff_iff]
    simp only [decide_eq_true_eq]
    omega
  · rw [if_pos (of_decide_eq_true hs)] at k
    exact s_raise (ea_cons ev_c (ea_cons ev_c ea_nil)) fun d H5 _ e5 h5 => k d H5 (e1.trans e5) h5
  have h4096 := of_decide_eq_false hs
  rw [if_neg h4096] at k
  refine t_fn (ea_cons (ev_var rfl) ea_nil) fun H2 e2 => ⟨a, b, rfl, ex_l (e1.trans e2) hS, by omega, ?_⟩
  cases hL : Mx.L b 0 with
  | error f =>
    rw [hL] at k
    exact FE.go k (e1.trans e2)
  | ok all =>
    intro tl H3 htl e3 hT
    have hWf := Mx.tokens_wf (t := b) (l := all) (by rw [Mx.tokens_eq, if_neg h4096]; exact hL)
    rw [hL] at k
    have k : match (Mx.rmargins all).bind fun x => (Mx.TW [] x.2.2).bind fun ws => (Mx.TP [] ws.2).map fun ps => (⟨x.1, x.2.1, ws.1, ps⟩ : Vahypa.Lst) with
      | .error f => FE T E H f.code f.place
      | .ok s => ∀ h dh wl el wrefs erefs G2 M2, Ex H G2 → Apart G2 M2 → H h = none → H wl = none → H el = none → HdS T G2 M2 h dh wl el wrefs erefs s → Q (.ref h) (over G2 M2) := k
    refine ea_nil H3 (Ex.refl _) _ fun H3b e3b => ?_
    replace e3 := e3.trans e3b
    replace hT := hT.mono e3b
    clear htl
    clear e3b
    have e123 := (e1.trans e2).trans e3
    refine mk_fin (n := 1) (vs := [.ref tl]) rfl fun r dr H4 hr4 e4 h4 => ?_
    have hrH : H r = none := fresh_back e123 hr4
    refine q_asgQ (D := { nx := fun _ H' => Q .non H', rt := Q }) (eq_PL T) fun u H5 e5 ⟨h, dh, wl, el, hu, hh, hwl, hel, n1, n2, n3, h5, h6, h7⟩ => ?_
    subst hu
    have e14 := e123.trans e4
    have hr5 := e5 _ _ h4
    -- the four things that change are taken out
    obtain ⟨G1, a1, g1, E1⟩ := over_take (G := H3b) (M := noHp) (l := r) (o := .ins T.cTokenReader.C dr (rF tl 0)) apart_no (by rw [over_no]; exact e4.trans e5) (by rw [over_no]; exact hr4) hr5
    have hne : ∀ b', H4 b' = none → b' ≠ r := fun b' hb z => by rw [z, h4] at hb; cases hb
    have taken : ∀ (G M : Hp) (l : Addr) (o : HO), Apart G M → M l = none → H5 = over G M → H5 l = some o → H3b l = none → Ex H3b G → ∃ G', Apart G' (upd M l o) ∧ Ex H3b G' ∧ H5 = over G' (upd M l o) := fun G M l o ap hml E hlo hl3 eG => by
      refine ⟨fun b => if b = l then none else G b, fun c u hc => ?_, fun c u hc => ?_, ?_⟩
      · by_cases z : c = l
        · exact if_pos z
        · show (if c = l then none else G c) = none
          rw [if_neg z]
          rw [upd_ne z] at hc
          exact ap c u hc
      · have z : c ≠ l := fun z => by rw [z, hl3] at hc; cases hc
        show (if c = l then none else G c) = some u
        rw [if_neg z]
        exact eG c u hc
      · rw [E]
        funext c
        by_cases z : c = l
        · rw [z, over_m upd_same, ← E, hlo]
        · cases hm : M c with
          | some u => rw [over_m hm, over_m (by rw [upd_ne z]; exact hm)]
          | none => rw [over_g hm, over_g (by rw [upd_ne z]; exact hm), if_neg z]
    have f3 : ∀ b', H4 b' = none → H3b b' = none := fun b' hb => fresh_back e4 hb
    have fH : ∀ b', H4 b' = none → H b' = none := fun b' hb => fresh_back e14 hb
    obtain ⟨G2, a2, g2, E2⟩ := taken G1 _ h _ a1 (by rw [upd_ne (hne h hh)]; rfl) E1 h5 (f3 h hh) g1
    obtain ⟨G3, a3, g3, E3⟩ := taken G2 _ wl _ a2 (by rw [upd_ne (Ne.symm n1), upd_ne (hne wl hwl)]; rfl) E2 h6 (f3 wl hwl) g2
    obtain ⟨G4, a4, g4, E4⟩ := taken G3 _ el _ a3 (by rw [upd_ne (Ne.symm n3), upd_ne (Ne.symm n2), upd_ne (hne el hel)]; rfl) E3 h7 (f3 el hel) g3
    obtain ⟨M4, hM4⟩ : ∃ M4, M4 = upd (upd (upd (upd noHp r (HO.ins T.cTokenReader.C dr (rF tl 0))) h (HO.ins T.cPatternList.C dh (hF 0 0 wl el))) wl (HO.lst [])) el (HO.lst []) := ⟨_, rfl⟩
    have m1 : M4 r = some (.ins T.cTokenReader.C dr (rF tl 0)) := by rw [hM4, upd_ne (Ne.symm (hne el hel)), upd_ne (Ne.symm (hne wl hwl)), upd_ne (Ne.symm (hne h hh)), upd_same]
    have m2 : M4 h = some (.ins T.cPatternList.C dh (hF 0 0 wl el)) := by rw [hM4, upd_ne n2, upd_ne n1, upd_same]
    have m3 : M4 wl = some (.lst []) := by rw [hM4, upd_ne n3, upd_same]
    have m4 : M4 el = some (.lst []) := by rw [hM4, upd_same]
    rw [← hM4] at a4 E4
    clear hM4 E1 E2 E3 a1 a2 a3
    subst E4
    have hHG : Ex H G4 := e123.trans g4
    have hR4 : RdS T G4 M4 r tl dr all 0 := ⟨a4, m1, hT.mono g4⟩
    have nrh := r_ne_h m1 m2
    have nrw := r_ne_l m1 m3
    have nre := r_ne_l m1 m4
    have hWf0 : Mx.Wf (all.drop 0) := by rw [List.drop_zero]; exact hWf
    -- read_margins
    refine t_fn (vs := [.ref r, .ref h]) (ea_cons (ev_var rfl) (ea_cons (ev_var rfl) ea_nil)) fun H6 e6 => ?_
    obtain ⟨G6, a6, g6, rfl⟩ := over_split a4 e6
    refine ⟨r, tl, dr, h, dh, wl, el, 0, 0, 0, all, G6, M4, rfl, rfl, hR4.grow g6 a6, hWf0, m2, ?_⟩
    rw [List.drop_zero]
    cases hm : Mx.rmargins all with
    | error f =>
      rw [hm] at k
      exact FE.go k (hHG.trans g6)
    | ok x =>
      rw [hm] at k
      intro j G7 M7 e7 hx hWx hR7 hH7 hfr
      have k : match (Mx.TW [] x.2.2).bind fun ws => (Mx.TP [] ws.2).map fun ps => (⟨x.1, x.2.1, ws.1, ps⟩ : Vahypa.Lst) with
        | .error f => FE T E H f.code f.place
        | .ok s => ∀ h dh wl el wrefs erefs G2 M2, Ex H G2 → Apart G2 M2 → H h = none → H wl = none → H el = none → HdS T G2 M2 h dh wl el wrefs erefs s → Q (.ref h) (over G2 M2) := k
      have hw7 : M7 wl = some (.lst []) := by rw [hfr wl nrw (Ne.symm n1)]; exact m3
      have he7 : M7 el = some (.lst []) := by rw [hfr el nre (Ne.symm n2)]; exact m4
      rw [hx] at hWx
      refine q_while (D := { nx := fun _ H' => Q .non H', rt := Q }) (fun m σ' H' => ∃ (i : Nat) (ws : List Vahypa.Word) (wrefs : List V) (G M : Hp), σ' = [some (.ref a), some (.ref r), some (.ref h)] ∧ H' = over G M ∧ RdS T G M r tl dr all i ∧ Mx.Wf (all.drop i) ∧ M h = some (.ins T.cPatternList.C dh (hF x.1 x.2.1 wl el)) ∧ M wl = some (.lst wrefs) ∧ M el = some (.lst []) ∧
        Rep (fun o (w : Vahypa.Word) => SqL K G o (tx w.x)) wrefs ws ∧ ws.length ≤ 24 ∧ Ex H G ∧ Mx.TW [] x.2.2 = Mx.TW ws (all.drop i) ∧ m = (all.drop i).length) (all.drop j).length ⟨j, [], [], G7, M7, rfl, rfl, hR7, hWx, hH7, hw7, he7, Rep.nil, Nat.zero_le _, (hHG.trans g6).trans e7, by rw [hx], rfl⟩ ?_
      rintro m σ' H' ⟨i, ws, wrefs, G, M, rfl, rfl, hR, hW, hH, hwm, hem, hRep, hlen, eG, hTW, rfl⟩
      obtain ⟨tk, hi⟩ := hW.head
      have hdr := Mx.drop_tok hi
      have hst := stands_by (σ := [some (.ref a), some (.ref r), some (.ref h)]) (te := tVar 1) (tz := tC (.str (PySem.Str.ofString "word"))) hR hi (by decide) word_word (fun _ _ => ev_var rfl) (fun _ _ => ev_c)
      rw [stands_kw (by decide) (r := all.drop (i + 1)), ← hdr] at hst
      refine ⟨_, hst, fun hnw H8 e8 => ?_, fun hnw H8 e8 => ?_⟩
      · obtain ⟨G8, a8, g8, rfl⟩ := over_split hR.ap e8
        refine ⟨fun σ2 H2 => ∃ m', m' < (all.drop i).length ∧ ∃ (i : Nat) (ws : List Vahypa.Word) (wrefs : List V) (G M : Hp), σ2 = [some (.ref a), some (.ref r), some (.ref h)] ∧ H2 = over G M ∧ RdS T G M r tl dr all i ∧ Mx.Wf (all.drop i) ∧ M h = some (.ins T.cPatternList.C dh (hF x.1 x.2.1 wl el)) ∧ M wl = some (.lst wrefs) ∧ M el = some (.lst []) ∧
          Rep (fun o (w : Vahypa.Word) => SqL K G o (tx w.x)) wrefs ws ∧ ws.length ≤ 24 ∧ Ex H G ∧ Mx.TW [] x.2.2 = Mx.TW ws (all.drop i) ∧ m' = (all.drop i).length, fun _ _ z => z, ?_⟩
        refine t_fn (vs := [.ref r, .ref h]) (ea_cons (ev_var rfl) (ea_cons (ev_var rfl) ea_nil)) fun H9 e9 => ?_
        obtain ⟨G9, a9, g9, rfl⟩ := over_split a8 e9
        have g89 := g8.trans g9
        refine ⟨r, tl, dr, h, dh, wl, el, i, x.1, x.2.1, all, ws, wrefs, G9, M, rfl, rfl, hR.grow g89 a9, hW, hH, hwm, hRep.mono fun _ _ q => ex_l g89 q, hlen, hnw, ?_⟩
        rw [Mx.TW_yes hnw] at hTW
        cases hs : Mx.wstep ws (all.drop i) with
        | error f =>
          rw [hTW, hs] at k
          exact FE.go k (eG.trans g89)
        | ok y =>
          intro j2 G10 M10 wrefs2 e10 hy hWy hyl hR10 hw10 hRep10 hfr10
          have hlt := Mx.wstep_len hs
          rw [hs] at hTW
          rw [hy] at hlt hWy
          have h24 : ws.length < 24 := by
            rcases Nat.lt_or_ge ws.length 24 with z | z
            · exact z
            · unfold Mx.wstep at hs
              rw [if_pos (show Vahypa.WORDS ≤ ws.length from z)] at hs
              cases hs
          refine ⟨_, hlt, j2, y.1, wrefs2, G10, M10, rfl, rfl, hR10, hWy, ?_, hw10, ?_, hRep10, by omega, (eG.trans g89).trans e10, ?_, rfl⟩
          · rw [hfr10 h nrh n1]; exact hH
          · rw [hfr10 el nre (Ne.symm n3)]; exact hem
          · rw [hTW, ← hy]
            rfl
      · obtain ⟨G8, a8, g8, rfl⟩ := over_split hR.ap e8
        have hnw' : VahypBase.nextWord "word" (all.drop i) = false := hnw
        rw [hTW, Mx.TW_no hnw'] at k
        have k : match (Mx.TP [] (all.drop i)).map fun ps => (⟨x.1, x.2.1, ws, ps⟩ : Vahypa.Lst) with
          | .error f => FE T E H f.code f.place
          | .ok s => ∀ h dh wl el wrefs erefs G2 M2, Ex H G2 → Apart G2 M2 → H h = none → H wl = none → H el = none → HdS T G2 M2 h dh wl el wrefs erefs s → Q (.ref h) (over G2 M2) := k
        refine q_while (D := { nx := fun _ H' => Q .non H', rt := Q }) (fun m σ' H' => ∃ (i2 : Nat) (ps : List Vahypa.Pat) (erefs : List V) (G M : Hp), σ' = [some (.ref a), some (.ref r), some (.ref h)] ∧ H' = over G M ∧ RdS T G M r tl dr all i2 ∧ Mx.Wf (all.drop i2) ∧ M h = some (.ins T.cPatternList.C dh (hF x.1 x.2.1 wl el)) ∧ M wl = some (.lst wrefs) ∧ M el = some (.lst erefs) ∧
          Rep (fun o (w : Vahypa.Word) => SqL K G o (tx w.x)) wrefs ws ∧ Rep (fun o (p : Vahypa.Pat) => EntAt T G o (Vahypd.entryOf p)) erefs ps ∧ (∀ p ∈ ps, Mx.OkPat p) ∧ ps.length ≤ 40 ∧ Ex H G ∧ Mx.TP [] (all.drop i) = Mx.TP ps (all.drop i2) ∧ m = (all.drop i2).length) (all.drop i).length
          ⟨i, [], [], G8, M, rfl, rfl, hR.grow g8 a8, hW, hH, hwm, hem, hRep.mono fun _ _ q => ex_l g8 q, Rep.nil, (fun p hp => nomatch hp), Nat.zero_le _, eG.trans g8, rfl, rfl⟩ ?_
        clear hR hW hH hwm hem hRep hst hdr hi a8 g8 e8 eG
        rintro m σ' H' ⟨i2, ps, erefs, G, M, rfl, rfl, hR, hW, hH, hwm, hem, hRep, hRepE, hok, hlenE, eG, hTP, rfl⟩
        obtain ⟨tk, hi⟩ := hW.head
        have hdr := Mx.drop_tok hi
        have hst := stands_by (σ := [some (.ref a), some (.ref r), some (.ref h)]) (te := tVar 1) (tz := tC (.str (PySem.Str.ofString "pattern"))) hR hi (by decide) word_pattern (fun _ _ => ev_var rfl) (fun _ _ => ev_c)
        rw [stands_kw (by decide) (r := all.drop (i2 + 1)), ← hdr] at hst
        refine ⟨_, hst, fun hnp H8 e8 => ?_, fun hnp H8 e8 => ?_⟩
        · obtain ⟨G8, a8, g8, rfl⟩ := over_split hR.ap e8
          refine ⟨fun σ2 H2 => ∃ m', m' < (all.drop i2).length ∧ ∃ (i2 : Nat) (ps : List Vahypa.Pat) (erefs : List V) (G M : Hp), σ2 = [some (.ref a), some (.ref r), some (.ref h)] ∧ H2 = over G M ∧ RdS T G M r tl dr all i2 ∧ Mx.Wf (all.drop i2) ∧ M h = some (.ins T.cPatternList.C dh (hF x.1 x.2.1 wl el)) ∧ M wl = some (.lst wrefs) ∧ M el = some (.lst erefs) ∧
            Rep (fun o (w : Vahypa.Word) => SqL K G o (tx w.x)) wrefs ws ∧ Rep (fun o (p : Vahypa.Pat) => EntAt T G o (Vahypd.entryOf p)) erefs ps ∧ (∀ p ∈ ps, Mx.OkPat p) ∧ ps.length ≤ 40 ∧ Ex H G ∧ Mx.TP [] (all.drop i) = Mx.TP ps (all.drop i2) ∧ m' = (all.drop i2).length, fun _ _ z => z, ?_⟩
          refine t_fn (vs := [.ref r, .ref h]) (ea_cons (ev_var rfl) (ea_cons (ev_var rfl) ea_nil)) fun H9 e9 => ?_
          obtain ⟨G9, a9, g9, rfl⟩ := over_split a8 e9
          have g89 := g8.trans g9
          refine ⟨r, tl, dr, h, dh, wl, el, i2, x.1, x.2.1, all, ps, erefs, G9, M, rfl, rfl, hR.grow g89 a9, hW, hH, hem, hRepE.mono fun _ _ q => q.mono g89, hok, hlenE, hnp, ?_⟩
          rw [Mx.TP_yes hW hnp] at hTP
          cases hs : Mx.pstep ps (all.drop i2) with
          | error f =>
            rw [hTP, hs] at k
            exact FE.go k (eG.trans g89)
          | ok y =>
            intro j2 G10 M10 erefs2 e10 hy hWy hyl hok10 hR10 he10 hRep10 hfr10
            have hlt := Mx.pstep_len hs
            rw [hs] at hTP
            rw [hy] at hlt hWy
            have h40 : ps.length < 40 := by
              rcases Nat.lt_or_ge ps.length 40 with z | z
              · exact z
              · unfold Mx.pstep at hs
                rw [if_pos (show Vahypa.PATS ≤ ps.length from z)] at hs
                cases hs
            refine ⟨_, hlt, j2, y.1, erefs2, G10, M10, rfl, rfl, hR10, hWy, ?_, ?_, he10, hRep.mono fun _ _ q => ex_l (g89.trans e10) q, hRep10, hok10, by omega, (eG.trans g89).trans e10, ?_, rfl⟩
            · rw [hfr10 h nrh n2]; exact hH
            · rw [hfr10 wl nrw n3]; exact hwm
            · rw [hTP, ← hy]
              rfl
        · obtain ⟨G8, a8, g8, rfl⟩ := over_split hR.ap e8
          have hR8 := hR.grow g8 a8
          have hnp' : VahypBase.nextWord "pattern" (all.drop i2) = false := hnp
          refine take_by (k := "end") hR8 hi (.inr (.inr rfl)) (fun _ _ => ev_var rfl) (fun _ _ => ev_c) (fun hc o G9 e9 _ hR9 => ?_) (fun hn => ?_)
          · have hc := Mx.kind_last hc
            rw [hTP, hdr, Mx.TP_last hc] at k
            refine s_ret (D := { nx := fun _ H' => Q .non H', rt := Q }) (ev_var (v := .ref h) rfl) fun H10 e10 => ?_
            obtain ⟨G10, a10, g10, rfl⟩ := over_split hR9.ap e10
            have gAll := (g8.trans e9).trans g10
            refine k h dh wl el wrefs erefs G10 _ (eG.trans gAll) a10 (fH h hh) (fH wl hwl) (fH el hel) ⟨?_, ?_, ?_, n3, hRep.mono fun _ _ q => ex_l gAll q, hRepE.mono fun _ _ q => q.mono gAll, hok, hlen, hlenE⟩
            · unfold bump; rw [upd_ne nrh]; exact hH
            · unfold bump; rw [upd_ne nrw]; exact hwm
            · unfold bump; rw [upd_ne nre]; exact hem
          · have hn' : tk.tok ≠ .last := fun z => hn (by rw [z]; rfl)
            rw [hdr] at hnp'
            rw [hTP, hdr, Mx.TP_no hn' hnp'] at k
            exact FE.go k (eG.trans g8)
end
end Pt
set_option Elab.async false
set_option linter.all false
set_option maxRecDepth 100000
set_option maxHeartbeats 2000000
/-! ## dicts whose keys are nested tuples -/
namespace Pt
open PySem PySem.Spec PyProof.Rows L2 Evl
mutual
/-- a value of the heap is such a key -/
inductive NkV (K : PySem.W.Frag) (H : Hp) : V → NestedKey → Prop
  | non : NkV K H .non .none
  | int (i : Int) : NkV K H (.int i) (.num i)
  | tup {a : Addr} {xs : List V} {ks : List NestedKey} : SqT K H a xs → NkAll K H xs ks → NkV K H (.ref a) (.tup ks)
inductive NkAll (K : PySem.W.Frag) (H : Hp) : List V → List NestedKey → Prop
  | nil : NkAll K H [] []
  | cons {v : V} {vs : List V} {k : NestedKey} {ks : List NestedKey} : NkV K H v k → NkAll K H vs ks → NkAll K H (v :: vs) (k :: ks)
end
section
variable {K : PySem.W.Frag} {H H' : Hp}
mutual
theorem NkV.mono (e : Ex H H') : ∀ {v : V} {k : NestedKey}, NkV K H v k → NkV K H' v k
  | _, _, .non => .non
  | _, _, .int i => .int i
  | _, _, .tup h r => .tup (ex_t e h) (NkAll.mono e r)
theorem NkAll.mono (e : Ex H H') : ∀ {vs : List V} {ks : List NestedKey}, NkAll K H vs ks → NkAll K H' vs ks
  | _, _, .nil => .nil
  | _, _, .cons h r => .cons (NkV.mono e h) (NkAll.mono e r)
end
end
section
variable {X : Cx} {pins : List (Addr × Obj)} {σ : L2.St} {H : Hp} {s : Shared}
mutual
theorem NkV.is (I : Inv X pins σ H s) : ∀ {v : V} {k : NestedKey} {u : Value}, NkV X.K H v k → RelV v u → NestedIs s.heap k u
  | _, _, _, .non, r => by
    cases r
    exact .none
  | _, _, _, .int i, r => by
    obtain ⟨t, rfl⟩ := r
    exact .int i t
  | _, _, _, .tup h q, r => by
    cases r
    obtain ⟨its, rv, ⟨o, ho, hc, n, hd⟩, _⟩ := I.tuple h
    exact .tup ho hc hd (NkAll.is I q (by simpa using rv))
theorem NkAll.is (I : Inv X pins σ H s) : ∀ {vs : List V} {ks : List NestedKey} {us : List Value}, NkAll X.K H vs ks → Vals vs us → NestedAll s.heap ks us
  | _, _, _, .nil, r => by
    cases r
    exact .nil
  | _, _, _, .cons h q, r => by
    cases r with
    | cons r1 r2 => exact .cons (NkV.is I h r1) (NkAll.is I q r2)
end
end
abbrev NE := NestedKey × Addr × V
def NRel : NE → NestedKey × Addr × Value → Prop := fun p q => p.1 = q.1 ∧ p.2.1 = q.2.1 ∧ RelV p.2.2 q.2.2
def dNp (P : Program) (w : World) (d : Addr) (xs : List NE) (h : Heap) : Prop := xs.length ≤ sizeLine ∧ (d == sysModules) = false ∧ (xs.map (·.1)).Nodup ∧ ∃ (ys : List (NestedKey × Addr × Value)), Paired NRel xs ys ∧
  ∃ o es ep, h.get? d = some o ∧ o.ExactDict ∧ o.data = .dict es ep ∧ es.toList = ys.map (entryOfKey (nestedKind P w))
/-- at d: such a dict, its keys' places and values in their order -/
def dN (P : Program) (w : World) (d : Addr) (xs : List NE) : HO := .ext (dNp P w d xs)
def KeysIn (K : PySem.W.Frag) (H : Hp) (xs : List NE) : Prop := ∀ x ∈ xs, NkV K H (.ref x.2.1) x.1 ∧ x.1.depth ≤ 8
theorem KeysIn.mono {K : PySem.W.Frag} {H H' : Hp} {xs : List NE} (h : KeysIn K H xs) (e : Ex H H') : KeysIn K H' xs := fun x hx => ⟨(h x hx).1.mono e, (h x hx).2⟩
theorem dN_ok {P : Program} {w : World} {H : Hp} {h : Heap} {d : Addr} {xs : List NE} (x : dNp P w d xs h) : ObjOk P w H h d (dN P w d xs) := by
  obtain ⟨h1, h2, h3, ys, h4, o, es, ep, h5, h6⟩ := x
  refine ⟨⟨h1, h2, h3, ys, h4, o, es, ep, h5, h6⟩, ⟨o, h5⟩, fun g1 g2 z k => ?_⟩
  obtain ⟨h1, h2, h3, ys, h4, o, es, ep, h5, h6⟩ := z
  exact ⟨h1, h2, h3, ys, h4, o, es, ep, k _ h5, h6⟩
theorem NRel.map {xs : List NE} {ys : List (NestedKey × Addr × Value)} (r : Paired NRel xs ys) : ys.map (·.1) = xs.map (·.1) := by
  induction r with
  | nil => rfl
  | cons h _ ih => rw [List.map_cons, List.map_cons, ih, h.1]
theorem NRel.snoc {xs : List NE} {ys : List (NestedKey × Addr × Value)} {x : NE} {y : NestedKey × Addr × Value} (r : Paired NRel xs ys) (h : NRel x y) : Paired NRel (xs ++ [x]) (ys ++ [y]) := by
  induction r with
  | nil => exact .cons h .nil
  | cons h _ ih => exact .cons h ih
theorem NRel.same {xs : List NE} {ys : List (NestedKey × Addr × Value)} {k : NestedKey} {b : Addr} {v : V} {u : Value} (r : Paired NRel xs ys) (hn : (xs.map (·.1)).Nodup) (h : (k, b, v) ∈ xs) (hv : RelV v u) : Paired NRel xs (ys.map (putAt k u)) := by
  have no : ∀ {xs : List NE} {ys : List (NestedKey × Addr × Value)}, Paired NRel xs ys → k ∉ xs.map (·.1) → ys.map (putAt k u) = ys := by
    intro xs ys r hk
    induction r with
    | nil => rfl
    | @cons p q _ _ hq _ ih =>
      rw [List.map_cons, List.mem_cons, not_or] at hk
      rw [List.map_cons, ih hk.2]
      congr 1
      unfold putAt
      rw [if_neg (fun e => hk.1 (by rw [hq.1, e]))]
  induction r with
  | nil => cases h
  | @cons p q l1 l2 hq r ih =>
    obtain ⟨h1, h2⟩ := List.nodup_cons.mp hn
    rw [List.map_cons]
    rcases List.mem_cons.mp h with e | e
    · subst e
      rw [no r h1]
      refine .cons ?_ r
      unfold putAt
      have e : q.1 = k := hq.1.symm
      rw [if_pos e]
      first | exact ⟨e.symm, hq.2.1, hv⟩ | exact ⟨rfl, hq.2.1, hv⟩ | exact ⟨hq.1, hq.2.1, hv⟩
    · refine .cons ?_ (ih h2 e)
      unfold putAt
      rw [if_neg]
      · exact hq
      · intro z
        exact h1 (List.mem_map.mpr ⟨_, e, by show k = p.1; exact z.symm.trans hq.1.symm⟩)
theorem NRel.at_ {k : NestedKey} {xs : List NE} {ys : List (NestedKey × Addr × Value)} (r : Paired NRel xs ys) : (atKey ys k).isSome = xs.any fun x => decide (x.1 = k) := by
  induction r with
  | nil => rfl
  | @cons p q _ _ h _ ih =>
    rw [List.any_cons, ← ih]
    unfold atKey
    by_cases e : q.1 = k
    · rw [decide_eq_true (h.1.trans e)]
      simp [e]
    · rw [decide_eq_false (fun z => e (h.1.symm.trans z))]
      simp [e]
theorem NRel.get {k : NestedKey} {xs : List NE} {ys : List (NestedKey × Addr × Value)} {i : V} {a : Addr} (r : Paired NRel xs ys) (hn : (xs.map (·.1)).Nodup) (h : (k, a, i) ∈ xs) : ∃ p, atKey ys k = some p ∧ RelV i p.2 := by
  induction r with
  | nil => cases h
  | @cons p q l1 l2 hq r ih =>
    have hn' : p.1 ∉ l1.map (·.1) ∧ (l1.map (·.1)).Nodup := List.nodup_cons.mp hn
    unfold atKey
    by_cases e : q.1 = k
    · rcases List.mem_cons.mp h with z | z
      · subst z
        exact ⟨q.2, by simp [e], hq.2.2⟩
      · exact absurd (List.mem_map.mpr ⟨_, z, by rw [hq.1, e]⟩) hn'.1
    · rcases List.mem_cons.mp h with z | z
      · subst z
        exact absurd hq.1.symm e
      · obtain ⟨p', h1, h2⟩ := ih hn'.2 z
        refine ⟨p', ?_, h2⟩
        rw [List.find?_cons_of_neg (by simpa using e)]
        exact h1
section
variable {X : Cx} {pins : List (Addr × Obj)} {σ : L2.St} {H : Hp} {s : Shared} {d a : Addr} {xs : List NE} {k : NestedKey} {A : Around} {E : Value → Shared → Prop}
theorem dN_of (I : Inv X pins σ H s) (e : H d = some (dN X.prog X.w d xs)) (hk : KeysIn X.K H xs) : ∃ ys, Paired NRel xs ys ∧ s.heap.DictOfH (nestedKind X.prog X.w) d ys ∧ (d == sysModules) = false ∧ xs.length ≤ sizeLine ∧ (xs.map (·.1)).Nodup := by
  have x : ObjOk X.prog X.w H s.heap d (.ext (dNp X.prog X.w d xs)) := I.hok d _ e
  obtain ⟨h1, h2, h3, ys, h4, o, es, ep, h5, h6, h7, h8⟩ := x.1
  refine ⟨ys, h4, ⟨o, es, ep, h5, h6, h7, h8, fun y hy => ?_, by rw [NRel.map h4]; exact h3⟩, h2, h1, h3⟩
  have : ∀ {xs : List NE} {ys : List (NestedKey × Addr × Value)}, Paired NRel xs ys → KeysIn X.K H xs → y ∈ ys → (nestedKind X.prog X.w).is s.heap y.1 y.2.1 := by
    intro xs ys r hk hy
    induction r with
    | nil => cases hy
    | @cons p q _ _ hq r ih =>
      rcases List.mem_cons.mp hy with z | z
      · subst z
        obtain ⟨h1, h2⟩ := hk p (List.mem_cons_self ..)
        rw [← hq.1, ← hq.2.1]
        exact ⟨h1.is I rfl, h2⟩
      · exact ih (fun x hx => hk x (List.mem_cons_of_mem _ hx)) z
  exact this h4 hk hy
theorem nk_room (hu : A.units + 9 < cLine) : (nestedKind X.prog X.w).room A.in1 := by show A.units + 1 + 8 < cLine; omega
/-- y not in d -/
def rNotInN (K : PySem.W.Frag) (P : Program) (w : World) : R2 := fun x y H Q => ∃ a d xs k, x = .ref a ∧ y = .ref d ∧ H d = some (dN P w d xs) ∧ KeysIn K H xs ∧ NkV K H (.ref a) k ∧ k.depth ≤ 8 ∧ Q (.bl (!(xs.any fun x => decide (x.1 = k)))) H
theorem op_notInN (hu : X.A.units + 9 < cLine) : OpR X (compareOp .NotIn) (rNotInN X.K X.prog X.w) := by
  intro pins s σ H x y v u Q I rx ry h
  obtain ⟨a, d, xs, k, rfl, rfl, hd, hk, hv, hdp, q⟩ := h
  cases rx
  cases ry
  obtain ⟨ys, r, dd, hs, hz, hn⟩ := dN_of I hd hk
  refine wpAny_notIn_heap (nk_room (X := X) hu) ⟨hv.is I rfl, hdp⟩ hs dd ?_
  rw [NRel.at_ r]
  exact ⟨.bl (!xs.any fun x => decide (x.1 = k)), H, I.tok _, rfl, q⟩
/-- d[y] = n, y not in d -/
def rSetN (K : PySem.W.Frag) (P : Program) (w : World) : TSet := fun o i v H Q => ∃ a d xs k, o = .ref d ∧ i = .ref a ∧ H d = some (dN P w d xs) ∧ KeysIn K H xs ∧ NkV K H (.ref a) k ∧ k.depth ≤ 8 ∧ xs.length < sizeLine ∧
  (((xs.any fun x => decide (x.1 = k)) = false ∧ Q (upd H d (dN P w d (xs ++ [(k, a, v)])))) ∨ ((∃ b, (k, b, v) ∈ xs) ∧ Q (upd H d (dN P w d xs))))
theorem set_N (hu : X.A.units + 9 < cLine) : PSet X (rSetN X.K X.prog X.w) := by
  intro pins s σ H o i v ov iv u Q I ro ri rv h
  obtain ⟨a, d, xs, k, rfl, rfl, hd, hk, hv, hdp, hl, hor⟩ := h
  cases ro
  cases ri
  obtain ⟨ys, r, dd, hs, hz, hn⟩ := dN_of I hd hk
  have hyl : ys.length ≤ sizeLine := by rw [← Paired.length r]; exact hz
  refine wpAny_setItem_heap (hsz := hyl) (nk_room (X := X) hu) ⟨hv.is I rfl, hdp⟩ dd fun h' dd' hs' => ?_
  rcases hor with ⟨hno, q⟩ | ⟨hin, q⟩
  · have hst : storedH ys k a u = ys ++ [(k, a, u)] := by
      unfold storedH
      rw [if_neg]
      rw [NRel.at_ r, hno]
      decide
    rw [hst] at dd'
    obtain ⟨ob, es, ep, h5, h6, h7, h8, h9, h10⟩ := dd'
    have hp : Paired NRel (xs ++ [(k, a, v)]) (ys ++ [(k, a, u)]) := NRel.snoc r ⟨rfl, rfl, rv⟩
    have hnd : ((xs ++ [(k, a, v)]).map (·.1)).Nodup := by rw [← NRel.map hp]; exact h10
    exact ⟨_, d_write I (by rw [hd]; exact True.intro) hs' ⟨ob, h5⟩ (dN_ok ⟨by rw [List.length_append]; show xs.length + 1 ≤ sizeLine; omega, hs, hnd, _, hp, ob, es, ep, h5, h6, h7, h8⟩), q⟩
  · obtain ⟨b, hb⟩ := hin
    have hst : storedH ys k a u = ys.map (putAt k u) := by
      unfold storedH
      rw [if_pos]
      rw [NRel.at_ r, List.any_eq_true]
      exact ⟨_, hb, decide_eq_true rfl⟩
    rw [hst] at dd'
    obtain ⟨ob, es, ep, h5, h6, h7, h8, h9, h10⟩ := dd'
    have hp : Paired NRel xs (ys.map (putAt k u)) := NRel.same r hn hb rv
    exact ⟨_, d_write I (by rw [hd]; exact True.intro) hs' ⟨ob, h5⟩ (dN_ok ⟨by omega, hs, hn, _, hp, ob, es, ep, h5, h6, h7, h8⟩), q⟩
/-- d[y] -/
def tNGet (K : PySem.W.Frag) (P : Program) (w : World) (td ty : TE) : TE := fun σ H Q => td σ H fun x H1 => ty σ H1 fun y H2 => ∃ a d xs k n b, x = .ref d ∧ y = .ref a ∧ H2 d = some (dN P w d xs) ∧ KeysIn K H2 xs ∧ NkV K H2 (.ref a) k ∧ k.depth ≤ 8 ∧ (k, b, n) ∈ xs ∧ Q n H2
theorem pe_nget {o i : Expr} {pos : Pos} {td ty : TE} (hu : X.A.units + 9 < cLine) (ho : PE X o td) (hi : PE X i ty) (hs : NoSl i) : PE X (.Subscript o i pos) (tNGet X.K X.prog X.w td ty) := by
  refine ⟨fun pins s σ H Q I h => ?_⟩
  refine subD_of PySem.F.slot_dict_getitem.lookup hs (thn (ho.run pins s σ H _ I h) fun u s1 ⟨x, H1, I1, rx, q1⟩ => thn (hi.run pins s1 σ H1 _ I1 q1) fun iv s2 ⟨y, H2, I2, ry, a, d, xs, k, n, b, ex, ey, hd, hk, hv, hdp, hm, q⟩ => ?_)
  subst ex
  subst ey
  cases rx
  cases ry
  obtain ⟨ys, r, dd, hs, hz, hn⟩ := dN_of I2 hd hk
  obtain ⟨p, hp, hp2⟩ := NRel.get r hn hm
  exact ⟨dd.typeIs, wpAny_getItem_heap (nk_room (X := X) hu) ⟨hv.is I2 rfl, hdp⟩ dd hp ⟨n, H2, I2.tok _, hp2, q⟩⟩
/-- {} -/
def tDNewN (P : Program) (w : World) : TE := fun _ H Q => ∀ p, H p = none → Q (.ref p) (upd H p (dN P w p []))
theorem pe_dnewN {pos : Pos} : PE X (.Dict [] [] pos) (tDNewN X.prog X.w) := ⟨fun pins s σ H Q I h =>
  wpAny_Dict_empty ⟨.ref s.heap.objs.size, _, I.laid (a := s.heap.objs.size) (o := dN X.prog X.w s.heap.objs.size []) (t' := s.toks) (fun _ _ q => Heap.get?_push_of_some _ q) (Nat.le_refl _)
    (dN_ok ⟨Nat.zero_le _, beq_eq_false_iff_ne.mpr (Ne.symm (Nat.ne_of_lt I.big)), List.nodup_nil, [], .nil, _, #[], 0, Heap.get?_push_size _ rfl, ⟨rfl, rfl, rfl⟩, rfl, rfl⟩), rfl, h _ (I.hok.fresh (Nat.le_refl _))⟩⟩
/-- len(d) -/
def rLenN (K : PySem.W.Frag) (P : Program) (w : World) : List V → Hp → VK → Prop := fun vs H Q => ∃ d xs, vs = [.ref d] ∧ H d = some (dN P w d xs) ∧ KeysIn K H xs ∧ Q (.int ((xs.length : Nat) : Int)) H
theorem cr_lenN : CallR X (.builtin "len") (rLenN X.K X.prog X.w) := by
  intro pins s σ H vs us Q I r h
  obtain ⟨d, xs, rfl, hd, hk, q⟩ := h
  rw [Vals.ref1 r]
  obtain ⟨ys, r, dd, hs, hz, hn⟩ := dN_of I hd hk
  have hl : xs.length = ys.length := Paired.length r
  refine call_len_dictH hs dd (by rw [← hl]; rw [sizeLine_eq] at hz; omega) ?_
  rw [← hl]
  exact ⟨.int ((xs.length : Nat) : Int), H, I.tok _, ⟨_, rfl⟩, q⟩
end
end Pt
set_option Elab.async false
set_option linter.all false
set_option maxRecDepth 100000
set_option maxHeartbeats 3200000
/-! ## set(xs) of a list of ints, then sorted -/
namespace L2
open PySem PySem.Spec PyProof.Rows
section
variable {P : Program} {w : World} {A : Around} {E : Value → Shared → Prop} {s : Shared}
/-- an empty set in the making -/
abbrev seed (w : World) : Obj := { cls := .type "set", dict := none, data := .set #[] 0 (.fresh 0 0 (!w.params.followText "set-order")) }
theorem call_set_listI {l : Addr} {items : Array Value} (ns : List Int) {Q : Value → Shared → Prop} (hh : A.handled = none) (hl : s.heap.IsList l items) (hit : IntsAre items.toList ns) (hb : ns.length + 1 < scanBound)
    (h : ∀ (h' : Heap) (tk c : Nat), SetR w h' s.heap.objs.size (fun j => decide (j ∈ ns)) c → c ≤ ns.length → (∀ b o, s.heap.get? b = some o → h'.get? b = some o) → Q (.ref s.heap.objs.size) { s with heap := h', toks := tk }) :
    wpAny (model P w) A (call (.type "set") [.ref l]) Q E s := by
  have hisz : items.size = ns.length := by
    rw [← Array.length_toList]
    exact IntsAre.length hit
  obtain ⟨c, tl, hmro⟩ := F.called_set.mro
  have hmade := F.called_set.made
  have hsub := F.called_set.sub
  refine wpAny_call (codeAny_of_tree ?_)
  show wpAny _ _ (callAny (.type "set") _) _ _ _
  refine wpAny_pure ⟨Code.quiet_builtin _ (by decide +kernel), codeAny_builtin F.entry_type_call ?_⟩
  rw [Around.under_plain (weight_type_call_type "set" [.ref l] []) rfl]
  have h1 := F.called_set.notType
  have h2 := F.called_set.canCreate
  have hct := F.typeCall_set_1 (.ref l)
  repeat (any_goals (first | assumption | wp_step))
  refine codeAny_mono (code_set_led1 (.ref l) (E := E) (Q₁ := fun obj s₁ => obj = .ref s.heap.objs.size ∧ s₁ = { s with heap := s.heap.push (seed w) }) ⟨rfl, rfl⟩) fun r s₁ hr => ?_
  match r, hr with
  | .error e, hr => exact hr
  | .ok .cont, hr | .ok .brk, hr | .ok .next, hr => exact hr.elim
  | .ok (.ret obj), hr =>
    obtain ⟨rfl, rfl⟩ := hr
    have hS : (s.heap.push (seed w)).get? s.heap.objs.size = some (seed w) := Heap.get?_push_size _ rfl
    have hT : Shared.TypeIs { s with heap := s.heap.push (seed w) } (.ref s.heap.objs.size) "set" := ⟨_, hS, rfl⟩
    have hli := F.called_set.init.lookup
    have hbi := F.called_set.init.bind (.ref s.heap.objs.size)
    repeat (any_goals (first | assumption | wp_step))
    refine codeAny_mono (codeAny_call_builtin (R := wants (fun r s₂ => r = .none ∧ ∃ h' tk c, s₂ = { s with heap := h', toks := tk } ∧ SetR w h' s.heap.objs.size (fun j => decide (j ∈ ns)) c ∧ c ≤ ns.length ∧
        (∀ b o, s.heap.get? b = some o → h'.get? b = some o)) E) F.called_set.init.plain F.entry_set_init (check_set_init_1 hT ?_)) fun r₂ s₂ hr₂ => ?_
    · obtain ⟨ol, hol, hcl, nl, hdl⟩ := hl
      obtain ⟨ocls, odict, odata, oslots⟩ := ol
      simp only at hcl hdl
      subst hcl; subst hdl
      have hol' : (s.heap.push (seed w)).get? l = some { cls := .type "list", dict := odict, data := .seq items nl, slots := oslots } := Heap.get?_push_of_some _ hol
      have hsls := F.sub_list_set
      have hslf := F.sub_list_frozenset
      have hne : (Value.type "list" == Value.type "dict") = false := by decide
      have hl1 : (s.heap.push (seed w)).IsList l items := ⟨_, hol', rfl, nl, rfl⟩
      unfold Builtin.«set.__init__» noKeywords Builtin.Frozenset.updateFrom
      generalize hPI : pyIter = PI
      wp_walk
      subst hPI
      refine wpAny_pyIter_list hl1 ?_
      refine wpAny_bind (wpAny_runValue ?_)
      have hlS : l < s.heap.objs.size := Heap.lt_size hol
      have hh3 : A.in1.in1.in1.handled = none := by simp [hh]
      have hneI : l ≠ (s.heap.push (seed w)).objs.size := by
        rw [Heap.size_push]
        exact Nat.ne_of_lt (Nat.lt_succ_of_lt hlS)
      have hSf : s.heap.objs.size ∉ [(s.heap.push (seed w)).objs.size, l] := by
        rw [Heap.size_push]
        simp only [List.mem_cons, List.not_mem_nil, or_false, not_or]
        exact ⟨Nat.ne_of_lt (Nat.lt_succ_self _), Nat.ne_of_gt hlS⟩
      refine set_update_ints ((Walks.list hh3 _ l hneI items).toS) s.heap.objs.size hSf ns hisz hb (fun i v hv => ?_) (items.size - 0) 0 _ (by omega) (Nat.zero_le _)
        ⟨⟨_, Heap.get?_push_size _ rfl, rfl, rfl⟩, (hl1.push _)⟩ ⟨0, Nat.le_refl 0, setR_new_at (Heap.get?_push_of_some _ hS)⟩ ?hR
      · have hi : i < ns.length := by rw [← hisz]; exact (Array.getElem?_eq_some_iff.mp hv).1
        obtain ⟨t, e⟩ := PyProof.Rows.IntsAre.int_at hit i v (by rw [Array.getElem?_toList]; exact hv)
        refine ⟨ns[i], t, List.getElem?_eq_getElem hi, ?_⟩
        rw [e, List.getD_eq_getElem?_getD, List.getElem?_eq_getElem hi] <;> rfl
      case hR =>
        intro s' c' hm hc' hS'
        obtain ⟨h', g2, d', tk', os'⟩ := s'
        have eg : g2 = s.gens := hm.gens
        have ed : d' = s.drawn := hm.drawn
        have eo : os' = s.os := hm.os
        subst eg; subst ed; subst eo
        show wpAny _ _ _ _ _ _
        refine wpAny_pure ?_
        show wpAny _ _ (ret Value.none) _ _ _
        rw [hisz] at hc'
        refine wpAny_pure ⟨rfl, h', tk', c', rfl, hS', hc', fun b o e => ?_⟩
        have hb0 : b < s.heap.objs.size := Heap.lt_size e
        refine hm.heap b o ?_ (Heap.get?_push_of_some _ (Heap.get?_push_of_some _ e))
        rw [Heap.size_push]
        simp only [List.mem_cons, List.not_mem_nil, or_false, not_or]
        exact ⟨Nat.ne_of_lt hb0, Nat.ne_of_lt (Nat.lt_succ_of_lt hb0)⟩
    · match r₂, hr₂ with
      | .error e, hr₂ => exact hr₂
      | .ok .cont, hr₂ | .ok .brk, hr₂ | .ok .next, hr₂ => exact hr₂.elim
      | .ok (.ret r), hr₂ =>
        obtain ⟨rfl, h', tk, c', rfl, hS', hc', hk'⟩ := hr₂
        repeat (any_goals (first | assumption | wp_step))
        exact h _ _ _ hS' hc' hk'
end
section
variable {X : Cx}
/-- set(xs) -/
def rSetLi (K : PySem.W.Frag) (w : World) : List V → Hp → VK → Prop := fun vs H Q => ∃ (l : Addr) (ns : List Int), vs = [V.ref l] ∧ SqL K H l (ns.map V.int) ∧ ns.length ≤ 2000 ∧
  ∀ a c, H a = none → c ≤ ns.length → Q (.ref a) (upd H a (SetO w a (fun j => decide (j ∈ ns)) c))
theorem cr_setLi (hc : X.calm = true) : CallR X (.type "set") (rSetLi X.K X.w) := by
  intro pins s σ H vs us Q I r h
  obtain ⟨l, ns, rfl, hl, hf, q⟩ := h
  rw [Vals.ref1 r]
  obtain ⟨its, rv, pl, hz⟩ := I.list hl
  have hn : H s.heap.objs.size = none := I.hok.fresh (Nat.le_refl _)
  refine call_set_listI ns (I.ok.hd hc) pl.isList (by simpa using rv.ints) (by unfold scanBound; omega) fun h' tk c R hcn k => ?_
  exact ⟨.ref s.heap.objs.size, upd H s.heap.objs.size (SetO X.w s.heap.objs.size (fun j => decide (j ∈ ns)) c), I.laid (t' := tk) k (Nat.le_refl _) (setO_new R), rfl, q _ c hn hcn⟩
/-- sorted of a set of ints, any number of them -/
theorem sorted_setI {P : Program} {w : World} {A : Around} {E : Value → Shared → Prop} {s : Shared} {a : Addr} {S : Int → Bool} {n : Nat} {Q : Value → Shared → Prop} (R : SetR w s.heap a S n) (hh : A.handled = none) (hn : n ≤ 100000)
    (k : ∀ s' p (out : Array Value) (c : Nat) (ns : List Int), (∀ b o, s.heap.get? b = some o → s'.heap.get? b = some o) → s'.gens = s.gens → s'.os = s.os → s.heap.objs.size ≤ p → s'.heap.get? p = some (seqObj "list" out c) → IntsAre out.toList ns → ns.Pairwise (· < ·) →
      (∀ j, j ∈ ns ↔ S j = true) → ns.length = n → Q (.ref p) s') : wpAny (model P w) A (call (.builtin "sorted") [.ref a]) Q E s := by
  obtain ⟨ob, ents, epoch, tab, at_, cl, dat, good, uniq, mem, bnd, fr, cnt, rd, ln⟩ := R
  refine Calls.call_function_entry kind_sorted plain_sorted entry_sorted (args_sorted1 _) ?_
  unfold Builtin.«sorted»
  refine wpAny_bind (m := checkCount "sorted" 1 1 _) (wpAny_pure ?_)
  refine wpAny_bind (collect_set (A := A.in1) hh ⟨ob, at_, cl.1, dat⟩ fr bnd rd ln fun t xs keep big gens os perm => ?_)
  have hlen : xs.length = n := by rw [perm.length_eq, List.length_map, Array.length_toList]; exact cnt
  have hsz : xs.length ≤ sizeLine := by rw [hlen, sizeLine_eq]; omega
  have hints : IntsAre xs (xs.map Builtin.Re.reRawOf) := ints_of xs fun v hv => by
    obtain ⟨e, he, q⟩ := List.mem_map.mp (perm.mem_iff.mp hv)
    obtain ⟨i, tk, hi, _⟩ := good e he
    exact ⟨i, tk, by rw [← q]; exact hi⟩
  have hkeys : (xs.map Builtin.Re.reRawOf).Perm (ents.toList.map keyOf) := by
    have := perm.map Builtin.Re.reRawOf
    rw [List.map_map] at this
    exact this
  refine wpAny_bind (wpAny_newList ?_ hsz)
  have hnew : (t.heap.push (seqObj "list" xs.toArray 0)).get? t.heap.objs.size = some (seqObj "list" xs.toArray 0) := Heap.get?_push_size _ rfl
  refine wpAny_bind (wpAny_holding (wpAny_call_entry slot_list_sort ⟨_, hnew, rfl⟩ entry_list_sort (SrtO.list_sort_ord SrtO.swo_int hnew hsz (fun two => SrtO.ints_sortable hints two) fun out srt stb => ⟨_, rfl, ?_⟩) (args_list_sort _)))
  obtain ⟨o1, o2, o3⟩ := SrtO.ints_out hints srt stb
  obtain ⟨c, hc⟩ := sortedHeap_at (vs := xs) (out := out.toArray) hnew
  have pn : (out.map SrtO.iv).Perm (ents.toList.map keyOf) := o2.trans hkeys
  refine wpAny_pure ⟨_, rfl, k _ t.heap.objs.size out.toArray c (out.map SrtO.iv) (fun b u e => ?_) gens os big hc o1 (lt_of_le_nodup _ o3 (pn.nodup_iff.mpr uniq)) (fun j => by rw [pn.mem_iff, ← mem j]) ?_⟩
  · have lt := Heap.lt_size (keep b u e)
    show (sortedHeap (t.heap.push (seqObj "list" xs.toArray 0)) t.heap.objs.size xs out.toArray).get? b = some u
    rw [sortedHeap_old (Nat.ne_of_lt lt) (by rw [size_push']; exact Nat.lt_succ_of_lt lt)]
    exact Heap.get?_push_of_some _ (keep b u e)
  · rw [pn.length_eq, List.length_map, Array.length_toList]; exact cnt
def rSortedSetI (w : World) : List V → Hp → VK → Prop := fun vs H Q => ∃ (a : Addr) (S : Int → Bool) (n : Nat), vs = [V.ref a] ∧ H a = some (SetO w a S n) ∧ n ≤ 100000 ∧
  ∀ (ns : List Int) (p : Addr), ns.Pairwise (· < ·) → (∀ k : Int, k ∈ ns ↔ S k = true) → ns.length = n → H p = none → Q (.ref p) (upd H p (.lst (ns.map V.int)))
theorem cr_sortedSetI (hc : X.calm = true) : CallR X (.builtin "sorted") (rSortedSetI X.w) := by
  intro pins s σ H vs us Q I r h
  obtain ⟨a, S, n, rfl, ha, hn, q⟩ := h
  rw [Vals.ref1 r]
  refine sorted_setI (setO_get I ha) (I.ok.hd hc) hn fun s' p out c ns keep gens os big at_ hin srt mem len => ?_
  have free : H p = none := I.hok.fresh big
  have fits : (ns.map V.int).length ≤ sizeLine := by rw [List.length_map, len, sizeLine_eq]; omega
  have J : Inv X pins σ (upd H p (.lst (ns.map V.int))) { s with heap := s'.heap, gens := s'.gens, drawn := s'.drawn, toks := s'.toks } :=
    I.call (ch := []) (Un.laid keep big free) (I.hok.laid keep big ⟨fits, out.toList, c, vals_of_ints hin, at_⟩) (by rw [gens]; exact I.bare) (fun _ z => nomatch z)
  have same : s' = { s with heap := s'.heap, gens := s'.gens, drawn := s'.drawn, toks := s'.toks } := by
    cases s'
    cases s
    cases os
    rfl
  rw [same]
  exact ⟨.ref p, _, J, rfl, q ns p srt mem len free⟩
end
end L2
set_option Elab.async false
set_option linter.all false
set_option maxRecDepth 100000
/-! ## tables: signs in order, entries behind a sign, nodes put, beginnings counted -/
namespace Mx
open Vahypd (Entry Node Table into firstSigns behind endsHere put build plainBy)
theorem into_mem {k x : Nat} : ∀ {l : List Nat}, x ∈ into k l ↔ x = k ∨ x ∈ l
  | [] => by simp [into]
  | j :: r => by
    unfold into
    by_cases h : j < k
    · rw [if_pos h, List.mem_cons, into_mem, List.mem_cons]
      constructor
      · rintro (a | a | a)
        · exact .inr (.inl a)
        · exact .inl a
        · exact .inr (.inr a)
      · rintro (a | a | a)
        · exact .inr (.inl a)
        · exact .inl a
        · exact .inr (.inr a)
    · rw [if_neg h]
      by_cases h2 : j = k
      · rw [if_pos h2, List.mem_cons, h2]
        constructor
        · exact .inr
        · rintro (a | a)
          · exact .inl a
          · exact a
      · rw [if_neg h2, List.mem_cons]
theorem into_ris {k : Nat} : ∀ {l : List Nat}, l.Pairwise (· < ·) → (into k l).Pairwise (· < ·)
  | [], _ => by simp [into]
  | j :: r, h => by
    obtain ⟨h1, h2⟩ := List.pairwise_cons.mp h
    unfold into
    by_cases a : j < k
    · rw [if_pos a]
      refine List.pairwise_cons.mpr ⟨fun x hx => ?_, into_ris h2⟩
      rcases into_mem.mp hx with e | e
      · rw [e]; exact a
      · exact h1 x e
    · rw [if_neg a]
      by_cases b : j = k
      · rw [if_pos b]; exact h
      · rw [if_neg b]
        refine List.pairwise_cons.mpr ⟨fun x hx => ?_, h⟩
        rcases List.mem_cons.mp hx with e | e
        · omega
        · have := h1 x e
          omega
theorem ris_eq : ∀ {l m : List Nat}, l.Pairwise (· < ·) → m.Pairwise (· < ·) → (∀ x, x ∈ l ↔ x ∈ m) → l = m
  | [], [], _, _, _ => rfl
  | [], b :: m, _, _, h => by have := (h b).2 (List.mem_cons_self ..); cases this
  | a :: l, [], _, _, h => by have := (h a).1 (List.mem_cons_self ..); cases this
  | a :: l, b :: m, hl, hm, h => by
    obtain ⟨l1, l2⟩ := List.pairwise_cons.mp hl
    obtain ⟨m1, m2⟩ := List.pairwise_cons.mp hm
    have e : a = b := by
      rcases List.mem_cons.mp ((h a).1 (List.mem_cons_self ..)) with e | e
      · exact e
      · rcases List.mem_cons.mp ((h b).2 (List.mem_cons_self ..)) with f | f
        · exact f.symm
        · have := m1 a e
          have := l1 b f
          omega
    subst e
    rw [ris_eq l2 m2 fun x => ⟨fun hx => ?_, fun hx => ?_⟩]
    · rcases List.mem_cons.mp ((h x).1 (List.mem_cons_of_mem _ hx)) with e | e
      · have := l1 x hx
        omega
      · exact e
    · rcases List.mem_cons.mp ((h x).2 (List.mem_cons_of_mem _ hx)) with e | e
      · have := m1 x hx
        omega
      · exact e
def headOf (e : Entry) : Option Nat := e.1.head?
def firstsBy (es : List Entry) (l : List Nat) : List Nat := es.foldl (fun l e => match e.1 with
    | s :: _ => into s l
    | [] => l) l
theorem firsts_go (es : List Entry) : ∀ l : List Nat, l.Pairwise (· < ·) → (firstsBy es l).Pairwise (· < ·) ∧ ∀ x, x ∈ firstsBy es l ↔ x ∈ l ∨ x ∈ es.filterMap headOf := by
  induction es with
  | nil => intro l h; exact ⟨h, fun x => by simp [firstsBy]⟩
  | cons e es ih =>
    intro l h
    unfold firstsBy
    rw [List.foldl_cons, List.filterMap_cons]
    unfold headOf
    cases he : e.1 with
    | nil => exact ih l h
    | cons s r =>
      obtain ⟨h1, h2⟩ := ih (into s l) (into_ris h)
      refine ⟨h1, fun x => ?_⟩
      show x ∈ firstsBy es (into s l) ↔ x ∈ l ∨ x ∈ s :: es.filterMap headOf
      rw [h2 x, into_mem, List.mem_cons]
      constructor
      · rintro ((a | a) | a)
        · exact .inr (.inl a)
        · exact .inl a
        · exact .inr (.inr a)
      · rintro (a | a | a)
        · exact .inl (.inr a)
        · exact .inl (.inl a)
        · exact .inr a
theorem firsts_ris (es : List Entry) : (firstSigns es).Pairwise (· < ·) := (firsts_go es [] .nil).1
theorem firsts_mem (es : List Entry) (x : Nat) : x ∈ firstSigns es ↔ x ∈ es.filterMap headOf := ((firsts_go es [] .nil).2 x).trans (by simp)
theorem firsts_nodup (es : List Entry) : (firstSigns es).Nodup := (firsts_ris es).imp fun h => Nat.ne_of_lt h
/-- the same, found as ints in order -/
theorem firsts_int {es : List Entry} {ns : List Int} (h : ns.Pairwise (· < ·)) (hm : ∀ k : Int, k ∈ ns ↔ decide (k ∈ (es.filterMap headOf).map fun (n : Nat) => (n : Int)) = true) : ns = (firstSigns es).map fun (n : Nat) => (n : Int) := by
  have h0 : ∀ k ∈ ns, ∃ n : Nat, k = n ∧ n ∈ firstSigns es := fun k hk => by
    obtain ⟨n, hn, e⟩ := List.mem_map.mp (of_decide_eq_true ((hm k).1 hk))
    exact ⟨n, e.symm, (firsts_mem es n).2 hn⟩
  have e1 : ns = (ns.map Int.toNat).map fun (n : Nat) => (n : Int) := by
    rw [List.map_map]
    conv => lhs; rw [← List.map_id ns]
    refine List.map_congr_left fun k hk => ?_
    obtain ⟨n, rfl, _⟩ := h0 k hk
    rfl
  rw [e1]
  congr 1
  refine ris_eq ?_ (firsts_ris es) fun x => ⟨fun hx => ?_, fun hx => ?_⟩
  · rw [List.pairwise_map]
    refine h.imp_of_mem fun {a b} ha hb hab => ?_
    obtain ⟨n, rfl, _⟩ := h0 a ha
    obtain ⟨m, rfl, _⟩ := h0 b hb
    exact Int.ofNat_lt.mp hab
  · obtain ⟨k, hk, rfl⟩ := List.mem_map.mp hx
    obtain ⟨n, rfl, hn⟩ := h0 k hk
    exact hn
  · have hk : ((x : Nat) : Int) ∈ ns := (hm x).2 (decide_eq_true (List.mem_map.mpr ⟨x, (firsts_mem es x).1 hx, rfl⟩))
    exact List.mem_map.mpr ⟨_, hk, rfl⟩
theorem behind_eq (es : List Entry) (s : Nat) : behind es s = (es.filter fun e => e.1.take 1 == [s]).map fun e => (e.1.drop 1, e.2) := by
  unfold behind
  induction es with
  | nil => rfl
  | cons e es ih =>
    obtain ⟨l, d⟩ := e
    cases l with
    | nil =>
      rw [List.filterMap_cons, List.filter_cons]
      exact ih
    | cons z r =>
      rw [List.filterMap_cons, List.filter_cons]
      by_cases h : z = s
      · subst h
        simp [ih]
      · simp [h, ih]
theorem behind_short {es : List Entry} {f s : Nat} (h : ∀ e ∈ es, e.1.length ≤ f + 1) : ∀ e ∈ behind es s, e.1.length ≤ f := fun e he => by
  rw [behind_eq] at he
  obtain ⟨x, hx, rfl⟩ := List.mem_map.mp he
  have := h x (List.mem_filter.mp hx).1
  rw [List.length_drop]
  omega
theorem behind_len {es : List Entry} {s : Nat} : (behind es s).length ≤ es.length := by
  unfold behind
  exact List.length_filterMap_le ..
theorem behind_dig {es : List Entry} {s : Nat} {P : List Nat → Prop} (h : ∀ e ∈ es, P e.2) : ∀ e ∈ behind es s, P e.2 := fun e he => by
  rw [behind_eq] at he
  obtain ⟨x, hx, rfl⟩ := List.mem_map.mp he
  exact h x (List.mem_filter.mp hx).1
theorem firsts_none {es : List Entry} (h : ∀ e ∈ es, e.1.length ≤ 0) : firstSigns es = [] := by
  cases hf : firstSigns es with
  | nil => rfl
  | cons x r =>
    have hx : x ∈ firstSigns es := by rw [hf]; exact List.mem_cons_self ..
    rw [firsts_mem] at hx
    obtain ⟨e, he, hh⟩ := List.mem_filterMap.mp hx
    have : e.1 = [] := List.length_eq_zero_iff.mp (by have := h e he; omega)
    unfold headOf at hh
    rw [this] at hh
    cases hh
theorem firsts_len {es : List Entry} : (firstSigns es).length ≤ es.length := by
  have h : ∀ (l : List Nat) (k : Nat), (into k l).length ≤ l.length + 1 := by
    intro l k
    induction l with
    | nil => exact Nat.le_refl _
    | cons j r ih =>
      unfold into
      split
      · rw [List.length_cons, List.length_cons]; omega
      · split
        · simp
        · simp
  have g : ∀ (es : List Entry) (l : List Nat), (es.foldl (fun l e => match e.1 with
    | s :: _ => into s l
    | [] => l) l).length ≤ l.length + es.length := by
    intro es
    induction es with
    | nil => intro l; exact Nat.le_refl _
    | cons e es ih =>
      intro l
      rw [List.foldl_cons]
      refine Nat.le_trans (ih _) ?_
      rw [List.length_cons]
      cases he : e.1 with
      | nil => dsimp only; omega
      | cons s r =>
        have := h l s
        dsimp only
        omega
  have := g es []
  rw [List.length_nil, Nat.zero_add] at this
  exact this
theorem firsts_le {es : List Entry} {b : Nat} (h : ∀ e ∈ es, ∀ x ∈ e.1, x ≤ b) : ∀ s ∈ firstSigns es, s ≤ b := fun s hs => by
  rw [firsts_mem] at hs
  obtain ⟨e, he, hh⟩ := List.mem_filterMap.mp hs
  exact h e he s (List.mem_of_mem_head? hh)
/-! ### nodes put -/
theorem put_in {t : Table} {n : Node} {k : Nat} (h : t[k]? = some n) (hn : t.Nodup) : put t n = (t, k) := by
  have hk := (List.getElem?_eq_some_iff.mp h).1
  have e : t.findIdx? (fun m => m == n) = some k := by
    rw [List.findIdx?_eq_some_iff_getElem]
    refine ⟨hk, ?_, fun j hj => ?_⟩
    · rw [(List.getElem?_eq_some_iff.mp h).2]; exact beq_self_eq_true n
    · have hne := (List.pairwise_iff_getElem.mp hn) j k (by omega) hk hj
      rw [(List.getElem?_eq_some_iff.mp h).2] at hne
      simpa using hne
  unfold put
  rw [e]
theorem put_new {t : Table} {n : Node} (h : n ∉ t) : put t n = (t ++ [n], t.length) := by
  have e : t.findIdx? (fun m => m == n) = none := by
    rw [List.findIdx?_eq_none_iff]
    intro x hx
    rw [beq_eq_false_iff_ne]
    exact fun z => h (z ▸ hx)
  unfold put
  rw [e]
theorem put_nodup {t : Table} {n : Node} (hn : t.Nodup) : (put t n).1.Nodup := by
  by_cases h : n ∈ t
  · obtain ⟨k, hk⟩ := List.mem_iff_getElem?.mp h
    rw [put_in hk hn]
    exact hn
  · rw [put_new h]
    refine List.nodup_append.mpr ⟨hn, by simp, fun a ha b hb => ?_⟩
    rw [List.mem_singleton.mp hb]
    exact fun z => h (z ▸ ha)
theorem put_lt {t : Table} {n : Node} : (put t n).2 < (put t n).1.length := by
  unfold put
  cases h : t.findIdx? (fun m => m == n) with
  | some k => exact (List.findIdx?_eq_some_iff_getElem.mp h).1
  | none => simp
theorem put_len {t : Table} {n : Node} : (put t n).1.length ≤ t.length + 1 ∧ t.length ≤ (put t n).1.length := by
  unfold put
  cases h : t.findIdx? (fun m => m == n) with
  | some k => dsimp only; omega
  | none => simp
/-! ### beginnings counted -/
/-- the signs behind s -/
def tl (s : Nat) (l : List Nat) : Option (List Nat) := match l with
  | z :: r => if z = s then some r else none
  | [] => none
theorem tl_iff {s : Nat} {l r : List Nat} : tl s l = some r ↔ l = s :: r := by
  cases l with
  | nil => simp [tl]
  | cons z q =>
    unfold tl
    by_cases h : z = s
    · subst h; simp
    · simp [h]
theorem count_heads : ∀ (S : List Nat) (L : List (List Nat)), S.Nodup → (∀ l ∈ L, ∃ s ∈ S, l.head? = some s) → L.length = (S.map fun s => (L.filterMap (tl s)).length).sum := by
  intro S L hS
  induction L with
  | nil =>
    intro _
    clear hS
    induction S with
    | nil => rfl
    | cons a S ih => rw [List.map_cons, List.sum_cons, ← ih (fun l hl => nomatch hl)]; rfl
  | cons l L ih0 =>
    intro h
    have ih := ih0 fun l hl => h l (List.mem_cons_of_mem _ hl)
    obtain ⟨s, hs, hh⟩ := h l (List.mem_cons_self ..)
    obtain ⟨r, rfl⟩ : ∃ r, l = s :: r := by
      cases l with
      | nil => cases hh
      | cons z r => exact ⟨r, by rw [(Option.some.inj hh : z = s)]⟩
    rw [List.length_cons, ih]
    clear ih ih0 h hh
    have hz : ∀ z, ((s :: r) :: L).filterMap (tl z) = if z = s then r :: L.filterMap (tl z) else L.filterMap (tl z) := fun z => by
      rw [List.filterMap_cons]
      by_cases e : s = z
      · rw [tl_iff.mpr (by rw [e]), if_pos e.symm]
      · have : tl z (s :: r) = none := by
          cases q : tl z (s :: r) with
          | none => rfl
          | some x => exact absurd (List.cons.inj (tl_iff.mp q)).1 e
        rw [this, if_neg (Ne.symm e)]
    induction S with
    | nil => cases hs
    | cons a S ih2 =>
      obtain ⟨ha, hS2⟩ := List.nodup_cons.mp hS
      rw [List.map_cons, List.map_cons, List.sum_cons, List.sum_cons, hz a]
      rcases List.mem_cons.mp hs with e | e
      · rw [if_pos e.symm, List.length_cons]
        have : S.map (fun z => (((s :: r) :: L).filterMap (tl z)).length) = S.map (fun z => (L.filterMap (tl z)).length) := List.map_congr_left fun z hz2 => by
          rw [hz z, if_neg (fun (q : z = s) => ha (by rw [← e, ← q]; exact hz2))]
        rw [this]
        omega
      · rw [if_neg (fun (q : a = s) => ha (by rw [q]; exact e)), ← ih2 hS2 e]
        omega
/-- what the beginnings of entries' signs are -/
def Begins (es : List Entry) (l : List Nat) : Prop := l = [] ∨ ∃ e ∈ es, l <+: e.1
theorem begins_cons {es : List Entry} {s : Nat} {r : List Nat} : Begins es (s :: r) ↔ s ∈ firstSigns es ∧ Begins (behind es s) r := by
  unfold Begins
  rw [behind_eq, firsts_mem]
  constructor
  · rintro (h | ⟨e, he, q, hq⟩)
    · cases h
    · have e1 : e.1 = s :: (r ++ q) := hq.symm
      refine ⟨List.mem_filterMap.mpr ⟨e, he, by unfold headOf; rw [e1]; rfl⟩, .inr ⟨(e.1.drop 1, e.2), List.mem_map.mpr ⟨e, List.mem_filter.mpr ⟨he, ?_⟩, rfl⟩, q, ?_⟩⟩
      · rw [e1]; simp
      · show r ++ q = e.1.drop 1
        rw [e1]; rfl
  · rintro ⟨h1, h2⟩
    refine .inr ?_
    rcases h2 with rfl | ⟨x, hx, q, hq⟩
    · obtain ⟨e, he, hh⟩ := List.mem_filterMap.mp h1
      unfold headOf at hh
      cases e1 : e.1 with
      | nil => rw [e1] at hh; cases hh
      | cons z t =>
        rw [e1] at hh
        refine ⟨e, he, t, ?_⟩
        rw [e1, (Option.some.inj hh : z = s)]
        rfl
    · obtain ⟨e, he, rfl⟩ := List.mem_map.mp hx
      obtain ⟨h3, h4⟩ := List.mem_filter.mp he
      refine ⟨e, h3, q, ?_⟩
      have h4 := beq_iff_eq.mp h4
      have hq : r ++ q = e.1.drop 1 := hq
      show s :: (r ++ q) = e.1
      rw [hq]
      cases e1 : e.1 with
      | nil => rw [e1] at h4; cases h4
      | cons z t =>
        rw [e1] at h4
        simp at h4
        rw [h4]
        rfl
theorem plain_count : ∀ (f : Nat) (es : List Entry) (L : List (List Nat)), (∀ e ∈ es, e.1.length ≤ f) → L.Nodup → (∀ l, l ∈ L ↔ Begins es l) → L.length = plainBy f es
  | 0, es, L, h, hn, hm => by
    have : L = [[]] := by
      have h1 : [] ∈ L := (hm []).2 (.inl rfl)
      have h2 : ∀ l ∈ L, l = [] := fun l hl => by
        rcases (hm l).1 hl with e | ⟨e, he, hp⟩
        · exact e
        · have := hp.length_le
          have := h e he
          exact List.length_eq_zero_iff.mp (by omega)
      match L, h1, h2, hn with
      | [a], _, h2, _ => rw [h2 a (List.mem_cons_self ..)]
      | a :: b :: L, _, h2, hn =>
        have e1 := h2 a (List.mem_cons_self ..)
        have e2 := h2 b (List.mem_cons_of_mem _ (List.mem_cons_self ..))
        rw [e1, e2] at hn
        exact absurd (List.mem_cons_self ..) (List.nodup_cons.mp hn).1
    rw [this]
    rfl
  | f + 1, es, L, h, hn, hm => by
    have hp : L.Perm ([] :: L.erase []) := List.perm_cons_erase ((hm []).2 (.inl rfl))
    rw [hp.length_eq, List.length_cons]
    have hmem : ∀ l, l ∈ L.erase [] ↔ l ≠ [] ∧ Begins es l := fun l => by rw [hn.mem_erase_iff, hm l]
    have hnd : (L.erase []).Nodup := hn.erase []
    generalize L.erase [] = M at hmem hnd
    show M.length + 1 = ((firstSigns es).map fun s => plainBy f (behind es s)).sum + 1
    congr 1
    rw [count_heads (firstSigns es) M (firsts_nodup es) fun l hl => ?_]
    · congr 1
      refine List.map_congr_left fun s hs => ?_
      refine plain_count f (behind es s) _ (behind_short h) ?_ fun r => ?_
      · unfold List.Nodup
        rw [List.pairwise_filterMap]
        refine hnd.imp fun {a b} hab x hx y hy => ?_
        rw [tl_iff.mp hx, tl_iff.mp hy] at hab
        exact fun z => hab (by rw [z])
      · rw [List.mem_filterMap]
        constructor
        · rintro ⟨l, hl, hq⟩
          rw [tl_iff.mp hq] at hl
          exact (begins_cons.mp ((hmem _).1 hl).2).2
        · intro hb
          exact ⟨s :: r, (hmem _).2 ⟨by simp, begins_cons.mpr ⟨hs, hb⟩⟩, tl_iff.mpr rfl⟩
    · obtain ⟨h1, h2⟩ := (hmem l).1 hl
      cases l with
      | nil => exact absurd rfl h1
      | cons s r => exact ⟨s, (begins_cons.mp h2).1, rfl⟩
end Mx
set_option Elab.async false
set_option linter.all false
set_option maxRecDepth 100000
set_option maxHeartbeats 2000000
namespace Pt
open PySem PySem.Spec PyProof.Rows L2 Evl
open VahypBase (Bytes)
/-! ## lists of entries; a comprehension of new things -/
theorem sqt_lst {K : PySem.W.Frag} {H : Hp} {l a : Addr} {xs ys zs : List V} (hl : H l = some (.lst ys)) (h : SqT K H a xs) : SqT K (upd H l (.lst zs)) a xs := by
  rcases h with (h | ⟨o, h⟩) | h
  · exact .inl (.inl (by rw [upd_ne (fun z => by rw [z, hl] at h; cases h)]; exact h))
  · exact .inl (.inr ⟨o, by rw [upd_ne (fun z => by rw [z, hl] at h; cases h)]; exact h⟩)
  · exact .inr h
theorem EntAt.off {K : PySem.W.Frag} {mg : Str → Option Value} {T : Tx K mg} {H : Hp} {l o : Addr} {ys zs : List V} {en : List Nat × List Nat} (hl : H l = some (.lst ys)) (h : EntAt T H o en) : EntAt T (upd H l (.lst zs)) o en := by
  obtain ⟨dx, sa, da, h1, h2, h3⟩ := h
  exact ⟨dx, sa, da, by rw [upd_ne (fun z => by rw [z, hl] at h1; cases h1)]; exact h1, sqt_lst hl h2, sqt_lst hl h3⟩
theorem Rep.at {α : Type} {R : Addr → α → Prop} {refs : List V} {xs : List α} {i : Nat} {u : V} (h : Rep R refs xs) (hi : refs[i]? = some u) : ∃ x o, xs[i]? = some x ∧ u = .ref o ∧ R o x := by
  have hl : i < xs.length := by rw [← h.1]; exact (List.getElem?_eq_some_iff.mp hi).1
  obtain ⟨o, h1, h2⟩ := h.2 i _ (List.getElem?_eq_getElem hl)
  exact ⟨_, o, List.getElem?_eq_getElem hl, by rw [hi] at h1; exact Option.some.inj h1, h2⟩
section
variable {P : Program} {w : World} {K : PySem.W.Frag} {mg : Str → Option Value} {base : Heap} {X : Cx}
variable {σ : L2.St} {H H' : Hp} {ta tb tc te tl : TE} {t : TT} {x y z v : V} {C : Addr} {D : Ends} {tz : TS}
theorem eq_lcN {α β : Type} {a : Addr} {refs : List V} {es : List α} {R : Addr → α → Prop} {RB : Hp → Addr → β → Prop} {j : Nat} {vs : List Nat} (p : α → Bool) (g : α → β)
    (mono : ∀ {H H' : Hp} {o : Addr} {b : β}, Ex H H' → RB H o b → RB H' o b) (off : ∀ {H : Hp} {l o : Addr} {ys zs : List V} {b : β}, H l = some (.lst ys) → RB H o b → RB (upd H l (.lst zs)) o b)
    (h : Ev tl σ H (.ref a)) (hx : SqL K H a refs) (hR : Rep R refs es) (hz : es.length ≤ 40000) (hw : ∀ x, wipe ((wipe σ vs).set j (some x)) vs = wipe σ vs)
    (ht : ∀ (o : Addr) (e : α) H1, Ex H H1 → e ∈ es → R o e → EvT t ((wipe σ vs).set j (some (.ref o))) H1 (p e))
    (he : ∀ (o : Addr) (e : α) H1, Ex H H1 → e ∈ es → R o e → p e = true → EvQ te ((wipe σ vs).set j (some (.ref o))) H1 (fun _ u H2 => ∃ q, u = .ref q ∧ RB H2 q (g e))) :
    EvQ (tLc (iList K tl) (gName j) t te vs) σ H (fun H1 u H2 => ∃ l rs, u = .ref l ∧ H1 l = none ∧ H2 l = some (.lst rs) ∧ Rep (RB H2) rs ((es.filter p).map g)) := fun H0 e0 Q q =>
  h H0 e0 _ fun H1 e1 => ⟨a, rfl, ⟨refs, ex_l (e0.trans e1) hx⟩, fun Dl hD =>
    lc_list (xs := refs) (fun i H' => H1 Dl = none ∧ Ex H1 H' ∧ ∃ rs, H' Dl = some (.lst rs) ∧ Rep (RB H') rs (((es.take i).filter p).map g)) ⟨hD, Ex.new hD, [], upd_same, Rep.nil⟩ (fun i H' _ p => ex_l ((e0.trans e1).trans p.2.1) hx) (fun i x H' hi pp => by
      obtain ⟨p1, p2, rs, p3, p4⟩ := pp
      obtain ⟨e, o, he1, rfl, ho⟩ := hR.at hi
      have hil := (List.getElem?_eq_some_iff.mp he1).1
      have hm : e ∈ es := List.mem_of_getElem? he1
      refine ⟨hw _, ?_⟩
      refine ht o e H' ((e0.trans e1).trans p2) hm ho H' (Ex.refl H') _ fun H3 e3 => ?_
      have htk : es.take (i + 1) = es.take i ++ [e] := by rw [List.take_add_one, he1]; rfl
      cases hp : p e with
      | true =>
        show te _ H3 _
        refine he o e H3 (((e0.trans e1).trans p2).trans e3) hm ho hp H3 (Ex.refl H3) _ fun u H4 e4 hu => ?_
        obtain ⟨q2, rfl, hq⟩ := hu
        have hl4 := e4 _ _ (e3 _ _ p3)
        have hl := p4.1
        rw [List.length_map] at hl
        have h5 := List.length_filter_le p (es.take i)
        have h6 := List.length_take_le i es
        refine ⟨rs, hl4, sz_lt (by omega), p1, Ex.mut ((p2.trans e3).trans e4) p1, rs ++ [.ref q2], upd_same, ?_⟩
        rw [htk, List.filter_append, List.map_append, List.filter_cons, if_pos hp]
        exact Rep.snoc (p4.mono fun _ _ r => off hl4 (mono (e3.trans e4) r)) (off hl4 hq)
      | false =>
        show H1 Dl = none ∧ _
        refine ⟨p1, p2.trans e3, rs, e3 _ _ p3, ?_⟩
        rw [htk, List.filter_append, List.map_append, List.filter_cons, if_neg (by rw [hp]; decide)]
        show Rep (RB H3) rs ((List.filter p (List.take i es)).map g ++ [])
        rw [List.append_nil]
        exact p4.mono fun _ _ r => mono e3 r)
    (fun H' pp => by
      obtain ⟨p1, p2, rs, p3, p4⟩ := pp
      rw [hR.1, List.take_length] at p4
      exact q _ H' (e1.trans p2) ⟨Dl, rs, rfl, fresh_back e1 p1, p3, p4⟩)⟩
theorem given_map2 {α : Type} {es : List α} (d : α) (p : α → Bool) (g : α → V) : given es.length (fun i => p (es.getD i d)) (fun i => g (es.getD i d)) = (es.filter p).map g := by
  unfold given
  have h : es = (List.range es.length).map fun i => es.getD i d := by
    refine List.ext_getElem (by simp) fun i h1 h2 => ?_
    simp [List.getD_eq_getElem?_getD, h1]
  conv => rhs; rw [h, List.filter_map, List.map_map]
  rfl
/-- a comprehension of plain values over things -/
theorem el_lcR {α : Type} {a : Addr} {refs : List V} {es : List α} {R : Addr → α → Prop} {j : Nat} {vs : List Nat} (d : α) (p : α → Bool) (g : α → V)
    (h : Ev tl σ H (.ref a)) (hx : SqL K H a refs) (hR : Rep R refs es) (hz : es.length ≤ 40000) (hw : ∀ x, wipe ((wipe σ vs).set j (some x)) vs = wipe σ vs)
    (ht : ∀ (o : Addr) (e : α) H1, Ex H H1 → e ∈ es → R o e → EvT t ((wipe σ vs).set j (some (.ref o))) H1 (p e))
    (he : ∀ (o : Addr) (e : α) H1, Ex H H1 → e ∈ es → R o e → p e = true → Ev te ((wipe σ vs).set j (some (.ref o))) H1 (g e)) :
    EvL (tLc (iList K tl) (gName j) t te vs) σ H ((es.filter p).map g) := by
  rw [← given_map2 d, ← hR.1]
  refine el_lcL (fun i => p (es.getD i d)) (fun i => g (es.getD i d)) h hx (by rw [hR.1]; exact hz) hw (fun i x H1 e hi => ?_) (fun i x H1 e hi hf => ?_)
  · obtain ⟨en, o, h1, rfl, h2⟩ := hR.at hi
    rw [List.getD_eq_getElem?_getD, h1]
    exact ht o en H1 e (List.mem_of_getElem? h1) h2
  · obtain ⟨en, o, h1, rfl, h2⟩ := hR.at hi
    rw [List.getD_eq_getElem?_getD, h1] at hf ⊢
    exact he o en H1 e (List.mem_of_getElem? h1) h2 hf
def EntList (T : Tx K mg) (H : Hp) (l : Addr) (es : List Vahypd.Entry) : Prop := ∃ refs, SqL K H l refs ∧ Rep (EntAt T H) refs es
theorem EntList.mono {T : Tx K mg} {l : Addr} {es : List Vahypd.Entry} (h : EntList T H l es) (e : Ex H H') : EntList T H' l es := let ⟨refs, h1, h2⟩ := h; ⟨refs, ex_l e h1, h2.mono fun _ _ r => r.mono e⟩
theorem ev_sgn {T : Tx K mg} {i : Nat} {o : Addr} {en : Vahypd.Entry} (hσ : σ[i]? = some (some (.ref o))) (h : EntAt T H o en) : EvQ (tFld K (tVar i) "signs") σ H (fun _ u H2 => ∃ a, u = .ref a ∧ SqT K H2 a (nv en.1)) := fun H1 e Q q => by
  obtain ⟨dx, sa, da, h1, h2, h3⟩ := h
  exact ev_fld (ev_var hσ) h1 T.cEntry.cl T.nEntry_signs (v := .ref sa) (by rfl) H1 e Q fun H2 e2 => q _ H2 e2 ⟨sa, rfl, ex_t (e.trans e2) h2⟩
def shortE (es : List Vahypd.Entry) : Prop := ∀ e ∈ es, e.1.length ≤ 8 ∧ e.2.length ≤ 9
/-! ### first_signs -/
theorem el_sortSet {ns : List Int} {xs : List V} (h : EvL te σ H (ns.map V.int)) (hz : ns.length ≤ 2000) (hk : ∀ ms : List Int, ms.Pairwise (· < ·) → (∀ k : Int, k ∈ ms ↔ decide (k ∈ ns) = true) → ms.map V.int = xs) :
    EvL (tCB (rSortedSetI w) (tCons (tCB (rSetLi K w) (tCons te tNil)) tNil)) σ H xs := fun H1 e Q q => h H1 e _ fun p H2 hp e2 h2 =>
  ⟨p, ns, rfl, sq_of h2, hz, fun a c ha hc => ⟨a, _, c, rfl, upd_same, by omega, fun ms r hs hm _ hr => by
    rw [hk ms hs hm]
    have e3 : Ex H2 (upd H2 a (SetO w a (fun j => decide (j ∈ ns)) c)) := Ex.new ha
    exact q r _ (fresh_back (e2.trans e3) hr) ((e2.trans e3).trans (Ex.new hr)) upd_same⟩⟩
def spFirst (T : Tx K mg) : Sp := fun vs H Q _ => ∃ (a : Addr) (es : List Vahypd.Entry), vs = [.ref a] ∧ EntList T H a es ∧ es.length ≤ 40 ∧ RetL (nv (Vahypd.firstSigns es)) H Q
theorem heads_eq (es : List Vahypd.Entry) : (es.filter fun e => decide (0 < e.1.length)).map (fun e => (e.1.headD 0)) = es.filterMap Mx.headOf := by
  induction es with
  | nil => rfl
  | cons e es ih =>
    rw [List.filter_cons, List.filterMap_cons]
    obtain ⟨l, d⟩ := e
    cases l with
    | nil => exact ih
    | cons s r =>
      show _ = s :: _
      rw [if_pos (by simp), List.map_cons, ih]
      rfl
theorem ok_first_signs (T : Tx K mg) : FnOk P w K mg base CX0 1 T.first_signs.f T.first_signs.fd ["entries"] (spFirst T) := by
  refine T.first_signs.F.ok scFirstSigns (fun vs H Q E h => ?_) (fun cdv A outer s H vs Q E hr h => ⟨_,
    pss_one (ps_ret (pe_callB (cr_sortedSetI rfl) (by rfl) T.b_sorted (by decide +kernel) (pa_cons (pe_callTy (cr_setLi rfl) (by rfl) T.b_set (by decide +kernel) (pa_cons
      (pe_lc (own := [("entry", 1)]) (g := gName 1) (tt := tTest (tOp (rI0 fun i j => .bl (decide (j < i))) (tCB (rLenS K) (tCons (tFld K (tVar 1) "signs") tNil)) (tC (.int 0)))) (te := tOp (rIxT K) (tFld K (tVar 1) "signs") (tC (.int 0))) rfl scFirstSigns.nd (pi_list (pv 0)) (blkOk_by (N := ["entries", "entry"]) (sc := defScope sFirstSigns) (by decide +kernel))
        (fun _ _ _ _ _ => pg_name (i := 1) scFirstSigns.nd rfl (Or.inl rfl)) (fun _ _ _ _ _ => pts_one (pt_cmpR op_gt (pe_len T.b_len (pe_fld (pv 1) rfl)) pe_int (nomark _)))
        (fun _ _ _ _ _ => pe_ix ix_tup (pe_fld (pv 1) rfl) pe_int (fun _ _ => rfl))) pa_nil)) pa_nil))), ?_⟩)
  · obtain ⟨a, es, rfl, _⟩ := h
    rfl
  obtain ⟨a, es, rfl, ⟨refs, hL, hR⟩, hz, k⟩ := h
  refine s_retL (el_sortSet (ns := (es.filterMap Mx.headOf).map fun (n : Nat) => (n : Int)) ?_ ?_ fun ms h1 h2 => ?_) fun p H1 hp e h => k p H1 hp e h
  · rw [← heads_eq, List.map_map, List.map_map]
    refine el_lcR (K := K) ([], []) (fun e => decide (0 < e.1.length)) _ (ev_var rfl) hL hR (by omega) (fun _ => rfl) (fun o en H1 e1 hm ho => ?_) (fun o en H1 e1 hm ho hp => ?_)
    · obtain ⟨dx, sa, da, h1, h2, h3⟩ := ho.mono e1
      refine et_is (et_test (ev_op (ev_lenT (ev_fld (ev_var rfl) h1 T.cEntry.cl T.nEntry_signs (v := .ref sa) (by rfl)) h2) ev_c rv_I0)) ?_
      rw [nv_len, Bool.eq_iff_iff]
      simp only [decide_eq_true_eq]
      omega
    · obtain ⟨dx, sa, da, h1, h2, h3⟩ := ho.mono e1
      refine ev_op (ev_fld (ev_var rfl) h1 T.cEntry.cl T.nEntry_signs (v := .ref sa) (by rfl)) ev_c fun H2 e2 Q q => ⟨sa, _, 0, _, rfl, rfl, ex_t e2 h2, ?_, q H2 (Ex.refl H2)⟩
      obtain ⟨l, d⟩ := en
      cases l with
      | nil => cases hp
      | cons s r => exact atI_nat (j := 0) rfl
  · rw [List.length_map]
    have := List.length_filterMap_le Mx.headOf es
    omega
  · rw [Mx.firsts_int h1 h2, List.map_map]
    rfl
end
end Pt
set_option Elab.async false
set_option linter.all false
set_option maxRecDepth 100000
set_option maxHeartbeats 2000000
namespace Pt
open PySem PySem.Spec PyProof.Rows L2 Evl
open VahypBase (Bytes)
/-! ## cuts of tuples; entries_behind, digits_here -/
theorem cut_all {xs : List V} {lo hi : Option Int} (h : HT.sIx xs.length 0 lo = 0 ∧ HT.sIx xs.length xs.length hi = xs.length) : cutV xs lo hi = xs := by
  unfold cutV
  rw [h.1, h.2, List.drop_zero, Nat.sub_zero, List.take_length]
theorem cut_to (xs : List V) (n : Nat) : cutV xs none (some (n : Int)) = xs.take n := by
  unfold cutV
  rw [show HT.sIx xs.length xs.length (some (n : Int)) = min n xs.length from HT.sIx_nat xs.length xs.length n, show HT.sIx xs.length 0 none = 0 from rfl, List.drop_zero, Nat.sub_zero]
  rcases Nat.le_total n xs.length with h | h
  · rw [Nat.min_eq_left h]
  · rw [Nat.min_eq_right h, List.take_length, List.take_of_length_le h]
theorem cut_from (xs : List V) (n : Nat) : cutV xs (some (n : Int)) none = xs.drop n := by
  unfold cutV
  rw [show HT.sIx xs.length 0 (some (n : Int)) = min n xs.length from HT.sIx_nat xs.length 0 n, show HT.sIx xs.length xs.length none = xs.length from rfl]
  rcases Nat.le_total n xs.length with h | h
  · rw [Nat.min_eq_left h]
    exact List.take_of_length_le (by rw [List.length_drop]; exact Nat.le_refl _)
  · rw [Nat.min_eq_right h, Nat.sub_self, List.take_zero, List.drop_eq_nil_of_le h]
theorem nv_take (l : List Nat) (n : Nat) : (nv l).take n = nv (l.take n) := by unfold nv; rw [List.map_take]
theorem nv_drop (l : List Nat) (n : Nat) : (nv l).drop n = nv (l.drop n) := by unfold nv; rw [List.map_drop]
section
variable {P : Program} {w : World} {K : PySem.W.Frag} {mg : Str → Option Value} {base : Heap} {X : Cx}
variable {σ : L2.St} {H H' : Hp} {ta tb tc te tl : TE} {t : TT} {x y z v : V} {C : Addr} {D : Ends} {tz : TS}
/-- a tuple, told by what stands in it -/
def EvT2 (K : PySem.W.Frag) (te : TE) (σ : L2.St) (H : Hp) (xs : List V) : Prop := EvQ te σ H (fun _ u H2 => ∃ p, u = .ref p ∧ SqT K H2 p xs)
theorem et2_v {a : Addr} {xs : List V} (h : Ev te σ H (.ref a)) (hx : SqT K H a xs) : EvT2 K te σ H xs := fun H1 e Q q => h H1 e Q fun H2 e2 => q _ H2 e2 ⟨a, rfl, ex_t (e.trans e2) hx⟩
theorem et2_u {xs : List V} (h : EvU te σ H xs) : EvT2 K te σ H xs := fun H1 e Q q => h H1 e Q fun p H2 _ e2 h2 => q _ H2 e2 ⟨p, rfl, st_of h2⟩
theorem et2_sl {tlo thi : TO} {lo hi : Option Int} {xs : List V} (h : EvT2 K te σ H xs) (h1 : EvO tlo σ H lo) (h2 : EvO thi σ H hi) : EvT2 K (tSl (rSlA K) te tlo thi) σ H (cutV xs lo hi) := fun H1 e Q q =>
  h H1 e _ fun u H2 e2 ⟨p, hu, hp⟩ => h1 H2 (e.trans e2) _ fun H3 e3 => h2 H3 ((e.trans e2).trans e3) _ fun H4 e4 =>
    ⟨p, xs, hu, ex_t (e3.trans e4) hp, fun hw => q _ _ ((e2.trans e3).trans e4) ⟨p, rfl, by rw [cut_all hw]; exact ex_t (e3.trans e4) hp⟩, fun _ r hr => q _ _ (((e2.trans e3).trans e4).trans (Ex.new hr)) ⟨r, rfl, st_of upd_same⟩⟩
theorem et2_eq {l m : List Nat} (ha : EvT2 K ta σ H (nv l)) (hb : EvT2 K tb σ H (nv m)) : EvT (tTest (tOp (rEqD K) ta tb)) σ H (l == m) := fun H1 e Q q =>
  ha H1 e _ fun u H2 e2 ⟨p, hu, hp⟩ => hb H2 (e.trans e2) _ fun u3 H3 e3 ⟨r, hr, h3⟩ => by
    subst hu
    subst hr
    exact ⟨dn l, dn m, dp_nv (ex_t e3 hp), dp_nv h3, shaped_dn l, shaped_dn m, by
      rw [eqv_dn]
      exact ⟨_, rfl, q H3 (e2.trans e3)⟩⟩
/-! ### entries_behind -/
def spBehind (T : Tx K mg) : Sp := fun vs H Q _ => ∃ (a : Addr) (s : Nat) (es : List Vahypd.Entry), vs = [.ref a, .int (s : Int)] ∧ EntList T H a es ∧ es.length ≤ 40 ∧ ∀ l rs H2, H l = none → Ex H H2 → H2 l = some (.lst rs) → Rep (fun o e => H o = none ∧ EntAt T H2 o e) rs (Vahypd.behind es s) → Q (.ref l) H2
theorem ok_entries_behind (T : Tx K mg) : FnOk P w K mg base CX0 3 T.entries_behind.f T.entries_behind.fd ["entries", "sign"] (spBehind T) := by
  have GE : FnOk P w K mg base CX0 1 _ _ _ _ := ok_Entry T
  refine T.entries_behind.F.ok scEntriesBehind (fun vs H Q E h => ?_) (fun cdv A outer s H vs Q E hr h => ⟨_,
    pss_one (ps_ret (pe_lc (own := [("entry", 2)]) (g := gName 2) (tt := tTest (tOp (rEqD K) (tSl (rSlA K) (tFld K (tVar 2) "signs") tNoPart (tPart (tC (.int 1)))) (tTup (tCons (tVar 1) tNil))))
      (te := tMake T.cEntry.C (spIni T.cEntry.C 2 fun as => [("signs", as.getD 0 .non), ("digits", as.getD 1 .non)]) [] E0 (tCons (tSl (rSlA K) (tFld K (tVar 2) "signs") (tPart (tC (.int 1))) tNoPart) (tCons (tFld K (tVar 2) "digits") tNil)))
        rfl scEntriesBehind.nd (pi_list (pv 0)) (blkOk_by (N := ["entries", "sign", "entry"]) (sc := defScope sEntriesBehind) (by decide +kernel))
        (fun _ _ _ _ _ => pg_name (i := 2) scEntriesBehind.nd rfl (Or.inl rfl)) (fun _ _ _ _ _ => pts_one (pt_cmpR (op_eqD (hu64 hr)) (pe_slice sl_tupA (pe_fld (pv 2) rfl) po_none (po_some pe_int)) (pe_tup (pa_cons (pv 1) pa_nil)) (nomark _)))
        (fun _ _ _ _ _ => pe_make T.cEntry.mkc GE hr rfl T.cEntry.m (bdEntryInit T.cEntry.F) .nil pass0 (pa_cons (pe_slice sl_tupA (pe_fld (pv 2) rfl) (po_some pe_int) po_none) (pa_cons (pe_fld (pv 2) rfl) pa_nil))))), ?_⟩)
  · obtain ⟨a, s, es, rfl, _⟩ := h
    rfl
  obtain ⟨a, s, es, rfl, ⟨refs, hL, hR⟩, hz, k⟩ := h
  refine s_retQ (eq_lcN (K := K) (R := EntAt T H) (RB := fun H2 o (b : Vahypd.Entry) => H o = none ∧ EntAt T H2 o b) (fun e => e.1.take 1 == [s]) (fun e => (e.1.drop 1, e.2)) (fun e r => ⟨r.1, r.2.mono e⟩) (fun hl r => ⟨r.1, r.2.off hl⟩) (ev_var rfl) hL hR (by omega) (fun _ => rfl) (fun o en H1 e1 hm ho => ?_) (fun o en H1 e1 hm ho hp => ?_)) fun v H1 e1 ⟨l, rs, hv, hl, h1, hRb⟩ => ?_
  · obtain ⟨dx, sa, da, h1, h2, h3⟩ := ho.mono e1
    have h4 : EvT2 K (tSl (rSlA K) (tFld K (tVar 2) "signs") tNoPart (tPart (tC (.int 1)))) ((wipe [some (V.ref a), some (V.int (s : Int)), none] [2]).set 2 (some (V.ref o))) H1 (cutV (nv en.1) none (some ((1 : Nat) : Int))) := et2_sl (et2_v (ev_fld (ev_var rfl) h1 T.cEntry.cl T.nEntry_signs (v := .ref sa) (by rfl)) h2) eo_none (eo_some ev_c)
    rw [cut_to, nv_take] at h4
    exact et2_eq h4 (m := [s]) (et2_u (eu_tup (vs := [V.int (s : Int)]) (ea_cons (ev_var rfl) ea_nil) (by show 1 ≤ 100000; decide)))
  · obtain ⟨dx, sa, da, h1, h2, h3⟩ := ho.mono e1
    have h4 : EvT2 K (tSl (rSlA K) (tFld K (tVar 2) "signs") (tPart (tC (.int 1))) tNoPart) ((wipe [some (V.ref a), some (V.int (s : Int)), none] [2]).set 2 (some (V.ref o))) H1 (cutV (nv en.1) (some ((1 : Nat) : Int)) none) := et2_sl (et2_v (ev_fld (ev_var rfl) h1 T.cEntry.cl T.nEntry_signs (v := .ref sa) (by rfl)) h2) (eo_some ev_c) eo_none
    rw [cut_from, nv_drop] at h4
    intro H2 e2 Q2 q2
    refine h4 H2 e2 _ fun u H3 e3 ⟨p, hu, hp⟩ => ?_
    subst hu
    refine (ev_fld (ev_var rfl) ((e2.trans e3) _ _ h1) T.cEntry.cl T.nEntry_digits (v := .ref da) (by rfl)) H3 (Ex.refl _) _ fun H4 e4 => ?_
    refine mk_fin (n := 2) rfl fun o2 dx2 H5 ho2 e5 h5 => ?_
    exact q2 _ H5 ((e3.trans e4).trans e5) ⟨o2, rfl, fresh_back (((e1.trans e2).trans e3).trans e4) ho2, dx2, p, da, h5, ex_t (e4.trans e5) hp, ex_t (((e2.trans e3).trans e4).trans e5) h3⟩
  · subst hv
    rw [← Mx.behind_eq] at hRb
    exact k l rs H1 hl e1 h1 hRb
/-! ### digits_here -/
theorem drop_of {α : Type} {l : List α} {i : Nat} {x : α} (h : l[i]? = some x) : l.drop i = x :: l.drop (i + 1) := by
  obtain ⟨h1, h2⟩ := List.getElem?_eq_some_iff.mp h
  rw [List.drop_eq_getElem_cons h1, h2]
/-- None, or a tuple of digits -/
def DigV (K : PySem.W.Frag) (H : Hp) (u : V) (o : Option (List Nat)) : Prop := match o with
  | none => u = .non
  | some d => ∃ a, u = .ref a ∧ SqT K H a (nv d)
theorem DigV.mono {u : V} {o : Option (List Nat)} (h : DigV K H u o) (e : Ex H H') : DigV K H' u o := by
  cases o with
  | none => exact h
  | some d =>
    obtain ⟨a, h1, h2⟩ := h
    exact ⟨a, h1, ex_t e h2⟩
def spDigits (T : Tx K mg) : Sp := fun vs H Q _ => ∃ (a : Addr) (es : List Vahypd.Entry), vs = [.ref a] ∧ EntList T H a es ∧ es.length ≤ 40 ∧ ∀ u H2, Ex H H2 → DigV K H2 u (Vahypd.endsHere es) → Q u H2
theorem ok_digits_here (T : Tx K mg) : FnOk P w K mg base CX0 1 T.digits_here.f T.digits_here.fd ["entries"] (spDigits T) := by
  refine T.digits_here.F.ok scDigitsHere (fun vs H Q E h => ?_) (fun cdv A outer s H vs Q E hr h => ⟨_,
    pss_cons (ps_for PassesOwn.never rfl (pi_list (pv 0)) (pg_name (i := 1) scDigitsHere.nd rfl (.inl rfl))
      (pss_one (ps_if (pt_cmpR op_eq (pe_len T.b_len (pe_fld (pv 1) rfl)) pe_int (nomark _)) (pss_one (ps_ret (pe_fld (pv 1) rfl))) pss_nil)))
    (pss_one (ps_ret pe_non)), ?_⟩)
  · obtain ⟨a, es, rfl, _⟩ := h
    rfl
  obtain ⟨a, es, rfl, ⟨refs, hL, hR⟩, hz, k⟩ := h
  refine q_forLn (a := a) (xs := refs) (ev_var rfl) hL (fun i σ' H' => ∃ u : Option V, σ' = [some (.ref a), u] ∧ Ex H H' ∧ Vahypd.endsHere es = Vahypd.endsHere (es.drop i)) (fun H1 e1 => ⟨none, rfl, e1, rfl⟩) (fun i σ' H' _ p => by
    obtain ⟨u, _, e, _⟩ := p
    exact ex_l e hL) ?_ ?_
  · rintro i x σ' H' hi ⟨u, rfl, e, hE⟩
    obtain ⟨en, o, he, rfl, ho⟩ := hR.at hi
    obtain ⟨dx, sa, da, h1, h2, h3⟩ := ho.mono e
    rw [drop_of he] at hE
    refine s_if (b := en.1.isEmpty) (et_is (et_test (ev_op (ev_lenT (ev_fld (ev_var rfl) h1 T.cEntry.cl T.nEntry_signs (v := .ref sa) (by rfl)) h2) ev_c (rv_eq rfl))) ?_) (fun hs H1 e1 => ?_) (fun hs H1 e1 => ?_)
    · rw [nv_len]
      cases en.1 with
      | nil => simp
      | cons a r =>
        simp
        omega
    · refine s_ret (ev_fld (ev_var rfl) (e1 _ _ h1) T.cEntry.cl T.nEntry_digits (v := .ref da) (by rfl)) fun H2 e2 => ?_
      refine k _ H2 ((e.trans e1).trans e2) ?_
      rw [hE]
      have : Vahypd.endsHere (en :: es.drop (i + 1)) = some en.2 := by
        unfold Vahypd.endsHere
        rw [List.find?_cons_of_pos (p := fun e : Vahypd.Entry => e.1.isEmpty) hs]
        rfl
      rw [this]
      exact ⟨da, rfl, ex_t (e1.trans e2) h3⟩
    · refine ⟨_, rfl, e.trans e1, ?_⟩
      rw [hE]
      unfold Vahypd.endsHere
      rw [List.find?_cons_of_neg (p := fun e : Vahypd.Entry => e.1.isEmpty) (by rw [hs]; decide)]
  · rintro σ' H' ⟨u, rfl, e, hE⟩
    refine s_ret ev_c fun H2 e2 => k _ H2 (e.trans e2) ?_
    rw [hE, hR.1, List.drop_length]
    exact rfl
end
end Pt
set_option Elab.async false
set_option linter.all false
set_option maxRecDepth 100000
set_option maxHeartbeats 200000
namespace Pt
open PySem PySem.Spec PyProof.Rows L2 Evl
section
variable {X : Cx} {pins : List (Addr × Obj)} {σ : L2.St} {H : Hp} {s : Shared} {d a : Addr} {xs : List NE} {k : NestedKey} {A : Around} {E : Value → Shared → Prop}
theorem tPairs_one {tk tv : TE} {σ : L2.St} {H : Hp} {Q : List (V × V) → Hp → Prop} (h : tk σ H fun x H1 => tv σ H1 fun y H2 => Q [(x, y)] H2) : tPairs [(tk, tv)] σ H Q := h
/-- {k: v} -/
def tDisp1N (K : PySem.W.Frag) (P : Program) (w : World) (tk tv : TE) : TE := fun σ H Q => ∀ p, H p = none → tk σ (upd H p (dN P w p [])) fun x H1 => tv σ H1 fun y H2 => ∃ a k, x = .ref a ∧ H2 p = some (dN P w p []) ∧ NkV K H2 (.ref a) k ∧ k.depth ≤ 8 ∧ Q (.ref p) (upd H2 p (dN P w p [(k, a, y)]))
theorem pe_disp1N {pos : Pos} {k v : Expr} {tk tv : TE} (hu : X.A.units + 9 < cLine) (hk : PE X k tk) (hv : PE X v tv) : PE X (.Dict [some k] [v] pos) (tDisp1N X.K X.prog X.w tk tv) := by
  refine ⟨fun pins s σ H Q I q => ?_⟩
  have hn := I.hok.fresh (Nat.le_refl s.heap.objs.size)
  have hsm : (s.heap.objs.size == sysModules) = false := beq_eq_false_iff_ne.mpr (Ne.symm (Nat.ne_of_lt I.big))
  have I1 := I.laid (a := s.heap.objs.size) (o := dN X.prog X.w s.heap.objs.size []) (h' := s.heap.push { cls := .type "dict", data := .dict #[] }) (t' := s.toks) (fun _ _ q => Heap.get?_push_of_some _ q) (Nat.le_refl _)
    (dN_ok ⟨Nat.zero_le _, hsm, List.nodup_nil, [], .nil, _, #[], 0, Heap.get?_push_size _ rfl, ⟨rfl, rfl, rfl⟩, rfl, rfl⟩)
  have h : PPs X pos [some k] [v] [(tk, tv)] := pps_cons hk hv pps_nil
  refine wpAny_Dict_any rfl rfl (by simp) (by show 1 ≤ 15; decide) (thn (h.run pins _ σ _ (fun ps H2 => match ps with
    | [(x, y)] => ∃ a k, x = .ref a ∧ H2 s.heap.objs.size = some (dN X.prog X.w s.heap.objs.size []) ∧ NkV X.K H2 (.ref a) k ∧ k.depth ≤ 8 ∧ Q (.ref s.heap.objs.size) (upd H2 s.heap.objs.size (dN X.prog X.w s.heap.objs.size [(k, a, y)]))
    | _ => False) I1 (tPairs_one ?_)) fun ws s2 ⟨ps, H2, I2, rel, q2⟩ => ?_)
  · exact q _ hn
  · cases ps with
    | nil => exact q2.elim
    | cons xy ps =>
    cases ps with
    | cons _ _ => exact q2.elim
    | nil =>
    obtain ⟨x, y⟩ := xy
    obtain ⟨a, k, rfl, hd, hkv, hdp, q2⟩ := q2
    cases rel with
    | @cons _ u12 _ _ r12 rnil =>
    cases rnil
    obtain ⟨u1, u2⟩ := u12
    obtain ⟨r1, r2⟩ := r12
    have r1 : u1 = .ref a := r1
    subst r1
    obtain ⟨ys, r, dd, hs, hz, hnn⟩ := dN_of I2 hd (fun x hx => nomatch hx)
    cases r
    refine wpAny_storeAllH (knd := nestedKind X.prog X.w) (by show X.A.units + 8 < cLine; omega) [(.ref a, u2)] [(k, a, u2)] [] s2 _ ⟨rfl, rfl, ⟨hkv.is I2 rfl, hdp⟩, trivial⟩ dd (by show 0 + 1 ≤ sizeLine; exact sz_of (by decide)) fun h' tk dd' sb => ?_
    have e : storedAllH ([] : List (NestedKey × Addr × Value)) [(k, a, u2)] = [(k, a, u2)] := rfl
    rw [e] at dd'
    obtain ⟨ob, es, ep, h5, h6, h7, h8, h9, h10⟩ := dd'
    refine ⟨.ref s.heap.objs.size, _, d_write I2 (by rw [hd]; exact True.intro) sb ⟨ob, h5⟩ (dN_ok (xs := [(k, a, y)]) ⟨by show 1 ≤ sizeLine; exact sz_of (by decide), hs, by simp, [(k, a, u2)], .cons ⟨rfl, rfl, r2⟩ .nil, ob, es, ep, h5, h6, h7, h8⟩), rfl, q2⟩
end
end Pt
set_option Elab.async false
set_option linter.all false
set_option maxRecDepth 100000
set_option maxHeartbeats 2000000
namespace Pt
open PySem PySem.Spec PyProof.Rows L2 Evl
open VahypBase (Bytes)
open Vahypd (Node Table)
/-! ## nodes, the table in the making -/
def digKey : Option (List Nat) → NestedKey
  | none => .none
  | some d => .tup (d.map fun (n : Nat) => .num (n : Int))
def wayKey (x : Nat × Nat) : NestedKey := .tup [.num (x.1 : Int), .num (x.2 : Int)]
def keyOfN (n : Node) : NestedKey := .tup [digKey n.out, .tup (n.kids.map wayKey)]
theorem nums_inj {l m : List Nat} (h : (l.map fun (n : Nat) => NestedKey.num (n : Int)) = m.map fun (n : Nat) => NestedKey.num (n : Int)) : l = m :=
  List.map_inj_right (fun a b e => Int.ofNat.inj (NestedKey.num.inj e)) |>.mp h
theorem wayKey_inj {x y : Nat × Nat} (h : wayKey x = wayKey y) : x = y := by
  have h := NestedKey.tup.inj h
  injection h with h1 h2
  injection h2 with h2 _
  exact Prod.ext (Int.ofNat.inj (NestedKey.num.inj h1)) (Int.ofNat.inj (NestedKey.num.inj h2))
theorem keyOfN_inj {n m : Node} (h : keyOfN n = keyOfN m) : n = m := by
  have h := NestedKey.tup.inj h
  injection h with h1 h2
  injection h2 with h2 _
  obtain ⟨o, k⟩ := n
  obtain ⟨o', k'⟩ := m
  have hk : k = k' := List.map_inj_right (fun a b e => wayKey_inj e) |>.mp (NestedKey.tup.inj h2)
  have ho : o = o' := by
    cases o with
    | none =>
      cases o' with
      | none => rfl
      | some d => exact nomatch h1
    | some d =>
      cases o' with
      | none => exact nomatch h1
      | some e => rw [nums_inj (NestedKey.tup.inj h1)]
  rw [hk, ho]
theorem depth_all {α : Type} (f : α → NestedKey) (b : Nat) (h : ∀ a, (f a).depth ≤ b) : ∀ l : List α, NestedKey.depthAll (l.map f) ≤ b
  | [] => by simp [NestedKey.depthAll]
  | a :: l => by
    have h1 := h a
    have h2 := depth_all f b h l
    simp only [List.map_cons, NestedKey.depthAll]
    omega
theorem keyOfN_deep (n : Node) : (keyOfN n).depth ≤ 8 := by
  have h1 : (digKey n.out).depth ≤ 3 := by
    cases n.out with
    | none => simp [digKey, NestedKey.depth]
    | some d =>
      have := depth_all (fun (n : Nat) => NestedKey.num (n : Int)) 1 (fun a => by simp [NestedKey.depth]) d
      simp only [digKey, NestedKey.depth]
      omega
  have h2 := depth_all wayKey 3 (fun a => by simp [wayKey, NestedKey.depth, NestedKey.depthAll]) n.kids
  simp only [keyOfN, NestedKey.depth, NestedKey.depthAll]
  omega
section
variable {P : Program} {w : World} {K : PySem.W.Frag} {mg : Str → Option Value} {base : Heap} {X : Cx}
variable {σ : L2.St} {H H' : Hp} {ta tb tc te tl : TE} {t : TT} {x y z v : V} {C : Addr} {D : Ends} {tz : TS}
theorem ok_Node (T : Tx K mg) : FnOk P w K mg base CX0 1 T.cNode.f T.cNode.fd ["self", "digits", "ways"] (spIni T.cNode.C 2 fun as => [("digits", as.getD 0 .non), ("ways", as.getD 1 .non)]) := by
  refine T.cNode.F.ok scNodeInit (fun vs H Q E h => ?_) (fun cdv A outer s H vs Q E hr h => ⟨_, pss_cons (ps_fld (pv 0) (pv 1) rfl) (pss_one (ps_fld (pv 0) (pv 2) rfl)), ?_⟩)
  · obtain ⟨p, dx, as, rfl, hl, _⟩ := h
    rw [List.length_cons, hl]
    rfl
  · obtain ⟨p, dx, as, rfl, hl, hp, k⟩ := h
    match as, hl with
    | [v1, v2], _ =>
      refine ⟨_, rfl, _, rfl, p, T.cNode.C, dx, [], rfl, hp, T.cNode.cl, T.nNode_digits, (by show 0 < 1000; decide), ?_⟩
      refine ⟨_, rfl, _, rfl, p, T.cNode.C, dx, _, rfl, upd_same, T.cNode.cl, T.nNode_ways, (by show 1 < 1000; decide), ?_⟩
      show Q .non _
      rw [upd_upd, puts2 (by decide +kernel)]
      exact k
/-- a node's ways -/
def WaysAt (K : PySem.W.Frag) (H : Hp) (wa : Addr) (kids : List (Nat × Nat)) : Prop := ∃ ws, SqT K H wa ws ∧ Rep (fun p (x : Nat × Nat) => SqT K H p (nv [x.1, x.2])) ws kids
theorem WaysAt.mono {wa : Addr} {kids : List (Nat × Nat)} (h : WaysAt K H wa kids) (e : Ex H H') : WaysAt K H' wa kids := let ⟨ws, h1, h2⟩ := h; ⟨ws, ex_t e h1, h2.mono fun _ _ r => ex_t e r⟩
def NodeAt (T : Tx K mg) (H : Hp) (o : Addr) (n : Node) : Prop := ∃ dx u wa, H o = some (.ins T.cNode.C dx [("digits", u), ("ways", .ref wa)]) ∧ DigV K H u n.out ∧ WaysAt K H wa n.kids
theorem NodeAt.mono {T : Tx K mg} {o : Addr} {n : Node} (h : NodeAt T H o n) (e : Ex H H') : NodeAt T H' o n := let ⟨dx, u, wa, h1, h2, h3⟩ := h; ⟨dx, u, wa, e _ _ h1, h2.mono e, h3.mono e⟩
theorem nk_nums {l : List Nat} : NkAll K H (nv l) (l.map fun (n : Nat) => .num (n : Int)) := by
  induction l with
  | nil => exact .nil
  | cons a l ih => exact .cons (.int _) ih
theorem DigV.key {u : V} {o : Option (List Nat)} (h : DigV K H u o) : NkV K H u (digKey o) := by
  cases o with
  | none =>
    have h : u = .non := h
    rw [h]
    exact .non
  | some d =>
    obtain ⟨a, rfl, h2⟩ := h
    exact .tup h2 nk_nums
theorem WaysAt.key {wa : Addr} {kids : List (Nat × Nat)} (h : WaysAt K H wa kids) : NkV K H (.ref wa) (.tup (kids.map wayKey)) := by
  obtain ⟨ws, h1, h2⟩ := h
  refine .tup h1 ?_
  clear h1
  induction kids generalizing ws with
  | nil =>
    have : ws = [] := List.length_eq_zero_iff.mp h2.1
    rw [this]
    exact .nil
  | cons x kids ih =>
    obtain ⟨hl, hx⟩ := h2
    obtain ⟨p, hp, hq⟩ := hx 0 x rfl
    cases ws with
    | nil => cases hp
    | cons u ws =>
      have e : u = .ref p := Option.some.inj hp
      rw [e]
      exact .cons (.tup hq (nk_nums (l := [x.1, x.2]))) (ih ws ⟨Nat.succ.inj hl, fun i y hy => hx (i + 1) y hy⟩)
theorem key_tup {a wa : Addr} {u : V} {n : Node} (h : SqT K H a [u, .ref wa]) (hd : DigV K H u n.out) (hw : WaysAt K H wa n.kids) : NkV K H (.ref a) (keyOfN n) := .tup h (.cons hd.key (.cons hw.key .nil))
/-! ### Table -/
def pkF (nl d : Addr) : List (Str × V) := [("nodes", .ref nl), ("numbers", .ref d)]
structure TblS (P : Program) (w : World) (T : Tx K mg) (G M : Hp) (t dt nl d : Addr) (tab : Table) (refs : List V) (xs : List NE) : Prop where
  ap : Apart G M
  mt : M t = some (.ins T.cPacker.C dt (pkF nl d))
  mn : M nl = some (.lst refs)
  md : M d = some (dN P w d xs)
  nd : Rep (NodeAt T G) refs tab
  len : xs.length = tab.length
  ks : ∀ (i : Nat) (x : NE), xs[i]? = some x → ∃ n, tab[i]? = some n ∧ x.1 = keyOfN n ∧ x.2.2 = .int (i : Int)
  kin : KeysIn K G xs
  dup : tab.Nodup
theorem TblS.grow {T : Tx K mg} {G G2 M : Hp} {t dt nl d : Addr} {tab : Table} {refs : List V} {xs : List NE} (h : TblS P w T G M t dt nl d tab refs xs) (e : Ex G G2) (a : Apart G2 M) : TblS P w T G2 M t dt nl d tab refs xs :=
  ⟨a, h.mt, h.mn, h.md, h.nd.mono fun _ _ r => r.mono e, h.len, h.ks, h.kin.mono e, h.dup⟩
theorem TblS.any {T : Tx K mg} {G M : Hp} {t dt nl d : Addr} {tab : Table} {refs : List V} {xs : List NE} (h : TblS P w T G M t dt nl d tab refs xs) (n : Node) : (xs.any fun x => decide (x.1 = keyOfN n)) = decide (n ∈ tab) := by
  rw [Bool.eq_iff_iff, List.any_eq_true, decide_eq_true_eq]
  constructor
  · rintro ⟨x, hx, e⟩
    obtain ⟨i, hi⟩ := List.mem_iff_getElem?.mp hx
    obtain ⟨m, hm, hk, _⟩ := h.ks i x hi
    have : m = n := keyOfN_inj (hk.symm.trans (of_decide_eq_true e))
    rw [← this]
    exact List.mem_of_getElem? hm
  · intro hn
    obtain ⟨i, hi⟩ := List.mem_iff_getElem?.mp hn
    have hl : i < xs.length := by rw [h.len]; exact (List.getElem?_eq_some_iff.mp hi).1
    obtain ⟨m, hm, hk, _⟩ := h.ks i _ (List.getElem?_eq_getElem hl)
    rw [hi] at hm
    have e : n = m := Option.some.inj hm
    exact ⟨_, List.getElem_mem hl, decide_eq_true (by rw [hk, e])⟩
theorem TblS.at_ {T : Tx K mg} {G M : Hp} {t dt nl d : Addr} {tab : Table} {refs : List V} {xs : List NE} (h : TblS P w T G M t dt nl d tab refs xs) {n : Node} {k : Nat} (hn : tab[k]? = some n) : ∃ b, (keyOfN n, b, V.int (k : Int)) ∈ xs := by
  have hl : k < xs.length := by rw [h.len]; exact (List.getElem?_eq_some_iff.mp hn).1
  obtain ⟨m, hm, hk, hi⟩ := h.ks k _ (List.getElem?_eq_getElem hl)
  rw [hn] at hm
  have e : n = m := Option.some.inj hm
  refine ⟨(xs[k]).2.1, ?_⟩
  have : xs[k] = (keyOfN n, (xs[k]).2.1, V.int (k : Int)) := by
    rw [e, ← hk, ← hi]
  rw [← this]
  exact List.getElem_mem hl
theorem sqt_g {G M : Hp} {a : Addr} {xs : List V} (h : SqT K (over G M) a xs) (hm : M a = none) : SqT K G a xs := by
  rcases h with (h | ⟨o, h⟩) | h
  · exact .inl (.inl (by rw [over_g hm] at h; exact h))
  · exact .inl (.inr ⟨o, by rw [over_g hm] at h; exact h⟩)
  · exact .inr h
theorem none_m {G M : Hp} {a : Addr} (h : over G M a = none) : M a = none := by
  cases hm : M a with
  | none => rfl
  | some u => rw [over_m hm] at h; cases h
end
end Pt
set_option Elab.async false
set_option linter.all false
set_option maxRecDepth 100000
set_option maxHeartbeats 2000000
namespace Pt
open PySem PySem.Spec PyProof.Rows L2 Evl
open VahypBase (Bytes)
open Vahypd (Node Table)
section
variable {P : Program} {w : World} {K : PySem.W.Frag} {mg : Str → Option Value} {base : Heap} {X : Cx}
variable {σ : L2.St} {H H' : Hp} {ta tb tc te tl : TE} {t : TT} {x y z v : V} {C : Addr} {D : Ends} {tz : TS}
theorem ev_nget {d a b : Addr} {xs : List NE} {k : NestedKey} {n : V} (hd : Ev ta σ H (.ref d)) (hy : Ev tb σ H (.ref a)) (h : H d = some (dN P w d xs)) (hk : KeysIn K H xs) (hv : NkV K H (.ref a) k) (hdp : k.depth ≤ 8) (hm : (k, b, n) ∈ xs) :
    Ev (tNGet K P w ta tb) σ H n := fun H1 e Q q => hd H1 e _ fun H2 e2 => hy H2 (e.trans e2) _ fun H3 e3 =>
  ⟨a, d, xs, k, n, b, rfl, rfl, ((e.trans e2).trans e3) _ _ h, hk.mono ((e.trans e2).trans e3), hv.mono ((e.trans e2).trans e3), hdp, hm, q H3 (e2.trans e3)⟩
/-! ### number_of -/
def spNumber (P : Program) (w : World) (T : Tx K mg) : Sp := fun vs H Q _ => ∃ (t dt nl d wa : Addr) (u : V) (n : Node) (tab : Table) (refs : List V) (xs : List NE) (G M : Hp), vs = [.ref t, u, .ref wa] ∧ H = over G M ∧ TblS P w T G M t dt nl d tab refs xs ∧ DigV K G u n.out ∧ WaysAt K G wa n.kids ∧ tab.length ≤ 5000 ∧
  ∀ G2 M2 refs2 xs2, Ex G G2 → TblS P w T G2 M2 t dt nl d (Vahypd.put tab n).1 refs2 xs2 → (∀ b, b ≠ nl → b ≠ d → M2 b = M b) → Q (.int ((Vahypd.put tab n).2 : Nat)) (over G2 M2)
theorem ok_number_of (T : Tx K mg) : FnOk P w K mg base CX0 3 T.mPacker_number_of.f T.mPacker_number_of.fd ["self", "digits", "ways"] (spNumber P w T) := by
  have GN : FnOk P w K mg base CX0 1 _ _ _ _ := ok_Node T
  refine T.mPacker_number_of.F.ok scPackerNumberOf (fun vs H Q E h => ?_) (fun cdv A outer s H vs Q E hr h => ?_)
  · obtain ⟨t, dt, nl, d, wa, u, n, tab, refs, xs, G, M, rfl, _⟩ := h
    rfl
  have hu : (A.deeper (envOfC "Packer.number_of" (defScope sPackerNumberOf) s.heap.objs.size T.mPacker_number_of.f cdv)).units + 9 < cLine := by have := hr.un; omega
  refine ⟨_, pss_cons (ps_set (i := 3) scPackerNumberOf.nd rfl (.inl rfl) (pe_tup (pa_cons (pv 1) (pa_cons (pv 2) pa_nil))))
    (pss_cons (ps_if (pt_cmpR (op_notInN hu) (pv 3) (pe_fld (pv 0) rfl) (by rfl))
      (pss_cons (ps_asg (pe_len T.b_len (pe_fld (pv 0) rfl)) (pg_sub (pe_fld (pv 0) rfl) (pv 3) (set_N hu)))
       (pss_one (ps_expr (pe_bm PySem.F.plainAttrs_list PySem.F.slot_list_append PySem.F.type_list_append mt_append (pe_fld (pv 0) rfl) (pa_cons (pe_make T.cNode.mkc GN hr rfl T.cNode.m (bdNodeInit T.cNode.F) .nil pass0 (pa_cons (pv 1) (pa_cons (pv 2) pa_nil))) pa_nil))))) pss_nil)
    (pss_one (ps_ret (pe_nget hu (pe_fld (pv 0) rfl) (pv 3) (fun _ _ => rfl))))), ?_⟩
  obtain ⟨t, dt, nl, d, wa, u, n, tab, refs, xs, G, M, rfl, rfl, hT, hD, hW, hz, k⟩ := h
  have eG := ex_over hT.ap
  refine q_asgU (eu_tup (vs := [u, .ref wa]) (ea_cons (ev_var rfl) (ea_cons (ev_var rfl) ea_nil)) (by show 2 ≤ 100000; decide)) fun told H1 ht e1 h1 => ?_
  obtain ⟨G1, a1, eG1, rfl⟩ := over_split hT.ap e1
  have hT1 := hT.grow eG1 a1
  have hK1 : NkV K G1 (.ref told) (keyOfN n) := key_tup (sqt_g (st_of h1) (none_m ht)) (hD.mono eG1) (hW.mono eG1)
  have hd8 := keyOfN_deep n
  refine q_when (b := !decide (n ∈ tab)) (et_test (ev_op (ev_var rfl) (ev_fld (ev_var rfl) (over_m hT1.mt) T.cPacker.cl T.nPacker_numbers (v := .ref d) (by rfl)) fun H2 e2 Q2 q2 => ⟨told, d, xs, keyOfN n, rfl, rfl, e2 _ _ (over_m hT1.md), hT1.kin.mono ((ex_over a1).trans e2), hK1.mono ((ex_over a1).trans e2), hd8, by
    rw [hT1.any n]
    exact q2 H2 (Ex.refl H2)⟩)) (fun hs H2 e2 => ?_) (fun hs H2 e2 => ?_)
  · have hn : n ∉ tab := of_decide_eq_false (nb1 hs)
    rw [Mx.put_new hn] at k
    obtain ⟨G2, a2, eG2, rfl⟩ := over_split a1 e2
    have hT2 := hT1.grow eG2 a2
    refine (ev_len (K := K) (ev_fld (ev_var rfl) (over_m hT2.mt) T.cPacker.cl T.nPacker_nodes (v := .ref nl) (by rfl)) (sq_of (over_m hT2.mn))) _ (Ex.refl _) _ fun H3 e3 => ?_
    refine (ev_fld (ev_var rfl) (e3 _ _ (over_m hT2.mt)) T.cPacker.cl T.nPacker_numbers (v := .ref d) (by rfl)) H3 (Ex.refl _) _ fun H4 e4 => (ev_var (v := .ref told) rfl) H4 (Ex.refl _) _ fun H5 e5 => ?_
    obtain ⟨G5, a5, eG5, rfl⟩ := over_split a2 ((e3.trans e4).trans e5)
    have hT5 := hT2.grow eG5 a5
    have hK5 := hK1.mono (eG2.trans eG5)
    refine ⟨told, d, xs, keyOfN n, rfl, rfl, over_m hT5.md, hT5.kin.mono (ex_over a5), hK5.mono (ex_over a5), hd8, sz_lt (by rw [hT5.len]; omega), .inl ⟨(by rw [hT5.any n]; exact decide_eq_false hn), ?_⟩⟩
    rw [over_upd, hT5.nd.1]
    have hdt : d ≠ t := fun z => by have := hT5.md; rw [z, hT5.mt] at this; cases this
    have hdn : d ≠ nl := fun z => by have := hT5.md; rw [z, hT5.mn] at this; cases this
    have hnt : nl ≠ t := fun z => by have := hT5.mn; rw [z, hT5.mt] at this; cases this
    have a6 : Apart G5 (upd M d (dN P w d (xs ++ [(keyOfN n, told, V.int (tab.length : Int))]))) := a5.put hT5.md
    obtain ⟨M6, hM6⟩ : ∃ M6, M6 = upd M d (dN P w d (xs ++ [(keyOfN n, told, V.int (tab.length : Int))])) := ⟨_, rfl⟩
    rw [← hM6] at a6
    erw [← hM6]
    have m1 : M6 t = some (.ins T.cPacker.C dt (pkF nl d)) := by rw [hM6, upd_ne (Ne.symm hdt)]; exact hT5.mt
    have m2 : M6 nl = some (.lst refs) := by rw [hM6, upd_ne (Ne.symm hdn)]; exact hT5.mn
    refine s_appQ (over_m m2) (ev_fld (ev_var rfl) (over_m m1) T.cPacker.cl T.nPacker_nodes (v := .ref nl) (by rfl)) (eq_mkv (ea_cons (ev_var rfl) (ea_cons (ev_var rfl) ea_nil)) rfl) (by rw [hT5.nd.1]; omega) fun v H7 H8 e7 e8 ⟨o, dx, hv, ho, h8⟩ => ?_
    subst hv
    obtain ⟨G8, a8, eG8, rfl⟩ := over_split a6 (e7.trans e8)
    have hoM : M6 o = none := none_m (fresh_back e7 ho)
    rw [over_g hoM] at h8
    rw [over_upd]
    have a9 : Apart G8 (upd M6 nl (.lst (refs ++ [.ref o]))) := a8.put m2
    have eAll : Ex G G8 := ((eG1.trans eG2).trans eG5).trans eG8
    have hT9 : TblS P w T G8 (upd M6 nl (.lst (refs ++ [.ref o]))) t dt nl d (tab ++ [n]) (refs ++ [.ref o]) (xs ++ [(keyOfN n, told, V.int (tab.length : Int))]) := by
      refine ⟨a9, by rw [upd_ne (Ne.symm hnt)]; exact m1, upd_same, by rw [upd_ne hdn, hM6, upd_same], Rep.snoc (hT5.nd.mono fun _ _ r => r.mono eG8) ⟨dx, u, wa, h8, hD.mono eAll, hW.mono eAll⟩, ?_, fun i x hx => ?_, fun x hx => ?_, ?_⟩
      · rw [List.length_append, List.length_append, hT5.len]
        rfl
      · by_cases hi : i < xs.length
        · rw [List.getElem?_append_left hi] at hx
          obtain ⟨m, hm, h1, h2⟩ := hT5.ks i x hx
          exact ⟨m, by rw [List.getElem?_append_left (by rw [← hT5.len]; exact hi)]; exact hm, h1, h2⟩
        · rw [List.getElem?_append_right (by omega)] at hx
          have hi2 : i - xs.length = 0 := by
            have := (List.getElem?_eq_some_iff.mp hx).1
            simp at this
            omega
          rw [hi2] at hx
          have e : (keyOfN n, told, V.int (tab.length : Int)) = x := by simpa using hx
          subst e
          have hie : i = tab.length := by
            rw [← hT5.len]
            omega
          exact ⟨n, by rw [hie]; simp, rfl, by rw [hie]⟩
      · rcases List.mem_append.mp hx with h | h
        · exact (hT5.kin.mono eG8) x h
        · rw [List.mem_singleton.mp h]
          exact ⟨hK5.mono eG8, hd8⟩
      · have := Mx.put_nodup (n := n) hT5.dup
        rw [Mx.put_new hn] at this
        exact this
    have hin : (tab ++ [n])[tab.length]? = some n := by simp
    obtain ⟨b, hb⟩ := hT9.at_ hin
    refine s_ret (ev_nget (ev_fld (ev_var rfl) (over_m hT9.mt) T.cPacker.cl T.nPacker_numbers (v := .ref d) (by rfl)) (ev_var (v := .ref told) rfl) (over_m hT9.md) (hT9.kin.mono (ex_over a9)) (hK5.mono (eG8.trans (ex_over a9))) hd8 hb) fun H11 e11 => ?_
    obtain ⟨G11, a11, eG11, rfl⟩ := over_split a9 e11
    have hT11 := hT9.grow eG11 a11
    refine k G11 _ _ _ (eAll.trans eG11) hT11 fun b' h1 h2 => ?_
    rw [upd_ne h1, hM6, upd_ne h2]
  · have hn : n ∈ tab := of_decide_eq_true (nb2 hs)
    obtain ⟨j, hj⟩ := List.mem_iff_getElem?.mp hn
    rw [Mx.put_in hj hT.dup] at k
    obtain ⟨b, hb⟩ := hT1.at_ hj
    refine s_ret (ev_nget (ev_fld (ev_var rfl) (e2 _ _ (over_m hT1.mt)) T.cPacker.cl T.nPacker_numbers (v := .ref d) (by rfl)) (ev_var (v := .ref told) rfl) (e2 _ _ (over_m hT1.md)) (hT1.kin.mono ((ex_over a1).trans e2)) (hK1.mono ((ex_over a1).trans e2)) hd8 hb) fun H11 e11 => ?_
    obtain ⟨G11, a11, eG11, rfl⟩ := over_split a1 (e2.trans e11)
    have hT11 := hT1.grow eG11 a11
    exact k G11 _ _ _ (eG1.trans eG11) hT11 fun _ _ _ => rfl
end
end Pt
set_option Elab.async false
set_option linter.all false
set_option maxRecDepth 100000
/-! ## the tables' steps, sizes -/
namespace Mx
open Vahypd (Entry Node Table into firstSigns behind endsHere put build plainBy)
/-- one more sign's node -/
def bstep (bf : List Entry → Table → Table × Nat) (es : List Entry) (x : Table × List (Nat × Nat)) (s : Nat) : Table × List (Nat × Nat) := ((bf (behind es s) x.1).1, x.2 ++ [(s, (bf (behind es s) x.1).2)])
def bnode (bf : List Entry → Table → Table × Nat) (es : List Entry) (t : Table) : Table × Nat :=
  put ((firstSigns es).foldl (bstep bf es) (t, [])).1 ⟨endsHere es, ((firstSigns es).foldl (bstep bf es) (t, [])).2⟩
theorem build_succ (f : Nat) (es : List Entry) (t : Table) : build (f + 1) es t = bnode (build f) es t := rfl
theorem build_zero {bf : List Entry → Table → Table × Nat} {es : List Entry} {t : Table} (h : ∀ e ∈ es, e.1.length ≤ 0) : build 0 es t = bnode bf es t := by
  unfold bnode
  rw [firsts_none h]
  rfl
def psum (pf : List Entry → Nat) (es : List Entry) : Nat := ((firstSigns es).map fun s => pf (behind es s)).sum + 1
theorem steps_len {bf : List Entry → Table → Table × Nat} {pf : List Entry → Nat} {es : List Entry} (hg : ∀ (s : Nat) (t : Table), s ∈ firstSigns es → (bf (behind es s) t).1.length ≤ t.length + pf (behind es s)) :
    ∀ (ss : List Nat) (x : Table × List (Nat × Nat)), (∀ s ∈ ss, s ∈ firstSigns es) → (ss.foldl (bstep bf es) x).1.length ≤ x.1.length + (ss.map fun s => pf (behind es s)).sum
  | [], x, _ => Nat.le_refl _
  | s :: ss, x, h => by
    have h1 := steps_len hg ss (bstep bf es x s) fun z hz => h z (List.mem_cons_of_mem _ hz)
    have h2 := hg s x.1 (h s (List.mem_cons_self ..))
    rw [List.foldl_cons, List.map_cons, List.sum_cons]
    have h3 : (bstep bf es x s).1 = (bf (behind es s) x.1).1 := rfl
    rw [h3] at h1
    omega
theorem steps_nodup {bf : List Entry → Table → Table × Nat} {es : List Entry} (hg : ∀ (s : Nat) (t : Table), t.Nodup → (bf (behind es s) t).1.Nodup) :
    ∀ (ss : List Nat) (x : Table × List (Nat × Nat)), x.1.Nodup → (ss.foldl (bstep bf es) x).1.Nodup
  | [], x, h => h
  | s :: ss, x, h => steps_nodup hg ss (bstep bf es x s) (hg s x.1 h)
theorem build_len : ∀ (f : Nat) (es : List Entry) (t : Table), (build f es t).1.length ≤ t.length + plainBy f es
  | 0, es, t => put_len.1
  | f + 1, es, t => by
    rw [build_succ]
    unfold bnode
    have h1 := steps_len (pf := plainBy f) (es := es) (fun s t _ => build_len f (behind es s) t) (firstSigns es) (t, []) fun _ h => h
    have h2 := (put_len (t := ((firstSigns es).foldl (bstep (build f) es) (t, [])).1) (n := ⟨endsHere es, ((firstSigns es).foldl (bstep (build f) es) (t, [])).2⟩)).1
    show _ ≤ t.length + psum (plainBy f) es
    unfold psum
    have h3 : ((t, []) : Table × List (Nat × Nat)).1 = t := rfl
    rw [h3] at h1
    omega
theorem build_nodup : ∀ (f : Nat) (es : List Entry) (t : Table), t.Nodup → (build f es t).1.Nodup
  | 0, es, t, h => put_nodup h
  | f + 1, es, t, h => put_nodup (steps_nodup (fun s t ht => build_nodup f (behind es s) t ht) _ _ h)
theorem build_lt (f : Nat) (es : List Entry) (t : Table) : (build f es t).2 < (build f es t).1.length := by
  cases f with
  | zero => exact put_lt
  | succ f => exact put_lt
theorem behind_sum (es : List Entry) : ∀ (S : List Nat), S.Nodup → (S.map fun s => (behind es s).length).sum ≤ es.length := by
  intro S hS
  induction es with
  | nil =>
    have : ∀ S : List Nat, (S.map fun s => (behind [] s).length).sum = 0 := by
      intro S
      induction S with
      | nil => rfl
      | cons a S ih =>
        rw [List.map_cons, List.sum_cons, ih]
        rfl
    rw [this]
    exact Nat.zero_le _
  | cons e es ih =>
    have hb : ∀ s, (behind (e :: es) s).length = (behind es s).length + (if e.1.head? = some s then 1 else 0) := fun s => by
      unfold behind
      rw [List.filterMap_cons]
      obtain ⟨l, d⟩ := e
      cases l with
      | nil => simp
      | cons z r =>
        by_cases h : z = s
        · simp [h]
        · simp [h]
    have hs : ∀ S : List Nat, S.Nodup → (S.map fun s => (behind (e :: es) s).length).sum ≤ (S.map fun s => (behind es s).length).sum + (if ∃ s ∈ S, e.1.head? = some s then 1 else 0) := by
      intro S hS
      induction S with
      | nil => simp
      | cons a S ih2 =>
        obtain ⟨ha, hS2⟩ := List.nodup_cons.mp hS
        rw [List.map_cons, List.map_cons, List.sum_cons, List.sum_cons, hb a]
        have := ih2 hS2
        by_cases h : e.1.head? = some a
        · rw [if_pos h, if_pos ⟨a, List.mem_cons_self .., h⟩]
          have hno : ¬ ∃ s ∈ S, e.1.head? = some s := by
            rintro ⟨s, hs, q⟩
            rw [h] at q
            exact ha ((Option.some.inj q) ▸ hs)
          rw [if_neg hno] at this
          omega
        · rw [if_neg h]
          by_cases h2 : ∃ s ∈ S, e.1.head? = some s
          · rw [if_pos h2] at this
            obtain ⟨s, hs, q⟩ := h2
            rw [if_pos ⟨s, List.mem_cons_of_mem _ hs, q⟩]
            omega
          · rw [if_neg h2] at this
            split <;> omega
    refine Nat.le_trans (hs S hS) ?_
    rw [List.length_cons]
    split <;> omega
theorem plain_le : ∀ (f : Nat) (es : List Entry), plainBy f es ≤ f * es.length + 1
  | 0, es => by
    show 1 ≤ _
    omega
  | f + 1, es => by
    show ((firstSigns es).map fun s => plainBy f (behind es s)).sum + 1 ≤ _
    have h1 : ∀ S : List Nat, (S.map fun s => plainBy f (behind es s)).sum ≤ f * (S.map fun s => (behind es s).length).sum + S.length := by
      intro S
      induction S with
      | nil => simp
      | cons a S ih =>
        rw [List.map_cons, List.map_cons, List.sum_cons, List.sum_cons, List.length_cons, Nat.mul_add]
        have := plain_le f (behind es a)
        omega
    have h2 := behind_sum es (firstSigns es) (firsts_nodup es)
    have h3 := h1 (firstSigns es)
    have h4 := firsts_len (es := es)
    have h5 : f * ((firstSigns es).map fun s => (behind es s).length).sum ≤ f * es.length := Nat.mul_le_mul_left _ h2
    rw [Nat.add_mul, Nat.one_mul]
    omega
end Mx
set_option Elab.async false
set_option linter.all false
set_option maxRecDepth 100000
set_option maxHeartbeats 2000000
namespace Pt
open PySem PySem.Spec PyProof.Rows L2 Evl
open VahypBase (Bytes)
open Vahypd (Node Table)
section
variable {P : Program} {w : World} {K : PySem.W.Frag} {mg : Str → Option Value} {base : Heap} {X : Cx}
variable {σ : L2.St} {H H' : Hp} {ta tb tc te tl : TE} {t : TT} {x y z v : V} {C : Addr} {D : Ends} {tz : TS}
/-! ### node_of, sign by sign -/
/-- no tuples among what changes -/
def Clean (M : Hp) : Prop := ∀ b u, M b = some u → (∀ ys, u ≠ .tup ys) ∧ (∀ f u', u ≠ .frz f u')
def spNode (P : Program) (w : World) (T : Tx K mg) (bf : List Vahypd.Entry → Table → Table × Nat) (pf : List Vahypd.Entry → Nat) (ok : List Vahypd.Entry → Prop) : Sp := fun vs H Q _ => ∃ (a t dt nl d : Addr) (es : List Vahypd.Entry) (tab : Table) (refs : List V) (xs : List NE) (G M : Hp),
  vs = [.ref a, .ref t] ∧ H = over G M ∧ TblS P w T G M t dt nl d tab refs xs ∧ Clean M ∧ EntList T G a es ∧ es.length ≤ 40 ∧ ok es ∧ tab.length + pf es ≤ 5000 ∧
  ∀ G2 M2 refs2 xs2, Ex G G2 → TblS P w T G2 M2 t dt nl d (bf es tab).1 refs2 xs2 → (∀ b, b ≠ nl → b ≠ d → M2 b = M b) → Q (.int ((bf es tab).2 : Nat)) (over G2 M2)
theorem sql_g {G M : Hp} {a : Addr} {xs : List V} (h : SqL K (over G M) a xs) (hm : M a = none) : SqL K G a xs := by
  rcases h with (h | ⟨o, h⟩) | h
  · exact .inl (.inl (by rw [over_g hm] at h; exact h))
  · exact .inl (.inr ⟨o, by rw [over_g hm] at h; exact h⟩)
  · exact .inr h
theorem EntList.call {T : Tx K mg} {a : Addr} {es : List Vahypd.Entry} (hL : EntList T H a es) (hz : es.length ≤ 40) {E : XK} {t : TA} (h : EvA t σ H [.ref a]) : EvL (tCall (spFirst T) [] E t) σ H (nv (Vahypd.firstSigns es)) := fun H1 e Q q =>
  t_fn (fun H2 e2 => h H2 (e.trans e2)) fun H2 e2 => ⟨a, es, rfl, hL.mono (e.trans e2), hz, fun p H3 hp e3 h3 => q p H3 (fresh_back e2 hp) (e2.trans e3) h3⟩
theorem Clean.put {M : Hp} {b : Addr} {u : HO} (h : Clean M) (h1 : ∀ ys, u ≠ .tup ys) (h2 : ∀ f u', u ≠ .frz f u') : Clean (upd M b u) := fun c v hc => by
  by_cases e : c = b
  · rw [e, upd_same] at hc
    rw [← Option.some.inj hc]
    exact ⟨h1, h2⟩
  · rw [upd_ne e] at hc
    exact h c v hc
theorem Clean.tup {G M : Hp} {a : Addr} {xs : List V} (c : Clean M) (h : SqT K (over G M) a xs) : SqT K G a xs := by
  cases hm : M a with
  | none => exact sqt_g h hm
  | some u =>
    rcases h with (h | ⟨f, h⟩) | h
    · rw [over_m hm] at h
      exact absurd (Option.some.inj h) ((c a u hm).1 xs)
    · rw [over_m hm] at h
      exact absurd (Option.some.inj h) ((c a u hm).2 f _)
    · exact .inr h
theorem entat_g {T : Tx K mg} {G M : Hp} {o : Addr} {en : Vahypd.Entry} (c : Clean M) (hm : M o = none) (h : EntAt T (over G M) o en) : EntAt T G o en := by
  obtain ⟨dx, sa, da, h1, h2, h3⟩ := h
  rw [over_g hm] at h1
  exact ⟨dx, sa, da, h1, c.tup h2, c.tup h3⟩
def lose (M : Hp) (l : Addr) : Hp := fun b => if b = l then none else M b
theorem lose_same {M : Hp} {l : Addr} : lose M l l = none := if_pos rfl
theorem lose_ne {M : Hp} {l b : Addr} (h : b ≠ l) : lose M l b = M b := if_neg h
/-- a thing changes no more -/
theorem over_give {G M : Hp} {l : Addr} {o : HO} (d : Apart G M) (h : M l = some o) : Apart (upd G l o) (lose M l) ∧ Ex G (upd G l o) ∧ over G M = over (upd G l o) (lose M l) := by
  refine ⟨fun b u hb => ?_, Ex.new (d l o h), ?_⟩
  · by_cases e : b = l
    · rw [e, lose_same] at hb
      cases hb
    · rw [lose_ne e] at hb
      rw [upd_ne e]
      exact d b u hb
  · funext b
    by_cases e : b = l
    · rw [e, over_m h, over_g lose_same, upd_same]
    · cases hm : M b with
      | some u => rw [over_m hm, over_m ((lose_ne e).trans hm)]
      | none => rw [over_g hm, over_g ((lose_ne e).trans hm), upd_ne e]
theorem t_app {l : Addr} {xs : List V} (hl : H l = some (.lst xs)) (ha : Ev ta σ H (.ref l)) (k : ∀ H1, Ex H H1 → te σ H1 (fun v H2 => rAppend (.ref l) [v] H2 (fun _ H3 => D.nx σ H3))) : tDrop (tBM K "list" rAppend ta (tCons te tNil)) D σ H :=
  ha H (Ex.refl H) _ fun H1 e1 => ⟨Or.inl ⟨rfl, xs, sq_of (e1 l _ hl)⟩, k H1 e1⟩
theorem t_tup2 {σ : L2.St} {H : Hp} {Q : VK} (k : ta σ H fun x H1 => tb σ H1 fun y H2 => [x, y].length ≤ sizeLine ∧ ∀ p, H2 p = none → Q (.ref p) (upd H2 p (.tup [x, y]))) : tTup (tCons ta (tCons tb tNil)) σ H Q := k
theorem t_callQ {sp : Sp} {E : XK} {t : TA} {Q : VK} (k : t σ H fun vs H1 => sp (vs ++ []) H1 Q E) : tCall sp [] E t σ H Q := k
theorem t_cons {tr : TA} {Q : List V → Hp → Prop} (k : te σ H fun x H1 => tr σ H1 fun xs H2 => Q (x :: xs) H2) : tCons te tr σ H Q := k
theorem t_nil {Q : List V → Hp → Prop} (k : Q [] H) : tNil σ H Q := k
theorem t_methR {m : Str} {sp : Sp} {E : XK} {t : TA} {a dx : Addr} {fs : List (Str × V)} {Q : VK} (ha : Ev ta σ H (.ref a)) (h : H a = some (.ins C dx fs)) (hl : fs.lookup m = none) (k : ∀ H1, Ex H H1 → t σ H1 fun vs H2 => sp (.ref a :: (vs ++ [])) H2 Q E) : tMeth C m sp [] E ta t σ H Q :=
  ha H (Ex.refl H) _ fun H1 e1 => ⟨a, dx, fs, rfl, e1 _ _ h, hl, k H1 e1⟩
theorem sz2 {x y : V} : [x, y].length ≤ sizeLine := sz_of (by show 2 ≤ 100000; decide)
theorem node_body (T : Tx K mg) {k : Nat} (hk : 3 ≤ k) {bf : List Vahypd.Entry → Table → Table × Nat} {pf : List Vahypd.Entry → Nat} {ok : List Vahypd.Entry → Prop}
    (hg : ∀ (es : List Vahypd.Entry) (s : Nat) (t : Table), ok (Vahypd.behind es s) → (bf (Vahypd.behind es s) t).1.length ≤ t.length + pf (Vahypd.behind es s))
    (GN : FnOk P w K mg base CX0 k T.node_of.f T.node_of.fd ["entries", "packer"] (spNode P w T bf pf ok)) :
    FnOk P w K mg base CX0 (k + 1) T.node_of.f T.node_of.fd ["entries", "packer"] (spNode P w T (Mx.bnode bf) (Mx.psum pf) (fun es => ∀ s ∈ Vahypd.firstSigns es, ok (Vahypd.behind es s))) := by
  have GF : FnOk P w K mg base CX0 k _ _ _ _ := (ok_first_signs T).mono (by omega)
  have GB : FnOk P w K mg base CX0 k _ _ _ _ := (ok_entries_behind T).mono (by omega)
  have GD : FnOk P w K mg base CX0 k _ _ _ _ := (ok_digits_here T).mono (by omega)
  have GU : FnOk P w K mg base CX0 k _ _ _ _ := (ok_number_of T).mono (by omega)
  refine T.node_of.F.ok scNodeOf (fun vs H Q E h => ?_) (fun cdv A outer s H vs Q E hr h => ⟨_,
    pss_cons (ps_set (i := 2) scNodeOf.nd rfl (.inl rfl) (pe_lst pa_nil))
    (pss_cons (ps_for PassesOwn.never rfl (pi_list (pe_fn T.first_signs GF hr (bdFirstSigns T.first_signs.F) pass0 (pa_cons (pv 0) pa_nil))) (pg_name (i := 3) scNodeOf.nd rfl (.inl rfl))
      (pss_one (ps_expr (pe_bm PySem.F.plainAttrs_list PySem.F.slot_list_append PySem.F.type_list_append mt_append (pv 2) (pa_cons (pe_tup (pa_cons (pv 3) (pa_cons
        (pe_fn T.node_of GN hr (bdNodeOf T.node_of.F) pass0 (pa_cons (pe_fn T.entries_behind GB hr (bdEntriesBehind T.entries_behind.F) pass0 (pa_cons (pv 0) (pa_cons (pv 3) pa_nil))) (pa_cons (pv 1) pa_nil))) pa_nil))) pa_nil)))))
    (pss_one (ps_ret (pe_meth (pv 1) T.cPacker.cl T.mPacker_number_of.M GU hr (bdPackerNumberOf T.mPacker_number_of.F) .nil pass0
      (pa_cons (pe_fn T.digits_here GD hr (bdDigitsHere T.digits_here.F) pass0 (pa_cons (pv 0) pa_nil)) (pa_cons (pe_tuple T.b_tuple (pv 2)) pa_nil)))))), ?_⟩)
  · obtain ⟨a, t, dt, nl, d, es, tab, refs, xs, G, M, rfl, _⟩ := h
    rfl
  obtain ⟨a, t, dt, nl, d, es, tab, refs, xs, G, M, rfl, rfl, hT, hC, hL, hz, hok, hsz, kk⟩ := h
  have hpf : tab.length + (((Vahypd.firstSigns es).map fun s => pf (Vahypd.behind es s)).sum + 1) ≤ 5000 := hsz
  refine q_asgL (el_lst ea_nil (by decide)) fun wl H1 hwl e1 h1 => ?_
  have hwM : M wl = none := none_m hwl
  obtain ⟨G1, a1, eG1, rfl⟩ := over_take hT.ap e1 hwl h1
  have wnl : wl ≠ nl := fun z => by rw [z, hT.mn] at hwM; cases hwM
  have wnd : wl ≠ d := fun z => by rw [z, hT.md] at hwM; cases hwM
  have wnt : wl ≠ t := fun z => by rw [z, hT.mt] at hwM; cases hwM
  have hT1 : TblS P w T G1 (upd M wl (.lst [])) t dt nl d tab refs xs := ⟨a1, by rw [upd_ne (Ne.symm wnt)]; exact hT.mt, by rw [upd_ne (Ne.symm wnl)]; exact hT.mn, by rw [upd_ne (Ne.symm wnd)]; exact hT.md, hT.nd.mono fun _ _ r => r.mono eG1, hT.len, hT.ks, hT.kin.mono eG1, hT.dup⟩
  obtain ⟨ss, hss⟩ : ∃ ss, ss = Vahypd.firstSigns es := ⟨_, rfl⟩
  refine q_forNLn (xs := nv (Vahypd.firstSigns es)) ((EntList.mono hL (eG1.trans (ex_over a1))).call hz (ea_cons (ev_var rfl) ea_nil)) (fun p i σ' H' => ∃ (u : Option V) (G' M' : Hp) (tab' : Table) (kids : List (Nat × Nat)) (refs' ws : List V) (xs' : List NE),
    σ' = [some (.ref a), some (.ref t), some (.ref wl), u] ∧ H' = over G' M' ∧ Ex G G' ∧ TblS P w T G' M' t dt nl d tab' refs' xs' ∧ M' wl = some (.lst ws) ∧ Rep (fun p (x : Nat × Nat) => SqT K G' p (nv [x.1, x.2])) ws kids ∧
    (tab', kids) = ((Vahypd.firstSigns es).take i).foldl (Mx.bstep bf es) (tab, []) ∧ (∀ b, b ≠ nl → b ≠ d → b ≠ wl → M' b = M b) ∧ SqL K G' p (nv (Vahypd.firstSigns es)) ∧ Clean M' ∧ kids.length ≤ i)
    (fun p H2 hp e2 h2 => ?_) (fun p i σ' H' _ pp => ?_) ?_ ?_
  · obtain ⟨G2, a2, eG2, rfl⟩ := over_split a1 e2
    have hpM : (upd M wl (.lst [])) p = none := none_m hp
    exact ⟨none, G2, _, tab, [], refs, [], xs, rfl, rfl, eG1.trans eG2, hT1.grow eG2 a2, upd_same, Rep.nil, rfl, fun b _ _ h => upd_ne h, sql_g (sq_of h2) hpM, hC.put (fun _ z => nomatch z) (fun _ _ z => nomatch z), Nat.zero_le _⟩
  · obtain ⟨u, G', M', tab', kids, refs', ws, xs', rfl, rfl, eG', hT', hw, hR, hf, hM', hS, hC', hkl⟩ := pp
    exact ex_l (ex_over hT'.ap) hS
  · rintro p i x σ' H' hi ⟨u, G', M', tab', kids, refs', ws, xs', rfl, rfl, eG', hT', hw, hR, hf, hM', hS, hC', hkl⟩
    obtain ⟨sg, hsg, rfl⟩ : ∃ sg : Nat, (Vahypd.firstSigns es)[i]? = some sg ∧ x = .int (sg : Int) := by
      unfold nv at hi
      rw [List.getElem?_map] at hi
      cases hc : (Vahypd.firstSigns es)[i]? with
      | none => rw [hc] at hi; cases hi
      | some b => rw [hc] at hi; exact ⟨b, rfl, (Option.some.inj hi).symm⟩
    have hmem : sg ∈ Vahypd.firstSigns es := List.mem_of_getElem? hsg
    have hil : i < (Vahypd.firstSigns es).length := (List.getElem?_eq_some_iff.mp hsg).1
    have hfl := Mx.firsts_len (es := es)
    refine t_app (over_m hw) (ev_var rfl) fun H2 e2 => t_tup2 ?_
    refine (ev_var (v := .int (sg : Int)) rfl) H2 (Ex.refl _) _ fun H3 e3 => ?_
    refine t_callQ (t_cons ?_)
    refine t_call (ea_cons (ev_var (v := .ref a) rfl) (ea_cons (ev_var (v := .int (sg : Int)) rfl) ea_nil)) fun H4 e4 => ⟨a, sg, es, rfl, hL.mono (eG'.trans ((ex_over hT'.ap).trans ((e2.trans e3).trans e4))), hz, fun l rs H5 hl e5 h5 hRb => ?_⟩
    refine t_cons ?_
    refine (ev_var (v := .ref t) rfl) H5 (Ex.refl _) _ fun H6 e6 => t_nil ?_
    have e24 := (e2.trans e3).trans e4
    obtain ⟨G6, a6, eG6, rfl⟩ := over_split hT'.ap ((e24.trans e5).trans e6)
    have hT6 := hT'.grow eG6 a6
    have hlM : M' l = none := none_m (fresh_back e24 hl)
    have hEl : EntList T G6 l (Vahypd.behind es sg) := ⟨rs, sql_g (sq_of (e6 _ _ h5)) hlM, hRb.mono fun o e ⟨ho, hE⟩ => entat_g hC' (none_m (fresh_back e24 ho)) (hE.mono e6)⟩
    have hfold : Mx.bstep bf es (tab', kids) sg = ((Vahypd.firstSigns es).take (i + 1)).foldl (Mx.bstep bf es) (tab, []) := by
      rw [List.take_add_one, hsg, List.foldl_append, ← hf]
      rfl
    have hlen' : tab'.length + pf (Vahypd.behind es sg) ≤ 5000 := by
      have h1 := Mx.steps_len (bf := bf) (pf := pf) (es := es) (fun s t hs => hg es s t (hok s hs)) ((Vahypd.firstSigns es).take i) (tab, []) fun z hz => List.mem_of_mem_take hz
      rw [← hf] at h1
      have h2 : (((Vahypd.firstSigns es).take i).map fun s => pf (Vahypd.behind es s)).sum + pf (Vahypd.behind es sg) ≤ ((Vahypd.firstSigns es).map fun s => pf (Vahypd.behind es s)).sum := by
        conv => rhs; rw [← List.take_append_drop i (Vahypd.firstSigns es), drop_of hsg]
        rw [List.map_append, List.sum_append, List.map_cons, List.sum_cons]
        omega
      have h3 : tab'.length ≤ tab.length + (((Vahypd.firstSigns es).take i).map fun s => pf (Vahypd.behind es s)).sum := h1
      omega
    have hbl := Mx.behind_len (es := es) (s := sg)
    refine ⟨l, t, dt, nl, d, Vahypd.behind es sg, tab', refs', xs', G6, M', rfl, rfl, hT6, hC', hEl, by omega, hok sg hmem, hlen', fun G7 M7 refs7 xs7 eG7 hT7 hM7 => ⟨sz2, fun p2 hp2 => ?_⟩⟩
    have hp2M : M7 p2 = none := none_m hp2
    have hp2G : G7 p2 = none := by rw [← over_g (G := G7) hp2M]; exact hp2
    have hw7 : M7 wl = some (.lst ws) := by rw [hM7 wl wnl wnd]; exact hw
    have e8 : Ex (over G7 M7) (upd (over G7 M7) p2 (.tup [.int (sg : Int), .int ((bf (Vahypd.behind es sg) tab').2 : Nat)])) := Ex.new hp2
    obtain ⟨G8, a8, eG8, E8⟩ := over_split hT7.ap e8
    rw [E8]
    have h8 : G8 p2 = some (.tup [.int (sg : Int), .int ((bf (Vahypd.behind es sg) tab').2 : Nat)]) := by
      rw [← over_g (G := G8) hp2M, ← E8, upd_same]
    have hT8 := hT7.grow eG8 a8
    refine ⟨wl, ws, .ref p2, rfl, rfl, over_m hw7, sz_lt (by rw [hR.1]; omega), ?_⟩
    rw [over_upd]
    have hC7 : Clean M7 := fun b u hb => by
      by_cases h1 : b = nl
      · rw [h1, hT7.mn] at hb
        rw [← Option.some.inj hb]
        exact ⟨(fun _ z => nomatch z), (fun _ _ z => nomatch z)⟩
      · by_cases h2 : b = d
        · rw [h2, hT7.md] at hb
          rw [← Option.some.inj hb]
          exact ⟨(fun _ z => nomatch z), (fun _ _ z => nomatch z)⟩
        · rw [hM7 b h1 h2] at hb
          exact hC' b u hb
    have hT9 : TblS P w T G8 (upd M7 wl (.lst (ws ++ [.ref p2]))) t dt nl d (bf (Vahypd.behind es sg) tab').1 refs7 xs7 := ⟨hT8.ap.put hw7, by rw [upd_ne (Ne.symm wnt)]; exact hT8.mt, by rw [upd_ne (Ne.symm wnl)]; exact hT8.mn, by rw [upd_ne (Ne.symm wnd)]; exact hT8.md, hT8.nd, hT8.len, hT8.ks, hT8.kin, hT8.dup⟩
    refine ⟨_, G8, _, (bf (Vahypd.behind es sg) tab').1, kids ++ [(sg, (bf (Vahypd.behind es sg) tab').2)], refs7, ws ++ [.ref p2], xs7, rfl, rfl, ((eG'.trans eG6).trans eG7).trans eG8, hT9, upd_same, Rep.snoc (hR.mono fun _ _ r => ex_t ((eG6.trans eG7).trans eG8) r) (st_of h8), hfold, fun b h1 h2 h3 => ?_, ex_l ((eG6.trans eG7).trans eG8) hS, hC7.put (fun _ z => nomatch z) (fun _ _ z => nomatch z), by rw [List.length_append]; show kids.length + 1 ≤ i + 1; omega⟩
    rw [upd_ne h3, hM7 b h1 h2, hM' b h1 h2 h3]
  · rintro p σ' H' ⟨u, G', M', tab', kids, refs', ws, xs', rfl, rfl, eG', hT', hw, hR, hf, hM', hS, hC', hkl⟩
    rw [nv_len, List.take_length] at hf
    have hc7 := hT'.grow (Ex.refl _) hT'.ap
    refine t_methR (a := t) (ev_var rfl) (over_m hT'.mt) (by rfl) fun H2 e2 => t_cons ?_
    refine t_call (ea_cons (ev_var (v := .ref a) rfl) ea_nil) fun H3 e3 => ⟨a, es, rfl, hL.mono (eG'.trans ((ex_over hT'.ap).trans (e2.trans e3))), hz, fun u2 H4 e4 hD => ?_⟩
    refine t_cons ?_
    refine (eu_tupL (K := K) (ev_var rfl) (sq_of (((e2.trans e3).trans e4) _ _ (over_m hw)))) H4 (Ex.refl _) _ fun wa H5 hwa e5 h5 => t_nil ?_
    have e24 := (e2.trans e3).trans e4
    obtain ⟨G5, a5, eG5, rfl⟩ := over_split hT'.ap (e24.trans e5)
    have hT5 := hT'.grow eG5 a5
    have hfold2 : ((Vahypd.firstSigns es).foldl (Mx.bstep bf es) (tab, [])) = (tab', kids) := hf.symm
    have hlen' : tab'.length ≤ 5000 := by
      have h1 := Mx.steps_len (bf := bf) (pf := pf) (es := es) (fun s t hs => hg es s t (hok s hs)) (Vahypd.firstSigns es) (tab, []) fun z hz => hz
      rw [hfold2] at h1
      have h3 : tab'.length ≤ tab.length + ((Vahypd.firstSigns es).map fun s => pf (Vahypd.behind es s)).sum := h1
      omega
    have hD5 : DigV K G5 u2 (Vahypd.endsHere es) := by
      have hD := hD.mono e5
      cases ho : Vahypd.endsHere es with
      | none =>
        rw [ho] at hD
        exact hD
      | some dd =>
        rw [ho] at hD
        obtain ⟨da, h1, h2⟩ := hD
        exact ⟨da, h1, hC'.tup h2⟩
    have hbn : Mx.bnode bf es tab = Vahypd.put tab' ⟨Vahypd.endsHere es, kids⟩ := by
      unfold Mx.bnode
      rw [hfold2]
    rw [hbn] at kk
    refine ⟨t, dt, nl, d, wa, u2, ⟨Vahypd.endsHere es, kids⟩, tab', refs', xs', G5, M', rfl, rfl, hT5, hD5, ⟨ws, sqt_g (st_of h5) (none_m (fresh_back e24 hwa)), hR.mono fun _ _ r => ex_t eG5 r⟩, hlen', fun G6 M6 refs6 xs6 eG6 hT6 hM6 => ?_⟩
    have hw6 : M6 wl = some (.lst ws) := by rw [hM6 wl wnl wnd]; exact hw
    obtain ⟨g1, g2, g3⟩ := over_give hT6.ap hw6
    have hG0 : G wl = none := by
      cases q : G wl with
      | none => rfl
      | some u =>
        rw [over_g (none_m hwl), q] at hwl
        cases hwl
    rw [g3]
    refine kk _ (lose M6 wl) refs6 xs6 (fun b u hb => ?_) ⟨g1, (lose_ne (Ne.symm wnt)).trans hT6.mt, (lose_ne (Ne.symm wnl)).trans hT6.mn, (lose_ne (Ne.symm wnd)).trans hT6.md, hT6.nd.mono fun _ _ r => r.mono g2, hT6.len, hT6.ks, hT6.kin.mono g2, hT6.dup⟩ fun b h1 h2 => ?_
    · exact g2 b u (((eG'.trans eG5).trans eG6) b u hb)
    · by_cases hb : b = wl
      · rw [hb, lose_same, none_m hwl]
      · rw [lose_ne hb, hM6 b h1 h2, hM' b h1 h2 hb]
/-- node_of, for entries of at most f signs -/
theorem ok_node_of (T : Tx K mg) : ∀ f, FnOk P w K mg base CX0 (4 + f) T.node_of.f T.node_of.fd ["entries", "packer"] (spNode P w T (Vahypd.build f) (Vahypd.plainBy f) (fun es => ∀ e ∈ es, e.1.length ≤ f))
  | 0 => by
    have G0 : FnOk P w K mg base CX0 3 T.node_of.f T.node_of.fd ["entries", "packer"] (spNode P w T (fun _ t => (t, 0)) (fun _ => 0) (fun _ => False)) := ⟨fun _ _ _ _ h => by
      obtain ⟨_, _, _, _, _, _, _, _, _, _, _, _, _, _, _, _, _, h, _⟩ := h
      exact h.elim, fun _ _ _ _ _ _ _ _ _ _ _ _ _ h => by
      obtain ⟨_, _, _, _, _, _, _, _, _, _, _, _, _, _, _, _, _, h, _⟩ := h
      exact h.elim⟩
    refine (node_body T (Nat.le_refl 3) (fun _ _ _ h => h.elim) G0).imp fun vs H Q E h => ?_
    obtain ⟨a, t, dt, nl, d, es, tab, refs, xs, G, M, e1, e2, hT, hC, hL, hz, hok, hsz, k⟩ := h
    refine ⟨a, t, dt, nl, d, es, tab, refs, xs, G, M, e1, e2, hT, hC, hL, hz, fun s hs => ?_, ?_, fun G2 M2 refs2 xs2 e hT2 hM2 => ?_⟩
    · rw [Mx.firsts_none hok] at hs
      cases hs
    · unfold Mx.psum
      rw [Mx.firsts_none hok]
      exact hsz
    · rw [Mx.build_zero (bf := fun _ t => (t, 0)) hok] at k
      exact k G2 M2 refs2 xs2 e hT2 hM2
  | f + 1 => by
    refine (node_body T (k := 4 + f) (by omega) (fun es s t _ => Mx.build_len f _ t) (ok_node_of T f)).imp fun vs H Q E h => ?_
    obtain ⟨a, t, dt, nl, d, es, tab, refs, xs, G, M, e1, e2, hT, hC, hL, hz, hok, hsz, k⟩ := h
    exact ⟨a, t, dt, nl, d, es, tab, refs, xs, G, M, e1, e2, hT, hC, hL, hz, fun s hs => Mx.behind_short hok, hsz, k⟩
end
end Pt
set_option Elab.async false
set_option linter.all false
set_option maxRecDepth 100000
set_option maxHeartbeats 2000000
namespace Pt
open PySem PySem.Spec PyProof.Rows L2 Evl
open VahypBase (Bytes)
open Vahypd (Node Table)
section
variable {P : Program} {w : World} {K : PySem.W.Frag} {mg : Str → Option Value} {base : Heap} {X : Cx}
variable {σ : L2.St} {H H' : Hp} {ta tb tc te tl : TE} {t : TT} {x y z v : V} {C : Addr} {D : Ends} {tz : TS}
/-! ### Packer(), Table, packed -/
def spPacker (P : Program) (w : World) (T : Tx K mg) : Sp := fun vs H Q _ => ∃ (p dx : Addr), vs = [.ref p] ∧ H p = some (.ins T.cPacker.C dx []) ∧ ∀ nl d, H nl = none → H d = none → nl ≠ d →
  Q .non (upd (upd (upd H nl (.lst [])) d (dN P w d [])) p (.ins T.cPacker.C dx (pkF nl d)))
theorem ok_Packer (T : Tx K mg) : FnOk P w K mg base CX0 1 T.cPacker.f T.cPacker.fd ["self"] (spPacker P w T) := by
  refine T.cPacker.F.ok scPackerInit (fun vs H Q E h => ?_) (fun cdv A outer s H vs Q E hr h => ⟨_, pss_cons (ps_fld (pv 0) (pe_lst pa_nil) rfl) (pss_one (ps_fld (pv 0) pe_dnewN rfl)), ?_⟩)
  · obtain ⟨p, dx, rfl, _⟩ := h
    rfl
  · obtain ⟨p, dx, rfl, hp, k⟩ := h
    refine ⟨(by show 0 ≤ sizeLine; exact Nat.zero_le _), fun nl hnl => ?_⟩
    have hnp : nl ≠ p := fun e => by rw [e, hp] at hnl; cases hnl
    refine ⟨_, rfl, p, T.cPacker.C, dx, [], rfl, by rw [upd_ne (Ne.symm hnp)]; exact hp, T.cPacker.cl, T.nPacker_nodes, (by show 0 < 1000; decide), ?_⟩
    refine fun d hd => ?_
    have hdp : d ≠ p := fun e => by rw [e, upd_same] at hd; cases hd
    rw [upd_ne hdp] at hd
    have hdn : d ≠ nl := fun e => by rw [e, upd_same] at hd; cases hd
    rw [upd_ne hdn] at hd
    refine ⟨_, rfl, p, T.cPacker.C, dx, _, rfl, by rw [upd_ne (Ne.symm hdp)]; exact upd_same, T.cPacker.cl, T.nPacker_numbers, (by show 1 < 1000; decide), ?_⟩
    have hq := k nl d hnl hd (Ne.symm hdn)
    have e3 : putF ("numbers" : Str) (.ref d) (putF ("nodes" : Str) (.ref nl) []) = pkF nl d := by
      rw [puts2 (by decide +kernel)]
      rfl
    show Q .non _
    rw [e3]
    have eH : ∀ (o1 o2 : HO), upd (upd (upd (upd H nl (.lst [])) p o1) d (dN P w d [])) p o2 = upd (upd (upd H nl (.lst [])) d (dN P w d [])) p o2 := fun o1 o2 => by
      funext b
      by_cases h1 : b = p
      · rw [h1, upd_same, upd_same]
      · rw [upd_ne h1, upd_ne h1]
        by_cases h2 : b = d
        · rw [h2, upd_same, upd_same]
        · rw [upd_ne h2, upd_ne h2, upd_ne h1]
    erw [eH]
    exact hq
def tbF (nl : Addr) (k : Nat) : List (Str × V) := [("nodes", .ref nl), ("first", .int (k : Int))]
theorem ok_Table (T : Tx K mg) : FnOk P w K mg base CX0 1 T.cTable.f T.cTable.fd ["self", "nodes", "first"] (spIni T.cTable.C 2 fun as => [("nodes", as.getD 0 .non), ("first", as.getD 1 .non)]) := by
  refine T.cTable.F.ok scTableInit (fun vs H Q E h => ?_) (fun cdv A outer s H vs Q E hr h => ⟨_, pss_cons (ps_fld (pv 0) (pv 1) rfl) (pss_one (ps_fld (pv 0) (pv 2) rfl)), ?_⟩)
  · obtain ⟨p, dx, as, rfl, hl, _⟩ := h
    rw [List.length_cons, hl]
    rfl
  · obtain ⟨p, dx, as, rfl, hl, hp, k⟩ := h
    match as, hl with
    | [v1, v2], _ =>
      refine ⟨_, rfl, _, rfl, p, T.cTable.C, dx, [], rfl, hp, T.cTable.cl, T.nTable_nodes, (by show 0 < 1000; decide), ?_⟩
      refine ⟨_, rfl, _, rfl, p, T.cTable.C, dx, _, rfl, upd_same, T.cTable.cl, T.nTable_first, (by show 1 < 1000; decide), ?_⟩
      show Q .non _
      rw [upd_upd, puts2 (by decide +kernel)]
      exact k
theorem q_ask {i : Nat} (k : te σ H fun v H1 => tz D (σ.set i (some v)) H1) : tSeq (tAsg te (gName i)) tz D σ H := k
theorem t_fldset {f : Str} (k : te σ H fun y H1 => ta σ H1 fun x H2 => ∃ a C dx fs, x = .ref a ∧ H2 a = some (.ins C dx fs) ∧ Cls K C ∧ NoAttr K C f ∧ fs.length < 1000 ∧ D.nx σ (upd H2 a (.ins C dx (putF f y fs)))) : sFld K ta te f D σ H := k
theorem eq_Packer (T : Tx K mg) : EvQ (tMake T.cPacker.C (spPacker P w T) [] E0 tNil) σ H (fun H1 u H2 => ∃ t dt nl d, u = .ref t ∧ H1 t = none ∧ H1 nl = none ∧ H1 d = none ∧ t ≠ nl ∧ t ≠ d ∧ nl ≠ d ∧ H2 t = some (.ins T.cPacker.C dt (pkF nl d)) ∧ H2 nl = some (.lst []) ∧ H2 d = some (dN P w d [])) := fun H1 e Q q x dx nx nd ne =>
  ⟨x, dx, rfl, upd_same, fun wl el hwl hel hne => ⟨rfl, by
    have w1 : wl ≠ x := fun z => by rw [z, upd_same] at hwl; cases hwl
    have w2 : el ≠ x := fun z => by rw [z, upd_same] at hel; cases hel
    rw [upd_ne w1] at hwl
    rw [upd_ne w2] at hel
    have w3 : wl ≠ dx := fun z => by rw [z, upd_same] at hwl; cases hwl
    have w4 : el ≠ dx := fun z => by rw [z, upd_same] at hel; cases hel
    rw [upd_ne w3] at hwl
    rw [upd_ne w4] at hel
    refine q _ _ (fun b o hb => ?_) ⟨x, dx, wl, el, rfl, nx, hwl, hel, Ne.symm w1, Ne.symm w2, hne, upd_same, by rw [upd_ne w1, upd_ne hne, upd_same], by rw [upd_ne w2, upd_same]⟩
    have b1 : b ≠ x := fun z => by rw [z, nx] at hb; cases hb
    have b2 : b ≠ el := fun z => by rw [z, hel] at hb; cases hb
    have b3 : b ≠ wl := fun z => by rw [z, hwl] at hb; cases hb
    have b4 : b ≠ dx := fun z => by rw [z, nd] at hb; cases hb
    rw [upd_ne b1, upd_ne b2, upd_ne b3, upd_ne b1, upd_ne b4]
    exact hb⟩⟩
theorem taken {H3 G M : Hp} {l : Addr} {o : HO} (ap : Apart G M) (hml : M l = none) (hlo : over G M l = some o) (hl3 : H3 l = none) (eG : Ex H3 G) : ∃ G', Apart G' (upd M l o) ∧ Ex H3 G' ∧ over G M = over G' (upd M l o) := by
  refine ⟨fun b => if b = l then none else G b, fun c u hc => ?_, fun c u hc => ?_, ?_⟩
  · by_cases z : c = l
    · exact if_pos z
    · show (if c = l then none else G c) = none
      rw [if_neg z]
      rw [upd_ne z] at hc
      exact ap c u hc
  · have z : c ≠ l := fun z => by rw [z, hl3] at hc; cases hc
    show (if c = l then none else G c) = some u
    rw [if_neg z]
    exact eG c u hc
  · funext c
    by_cases z : c = l
    · rw [z, over_m upd_same, hlo]
    · cases hm : M c with
      | some u => rw [over_m hm, over_m (by rw [upd_ne z]; exact hm)]
      | none => rw [over_g hm, over_g (by rw [upd_ne z]; exact hm), if_neg z]
/-- a table, told, as it lies -/
def TabAt (T : Tx K mg) (H : Hp) (t : Addr) (tk : Table × Nat) : Prop := ∃ dt nl refs, H t = some (.ins T.cTable.C dt (tbF nl tk.2)) ∧ SqL K H nl refs ∧ Rep (NodeAt T H) refs tk.1
theorem TabAt.mono {T : Tx K mg} {t : Addr} {tk : Table × Nat} (h : TabAt T H t tk) (e : Ex H H') : TabAt T H' t tk := let ⟨dt, nl, refs, h1, h2, h3⟩ := h; ⟨dt, nl, refs, e _ _ h1, ex_l e h2, h3.mono fun _ _ r => r.mono e⟩
def spPacked (T : Tx K mg) : Sp := fun vs H Q _ => ∃ (a : Addr) (es : List Vahypd.Entry), vs = [.ref a] ∧ EntList T H a es ∧ es.length ≤ 40 ∧ (∀ e ∈ es, e.1.length ≤ 8) ∧ ∀ t H2, H t = none → Ex H H2 → TabAt T H2 t (Vahypd.build 8 es []) → Q (.ref t) H2
theorem ok_packed (T : Tx K mg) : FnOk P w K mg base CX0 13 T.packed.f T.packed.fd ["entries"] (spPacked T) := by
  have GK : FnOk P w K mg base CX0 1 _ _ _ _ := ok_Packer T
  have GT : FnOk P w K mg base CX0 1 _ _ _ _ := ok_Table T
  have GN : FnOk P w K mg base CX0 12 _ _ _ _ := ok_node_of T 8
  refine T.packed.F.ok scPacked (fun vs H Q E h => ?_) (fun cdv A outer s H vs Q E hr h => ?_)
  · obtain ⟨a, es, rfl, _⟩ := h
    rfl
  have hr2 : Room 2 _ := hr.mono (by decide)
  refine ⟨_, pss_cons (ps_set (i := 1) scPacked.nd rfl (.inl rfl) (pe_make0 T.cPacker.mkc GK hr2 rfl T.cPacker.m (bdPackerInit T.cPacker.F) .nil pass0))
    (pss_cons (ps_set (i := 2) scPacked.nd rfl (.inl rfl) (pe_fn T.node_of GN hr (bdNodeOf T.node_of.F) pass0 (pa_cons (pv 0) (pa_cons (pv 1) pa_nil))))
    (pss_one (ps_ret (pe_make T.cTable.mkc GT hr2 rfl T.cTable.m (bdTableInit T.cTable.F) .nil pass0 (pa_cons (pe_fld (pv 1) rfl) (pa_cons (pv 2) pa_nil)))))), ?_⟩
  obtain ⟨a, es, rfl, hL, hz, hsh, k⟩ := h
  refine q_asgQ (eq_Packer (P := P) (w := w) T) fun u H1 e1 ⟨t, dt, nl, d, hu, ht, hnl, hd, n1, n2, n3, h1, h2, h3⟩ => ?_
  subst hu
  obtain ⟨G1, a1, g1, E1⟩ := taken (H3 := H) (G := H1) (M := noHp) (l := t) apart_no rfl (by rw [over_no]; exact h1) ht e1
  rw [over_no] at E1
  obtain ⟨G2, a2, g2, E2⟩ := taken (H3 := H) (l := nl) a1 (by rw [upd_ne (Ne.symm n1)]; rfl) (by rw [← E1]; exact h2) hnl g1
  obtain ⟨G3, a3, g3, E3⟩ := taken (H3 := H) (l := d) a2 (by rw [upd_ne (Ne.symm n3), upd_ne (Ne.symm n2)]; rfl) (by rw [← E2, ← E1]; exact h3) hd g2
  obtain ⟨M3, hM3⟩ : ∃ M3, M3 = upd (upd (upd noHp t (HO.ins T.cPacker.C dt (pkF nl d))) nl (HO.lst [])) d (dN P w d []) := ⟨_, rfl⟩
  rw [← hM3] at a3 E3
  rw [E1, E2, E3]
  have m1 : M3 t = some (.ins T.cPacker.C dt (pkF nl d)) := by rw [hM3, upd_ne n2, upd_ne n1, upd_same]
  have m2 : M3 nl = some (.lst []) := by rw [hM3, upd_ne n3, upd_same]
  have m3 : M3 d = some (dN P w d []) := by rw [hM3, upd_same]
  have hC : Clean M3 := by
    rw [hM3]
    exact Clean.put (Clean.put (Clean.put (fun b u hb => nomatch hb) (fun _ z => nomatch z) (fun _ _ z => nomatch z)) (fun _ z => nomatch z) (fun _ _ z => nomatch z)) (fun _ z => nomatch z) (fun _ _ z => nomatch z)
  have hT3 : TblS P w T G3 M3 t dt nl d [] [] [] := ⟨a3, m1, m2, m3, Rep.nil, rfl, (fun i x hx => by simp at hx), (fun x hx => by cases hx), List.nodup_nil⟩
  clear hM3 E1 E2 E3 a1 a2 g1 g2
  refine q_ask ?_
  refine t_call (ea_cons (ev_var rfl) (ea_cons (ev_var rfl) ea_nil)) fun H4 e4 => ?_
  obtain ⟨G4, a4, eG4, rfl⟩ := over_split a3 e4
  have hpl := Mx.plain_le 8 es
  refine ⟨a, t, dt, nl, d, es, [], [], [], G4, M3, rfl, rfl, hT3.grow eG4 a4, hC, hL.mono (g3.trans eG4), hz, hsh, by show 0 + _ ≤ 5000; omega, fun G5 M5 refs5 xs5 eG5 hT5 hM5 => ?_⟩
  refine s_retN (C := T.cTable.C) (fs := tbF nl (Vahypd.build 8 es []).2) (en_make (vs := [.ref nl, .int ((Vahypd.build 8 es []).2 : Nat)]) (ea_cons (ev_fld (ev_var (v := .ref t) rfl) (over_m hT5.mt) T.cPacker.cl T.nPacker_nodes (v := .ref nl) (by rfl)) (ea_cons (ev_var rfl) ea_nil)) rfl) fun tt dx H8 htt e8 h8 => ?_
  have e05 : Ex H (over G5 M5) := (g3.trans eG4).trans (eG5.trans (ex_over hT5.ap))
  exact k tt H8 (fresh_back e05 htt) (e05.trans e8) ⟨dx, nl, refs5, h8, sq_of (e8 _ _ (over_m hT5.mn)), hT5.nd.mono fun _ _ r => r.mono ((ex_over hT5.ap).trans e8)⟩
end
end Pt
set_option Elab.async false
set_option linter.all false
set_option maxRecDepth 100000
set_option maxHeartbeats 2000000
namespace Pt
open PySem PySem.Spec PyProof.Rows L2 Evl
open VahypBase (Bytes)
open Vahypd (Node Table)
/-! ## nodes_without_sharing -/
def keyL (l : List Nat) : NestedKey := .tup (l.map fun (n : Nat) => .num (n : Int))
theorem keyL_inj {l m : List Nat} (h : keyL l = keyL m) : l = m := nums_inj (NestedKey.tup.inj h)
theorem keyL_deep (l : List Nat) : (keyL l).depth ≤ 8 := by
  have := depth_all (fun (n : Nat) => NestedKey.num (n : Int)) 1 (fun a => by simp [NestedKey.depth]) l
  simp only [keyL, NestedKey.depth]
  omega
/-- the dict's keys are these beginnings -/
structure Begs (K : PySem.W.Frag) (G : Hp) (xs : List NE) (L : List (List Nat)) : Prop where
  ks : xs.map (·.1) = L.map keyL
  vs : ∀ x ∈ xs, x.2.2 = V.bl true
  kin : KeysIn K G xs
  dup : L.Nodup
theorem Begs.any {K : PySem.W.Frag} {G : Hp} {xs : List NE} {L : List (List Nat)} (h : Begs K G xs L) (l : List Nat) : (xs.any fun x => decide (x.1 = keyL l)) = decide (l ∈ L) := by
  have e : (xs.any fun x => decide (x.1 = keyL l)) = (xs.map (·.1)).any fun k => decide (k = keyL l) := by rw [List.any_map]; rfl
  rw [e, h.ks, List.any_map, Bool.eq_iff_iff, List.any_eq_true, decide_eq_true_eq]
  constructor
  · rintro ⟨m, hm, q⟩
    rw [← keyL_inj (of_decide_eq_true q)]
    exact hm
  · intro hm
    exact ⟨l, hm, decide_eq_true rfl⟩
theorem Begs.in_ {K : PySem.W.Frag} {G : Hp} {xs : List NE} {L : List (List Nat)} (h : Begs K G xs L) {l : List Nat} (hl : l ∈ L) : ∃ b, (keyL l, b, V.bl true) ∈ xs := by
  have : keyL l ∈ xs.map (·.1) := by rw [h.ks]; exact List.mem_map.mpr ⟨l, hl, rfl⟩
  obtain ⟨x, hx, e⟩ := List.mem_map.mp this
  refine ⟨x.2.1, ?_⟩
  have h2 := h.vs x hx
  rw [← e, ← h2]
  exact hx
theorem Begs.len {K : PySem.W.Frag} {G : Hp} {xs : List NE} {L : List (List Nat)} (h : Begs K G xs L) : xs.length = L.length := by
  have := congrArg List.length h.ks
  rw [List.length_map, List.length_map] at this
  exact this
theorem Begs.mono {K : PySem.W.Frag} {G G' : Hp} {xs : List NE} {L : List (List Nat)} (h : Begs K G xs L) (e : Ex G G') : Begs K G' xs L := ⟨h.ks, h.vs, h.kin.mono e, h.dup⟩
theorem Begs.add {K : PySem.W.Frag} {G : Hp} {xs : List NE} {L : List (List Nat)} {l : List Nat} {a : Addr} (h : Begs K G xs L) (hl : l ∉ L) (hk : NkV K G (.ref a) (keyL l)) : Begs K G (xs ++ [(keyL l, a, V.bl true)]) (L ++ [l]) := by
  refine ⟨by rw [List.map_append, List.map_append, h.ks]; rfl, fun x hx => ?_, fun x hx => ?_, ?_⟩
  · rcases List.mem_append.mp hx with q | q
    · exact h.vs x q
    · rw [List.mem_singleton.mp q]
  · rcases List.mem_append.mp hx with q | q
    · exact h.kin x q
    · rw [List.mem_singleton.mp q]
      exact ⟨hk, keyL_deep l⟩
  · refine List.nodup_append.mpr ⟨h.dup, by simp, fun a ha b hb => ?_⟩
    rw [List.mem_singleton.mp hb]
    exact fun z => hl (z ▸ ha)
section
variable {P : Program} {w : World} {K : PySem.W.Frag} {mg : Str → Option Value} {base : Heap} {X : Cx}
variable {σ : L2.St} {H H' : Hp} {ta tb tc te tl : TE} {t : TT} {x y z v : V} {C : Addr} {D : Ends} {tz : TS}
theorem t_asgSub {to ti : TE} {ts : TSet} (k : te σ H fun v H1 => to σ H1 fun o H2 => ti σ H2 fun i H3 => ts o i v H3 fun H4 => D.nx σ H4) : tAsg te (gSub to ti ts) D σ H := k
theorem nv_nil : nv [] = [] := rfl
/-- the dict of the empty beginning -/
theorem eq_disp : EvQ (tDisp1N K P w (tTup tNil) (tC (.bl true))) σ H (fun H1 u H2 => ∃ d G xs, u = .ref d ∧ H1 d = none ∧ G d = none ∧ Ex H1 G ∧ H2 = upd G d (dN P w d xs) ∧ Begs K G xs [[]]) := fun H1 e Q q p hp => by
  refine ⟨sz_of (by show 0 ≤ 100000; decide), fun t ht => ?_⟩
  have htp : t ≠ p := fun z => by rw [z, upd_same] at ht; cases ht
  rw [upd_ne htp] at ht
  have hs : SqT K (upd H1 t (.tup [])) t (nv []) := st_of upd_same
  have eH : ∀ o : HO, upd (upd (upd H1 p (dN P w p [])) t (.tup [])) p o = upd (upd H1 t (.tup [])) p o := fun o => by
    funext b
    by_cases h1 : b = p
    · rw [h1, upd_same, upd_same]
    · rw [upd_ne h1, upd_ne h1]
      by_cases h2 : b = t
      · rw [h2, upd_same, upd_same]
      · rw [upd_ne h2, upd_ne h2, upd_ne h1]
  refine ⟨t, keyL [], rfl, by rw [upd_ne (Ne.symm htp), upd_same], .tup (st_of upd_same) .nil, keyL_deep _, ?_⟩
  rw [eH]
  have g1 : (upd H1 t (.tup [])) p = none := by rw [upd_ne (Ne.symm htp)]; exact hp
  exact q _ _ ((Ex.new ht).trans (Ex.new g1)) ⟨p, _, [(keyL [], t, V.bl true)], rfl, hp, g1, Ex.new ht, rfl, rfl, (fun x hx => by rw [List.mem_singleton.mp hx]), (fun x hx => by
    rw [List.mem_singleton.mp hx]
    exact ⟨.tup hs .nil, keyL_deep _⟩), by simp⟩
def Md (P : Program) (w : World) (d : Addr) (xs : List NE) : Hp := upd noHp d (dN P w d xs)
theorem md_over {G : Hp} {d : Addr} {xs : List NE} : upd G d (dN P w d xs) = over G (Md P w d xs) := by
  unfold Md
  rw [← over_upd, over_no]
theorem md_apart {G : Hp} {d : Addr} {xs : List NE} (h : G d = none) : Apart G (Md P w d xs) := fun b o hb => by
  by_cases e : b = d
  · rw [e]; exact h
  · unfold Md at hb
    rw [upd_ne e] at hb
    cases hb
theorem md_same {d : Addr} {xs : List NE} : Md P w d xs d = some (dN P w d xs) := upd_same
theorem md_split {G H2 : Hp} {d : Addr} {xs : List NE} (h : G d = none) (e : Ex (over G (Md P w d xs)) H2) : ∃ G2, G2 d = none ∧ Ex G G2 ∧ H2 = over G2 (Md P w d xs) := by
  obtain ⟨G2, a2, e2, r⟩ := over_split (md_apart h) e
  exact ⟨G2, a2 d _ md_same, e2, r⟩
theorem md_clean {d : Addr} {xs : List NE} : Clean (Md P w d xs) := Clean.put (fun b u hb => nomatch hb) (fun _ z => nomatch z) (fun _ _ z => nomatch z)
theorem ev_lenD {d : Addr} {xs : List NE} (ha : Ev ta σ H (.ref d)) (h : H d = some (dN P w d xs)) (hk : KeysIn K H xs) : Ev (tCB (rLenN K P w) (tCons ta tNil)) σ H (.int ((xs.length : Nat) : Int)) := fun H1 e Q q =>
  ha H1 e _ fun H2 e2 => ⟨d, xs, rfl, (e.trans e2) _ _ h, hk.mono (e.trans e2), q H2 e2⟩
def spPlain (T : Tx K mg) : Sp := fun vs H Q _ => ∃ (a : Addr) (es : List Vahypd.Entry), vs = [.ref a] ∧ EntList T H a es ∧ es.length ≤ 40 ∧ (∀ e ∈ es, e.1.length ≤ 8) ∧ RetV (.int (Vahypd.plainBy 8 es : Nat)) H Q
theorem ok_plain (T : Tx K mg) : FnOk P w K mg base CX0 1 T.nodes_without_sharing.f T.nodes_without_sharing.fd ["entries"] (spPlain T) := by
  refine T.nodes_without_sharing.F.ok scNodesWithoutSharing (fun vs H Q E h => ?_) (fun cdv A outer s H vs Q E hr h => ?_)
  · obtain ⟨a, es, rfl, _⟩ := h
    rfl
  have hu : (A.deeper (envOfC "nodes_without_sharing" (defScope sNodesWithoutSharing) s.heap.objs.size T.nodes_without_sharing.f cdv)).units + 9 < cLine := by have := hr.un; omega
  refine ⟨_, pss_cons (ps_set (i := 1) scNodesWithoutSharing.nd rfl (.inl rfl) (pe_disp1N hu (pe_tup pa_nil) pe_bl))
    (pss_cons (ps_for PassesOwn.never rfl (pi_list (pv 0)) (pg_name (i := 2) scNodesWithoutSharing.nd rfl (.inl rfl))
      (pss_one (ps_for PassesOwn.never rfl (pi_range2 (by rfl) T.b_range (pa_cons pe_int (pa_cons (pe_op op_add (pe_len T.b_len (pe_fld (pv 2) rfl)) pe_int) pa_nil))) (pg_name (i := 3) scNodesWithoutSharing.nd rfl (.inl rfl))
        (pss_one (ps_asg pe_bl (pg_sub (pv 1) (pe_slice sl_tupA (pe_fld (pv 2) rfl) po_none (po_some (pv 3))) (set_N hu)))))))
    (pss_one (ps_ret (pe_callB cr_lenN (by rfl) T.b_len (by decide +kernel) (pa_cons (pv 1) pa_nil))))), ?_⟩
  obtain ⟨a, es, rfl, ⟨refs, hL, hR⟩, hz, hsh, k⟩ := h
  refine q_asgQ (eq_disp (P := P) (w := w) (K := K)) fun u H1 e1 ⟨d, G0, xs0, hu0, hd0, hg0, eG0, hH1, hB0⟩ => ?_
  subst hu0
  rw [hH1, md_over]
  refine q_forLn (a := a) (xs := refs) (ev_var rfl) (ex_l (eG0.trans (ex_over (md_apart hg0))) hL) (fun i σ' H' => ∃ (G : Hp) (xs : List NE) (L : List (List Nat)) (u1 u2 : Option V), σ' = [some (.ref a), some (.ref d), u1, u2] ∧ H' = over G (Md P w d xs) ∧ G d = none ∧ Ex H G ∧ Begs K G xs L ∧ L.length ≤ 1 + 8 * i ∧ i ≤ es.length ∧ ∀ l, l ∈ L ↔ Mx.Begins (es.take i) l)
    (fun H2 e2 => ?_) (fun i σ' H' _ pp => ?_) ?_ ?_
  · obtain ⟨G2, g2, eG2, rfl⟩ := md_split hg0 e2
    refine ⟨G2, xs0, [[]], none, none, rfl, rfl, g2, eG0.trans eG2, hB0.mono eG2, by simp, Nat.zero_le _, fun l => ?_⟩
    unfold Mx.Begins
    simp
  · obtain ⟨G, xs, L, u1, u2, rfl, rfl, hg, eG, _⟩ := pp
    exact ex_l (eG.trans (ex_over (md_apart hg))) hL
  · rintro i x σ' H' hi ⟨G, xs, L, u1, u2, rfl, rfl, hg, eG, hB, hLl, hie, hm⟩
    obtain ⟨en, o, hen, rfl, ho⟩ := hR.at hi
    have hil := (List.getElem?_eq_some_iff.mp hen).1
    have h8 := hsh en (List.mem_of_getElem? hen)
    obtain ⟨dx, sa, da, h1, h2, h3⟩ := ho.mono eG
    have eO := ex_over (md_apart (P := P) (w := w) (xs := xs) hg)
    refine s_forR2 (D := _) (lo := 1) (n := ((en.1.length : Nat) : Int) + 1) (ea_cons ev_c (ea_cons (ev_op (ev_lenT (ev_fld (ev_var rfl) (eO _ _ h1) T.cEntry.cl T.nEntry_signs (v := .ref sa) (by rfl)) (ex_t eO h2)) ev_c ?_) ea_nil)) (by omega)
      (fun j σ' H' => ∃ (G' : Hp) (xs : List NE) (L : List (List Nat)) (u2 : Option V), σ' = [some (.ref a), some (.ref d), some (.ref o), u2] ∧ H' = over G' (Md P w d xs) ∧ G' d = none ∧ Ex G G' ∧ Begs K G' xs L ∧ L.length ≤ 1 + 8 * i + j ∧ j ≤ en.1.length ∧ ∀ l, l ∈ L ↔ (Mx.Begins (es.take i) l ∨ ∃ q, q ≤ j ∧ l = en.1.take q))
      (fun H3 e3 => ?_) (fun j σ' H' hj pp => ?_) (fun σ' H' pp => ?_)
    · rw [nv_len]
      exact rv_I0
    · obtain ⟨G3, g3, eG3, rfl⟩ := md_split hg e3
      refine ⟨G3, xs, L, u2, rfl, rfl, g3, eG3, hB.mono eG3, by omega, Nat.zero_le _, fun l => ?_⟩
      rw [hm l]
      constructor
      · exact .inl
      · rintro (h | ⟨q, hq, rfl⟩)
        · exact h
        · rw [Nat.le_zero.mp hq]
          exact .inl rfl
    · obtain ⟨G', xs', L', u2', rfl, rfl, hg', eG', hB', hLl', hjl, hm'⟩ := pp
      have hjl2 : j < en.1.length := by omega
      refine t_asgSub ?_
      refine ev_c _ (Ex.refl _) _ fun H4 e4 => ?_
      refine (ev_var (v := .ref d) rfl) H4 (Ex.refl _) _ fun H5 e5 => ?_
      have eO' := ex_over (md_apart (P := P) (w := w) (xs := xs') hg')
      have e05 : Ex G H5 := eG'.trans (eO'.trans (e4.trans e5))
      have hsl : EvT2 K (tSl (rSlA K) (tFld K (tVar 2) "signs") tNoPart (tPart (tVar 3))) [some (.ref a), some (.ref d), some (.ref o), some (.int (1 + (j : Int)))] H5 (cutV (nv en.1) none (some ((j + 1 : Nat) : Int))) := et2_sl (et2_v (ev_fld (ev_var rfl) (e05 _ _ h1) T.cEntry.cl T.nEntry_signs (v := .ref sa) (by rfl)) (ex_t e05 h2)) eo_none (eo_some (ev_is (ev_var rfl) (by congr 1; omega)))
      rw [cut_to, nv_take] at hsl
      refine hsl H5 (Ex.refl _) _ fun u3 H6 e6 ⟨p, hu3, hp⟩ => ?_
      subst hu3
      obtain ⟨G6, g6, eG6, rfl⟩ := md_split hg' ((e4.trans e5).trans e6)
      have hk6 : NkV K G6 (.ref p) (keyL (en.1.take (j + 1))) := .tup (md_clean.tup hp) nk_nums
      have hB6 := hB'.mono eG6
      have eO6 := ex_over (md_apart (P := P) (w := w) (xs := xs') g6)
      refine ⟨p, d, xs', keyL (en.1.take (j + 1)), rfl, rfl, over_m md_same, hB6.kin.mono eO6, hk6.mono eO6, keyL_deep _, sz_lt (by rw [hB6.len]; omega), ?_⟩
      have hput : ∀ ys : List NE, upd (over G6 (Md P w d xs')) d (dN P w d ys) = over G6 (Md P w d ys) := fun ys => by
        rw [over_upd]
        unfold Md
        rw [upd_upd]
      by_cases hin : en.1.take (j + 1) ∈ L'
      · refine .inr ⟨hB6.in_ hin, ?_⟩
        erw [hput]
        refine ⟨G6, xs', L', _, rfl, rfl, g6, eG'.trans eG6, hB6, by omega, hjl2, fun l => ?_⟩
        rw [hm' l]
        constructor
        · rintro (h | ⟨q, hq, rfl⟩)
          · exact .inl h
          · exact .inr ⟨q, by omega, rfl⟩
        · rintro (h | ⟨q, hq, rfl⟩)
          · exact .inl h
          · by_cases hqj : q = j + 1
            · rw [hqj]
              exact (hm' _).1 hin
            · exact .inr ⟨q, by omega, rfl⟩
      · refine .inl ⟨by rw [hB6.any]; exact decide_eq_false hin, ?_⟩
        erw [hput]
        refine ⟨G6, _, L' ++ [en.1.take (j + 1)], _, rfl, rfl, g6, eG'.trans eG6, hB6.add hin hk6, by rw [List.length_append]; show L'.length + 1 ≤ _; omega, hjl2, fun l => ?_⟩
        rw [List.mem_append, hm' l, List.mem_singleton]
        constructor
        · rintro ((h | ⟨q, hq, rfl⟩) | rfl)
          · exact .inl h
          · exact .inr ⟨q, by omega, rfl⟩
          · exact .inr ⟨j + 1, Nat.le_refl _, rfl⟩
        · rintro (h | ⟨q, hq, rfl⟩)
          · exact .inl (.inl h)
          · by_cases hqj : q = j + 1
            · rw [hqj]
              exact .inr rfl
            · exact .inl (.inr ⟨q, by omega, rfl⟩)
    · obtain ⟨G', xs', L', u2', rfl, rfl, hg', eG', hB', hLl', hjl, hm'⟩ := pp
      have hn : ((((en.1.length : Nat) : Int) + 1) - 1).toNat = en.1.length := by omega
      rw [hn] at hLl' hm'
      refine ⟨G', xs', L', some (.ref o), u2', rfl, rfl, hg', eG.trans eG', hB', by omega, hil, fun l => ?_⟩
      rw [hm' l, List.take_add_one, hen]
      unfold Mx.Begins
      constructor
      · rintro ((h | ⟨e, he, hp⟩) | ⟨q, hq, rfl⟩)
        · exact .inl h
        · exact .inr ⟨e, List.mem_append_left _ he, hp⟩
        · exact .inr ⟨en, List.mem_append_right _ (by simp), List.take_prefix _ _⟩
      · rintro (h | ⟨e, he, hp⟩)
        · exact .inl (.inl h)
        · rcases List.mem_append.mp he with he | he
          · exact .inl (.inr ⟨e, he, hp⟩)
          · have : e = en := by simpa using he
            subst this
            exact .inr ⟨l.length, hp.length_le, (List.prefix_iff_eq_take.mp hp)⟩
  · rintro σ' H' ⟨G, xs, L, u1, u2, rfl, rfl, hg, eG, hB, hLl, hie, hm⟩
    rw [hR.1, List.take_length] at hm
    have hc := Mx.plain_count 8 es L hsh hB.dup hm
    have eO := ex_over (md_apart (P := P) (w := w) (xs := xs) hg)
    refine s_ret (v := .int (Vahypd.plainBy 8 es : Nat)) (ev_is (ev_lenD (P := P) (w := w) (K := K) (ev_var rfl) (over_m md_same) (hB.kin.mono eO)) (by rw [hB.len, hc])) fun H2 e2 => k.go ((eG.trans eO).trans e2)
end
end Pt
set_option Elab.async false
set_option linter.all false
set_option maxRecDepth 100000
set_option maxHeartbeats 2000000
/-! ## xs.extend(t), t a tuple -/
namespace PySem
open Sem (wp)
open AutoSeq1
theorem ext_tup (l : Addr) (items : Array Value) (n : Nat) (b : Addr) (items2 : Array Value) (n2 : Nat) (dd : Option Addr) (sl : Array (Option Value)) (hs0 : ¬(!items.isEmpty && Builtin.List.listTooLong (items.size + items2.size)) = true) (hs1 : items.size ≤ sizeLine) (hs2 : items.size + items2.size ≤ sizeLine + 1) :
    Meets (Builtin.«list.extend» ⟨[.ref l, .ref b], []⟩) (fun _ R s => s.heap.get? l = some { cls := .type "list", dict := none, data := .seq items n, slots := #[] } ∧ s.heap.get? b = some { cls := .type "tuple", dict := dd, data := .seq items2 n2, slots := sl } ∧ R (.ok (.ret Value.none)) { s with heap := s.heap.update l (Obj.mapSeq fun x => x ++ items2), toks := s.toks }) :=
  .of_wp fun prog w A R s h => by
    obtain ⟨hp, g, d, tk, os⟩ := s
    obtain ⟨hl, hb, h⟩ := h
    have f1 := idx_int
    have f2 := sub_tuple_tuple
    have f3 := sub_list_list
    have f4 := sub_tuple_list
    have f5 := sub_list_tuple
    have hz' : (items ++ items2).size ≤ sizeLine + 1 := by rw [Array.size_append]; exact hs2
    wp_walk using (wpAny_updateSeq hl rfl (hz := hs1) (_hz' := hz')), wpAny_loadPart' hl, wpAny_loadPart' hb
    exact ⟨_, rfl, h⟩
end PySem
namespace L2
open PySem PySem.Spec PyProof.Rows
section
variable {X : Cx}
def rExtendT (K : PySem.W.Frag) : V → List V → Hp → VK → Prop := fun x vs H Q => ∃ l b xs zs, x = .ref l ∧ vs = [.ref b] ∧ H l = some (.lst xs) ∧ SqT K H b zs ∧ xs.length + zs.length ≤ sizeLine ∧ Q .non (upd H l (.lst (xs ++ zs)))
theorem mt_extendT : MtM X "list.extend" (rExtendT X.K) := by
  intro pins s σ H x vs v us Q I rx rv h
  obtain ⟨l, b, xs, zs, rfl, rfl, hH, hB, hz, q⟩ := h
  cases rx
  obtain ⟨u, rfl, ru⟩ := rv.one
  cases ru
  obtain ⟨z, its, n, r, hl, e⟩ := I.lstM hH
  obtain ⟨its2, r2, ⟨o2, ho2, hc2, n2, hd2⟩, z2⟩ := I.tuple hB
  obtain ⟨ocls, odict, odata, oslots⟩ := o2
  simp only at hc2 hd2
  subst hc2
  subst hd2
  have hl2 := r2.length
  have hsz : its.toArray.size + its2.toArray.size ≤ sizeLine := by rw [List.size_toArray, List.size_toArray]; omega
  have hlong : ¬ (!its.toArray.isEmpty && Builtin.List.listTooLong (its.toArray.size + its2.toArray.size)) = true := by
    rw [notLongL hsz, Bool.and_false]
    exact Bool.false_ne_true
  refine call_meets F.slot_list_extend ⟨_, e, rfl⟩ F.entry_list_extend (F.args_list_extend_2 _ _)
    (ext_tup l its.toArray n b its2.toArray n2 odict oslots hlong (by rw [List.size_toArray]; omega) (by omega)) ⟨e, ho2, ?_⟩
  refine ⟨.non, _, I.lset (its' := its ++ its2) hH e (by simp) (r.append r2) ?_, rfl, q⟩
  rw [List.length_append]
  omega
end
end L2
set_option Elab.async false
set_option linter.all false
set_option maxRecDepth 100000
set_option maxHeartbeats 2000000
namespace Pt
open PySem PySem.Spec PyProof.Rows L2 Evl
open VahypBase (Bytes)
open Vahypd (Node Table)
section
variable {P : Program} {w : World} {K : PySem.W.Frag} {mg : Str → Option Value} {base : Heap} {X : Cx}
variable {σ : L2.St} {H H' : Hp} {ta tb tc te tl : TE} {t : TT} {x y z v : V} {C : Addr} {D : Ends} {tz : TS}
/-! ### sizes -/
theorem nv_app (l m : List Nat) : nv (l ++ m) = nv l ++ nv m := by unfold nv; rw [List.map_append]
theorem nv_cons (a : Nat) (l : List Nat) : nv (a :: l) = V.int (a : Int) :: nv l := rfl
theorem ev_sum {ns : List Nat} (h : EvL te σ H (nv ns)) : Ev (tCB (rSum K) (tCons te tNil)) σ H (.int ((ns.sum : Nat) : Int)) := fun H1 e Q q => h H1 e _ fun p H2 hp e2 h2 => by
  rw [nv_ints] at h2
  refine ⟨p, _, rfl, sq_of h2, ?_⟩
  have : ∀ ns : List Nat, (ns.map fun (n : Nat) => (n : Int)).sum = ((ns.sum : Nat) : Int) := by
    intro ns
    induction ns with
    | nil => rfl
    | cons a l ih => rw [List.map_cons, List.sum_cons, List.sum_cons, ih]; omega
  rw [this]
  exact q H2 e2
theorem ev_lenC {α : Type} {n : Nat} (h : EvQ te σ H (fun H1 u H2 => ∃ l rs, u = .ref l ∧ H1 l = none ∧ H2 l = some (.lst rs) ∧ rs.length = n)) : Ev (tCB (rLenS K) (tCons te tNil)) σ H (.int ((n : Nat) : Int)) := fun H1 e Q q =>
  h H1 e _ fun u H2 e2 ⟨l, rs, hu, _, h2, hn⟩ => ⟨l, rs, by rw [hu], .inl (sq_of h2), by rw [hn]; exact q H2 e2⟩
theorem ev_nodes {T : Tx K mg} {i : Nat} {t dt nl : Addr} {k : Nat} (hσ : σ[i]? = some (some (.ref t))) (h : H t = some (.ins T.cTable.C dt (tbF nl k))) : Ev (tFld K (tVar i) "nodes") σ H (.ref nl) := ev_fld (ev_var hσ) h T.cTable.cl T.nTable_nodes (by rfl)
theorem eq_len {α : Type} {RB : Hp → Addr → α → Prop} {xs : List α} {n : Nat} (h : EvQ te σ H (fun H1 u H2 => ∃ l rs, u = .ref l ∧ H1 l = none ∧ H2 l = some (.lst rs) ∧ Rep (RB H2) rs xs)) (hn : xs.length = n) : EvQ te σ H (fun H1 u H2 => ∃ l rs, u = .ref l ∧ H1 l = none ∧ H2 l = some (.lst rs) ∧ rs.length = n) := fun H1 e Q q =>
  h H1 e Q fun u H2 e2 ⟨l, rs, hu, hl, h2, hR⟩ => q u H2 e2 ⟨l, rs, hu, hl, h2, hR.1.trans hn⟩
theorem ev_plain {T : Tx K mg} {a : Addr} {es : List Vahypd.Entry} {E : XK} (hL : EntList T H a es) (hz : es.length ≤ 40) (hs : ∀ e ∈ es, e.1.length ≤ 8) (h : Ev ta σ H (.ref a)) : Ev (tCall (spPlain T) [] E (tCons ta tNil)) σ H (.int (Vahypd.plainBy 8 es : Nat)) := fun H1 e Q q =>
  t_fn (ea_cons (h.mono e) ea_nil) fun H2 e2 => ⟨a, es, rfl, hL.mono (e.trans e2), hz, hs, fun H3 e3 => q H3 (e2.trans e3)⟩
def spSizes (T : Tx K mg) : Sp := fun vs H Q _ => ∃ (t a : Addr) (tk : Table × Nat) (es : List Vahypd.Entry), vs = [.ref t, .ref a] ∧ TabAt T H t tk ∧ tk.1.length ≤ 1000 ∧ EntList T H a es ∧ es.length ≤ 40 ∧ (∀ e ∈ es, e.1.length ≤ 8) ∧
  RetL (nv [tk.1.length, Vahypd.edges tk.1, Vahypd.outs tk.1, Vahypd.plainBy 8 es]) H Q
theorem ok_sizes (T : Tx K mg) : FnOk P w K mg base CX0 2 T.sizes.f T.sizes.fd ["table", "entries"] (spSizes T) := by
  have GP : FnOk P w K mg base CX0 1 _ _ _ _ := ok_plain T
  refine T.sizes.F.ok scSizes (fun vs H Q E h => ?_) (fun cdv A outer s H vs Q E hr h => ⟨_,
    pss_cons (ps_set (i := 2) scSizes.nd rfl (.inl rfl) (pe_callB (cr_sum rfl) (by rfl) T.b_sum (by decide +kernel) (pa_cons
      (pe_lc (own := [("node", 4)]) (g := gName 4) (tt := tYes) (te := tCB (rLenS K) (tCons (tFld K (tVar 4) "ways") tNil)) rfl scSizes.nd (pi_list (pe_fld (pv 0) rfl)) (blkOk_by (N := ["table", "entries", "ways", "ends", "node"]) (sc := defScope sSizes) (by decide +kernel))
        (fun _ _ _ _ _ => pg_name (i := 4) scSizes.nd rfl (Or.inl rfl)) (fun _ _ _ _ _ => pts_nil) (fun _ _ _ _ _ => pe_len T.b_len (pe_fld (pv 4) rfl))) pa_nil)))
    (pss_cons (ps_set (i := 3) scSizes.nd rfl (.inl rfl) (pe_len T.b_len
      (pe_lc (own := [("node", 4)]) (g := gName 4) (tt := tTest (tOp (fun x y H Q => y = .non ∧ Q (.bl (!decide (x = .non))) H) (tFld K (tVar 4) "digits") (tC .non))) (te := tVar 4) rfl scSizes.nd (pi_list (pe_fld (pv 0) rfl)) (blkOk_by (N := ["table", "entries", "ways", "ends", "node"]) (sc := defScope sSizes) (by decide +kernel))
        (fun _ _ _ _ _ => pg_name (i := 4) scSizes.nd rfl (Or.inl rfl)) (fun _ _ _ _ _ => pts_one (pt_cmpR op_notN (pe_fld (pv 4) rfl) pe_non (nomark _))) (fun _ _ _ _ _ => pv 4))))
    (pss_one (ps_ret (pe_lst (pa_cons (pe_len T.b_len (pe_fld (pv 0) rfl)) (pa_cons (pv 2) (pa_cons (pv 3) (pa_cons (pe_fn T.nodes_without_sharing GP hr (bdNodesWithoutSharing T.nodes_without_sharing.F) pass0 (pa_cons (pv 1) pa_nil)) pa_nil)))))))), ?_⟩)
  · obtain ⟨t, a, tk, es, rfl, _⟩ := h
    rfl
  obtain ⟨t, a, tk, es, rfl, ⟨dt, nl, refs, h1, h2, h3⟩, hz1, hL, hz, hsh, k⟩ := h
  refine q_asg (v := .int ((Vahypd.edges tk.1 : Nat) : Int)) (ev_sum (ns := tk.1.map fun n => n.kids.length) ?_) fun H1 e1 => ?_
  · have := el_lcR (K := K) (te := tCB (rLenS K) (tCons (tFld K (tVar 4) "ways") tNil)) (t := tYes) (tl := tFld K (tVar 0) "nodes") (σ := [some (.ref t), some (.ref a), none, none, none]) (H := H) (j := 4) (vs := [4]) (⟨none, []⟩ : Node) (fun _ => true) (fun n => .int ((n.kids.length : Nat) : Int)) (ev_nodes rfl h1) h2 h3 (by omega) (fun _ => rfl) (fun o n H1 e1 hm ho => et_yes) (fun o n H1 e1 hm ho _ => by
      obtain ⟨dx, u, wa, g1, g2, ws, g3, g4⟩ := ho.mono e1
      refine ev_is (ev_lenT (ev_fld (ev_var rfl) g1 T.cNode.cl T.nNode_ways (v := .ref wa) (by rfl)) g3) ?_
      rw [g4.1])
    rw [List.filter_eq_self.mpr (fun _ _ => rfl)] at this
    unfold nv
    rw [List.map_map]
    exact this
  · refine q_asg (v := .int ((Vahypd.outs tk.1 : Nat) : Int)) (ev_lenC (α := Node) (eq_len (eq_lcN (K := K) (R := NodeAt T H) (RB := fun _ _ (_ : Node) => True) (fun n => n.out.isSome) (fun n => n) (fun _ r => r) (fun _ r => r) (ev_nodes rfl (e1 _ _ h1)) (ex_l e1 h2) h3 (by omega) (fun _ => rfl) (fun o n H2 e2 hm ho => ?_) (fun o n H2 e2 hm ho hp => ?_)) ?_)) fun H2 e2 => ?_
    · obtain ⟨dx, u, wa, g1, g2, g3⟩ := ho.mono (e1.trans e2)
      refine et_is (et_test (ev_op (ev_fld (ev_var rfl) g1 T.cNode.cl T.nNode_digits (v := u) (by rfl)) ev_c rv_notN)) ?_
      cases hout : n.out with
      | none =>
        rw [hout] at g2
        have : u = .non := g2
        rw [this]
        rfl
      | some dd =>
        rw [hout] at g2
        obtain ⟨da, rfl, _⟩ := g2
        rfl
    · exact fun H3 e3 Q q => ev_var rfl H3 e3 Q fun H4 e4 => q _ H4 e4 ⟨o, rfl, trivial⟩
    · rw [List.length_map]
      rfl
    · have e12 := e1.trans e2
      refine s_retL (el_lst (ea_cons (ev_is (ev_len (ev_nodes rfl (e12 _ _ h1)) (ex_l e12 h2)) ?_) (ea_cons (ev_var rfl) (ea_cons (ev_var rfl) (ea_cons (ev_plain (hL.mono e12) hz hsh (ev_var rfl)) ea_nil)))) (by show 4 ≤ 100000; decide)) fun p H3 hp e3 h3' => k p H3 (fresh_back e12 hp) (e12.trans e3) h3'
      rw [h3.1]
/-! ### told_node, told_table -/
theorem q_forTn {a : Addr} {xs : List V} {tu : TS} {j : Nat} (h : Ev tl σ H (.ref a)) (hx : SqT K H a xs) (Pv : Nat → L2.St → Hp → Prop) (h0 : ∀ H1, Ex H H1 → Pv 0 σ H1) (hl : ∀ i σ' H', i ≤ xs.length → Pv i σ' H' → SqT K H' a xs)
    (hs : ∀ i x σ' H', xs[i]? = some x → Pv i σ' H' → tu { D with nx := Pv (i + 1), ct := Pv (i + 1), bk := tz D } (σ'.set j (some x)) H') (hd : ∀ σ' H', Pv xs.length σ' H' → tz D σ' H') : tSeq (tFor (iTup K tl) (gName j) tu) tz D σ H :=
  q_forT h hx Pv h0 hl hs hd
theorem s_extL {l : Addr} {xs zs : List V} (hl : H l = some (.lst xs)) (ha : Ev ta σ H (.ref l)) (hb : EvL te σ H zs) (hz : xs.length + zs.length ≤ 100000) (k : ∀ H1, Ex H H1 → D.nx σ (upd H1 l (.lst (xs ++ zs)))) : tDrop (tBM K "list" rExtend ta (tCons te tNil)) D σ H :=
  ha H (Ex.refl H) _ fun H1 e1 => ⟨Or.inl ⟨rfl, xs, sq_of (e1 l _ hl)⟩, hb H1 e1 _ fun b H2 hb0 e2 h2 => ⟨l, b, xs, zs, rfl, rfl, (e1.trans e2) _ _ hl, h2, sz_of hz, k H2 (e1.trans e2)⟩⟩
theorem s_extT {l b : Addr} {xs zs : List V} (hl : H l = some (.lst xs)) (ha : Ev ta σ H (.ref l)) (hb : Ev te σ H (.ref b)) (h : SqT K H b zs) (hz : xs.length + zs.length ≤ 100000) (k : ∀ H1, Ex H H1 → D.nx σ (upd H1 l (.lst (xs ++ zs)))) : tDrop (tBM K "list" (rExtendT K) ta (tCons te tNil)) D σ H :=
  ha H (Ex.refl H) _ fun H1 e1 => ⟨Or.inl ⟨rfl, xs, sq_of (e1 l _ hl)⟩, hb H1 e1 _ fun H2 e2 => ⟨l, b, xs, zs, rfl, rfl, (e1.trans e2) _ _ hl, ex_t (e1.trans e2) h, sz_of hz, k H2 (e1.trans e2)⟩⟩
def SmallN (n : Node) : Prop := (∀ v, n.out = some v → v.length ≤ 9) ∧ n.kids.length ≤ 40
theorem row_len {n : Node} (h : SmallN n) : (Vahypd.nodeRow n).length ≤ 92 := by
  unfold Vahypd.nodeRow
  have h2 : ∀ l : List (Nat × Nat), (l.flatMap fun x => [x.1, x.2]).length = 2 * l.length := by
    intro l
    induction l with
    | nil => rfl
    | cons a l ih => rw [List.flatMap_cons, List.length_append, ih]; simp; omega
  rw [List.length_append, List.length_cons, h2]
  have h1 := h.2
  cases ho : n.out with
  | none => simp; omega
  | some v =>
    have := h.1 v ho
    simp
    omega
theorem el_catL {xs ys : List V} (ha : EvL ta σ H xs) (hb : EvL tb σ H ys) (hz : xs.length + ys.length ≤ 100000) : EvL (tOp rCat ta tb) σ H (xs ++ ys) := fun H1 e Q q =>
  ha H1 e _ fun p H2 hp e2 h2 => hb H2 (e.trans e2) _ fun r H3 hr e3 h3 => ⟨p, r, xs, ys, rfl, rfl, e3 _ _ h2, h3, sz_of hz, fun l hl => q l _ (fresh_back (e2.trans e3) hl) ((e2.trans e3).trans (Ex.new hl)) upd_same⟩
theorem el_listT {p : Addr} {xs : List V} (ha : Ev ta σ H (.ref p)) (h : SqT K H p xs) : EvL (tCB (fun xs H Q => ∃ p ys, xs = [.ref p] ∧ (SqL K H p ys ∨ SqT K H p ys) ∧ ∀ l, H l = none → Q (.ref l) (upd H l (.lst ys))) (tCons ta tNil)) σ H xs := fun H1 e Q q =>
  ha H1 e _ fun H2 e2 => ⟨p, xs, rfl, .inr (ex_t (e.trans e2) h), fun l hl => q l _ (fresh_back e2 hl) (e2.trans (Ex.new hl)) upd_same⟩
def spToldNode (T : Tx K mg) : Sp := fun vs H Q _ => ∃ (o : Addr) (n : Node), vs = [.ref o] ∧ NodeAt T H o n ∧ SmallN n ∧ RetL (nv (Vahypd.nodeRow n)) H Q
theorem ok_told_node (T : Tx K mg) : FnOk P w K mg base CX0 1 T.told_node.f T.told_node.fd ["node"] (spToldNode T) := by
  refine T.told_node.F.ok scToldNode (fun vs H Q E h => ?_) (fun cdv A outer s H vs Q E hr h => ⟨_,
    pss_cons (ps_set (i := 1) scToldNode.nd rfl (.inl rfl) (pe_lst (pa_cons pe_int pa_nil)))
    (pss_cut (ps_if (pt_cmpR op_notN (pe_fld (pv 0) rfl) pe_non (nomark _)) (pss_one (ps_set (i := 1) scToldNode.nd rfl (.inl rfl) (pe_op op_cat (pe_lst (pa_cons pe_int (pa_cons (pe_len T.b_len (pe_fld (pv 0) rfl)) pa_nil))) (pe_callTy call_list_of (by rfl) T.b_list (by decide +kernel) (pa_cons (pe_fld (pv 0) rfl) pa_nil))))) pss_nil)
    (pss_cons (ps_expr (pe_bm PySem.F.plainAttrs_list PySem.F.slot_list_append PySem.F.type_list_append mt_append (pv 1) (pa_cons (pe_len T.b_len (pe_fld (pv 0) rfl)) pa_nil)))
    (pss_cons (ps_for PassesOwn.never rfl (pi_tup (pe_fld (pv 0) rfl)) (pg_name (i := 2) scToldNode.nd rfl (.inl rfl))
      (pss_one (ps_expr (pe_bm PySem.F.plainAttrs_list PySem.F.slot_list_extend PySem.F.type_list_extend mt_extendT (pv 1) (pa_cons (pv 2) pa_nil)))))
    (pss_one (ps_ret (pv 1)))))), ?_⟩)
  · obtain ⟨o, n, rfl, _⟩ := h
    rfl
  obtain ⟨o, n, rfl, hN, hS, k⟩ := h
  obtain ⟨dx, u, wa, h1, h2, ws, h3, h4⟩ := hN
  refine q_asgL (el_lst (ea_cons ev_c ea_nil) (by decide)) fun l0 H1 hl0 e1 hl1 => ?_
  obtain ⟨head, hhead⟩ : ∃ head : List Nat, head = (match n.out with | some v => 1 :: v.length :: v | none => [0]) := ⟨_, rfl⟩
  refine q_cut (M := fun σ' H' => ∃ l G, σ' = [some (.ref o), some (.ref l), none] ∧ H l = none ∧ G l = none ∧ Ex H G ∧ H' = upd G l (.lst (nv head))) ?_ ?_
  · refine s_when (b := n.out.isSome) (et_is (et_test (ev_op (ev_fld (ev_var rfl) (e1 _ _ h1) T.cNode.cl T.nNode_digits (v := u) (by rfl)) ev_c rv_notN)) ?_) (fun hs H2 e2 => ?_) (fun hs H2 e2 => ?_)
    · cases hout : n.out with
      | none =>
        rw [hout] at h2
        have : u = .non := h2
        rw [this]
        rfl
      | some dd =>
        rw [hout] at h2
        obtain ⟨da, rfl, _⟩ := h2
        rfl
    · cases hout : n.out with
      | none => rw [hout] at hs; cases hs
      | some dd =>
        rw [hout] at h2 hhead
        obtain ⟨da, rfl, hd⟩ := h2
        have e12 := e1.trans e2
        have hfd : ∀ H', Ex H H' → Ev (tFld K (tVar 0) "digits") [some (.ref o), some (.ref l0), none] H' (.ref da) := fun H' e => ev_fld (ev_var rfl) (e _ _ h1) T.cNode.cl T.nNode_digits (by rfl)
        have h9 := hS.1 dd hout
        refine s_asgL (xs := nv head) ?_ fun l H3 hl e3 h3' => ?_
        · rw [hhead]
          have := el_catL (σ := [some (.ref o), some (.ref l0), none]) (H := H2) (xs := [.int 1, .int ((dd.length : Nat) : Int)]) (ys := nv dd) (el_lst (ea_cons ev_c (ea_cons (ev_is (ev_lenT (hfd _ e12) (ex_t e12 hd)) (by rw [nv_len])) ea_nil)) (by show 2 ≤ 100000; decide)) (el_listT (hfd _ e12) (ex_t e12 hd)) (by rw [nv_len]; show 2 + _ ≤ _; omega)
          exact this
        · obtain ⟨G, g1, g2, rfl⟩ := ex_split0 hl e3 h3'
          exact ⟨l, G, rfl, fresh_back e12 hl, g1, e12.trans g2, rfl⟩
    · cases hout : n.out with
      | some dd => rw [hout] at hs; cases hs
      | none =>
        rw [hout] at hhead
        obtain ⟨G, g1, g2, rfl⟩ := ex_split0 hl0 (e1.trans e2) (e2 _ _ hl1)
        refine ⟨l0, G, rfl, hl0, g1, g2, ?_⟩
        rw [hhead]
        rfl
  rintro σ' H' ⟨l, G, rfl, hlH, hlG, eG, rfl⟩
  have hhl : head.length ≤ 11 := by
    rw [hhead]
    cases hout : n.out with
    | none => simp
    | some dd =>
      have := hS.1 dd hout
      simp
      omega
  have eU := eG.trans (ex_upd (o := .lst (nv head)) hlG)
  refine q_app upd_same (ev_var rfl) (ev_is (ev_lenT (ev_fld (ev_var rfl) (eU _ _ h1) T.cNode.cl T.nNode_ways (v := .ref wa) (by rfl)) (ex_t eU h3)) (by rw [h4.1])) (by rw [nv_len]; omega) fun H2 e2 => ?_
  obtain ⟨G2, g2, eG2, rfl⟩ := ex_split hlG e2
  rw [upd_upd]
  have eH2 := eG.trans eG2
  have eU2 := eH2.trans (ex_upd (o := .lst (nv head ++ [.int ((n.kids.length : Nat) : Int)])) g2)
  refine q_forTn (K := K) (a := wa) (xs := ws) (ev_fld (ev_var rfl) (eU2 _ _ h1) T.cNode.cl T.nNode_ways (v := .ref wa) (by rfl)) (ex_t eU2 h3) (fun i σ' H' => ∃ (G : Hp) (u : Option V), σ' = [some (.ref o), some (.ref l), u] ∧ G l = none ∧ Ex H G ∧ H' = upd G l (.lst (nv (head ++ (n.kids.length :: (n.kids.take i).flatMap fun x => [x.1, x.2])))))
    (fun H3 e3 => ?_) (fun i σ' H' _ pp => ?_) ?_ ?_
  · obtain ⟨G3, g3, eG3, rfl⟩ := ex_split g2 e3
    refine ⟨G3, none, rfl, g3, eH2.trans eG3, ?_⟩
    rw [nv_app]
    rfl
  · obtain ⟨G, u, rfl, g, e, rfl⟩ := pp
    exact ex_t (e.trans (ex_upd g)) h3
  · rintro i x σ' H' hi ⟨G, u, rfl, g, e, rfl⟩
    obtain ⟨kx, p, hk, rfl, hp⟩ := h4.at hi
    refine s_extT (l := l) (b := p) (zs := nv [kx.1, kx.2]) upd_same (ev_var rfl) (ev_var rfl) (ex_t (e.trans (ex_upd g)) hp) ?_ fun H3 e3 => ?_
    · have h2 : ∀ m : List (Nat × Nat), (m.flatMap fun x => [x.1, x.2]).length = 2 * m.length := by
        intro m
        induction m with
        | nil => rfl
        | cons a m ih => rw [List.flatMap_cons, List.length_append, ih]; simp; omega
      rw [nv_len, nv_len, List.length_append, List.length_cons, h2]
      have h5 := hS.2
      have h6 := List.length_take_le i n.kids
      have h7 : (n.kids.take i).length ≤ n.kids.length := List.length_take_le' ..
      show _ + 2 ≤ 100000
      omega
    · obtain ⟨G3, g3, eG3, rfl⟩ := ex_split g e3
      refine ⟨G3, _, rfl, g3, e.trans eG3, ?_⟩
      rw [upd_upd, List.take_add_one, hk, ← nv_app]
      simp
  · rintro σ' H' ⟨G, u, rfl, g, e, rfl⟩
    rw [h4.1, List.take_length] at *
    refine s_ret (ev_var rfl) fun H3 e3 => k l H3 hlH ((e.trans (ex_upd g)).trans e3) ?_
    have := e3 _ _ (upd_same (H := G) (a := l) (o := .lst (nv (head ++ (n.kids.length :: n.kids.flatMap fun x => [x.1, x.2])))))
    rw [this, hhead]
    unfold Vahypd.nodeRow
    cases n.out <;> rfl
theorem el_told {T : Tx K mg} {o : Addr} {n : Node} {E : XK} (hN : NodeAt T H o n) (hS : SmallN n) (h : Ev ta σ H (.ref o)) : EvL (tCall (spToldNode T) [] E (tCons ta tNil)) σ H (nv (Vahypd.nodeRow n)) := fun H1 e Q q =>
  t_fn (ea_cons (h.mono e) ea_nil) fun H2 e2 => ⟨o, n, rfl, hN.mono (e.trans e2), hS, fun p H3 hp e3 h3 => q p H3 (fresh_back e2 hp) (e2.trans e3) h3⟩
def spToldTable (T : Tx K mg) : Sp := fun vs H Q _ => ∃ (t : Addr) (tk : Table × Nat), vs = [.ref t] ∧ TabAt T H t tk ∧ tk.1.length ≤ 1000 ∧ (∀ n ∈ tk.1, SmallN n) ∧ RetL (nv (Vahypd.tableRow tk)) H Q
theorem rows_len {ns : List Node} (h : ∀ n ∈ ns, SmallN n) : (ns.flatMap Vahypd.nodeRow).length ≤ 92 * ns.length := by
  induction ns with
  | nil => simp
  | cons a l ih =>
    rw [List.flatMap_cons, List.length_append, List.length_cons]
    have h1 := row_len (h a (List.mem_cons_self ..))
    have h2 := ih fun n hn => h n (List.mem_cons_of_mem _ hn)
    omega
theorem ok_told_table (T : Tx K mg) : FnOk P w K mg base CX0 2 T.told_table.f T.told_table.fd ["table"] (spToldTable T) := by
  have GN : FnOk P w K mg base CX0 1 _ _ _ _ := ok_told_node T
  refine T.told_table.F.ok scToldTable (fun vs H Q E h => ?_) (fun cdv A outer s H vs Q E hr h => ⟨_,
    pss_cons (ps_set (i := 1) scToldTable.nd rfl (.inl rfl) (pe_lst (pa_cons (pe_len T.b_len (pe_fld (pv 0) rfl)) pa_nil)))
    (pss_cons (ps_for PassesOwn.never rfl (pi_list (pe_fld (pv 0) rfl)) (pg_name (i := 2) scToldTable.nd rfl (.inl rfl))
      (pss_one (ps_expr (pe_bm PySem.F.plainAttrs_list PySem.F.slot_list_extend PySem.F.type_list_extend mt_extend (pv 1) (pa_cons (pe_fn T.told_node GN hr (bdToldNode T.told_node.F) pass0 (pa_cons (pv 2) pa_nil)) pa_nil)))))
    (pss_cons (ps_expr (pe_bm PySem.F.plainAttrs_list PySem.F.slot_list_append PySem.F.type_list_append mt_append (pv 1) (pa_cons (pe_fld (pv 0) rfl) pa_nil)))
    (pss_one (ps_ret (pv 1))))), ?_⟩)
  · obtain ⟨t, tk, rfl, _⟩ := h
    rfl
  obtain ⟨t, tk, rfl, ⟨dt, nl, refs, h1, h2, h3⟩, hz, hS, k⟩ := h
  refine q_asgL (el_lst (vs := [.int ((tk.1.length : Nat) : Int)]) (ea_cons (ev_is (ev_len (ev_nodes rfl h1) h2) (by rw [h3.1])) ea_nil) (by show 1 ≤ 100000; decide)) fun l H1 hl e1 hl1 => ?_
  obtain ⟨G1, g1, eG1, rfl⟩ := ex_split0 hl e1 hl1
  have eU := eG1.trans (ex_upd (o := .lst (nv [tk.1.length])) g1)
  have key : ∀ ns : List Node, (∃ q, ns = tk.1.take q) → (tk.1.length :: ns.flatMap Vahypd.nodeRow).length ≤ 92001 := fun ns ⟨q, hq⟩ => by
    have h1 := rows_len (ns := ns) fun n hn => hS n (by rw [hq] at hn; exact List.mem_of_mem_take hn)
    have h2 : ns.length ≤ tk.1.length := by rw [hq, List.length_take]; omega
    rw [List.length_cons]
    omega
  refine q_forLn (K := K) (a := nl) (xs := refs) (ev_nodes rfl (eU _ _ h1)) (ex_l eU h2) (fun i σ' H' => ∃ (G : Hp) (u : Option V), σ' = [some (.ref t), some (.ref l), u] ∧ G l = none ∧ Ex H G ∧ H' = upd G l (.lst (nv (tk.1.length :: (tk.1.take i).flatMap Vahypd.nodeRow))))
    (fun H3 e3 => ?_) (fun i σ' H' _ pp => ?_) ?_ ?_
  · obtain ⟨G3, g3, eG3, rfl⟩ := ex_split g1 e3
    exact ⟨G3, none, rfl, g3, eG1.trans eG3, rfl⟩
  · obtain ⟨G, u, rfl, g, e, rfl⟩ := pp
    exact ex_l (e.trans (ex_upd g)) h2
  · rintro i x σ' H' hi ⟨G, u, rfl, g, e, rfl⟩
    obtain ⟨n, o, hn, rfl, ho⟩ := h3.at hi
    have hmem := List.mem_of_getElem? hn
    refine s_extL (l := l) (zs := nv (Vahypd.nodeRow n)) upd_same (ev_var rfl) (el_told (ho.mono (e.trans (ex_upd g))) (hS n hmem) (ev_var rfl)) ?_ fun H3 e3 => ?_
    · have h5 := key (tk.1.take i) ⟨i, rfl⟩
      have h6 := row_len (hS n hmem)
      rw [nv_len, nv_len]
      omega
    · obtain ⟨G3, g3, eG3, rfl⟩ := ex_split g e3
      refine ⟨G3, _, rfl, g3, e.trans eG3, ?_⟩
      rw [upd_upd, List.take_add_one, hn, ← nv_app]
      simp
  · rintro σ' H' ⟨G, u, rfl, g, e, rfl⟩
    rw [h3.1, List.take_length]
    have eU := e.trans (ex_upd (o := .lst (nv (tk.1.length :: tk.1.flatMap Vahypd.nodeRow))) g)
    have h5 := key tk.1 ⟨tk.1.length, by rw [List.take_length]⟩
    refine q_app upd_same (ev_var rfl) (ev_fld (ev_var rfl) (eU _ _ h1) T.cTable.cl T.nTable_first (v := .int (tk.2 : Int)) (by rfl)) (by rw [nv_len]; omega) fun H2 e2 => ?_
    obtain ⟨G2, g2, eG2, rfl⟩ := ex_split g e2
    rw [upd_upd]
    refine s_ret (ev_var rfl) fun H3 e3 => k l H3 hl ((e.trans eG2).trans ((ex_upd g2).trans e3)) ?_
    have := e3 _ _ upd_same
    rw [this]
    show some (HO.lst (nv (tk.1.length :: tk.1.flatMap Vahypd.nodeRow) ++ nv [tk.2])) = some (HO.lst (nv (tk.1.length :: (tk.1.flatMap Vahypd.nodeRow ++ [tk.2]))))
    rw [← nv_app, List.cons_append]
end
end Pt
set_option Elab.async false
set_option linter.all false
set_option maxRecDepth 100000
set_option maxHeartbeats 4000000
/-! ## enumerate(t), t a tuple -/
namespace PySem
open Sem (wp)
theorem meets_enum1 {v : Value} {o : Obj} {H : Heap → Prop} (B : Begins v o H) :
    Meets (Builtin.«enumerate.__new__» ⟨[.type "enumerate", v], []⟩) (fun _ R s => H s.heap ∧
      R (.ok (.ret (.ref (s.heap.push o).objs.size))) { s with heap := (s.heap.push o).push { cls := .type "enumerate", data := .fields #[.none, .bool false, .ref s.heap.objs.size, rawInt 0, .none, .none] } }) :=
  .of_wp fun prog w A R s h => by
    obtain ⟨hp, g, d, tk, os⟩ := s
    obtain ⟨h1, h⟩ := h
    have hsub := sub_enumerate
    have q1 : ∀ {A' : Around} {E : Value → Shared → Prop} {Q : Value → Shared → Prop}, Q (.ref hp.objs.size) ⟨hp.push o, g, d, tk, os⟩ → wpAny (model prog w) A' (pyIter v) Q E ⟨hp, g, d, tk, os⟩ :=
      fun q => B.iter prog w _ _ ⟨hp, g, d, tk, os⟩ _ h1 q
    wp_walk using q1
    refine wpAny_stack_any fun st => wpAny_pure ?_
    split
    · rename_i c _ _ _ _ _
      cases (c == Value.type "enumerate")
      · wp_walk using q1
        exact ⟨_, rfl, h⟩
      · wp_walk using q1
        exact ⟨_, rfl, h⟩
    · wp_walk using q1
      exact ⟨_, rfl, h⟩
section
variable {prog : Program} {w : World} {A : Around} {E : Value → Shared → Prop} {s : Shared}
theorem call_enum1 {v : Value} {o : Obj} {H : Heap → Prop} {Q : Value → Shared → Prop} (B : Begins v o H) (h1 : H s.heap)
    (h : ∀ h', IsEnum h' (s.heap.objs.size + 1) s.heap.objs.size 0 .none → h'.get? s.heap.objs.size = some o → h'.objs.size = s.heap.objs.size + 2 →
      (∀ b o, s.heap.get? b = some o → h'.get? b = some o) → Q (.ref (s.heap.objs.size + 1)) { s with heap := h' }) :
    wpAny (model prog w) A (call (.type "enumerate") [v]) Q E s := by
  refine callType_new F.called_enumerate (by decide) (F.typeCall_enumerate_1 _) (F.newCall_enumerate_1 _) (fun obj => F.args_object_init_2 obj _) F.entry_enumerate_new (meets_enum1 B) ⟨h1, ?_⟩
  have hz : (s.heap.push o).objs.size = s.heap.objs.size + 1 := Heap.size_push ..
  show _ ∧ _
  rw [hz]
  have he : IsEnum ((s.heap.push o).push { cls := .type "enumerate", data := .fields #[.none, .bool false, .ref s.heap.objs.size, rawInt 0, .none, .none] }) (s.heap.objs.size + 1) s.heap.objs.size 0 .none := by
    have := Heap.get?_push_size (s.heap.push o) (o := { cls := .type "enumerate", data := .fields #[.none, .bool false, .ref s.heap.objs.size, rawInt 0, .none, .none] }) rfl
    rw [hz] at this
    exact this
  exact ⟨⟨_, he, rfl⟩, h _ he (Heap.get?_push_of_some _ (Heap.get?_push_size _ B.free)) (by rw [Heap.size_push, hz]) fun b o x => Heap.get?_push_of_some _ (Heap.get?_push_of_some _ x)⟩
end
end PySem
namespace L2
open PySem PySem.Spec PyProof.Rows
/-- the tuple at a, each item in a new pair -/
def IteT (K : PySem.W.Frag) (a : Addr) : It :=
  ⟨fun i H => ∃ (xs : List V) (x : V), SqT K H a xs ∧ xs[i]? = some x, fun i H v H' => ∃ T x, v = .ref T ∧ H T = none ∧ H' = upd H T (.tup [.int (i : Nat), x]) ∧ ∀ xs, SqT K H a xs → xs[i]? = some x, fun i H => ∃ xs : List V, SqT K H a xs ∧ xs.length = i⟩
theorem turn_enumT {P : Program} {w : World} {K : PySem.W.Frag} {elts : List Expr} {kk : Nat} {tpos : Pos} (a e it : Addr) :
    Turn P w K (.Tuple elts kk tpos) (IteT K a) [e, it] e (fun i h => (∃ old, IsEnum h e it ((i : Nat) : Int) old) ∧ h.IsTupleIter it a i ∧ e ≠ it ∧ a ≠ it ∧ e ≠ a) where
  mem := by simp
  obj := fun i h st b hb => by
    obtain ⟨⟨old, he⟩, ⟨o, ho, hc, hd⟩, _⟩ := st
    have e' : b = e ∨ b = it := by simpa using hb
    rcases e' with z | z
    · rw [z]; exact ⟨_, he, fun v q => nomatch q⟩
    · rw [z]; exact ⟨o, ho, fun v q => by rw [hd] at q; cases q⟩
  keep := fun i h h' st k => let ⟨⟨old, he⟩, hi, hne⟩ := st; ⟨⟨old, k e (by simp) _ he⟩, hi.at fun o q => k it (by simp) o q, hne⟩
  item := by
    intro X hP hw hK hc i pins s σ H E I hf st hg
    subst hP hw hK
    obtain ⟨⟨old, he⟩, hit, hne, hai, hea⟩ := st
    obtain ⟨xs, x, hq, hx⟩ := hg
    obtain ⟨its, rv, p, hz⟩ := I.tuple hq
    obtain ⟨u, hu, ru⟩ := rv.get hx
    have hel : e < s.heap.objs.size := Heap.lt_size he
    have hil : it < s.heap.objs.size := by obtain ⟨_, q, _⟩ := hit; exact Heap.lt_size q
    have hlt : i < its.toArray.size := by rw [List.size_toArray]; exact (List.getElem?_eq_some_iff.mp hu).1
    refine wpAny_pyNext_enum_itemD (Draws.tuple (A := X.A.in1) (by simp [I.ok.hd hc]) it a hai its.toArray) he ⟨hit, p⟩ hlt hne (by simp [hne, hea]) fun x' h' tk hP ho hit' hT hsz hk => ?_
    have hxu : x' = u := by
      have hP : its.toArray[i]? = some x' := hP
      have h2 : its.toArray[i]? = some u := by simpa using hu
      rw [h2] at hP
      exact (Option.some.inj hP).symm
    subst hxu
    refine ⟨_, rfl, wpAny_letOwnedTupleGo_enum (s := { s with heap := h', toks := tk + 1 }) ho fun h'' he' sb => ?_⟩
    have hT2 : h''.get? s.heap.objs.size = some { cls := .type "tuple", data := .seq #[.int i tk, x'] } := (sb.2 _ (Nat.ne_of_gt hel)).trans hT
    have new : ObjOk X.prog X.w (upd H s.heap.objs.size (.tup [.int (i : Nat), x])) h'' s.heap.objs.size (.tup [.int (i : Nat), x]) :=
      ⟨by show 2 ≤ sizeLine; decide, [.int i tk, x'], .cons ⟨_, rfl⟩ (.cons ru .nil), ⟨_, hT2, rfl, _, rfl⟩⟩
    have I1 : Inv X pins σ (upd H s.heap.objs.size (.tup [.int (i : Nat), x])) { s with heap := h'', toks := tk + 1 } :=
      I.turnedNew (ch := [e, it]) (fun b ob hb q => (sb.2 b (fun z => hb (by simp [z]))).trans (hk b ob (fun z => hb (by simp [z])) (fun z => hb (by simp [z])) q)) hf (Nat.le_refl _) new
    refine ⟨.ref s.heap.objs.size, _, I1, rfl, ⟨_, x, rfl, I.hok.fresh (Nat.le_refl _), rfl, fun ys hy => by rw [I.tuple_inj hy hq]; exact hx⟩, ⟨⟨x', ?_⟩, hit'.1.at fun o q => (sb.2 it (Ne.symm hne)).trans q, hne, hai, hea⟩, fun b hb => ?_⟩
    · have e1 : ((i + 1 : Nat) : Int) = (i : Int) + 1 := by omega
      rw [e1]; exact he'
    · have hb' : b < s.heap.objs.size := by
        have e' : b = e ∨ b = it := by simpa using hb
        rcases e' with z | z
        · rw [z]; exact hel
        · rw [z]; exact hil
      rw [upd_ne (Nat.ne_of_lt hb')]
      exact (hf b hb).1
  done := by
    intro X hP hw hK hc i pins s σ H E I hf st hg
    subst hP hw hK
    obtain ⟨⟨old, he⟩, hit, hne, hai, hea⟩ := st
    obtain ⟨xs, hq, hx⟩ := hg
    obtain ⟨its, rv, p, hz⟩ := I.tuple hq
    obtain ⟨f0, f1, f2, f3, f4, f5⟩ := hf it (by simp)
    have hl := rv.length
    have hsz : its.toArray.size = i := by rw [List.size_toArray]; omega
    refine wpAny_pyNext_enum_endD (Draws.tuple (A := X.A.in1) (by simp [I.ok.hd hc]) it a hai its.toArray) he ⟨by rw [hsz]; exact hit, p⟩ fun h' eb => ⟨rfl, I.turned (t' := s.toks) (fun b o hb q => eb b o hb q) f0 f1 f3 f4 f5⟩
  self := fun A i s Q E st h => let ⟨⟨_, he⟩, _⟩ := st; wpAny_pyIter_enum he h
def iEnumT (K : PySem.W.Frag) (ta : TA) : TI := fun σ H R => ta σ H fun vs H1 => ∃ a xs, vs = [.ref a] ∧ SqT K H1 a xs ∧ R (IteT K a) H1
theorem pi_enumT {X : Cx} {e : Expr} {ta : TA} {p pos tpos : Pos} {elts : List Expr} {kk : Nat} (hg : Gl X "enumerate") (hm : X.mg "enumerate" = none) (ha : PA X [e] ta) (hs : starEach [e] X.env = [(false, eval e X.env)] := by rfl) :
    PI X (.Tuple elts kk tpos) (.Call (.Name "enumerate" p) [e] [] pos) (iEnumT X.K ta) := by
  refine ⟨fun pins s σ H R I h => ?_⟩
  refine Call_ (ld_blt I hg hm boot_enumerate (PyProof.Rows.callWith_type1 (thn (ha.run pos pins s σ H _ I h) fun us s1 ⟨vs, H1, I1, r1, q1⟩ => ?_) hs rfl))
  obtain ⟨a, xs, ex, hq, q⟩ := q1
  subst ex
  cases r1 with
  | cons r rr =>
    cases rr
    cases r
    obtain ⟨its, rv, p', hz⟩ := I1.tuple hq
    have hal : a < s1.heap.objs.size := by obtain ⟨_, q, _⟩ := p'; exact Heap.lt_size q
    refine call_enum1 (begins_tuple a its.toArray) p' fun h' he hit hsz hk => wpAny_pyIter_enum he ?_
    have I2 : Inv X pins σ H1 { s1 with heap := h' } := I1.kept (t' := s1.toks) hk
    refine ⟨s1.heap.objs.size + 1, [s1.heap.objs.size + 1, s1.heap.objs.size], _, _, H1, rfl, I2, turn_enumT a (s1.heap.objs.size + 1) s1.heap.objs.size, ⟨⟨.none, he⟩, ⟨_, hit, rfl, rfl⟩, Nat.succ_ne_self _, Nat.ne_of_lt hal, Nat.ne_of_gt (Nat.lt_succ_of_lt hal)⟩, fun b hb => ?_, q⟩
    have e' : b = s1.heap.objs.size + 1 ∨ b = s1.heap.objs.size := by simpa using hb
    have hle : s1.heap.objs.size ≤ b := by
      rcases e' with z | z
      · rw [z]; exact Nat.le_add_right _ _
      · rw [z]; exact Nat.le_refl _
    exact I1.fpOk hle (I1.hok.fresh hle)
theorem walk_enumT {K : PySem.W.Frag} {a : Addr} {xs : List V} : Walk (IteT K a) xs.length (fun H => SqT K H a xs) (YPair (fun i => some (.int (i : Nat))) (fun i => xs[i]?)) := by
  refine ⟨fun i _ hi q => ⟨xs, xs[i], q, by simp [hi]⟩, fun _ q => ⟨xs, q, rfl⟩, fun i H v H' _ q y => ?_⟩
  obtain ⟨T, x, h1, h2, h3, h4⟩ := y
  exact ⟨T, .int (i : Nat), x, h1, h2, h3, rfl, h4 xs q⟩
end L2
set_option Elab.async false
set_option linter.all false
set_option maxRecDepth 100000
/-! ## what a built table's nodes stand for; ways gone -/
namespace Mx
open Vahypd (Entry Node Table into firstSigns behind endsHere put build plainBy kidAt nodeAt walk look over signed)
theorem put_at {t : Table} {n : Node} : (put t n).1[(put t n).2]? = some n ∧ ∃ u, (put t n).1 = t ++ u := by
  unfold put
  cases h : t.findIdx? (fun m => m == n) with
  | some k =>
    obtain ⟨hk, he, _⟩ := List.findIdx?_eq_some_iff_getElem.mp h
    refine ⟨?_, [], by simp⟩
    dsimp only
    rw [List.getElem?_eq_getElem hk, beq_iff_eq.mp he]
  | none => exact ⟨by simp, [n], rfl⟩
/-- node k stands for these entries -/
def Rp (t : Table) : Nat → Nat → List Entry → Prop
  | 0, k, es => ∃ n, t[k]? = some n ∧ n.out = endsHere es ∧ n.kids = []
  | f + 1, k, es => ∃ n, t[k]? = some n ∧ n.out = endsHere es ∧ ∀ x ∈ n.kids, Rp t f x.2 (behind es x.1)
theorem Rp.app {t u : Table} : ∀ {f k : Nat} {es : List Entry}, Rp t f k es → Rp (t ++ u) f k es
  | 0, k, es, ⟨n, h1, h2, h3⟩ => ⟨n, by rw [List.getElem?_append_left (List.getElem?_eq_some_iff.mp h1).1]; exact h1, h2, h3⟩
  | f + 1, k, es, ⟨n, h1, h2, h3⟩ => ⟨n, by rw [List.getElem?_append_left (List.getElem?_eq_some_iff.mp h1).1]; exact h1, h2, fun x hx => Rp.app (h3 x hx)⟩
theorem steps_rp {f : Nat} {es : List Entry} (h : ∀ (s : Nat) (t : Table), Rp (build f (behind es s) t).1 f (build f (behind es s) t).2 (behind es s) ∧ ∃ u, (build f (behind es s) t).1 = t ++ u) :
    ∀ (ss : List Nat) (x : Table × List (Nat × Nat)), (∀ p ∈ x.2, Rp x.1 f p.2 (behind es p.1)) →
      (∀ p ∈ (ss.foldl (bstep (build f) es) x).2, Rp (ss.foldl (bstep (build f) es) x).1 f p.2 (behind es p.1)) ∧ ∃ u, (ss.foldl (bstep (build f) es) x).1 = x.1 ++ u
  | [], x, hx => ⟨hx, [], by simp⟩
  | s :: ss, x, hx => by
    rw [List.foldl_cons]
    obtain ⟨h1, u, h2⟩ := h s x.1
    have hx' : ∀ p ∈ (bstep (build f) es x s).2, Rp (bstep (build f) es x s).1 f p.2 (behind es p.1) := fun p hp => by
      have e1 : (bstep (build f) es x s).1 = (build f (behind es s) x.1).1 := rfl
      rcases List.mem_append.mp (show p ∈ x.2 ++ [(s, (build f (behind es s) x.1).2)] from hp) with q | q
      · rw [e1, h2]
        exact (hx p q).app
      · rw [List.mem_singleton.mp q, e1]
        exact h1
    obtain ⟨g1, v, g2⟩ := steps_rp h ss _ hx'
    refine ⟨g1, u ++ v, ?_⟩
    rw [g2]
    show (build f (behind es s) x.1).1 ++ v = _
    rw [h2, List.append_assoc]
theorem build_rp : ∀ (f : Nat) (es : List Entry) (t : Table), Rp (build f es t).1 f (build f es t).2 es ∧ ∃ u, (build f es t).1 = t ++ u
  | 0, es, t => ⟨⟨_, put_at.1, rfl, rfl⟩, put_at.2⟩
  | f + 1, es, t => by
    rw [build_succ]
    unfold bnode
    obtain ⟨h1, u, h2⟩ := steps_rp (fun s t => build_rp f (behind es s) t) (firstSigns es) (t, []) (fun p hp => by cases hp)
    obtain ⟨g1, v, g2⟩ := put_at (t := ((firstSigns es).foldl (bstep (build f) es) (t, [])).1) (n := ⟨endsHere es, ((firstSigns es).foldl (bstep (build f) es) (t, [])).2⟩)
    refine ⟨⟨_, g1, rfl, fun x hx => ?_⟩, u ++ v, ?_⟩
    · rw [g2]
      exact (h1 x hx).app
    · rw [g2, h2, List.append_assoc]
/-! ### nodes are small -/
def SmallNode (a b : Nat) (n : Node) : Prop := (∀ v, n.out = some v → v.length ≤ a) ∧ n.kids.length ≤ b
theorem ends_in {es : List Entry} {v : List Nat} (h : endsHere es = some v) : ∃ e ∈ es, e.1 = [] ∧ e.2 = v := by
  unfold endsHere at h
  cases hf : es.find? (fun e => e.1.isEmpty) with
  | none => rw [hf] at h; cases h
  | some e =>
    rw [hf] at h
    exact ⟨e, List.mem_of_find?_eq_some hf, List.isEmpty_iff.mp (List.find?_some (p := fun e : Entry => e.1.isEmpty) hf), Option.some.inj h⟩
theorem put_mem {t : Table} {n m : Node} (h : m ∈ (put t n).1) : m ∈ t ∨ m = n := by
  unfold put at h
  cases hf : t.findIdx? (fun m => m == n) with
  | some k => rw [hf] at h; exact .inl h
  | none =>
    rw [hf] at h
    rcases List.mem_append.mp h with q | q
    · exact .inl q
    · exact .inr (List.mem_singleton.mp q)
theorem steps_kids (bf : List Entry → Table → Table × Nat) (es : List Entry) : ∀ (ss : List Nat) (x : Table × List (Nat × Nat)), (ss.foldl (bstep bf es) x).2.length = x.2.length + ss.length
  | [], x => rfl
  | s :: ss, x => by
    rw [List.foldl_cons, steps_kids bf es ss]
    show (x.2 ++ [_]).length + ss.length = _
    rw [List.length_append]
    simp
    omega
theorem build_small {a b : Nat} : ∀ (f : Nat) (es : List Entry) (t : Table), (∀ e ∈ es, e.2.length ≤ a) → es.length ≤ b → (∀ n ∈ t, SmallNode a b n) → ∀ n ∈ (build f es t).1, SmallNode a b n
  | 0, es, t, h1, h2, h3, n, hn => by
    rcases put_mem hn with q | q
    · exact h3 n q
    · rw [q]
      refine ⟨fun v hv => ?_, Nat.zero_le _⟩
      obtain ⟨e, he, _, rfl⟩ := ends_in hv
      exact h1 e he
  | f + 1, es, t, h1, h2, h3, n, hn => by
    rw [build_succ] at hn
    unfold bnode at hn
    have hs : ∀ (ss : List Nat) (x : Table × List (Nat × Nat)), (∀ n ∈ x.1, SmallNode a b n) → ∀ n ∈ (ss.foldl (bstep (build f) es) x).1, SmallNode a b n := by
      intro ss
      induction ss with
      | nil => intro x hx; exact hx
      | cons s ss ih =>
        intro x hx
        rw [List.foldl_cons]
        exact ih _ (build_small f (behind es s) x.1 (behind_dig (P := fun v => v.length ≤ a) h1) (Nat.le_trans behind_len h2) hx)
    rcases put_mem hn with q | q
    · exact hs _ _ h3 n q
    · rw [q]
      refine ⟨fun v hv => ?_, ?_⟩
      · obtain ⟨e, he, _, rfl⟩ := ends_in hv
        exact h1 e he
      · show ((firstSigns es).foldl (bstep (build f) es) (t, [])).2.length ≤ b
        rw [steps_kids]
        show 0 + _ ≤ b
        have := firsts_len (es := es)
        omega
/-! ### ways gone -/
/-- one way, the first node's own digits left out -/
def goOn (t : Table) (g : Nat) : Nat → List Nat → List Nat × Nat → List Nat × Nat
  | _, [], r => r
  | k, s :: l, r => match kidAt t k s with
    | none => (r.1, r.2 + 1)
    | some j => goOn t g j l (match (nodeAt t j).out with
      | some v => over r.1 g v
      | none => r.1, r.2 + 1)
def outs1 (t : Table) (k : Nat) : List (List Nat) := match (nodeAt t k).out with
  | some v => [v]
  | none => []
theorem walk_nil (t : Table) (k : Nat) : walk t k [] = (outs1 t k, 0) := by
  unfold walk outs1
  cases (nodeAt t k).out <;> rfl
theorem walk_cons (t : Table) (k s : Nat) (r : List Nat) : walk t k (s :: r) = match kidAt t k s with
    | none => (outs1 t k, 1)
    | some j => (outs1 t k ++ (walk t j r).1, (walk t j r).2 + 1) := by
  conv => lhs; unfold walk
  unfold outs1
  cases (nodeAt t k).out <;> rfl
theorem goOn_walk (t : Table) (g : Nat) : ∀ (l : List Nat) (k : Nat) (ls : List Nat) (c : Nat),
    goOn t g k l ((outs1 t k).foldl (fun l v => over l g v) ls, c) = ((walk t k l).1.foldl (fun l v => over l g v) ls, c + (walk t k l).2)
  | [], k, ls, c => by
    rw [walk_nil]
    rfl
  | s :: l, k, ls, c => by
    rw [walk_cons]
    unfold goOn
    cases hk : kidAt t k s with
    | none => rfl
    | some j =>
      have ih := goOn_walk t g l j ((outs1 t k).foldl (fun l v => over l g v) ls) (c + 1)
      have e : (outs1 t j).foldl (fun l v => over l g v) ((outs1 t k).foldl (fun l v => over l g v) ls) = (match (nodeAt t j).out with
        | some v => over ((outs1 t k).foldl (fun l v => over l g v) ls) g v
        | none => (outs1 t k).foldl (fun l v => over l g v) ls) := by
        unfold outs1
        cases (nodeAt t j).out <;> rfl
      rw [e] at ih
      dsimp only
      rw [ih, List.foldl_append, Nat.add_assoc, Nat.add_comm 1]
theorem over_len (ls : List Nat) (g : Nat) (v : List Nat) : (over ls g v).length = ls.length := by
  unfold over
  rw [List.length_map, List.length_zipIdx]
theorem over_at {ls : List Nat} {g i : Nat} {v : List Nat} {a : Nat} (h : ls[i]? = some a) : (over ls g v)[i]? = some (if g ≤ i then Nat.max a (v.getD (i - g) 0) else a) := by
  unfold over
  rw [List.getElem?_map, List.getElem?_zipIdx, h]
  simp
end Mx
set_option Elab.async false
set_option linter.all false
set_option maxRecDepth 100000
/-! ## digits put over levels, one by one -/
namespace Mx
open Vahypd (Entry Node Table firstSigns behind endsHere build kidAt nodeAt walk look over signed)
theorem over_nil (ls : List Nat) (g : Nat) : over ls g [] = ls := by
  refine List.ext_getElem? fun i => ?_
  cases h : ls[i]? with
  | none =>
    have := List.getElem?_eq_none_iff.mp h
    exact List.getElem?_eq_none_iff.mpr (by rw [over_len]; exact this)
  | some a =>
    rw [over_at h]
    split <;> simp
theorem over_step {ls v : List Nat} {g k a d : Nat} (hv : v[k]? = some d) (hl : ls[g + k]? = some a) :
    (over ls g (v.take k))[g + k]? = some a ∧ over ls g (v.take (k + 1)) = (over ls g (v.take k)).set (g + k) (Nat.max a d) := by
  have hk : k < v.length := (List.getElem?_eq_some_iff.mp hv).1
  have h0 : ∀ i, k ≤ i → (v.take k).getD i 0 = 0 := fun i hi => by
    rw [List.getD_eq_getElem?_getD, List.getElem?_take, if_neg (by omega)]
    rfl
  have h1 : (over ls g (v.take k))[g + k]? = some a := by
    rw [over_at hl, if_pos (by omega), Nat.add_sub_cancel_left, h0 k (Nat.le_refl _)]
    congr 1
    exact Nat.max_zero a
  refine ⟨h1, List.ext_getElem? fun i => ?_⟩
  cases h : ls[i]? with
  | none =>
    have hi := List.getElem?_eq_none_iff.mp h
    rw [List.getElem?_eq_none_iff.mpr (by rw [over_len]; exact hi), List.getElem?_eq_none_iff.mpr (by rw [List.length_set, over_len]; exact hi)]
  | some b =>
    have hi := (List.getElem?_eq_some_iff.mp h).1
    rw [over_at h, List.getElem?_set]
    by_cases e : g + k = i
    · subst e
      rw [hl] at h
      have hab : a = b := Option.some.inj h
      subst hab
      have hi' : g + k < (over ls g (v.take k)).length := by rw [over_len]; exact hi
      rw [if_pos rfl, if_pos hi', if_pos (Nat.le_add_right g k), Nat.add_sub_cancel_left]
      congr 2
      rw [List.getD_eq_getElem?_getD, List.getElem?_take, if_pos (by omega), hv]
      rfl
    · rw [if_neg e, over_at h]
      congr 1
      by_cases hg : g ≤ i
      · rw [if_pos hg, if_pos hg]
        congr 1
        rw [List.getD_eq_getElem?_getD, List.getD_eq_getElem?_getD, List.getElem?_take, List.getElem?_take]
        by_cases hlt : i - g < k
        · rw [if_pos (by omega), if_pos hlt]
        · rw [if_neg (by omega), if_neg hlt]
      · rw [if_neg hg, if_neg hg]
/-- levels after one beginning -/
def lookAt (t : Vahypd.Table) (k : Nat) (z : List Nat) (r : List Nat × Nat) (s : Nat) : List Nat × Nat := let w := walk t k (z.drop s); (w.1.foldl (fun l v => over l (if s = 0 then 0 else s - 1) v) r.1, r.2 + w.2)
theorem look_eq (t : Vahypd.Table) (k : Nat) (x : VahypBase.Bytes) : look t k x = (List.range (signed x).length).foldl (lookAt t k (signed x)) (x.map (fun _ => 0) ++ [0], 0) := rfl
theorem lookAt_go {t : Vahypd.Table} {k s : Nat} {z : List Nat} {r : List Nat × Nat} (h : outs1 t k = []) : lookAt t k z r s = goOn t (s - 1) k (z.drop s) r := by
  have := goOn_walk t (s - 1) (z.drop s) k r.1 r.2
  rw [h] at this
  have h1 : (if s = 0 then 0 else s - 1) = s - 1 := by split <;> omega
  unfold lookAt
  rw [h1]
  exact this.symm
theorem rp_out {t : Vahypd.Table} {f k : Nat} {es : List Entry} (h : Rp t f k es) : (nodeAt t k).out = endsHere es := by
  cases f with
  | zero =>
    obtain ⟨n, h1, h2, _⟩ := h
    unfold nodeAt
    rw [h1]
    exact h2
  | succ f =>
    obtain ⟨n, h1, h2, _⟩ := h
    unfold nodeAt
    rw [h1]
    exact h2
theorem rp_at {t : Vahypd.Table} {f k : Nat} {es : List Entry} (h : Rp t f k es) : ∃ n, t[k]? = some n := by
  cases f with
  | zero => exact ⟨_, h.choose_spec.1⟩
  | succ f => exact ⟨_, h.choose_spec.1⟩
theorem rp_kid {t : Vahypd.Table} {f k s j : Nat} {es : List Entry} (h : Rp t f k es) (hk : kidAt t k s = some j) : ∃ f', Rp t f' j (behind es s) := by
  cases f with
  | zero =>
    obtain ⟨n, h1, h2, h3⟩ := h
    unfold kidAt nodeAt at hk
    rw [h1] at hk
    simp only [Option.getD_some, h3] at hk
    cases hk
  | succ f =>
    obtain ⟨n, h1, h2, h3⟩ := h
    unfold kidAt nodeAt at hk
    rw [h1] at hk
    simp only [Option.getD_some] at hk
    cases hf : n.kids.find? (fun x => x.1 == s) with
    | none => rw [hf] at hk; cases hk
    | some x =>
      rw [hf] at hk
      have e1 : x.1 = s := beq_iff_eq.mp (List.find?_some (p := fun x : Nat × Nat => x.1 == s) hf)
      have e2 : x.2 = j := Option.some.inj hk
      subst e1
      subst e2
      exact ⟨f, h3 x (List.mem_of_find?_eq_some hf)⟩
/-- letters among signs -/
def ltrs (l : List Nat) : Nat := (l.filter fun s => s != 0).length
/-- the entries' digits, c letters gone already -/
def Fit (c : Nat) (es : List Entry) : Prop := ∀ e ∈ es, e.2.length = c + ltrs e.1 + 1
theorem Fit.behind {c s : Nat} {es : List Entry} (h : Fit c es) : Fit (c + ltrs [s]) (behind es s) := fun e he => by
  unfold Vahypd.behind at he
  obtain ⟨x, hx, hh⟩ := List.mem_filterMap.mp he
  obtain ⟨l, d⟩ := x
  cases l with
  | nil => cases hh
  | cons z r =>
    dsimp only at hh
    split at hh
    · rename_i hz
      subst hz
      cases hh
      have := h _ hx
      show d.length = _
      have h2 : ltrs (z :: r) = ltrs [z] + ltrs r := by
        unfold ltrs
        rw [← List.length_append, ← List.filter_append]
        rfl
      have h3 : d.length = c + ltrs (z :: r) + 1 := this
      rw [h3, h2]
      show _ = c + ltrs [z] + ltrs r + 1
      omega
    · cases hh
theorem Fit.out {c : Nat} {es : List Entry} {v : List Nat} (h : Fit c es) (ho : endsHere es = some v) : v.length = c + 1 := by
  obtain ⟨e, he, h1, h2⟩ := ends_in ho
  have := h e he
  rw [h1, h2] at this
  exact this
end Mx
set_option Elab.async false
set_option linter.all false
set_option maxRecDepth 100000
set_option maxHeartbeats 2000000
namespace Pt
open PySem PySem.Spec PyProof.Rows L2 Evl
open VahypBase (Bytes)
open Vahypd (Node Table)
section
variable {P : Program} {w : World} {K : PySem.W.Frag} {mg : Str → Option Value} {base : Heap} {X : Cx}
variable {σ : L2.St} {H H' : Hp} {ta tb tc te tl : TE} {t : TT} {x y z v : V} {C : Addr} {D : Ends} {tz : TS}
/-! ### way_by -/
def kidV (n : Node) (s : Nat) : V := match n.kids.find? fun x => x.1 == s with
  | none => .non
  | some x => .int (x.2 : Int)
def spWayBy (T : Tx K mg) : Sp := spOf fun vs H v => ∃ (o : Addr) (n : Node) (s : Nat), vs = [.ref o, .int (s : Int)] ∧ NodeAt T H o n ∧ v = kidV n s
theorem rv_ixT {p : Addr} {xs : List V} {i : Int} {v : V} (h : SqT K H p xs) (ha : atI xs i = some v) : RV (rIxT K) (.ref p) (.int i) H v := fun H1 e Q q => ⟨p, xs, i, v, rfl, rfl, ex_t e h, ha, q H1 (Ex.refl H1)⟩
theorem ok_way_by (T : Tx K mg) : FnOk P w K mg base CX0 1 T.mNode_way_by.f T.mNode_way_by.fd ["self", "sign"] (spWayBy T) := by
  refine T.mNode_way_by.F.ok scNodeWayBy (fun vs H Q E h => ?_) (fun cdv A outer s H vs Q E hr h => ⟨_,
    pss_cons (ps_for PassesOwn.never rfl (pi_tup (pe_fld (pv 0) rfl)) (pg_name (i := 2) scNodeWayBy.nd rfl (.inl rfl))
      (pss_one (ps_if (pt_cmpR op_eq (pe_ix ix_tup (pv 2) pe_int (fun _ _ => rfl)) (pv 1) (nomark _)) (pss_one (ps_ret (pe_ix ix_tup (pv 2) pe_int (fun _ _ => rfl)))) pss_nil)))
    (pss_one (ps_ret pe_non)), ?_⟩)
  · obtain ⟨_, ⟨o, n, s, rfl, _⟩, _⟩ := h
    rfl
  obtain ⟨_, ⟨o, n, s, rfl, hN, rfl⟩, k⟩ := h
  obtain ⟨dx, u, wa, h1, h2, ws, h3, h4⟩ := hN
  have hkv : ∀ l : List (Nat × Nat), n.kids = l → kidV n s = (match l.find? fun x => x.1 == s with | none => V.non | some x => .int (x.2 : Int)) := fun l hl => by rw [← hl]; rfl
  refine q_forTn (K := K) (a := wa) (xs := ws) (ev_fld (ev_var rfl) h1 T.cNode.cl T.nNode_ways (v := .ref wa) (by rfl)) h3 (fun i σ' H' => ∃ u2 : Option V, σ' = [some (.ref o), some (.int (s : Int)), u2] ∧ Ex H H' ∧ n.kids.find? (fun x => x.1 == s) = (n.kids.drop i).find? (fun x => x.1 == s))
    (fun H1 e1 => ⟨none, rfl, e1, rfl⟩) (fun i σ' H' _ pp => by
      obtain ⟨u2, _, e, _⟩ := pp
      exact ex_t e h3) ?_ ?_
  · rintro i x σ' H' hi ⟨u2, rfl, e, hf⟩
    obtain ⟨kx, p, hk, rfl, hp⟩ := h4.at hi
    rw [drop_of hk] at hf
    have hp' := ex_t e hp
    refine s_if (b := kx.1 == s) (et_is (et_test (ev_op (ev_op (ev_var rfl) ev_c (rv_ixT hp' (atI_nat (j := 0) (v := .int (kx.1 : Int)) rfl))) (ev_var rfl) (rv_eq rfl))) ?_) (fun hs H1 e1 => ?_) (fun hs H1 e1 => ?_)
    · rw [Bool.eq_iff_iff, decide_eq_true_eq, beq_iff_eq]
      constructor
      · intro z
        injection z with z
        omega
      · intro z
        rw [z]
    · refine s_ret (ev_op (ev_var rfl) ev_c (rv_ixT (ex_t e1 hp') (atI_nat (j := 1) (v := .int (kx.2 : Int)) rfl))) fun H2 e2 => ?_
      have : kidV n s = .int (kx.2 : Int) := by
        unfold kidV
        rw [hf, List.find?_cons_of_pos (p := fun x : Nat × Nat => x.1 == s) hs]
      rw [this] at k
      exact k.go ((e.trans e1).trans e2)
    · refine ⟨_, rfl, e.trans e1, ?_⟩
      rw [hf, List.find?_cons_of_neg (p := fun x : Nat × Nat => x.1 == s) (by rw [hs]; decide)]
  · rintro σ' H' ⟨u2, rfl, e, hf⟩
    refine s_ret ev_c fun H2 e2 => ?_
    have : kidV n s = .non := by
      unfold kidV
      rw [hf, h4.1, List.drop_length]
      rfl
    rw [this] at k
    exact k.go (e.trans e2)
/-! ### Found() -/
def fdF (ll : Addr) (st : Nat) : List (Str × V) := [("levels", .ref ll), ("steps", .int (st : Int))]
def spFound (T : Tx K mg) : Sp := fun vs H Q _ => ∃ (p dx : Addr) (n : Nat) (H0 : Hp), vs = [.ref p, .int (n : Int)] ∧ H = upd H0 p (.ins T.cFound.C dx []) ∧ H0 p = none ∧ n ≤ 1000 ∧
  ∀ ll G, H0 ll = none → ll ≠ p → Ex H0 G → G p = none → G ll = some (.lst (nv (List.replicate n 0))) → Q .non (upd G p (.ins T.cFound.C dx (fdF ll 0)))
theorem rep_flat : ∀ n : Nat, (List.replicate n [V.int 0]).flatten = nv (List.replicate n 0)
  | 0 => rfl
  | n + 1 => by
    rw [List.replicate_succ, List.flatten_cons, rep_flat n, List.replicate_succ]
    rfl
theorem el_rep {n : Nat} (hn : n ≤ 1000) (ha : EvL ta σ H [.int 0]) (hb : Ev tb σ H (.int (n : Int))) : EvL (tOp rRep ta tb) σ H (nv (List.replicate n 0)) := fun H1 e Q q =>
  ha H1 e _ fun l H2 hl e2 h2 => hb H2 (e.trans e2) _ fun H3 e3 => ⟨l, (n : Int), _, rfl, rfl, e3 _ _ h2, by omega, by omega, by
    rw [Int.toNat_natCast]
    exact sz_of (by show 1 * n ≤ _; omega), fun p hp => by
    have e4 : (List.replicate (n : Int).toNat [V.int 0]).flatten = nv (List.replicate n 0) := by
      rw [Int.toNat_natCast]
      exact rep_flat n
    rw [e4]
    exact q p _ (fresh_back (e2.trans e3) hp) ((e2.trans e3).trans (Ex.new hp)) upd_same⟩
theorem ok_Found (T : Tx K mg) : FnOk P w K mg base CX0 1 T.cFound.f T.cFound.fd ["self", "gaps"] (spFound T) := by
  refine T.cFound.F.ok scFoundInit (fun vs H Q E h => ?_) (fun cdv A outer s H vs Q E hr h => ⟨_, pss_cons (ps_fld (pv 0) (pe_op op_rep (pe_lst (pa_cons pe_int pa_nil)) (pv 1)) rfl) (pss_one (ps_fld (pv 0) pe_int rfl)), ?_⟩)
  · obtain ⟨p, dx, n, H0, rfl, _⟩ := h
    rfl
  obtain ⟨p, dx, n, H0, rfl, rfl, hp, hn, k⟩ := h
  refine (el_rep hn (el_lst (ea_cons ev_c ea_nil) (by show 1 ≤ 100000; decide)) (ev_var rfl)) _ (Ex.refl _) _ fun ll H1 hll e1 h1 => ?_
  have hlp : ll ≠ p := fun z => by rw [z, upd_same] at hll; cases hll
  rw [upd_ne hlp] at hll
  obtain ⟨G, g1, g2, rfl⟩ := ex_split hp e1
  rw [upd_ne hlp] at h1
  refine ⟨_, rfl, p, T.cFound.C, dx, [], rfl, upd_same, T.cFound.cl, T.nFound_levels, (by show 0 < 1000; decide), ?_⟩
  refine ⟨_, rfl, p, T.cFound.C, dx, _, rfl, upd_same, T.cFound.cl, T.nFound_steps, (by show 1 < 1000; decide), ?_⟩
  show Q .non _
  rw [upd_upd, upd_upd, puts2 (by decide +kernel)]
  exact k ll G hll hlp g2 g1 h1
theorem eq_Found {T : Tx K mg} {n : Nat} (hn : n ≤ 1000) (ha : Ev ta σ H (.int (n : Int))) : EvQ (tMake T.cFound.C (spFound T) [] E0 (tCons ta tNil)) σ H (fun H1 u H2 => ∃ p dx ll, u = .ref p ∧ H1 p = none ∧ H1 ll = none ∧ p ≠ ll ∧ H2 p = some (.ins T.cFound.C dx (fdF ll 0)) ∧ H2 ll = some (.lst (nv (List.replicate n 0)))) := fun H1 e Q q =>
  ha H1 e _ fun H2 e2 x dx nx nd ne => by
    refine ⟨x, dx, n, upd H2 dx (.own x), rfl, rfl, by rw [upd_ne (Ne.symm ne)]; exact nx, hn, fun ll G hll hlx eG hG hGl => ⟨rfl, ?_⟩⟩
    have hld : ll ≠ dx := fun z => by rw [z, upd_same] at hll; cases hll
    rw [upd_ne hld] at hll
    have e3 : Ex H2 G := (Ex.new nd).trans eG
    exact q _ _ (e2.trans (e3.trans (ex_upd hG))) ⟨x, dx, ll, rfl, fresh_back e2 nx, fresh_back e2 hll, Ne.symm hlx, upd_same, by rw [upd_ne hlx]; exact hGl⟩
/-! ### put_over -/
theorem s_forE {a : Addr} {xs : List V} {tu : TS} {ta : TA} {j1 j2 : Nat} (h : EvA ta σ H [.ref a]) (hx : SqT K H a xs) (Pv : Nat → L2.St → Hp → Prop) (h0 : ∀ H1, Ex H H1 → Pv 0 σ H1) (hl : ∀ i σ' H', i ≤ xs.length → Pv i σ' H' → SqT K H' a xs)
    (hs : ∀ (i : Nat) x T σ' H', xs[i]? = some x → Pv i σ' H' → H' T = none → tu { D with nx := Pv (i + 1), ct := Pv (i + 1), bk := D.nx } ((σ'.set j1 (some (.int (i : Int)))).set j2 (some x)) (upd H' T (.tup [.int (i : Int), x]))) (hd : ∀ σ' H', Pv xs.length σ' H' → D.nx σ' H') :
    tFor (iEnumT K ta) (gTup K 2 (gCons (gName j1) (gCons (gName j2) gNil))) tu D σ H := h H (Ex.refl H) _ fun H1 e => ⟨a, xs, rfl, ex_t e hx, for_it walk_enumT Pv (h0 H1 e) hl (fun i x σ2 H2 H3 hi p y => by
    obtain ⟨T, u1, u2, rfl, hT, rfl, e1, e2⟩ := y
    cases e1
    exact ⟨T, [.int (i : Int), u2], rfl, st_of upd_same, rfl, .int (i : Int), [u2], rfl, u2, [], rfl, rfl, hs i u2 T σ2 H2 e2 p hT⟩) hd⟩
structure FdS (T : Tx K mg) (G M : Hp) (p dx ll : Addr) (r : List Nat × Nat) : Prop where
  ap : Apart G M
  mp : M p = some (.ins T.cFound.C dx (fdF ll r.2))
  ml : M ll = some (.lst (nv r.1))
theorem FdS.ne {T : Tx K mg} {G M : Hp} {p dx ll : Addr} {r : List Nat × Nat} (h : FdS T G M p dx ll r) : ll ≠ p := fun z => by
  have := h.ml
  rw [z, h.mp] at this
  cases this
theorem FdS.grow {T : Tx K mg} {G G2 M : Hp} {p dx ll : Addr} {r : List Nat × Nat} (h : FdS T G M p dx ll r) (a : Apart G2 M) : FdS T G2 M p dx ll r := ⟨a, h.mp, h.ml⟩
theorem FdS.lev {T : Tx K mg} {G M : Hp} {p dx ll : Addr} {r : List Nat × Nat} (h : FdS T G M p dx ll r) (ls : List Nat) : FdS T G (upd M ll (.lst (nv ls))) p dx ll (ls, r.2) := ⟨h.ap.put h.ml, by rw [upd_ne (Ne.symm h.ne)]; exact h.mp, upd_same⟩
def spPutOver (T : Tx K mg) : Sp := fun vs H Q _ => ∃ (p dx ll da : Addr) (g : Nat) (v : List Nat) (r : List Nat × Nat) (G M : Hp), vs = [.ref p, .ref da, .int (g : Int)] ∧ H = over G M ∧ FdS T G M p dx ll r ∧ SqT K G da (nv v) ∧ g + v.length ≤ r.1.length ∧
  ∀ G2, Ex G G2 → FdS T G2 (upd M ll (.lst (nv (Vahypd.over r.1 g v)))) p dx ll (Vahypd.over r.1 g v, r.2) → Q .non (over G2 (upd M ll (.lst (nv (Vahypd.over r.1 g v)))))
theorem nv_at {l : List Nat} {i a : Nat} (h : l[i]? = some a) : (nv l)[i]? = some (V.int (a : Int)) := by unfold nv; rw [List.getElem?_map, h]; rfl
theorem nv_set (l : List Nat) (i a : Nat) : (nv l).set i (V.int (a : Int)) = nv (l.set i a) := by unfold nv; rw [List.map_set]
theorem ixN_nat {n i : Nat} (h : i < n) : ixN n (i : Int) = some i := by
  unfold ixN
  rw [if_pos (by omega), if_pos (by omega)]
  simp
theorem ok_put_over (T : Tx K mg) : FnOk P w K mg base CX0 1 T.mFound_put_over.f T.mFound_put_over.fd ["self", "digits", "gap"] (spPutOver T) := by
  refine T.mFound_put_over.F.ok scFoundPutOver (fun vs H Q E h => ?_) (fun cdv A outer s H vs Q E hr h => ⟨_,
    pss_one (ps_for PassesOwn.never rfl (pi_enumT (by rfl) T.b_enumerate (pa_cons (pv 1) pa_nil)) (pg_tup rfl (pgs_cons (pg_name (i := 3) scFoundPutOver.nd rfl (.inl rfl)) (pgs_cons (pg_name (i := 4) scFoundPutOver.nd rfl (.inl rfl)) pgs_nil)))
      (pss_one (ps_asg (pe_callB (call_max2 rfl) (by rfl) T.b_max (by decide +kernel) (pa_cons (pe_ix ix_list (pe_fld (pv 0) rfl) (pe_op op_add (pv 2) (pv 3)) (fun _ _ => rfl)) (pa_cons (pv 4) pa_nil))) (pg_sub (pe_fld (pv 0) rfl) (pe_op op_add (pv 2) (pv 3)) set_list)))), ?_⟩)
  · obtain ⟨p, dx, ll, da, g, v, r, G, M, rfl, _⟩ := h
    rfl
  obtain ⟨p, dx, ll, da, g, v, r, G, M, rfl, rfl, hF, hv, hz, k⟩ := h
  refine s_forE (K := K) (a := da) (xs := nv v) (ea_cons (ev_var rfl) ea_nil) (ex_t (ex_over hF.ap) hv) (fun i σ' H' => ∃ (G2 : Hp) (u1 u2 : Option V), σ' = [some (.ref p), some (.ref da), some (.int (g : Int)), u1, u2] ∧ H' = over G2 (upd M ll (.lst (nv (Vahypd.over r.1 g (v.take i))))) ∧ Ex G G2 ∧ Apart G2 M)
    (fun H1 e1 => ?_) (fun i σ' H' _ pp => ?_) ?_ ?_
  · obtain ⟨G1, a1, eG1, rfl⟩ := over_split hF.ap e1
    refine ⟨G1, none, none, rfl, ?_, eG1, a1⟩
    rw [List.take_zero, Mx.over_nil]
    congr 1
    funext b
    by_cases h : b = ll
    · rw [h, upd_same, hF.ml]
    · rw [upd_ne h]
  · obtain ⟨G2, u1, u2, rfl, rfl, e, a2⟩ := pp
    exact ex_t (e.trans (ex_over ((hF.grow a2).lev _).ap)) hv
  · rintro i x Tn σ' H' hi ⟨G2, u1, u2, rfl, rfl, e, a2⟩ hTn
    obtain ⟨d, hd, rfl⟩ : ∃ d : Nat, v[i]? = some d ∧ x = .int (d : Int) := by
      unfold nv at hi
      rw [List.getElem?_map] at hi
      cases hc : v[i]? with
      | none => rw [hc] at hi; cases hi
      | some b => rw [hc] at hi; exact ⟨b, rfl, (Option.some.inj hi).symm⟩
    have hil : i < v.length := (List.getElem?_eq_some_iff.mp hd).1
    have hlt : g + i < r.1.length := by omega
    obtain ⟨h1, h2⟩ := Mx.over_step (g := g) hd (List.getElem?_eq_getElem hlt)
    have hF2 := (hF.grow a2).lev (Vahypd.over r.1 g (v.take i))
    obtain ⟨G3, a3, eG3, hE3⟩ := over_split hF2.ap (Ex.new (o := .tup [.int (i : Int), .int (d : Int)]) hTn)
    rw [hE3]
    have hF3 := hF2.grow a3
    have hfl : ∀ H', Ex (over G3 (upd M ll (.lst (nv (Vahypd.over r.1 g (v.take i)))))) H' → Ev (tFld K (tVar 0) "levels") [some (.ref p), some (.ref da), some (.int (g : Int)), some (.int (i : Int)), some (.int (d : Int))] H' (.ref ll) := fun H' e => ev_fld (ev_var rfl) (e _ _ (over_m hF3.mp)) T.cFound.cl T.nFound_levels (by rfl)
    have hix : ∀ H', Ev (tOp (rI0 fun i j => .int (i + j)) (tVar 2) (tVar 3)) [some (.ref p), some (.ref da), some (.int (g : Int)), some (.int (i : Int)), some (.int (d : Int))] H' (.int ((g + i : Nat) : Int)) := fun H' => ev_is (ev_op (ev_var rfl) (ev_var rfl) rv_I0) (by congr 1)
    have hat : atI (nv (Vahypd.over r.1 g (v.take i))) ((g + i : Nat) : Int) = some (.int ((r.1[g + i] : Nat) : Int)) := atI_nat (nv_at h1)
    refine t_asgSub ?_
    refine (ev_max2 (ev_op (hfl _ (Ex.refl _)) (hix _) (rv_ixL (sq_of (over_m hF3.ml)) hat)) (ev_var rfl)) _ (Ex.refl _) _ fun H4 e4 => ?_
    refine (hfl H4 e4) H4 (Ex.refl _) _ fun H5 e5 => ?_
    refine (hix H5) H5 (Ex.refl _) _ fun H6 e6 => ?_
    obtain ⟨G6, a6, eG6, rfl⟩ := over_split a3 ((e4.trans e5).trans e6)
    have hF6 := hF3.grow a6
    refine ⟨ll, nv (Vahypd.over r.1 g (v.take i)), ((g + i : Nat) : Int), g + i, rfl, rfl, over_m hF6.ml, ixN_nat (by rw [nv_len, Mx.over_len]; exact hlt), ?_⟩
    have hmx : V.int (if ((d : Nat) : Int) > ((r.1[g + i] : Nat) : Int) then ((d : Nat) : Int) else ((r.1[g + i] : Nat) : Int)) = V.int ((Nat.max r.1[g + i] d : Nat) : Int) := by
      congr 1
      show _ = ((max r.1[g + i] d : Nat) : Int)
      split <;> omega
    rw [hmx, nv_set, ← h2, over_upd, upd_upd]
    refine ⟨G6, _, _, rfl, rfl, (e.trans eG3).trans eG6, fun b o hb => ?_⟩
    by_cases hbl : b = ll
    · rw [hbl]
      exact a6 ll _ upd_same
    · exact a6 b o (by rw [upd_ne hbl]; exact hb)
  · rintro σ' H' ⟨G2, u1, u2, rfl, rfl, e, a2⟩
    rw [nv_len, List.take_length]
    exact k G2 e ((hF.grow a2).lev _)
end
end Pt
set_option Elab.async false
set_option linter.all false
set_option maxRecDepth 100000
/-! ## entries of good patterns, their table -/
namespace Mx
open Vahypd (Entry Node Table entryOf signsOf firstSigns behind endsHere build plainBy tableOf LONG)
open Vahypa (Pat)
def entries (ps : List Pat) : List Entry := ps.map entryOf
def letterNot0 (b : UInt8) (h : VahypBase.isLetter b = true) : (b.toNat != 0) = true := by
  have := of_decide_eq_true h
  simp only [bne_iff_ne, ne_eq]
  omega
theorem signs_len {p : Pat} (h : OkPat p) : (signsOf p).length ≤ 8 ∧ 1 ≤ (signsOf p).length := by
  have h1 := h.lo
  have h2 := h.hi
  unfold signsOf
  rw [List.length_append, List.length_append, List.length_map]
  constructor
  · split <;> split <;> simp <;> omega
  · omega
theorem signs_ltrs {p : Pat} (h : OkPat p) : ltrs (signsOf p) = p.x.length := by
  have e0 : ∀ b : Bool, ltrs (if b = true then [0] else []) = 0 := fun b => by cases b <;> rfl
  have ea : ∀ l m : List Nat, ltrs (l ++ m) = ltrs l + ltrs m := fun l m => by
    unfold ltrs
    rw [List.filter_append, List.length_append]
  unfold signsOf
  rw [ea, ea, e0, e0, Nat.zero_add, Nat.add_zero]
  unfold ltrs
  rw [List.filter_eq_self.mpr, List.length_map]
  intro a ha
  obtain ⟨b, hb, rfl⟩ := List.mem_map.mp ha
  exact letterNot0 b (h.let_ b hb)
theorem entries_fit {ps : List Pat} (h : ∀ p ∈ ps, OkPat p) : Fit 0 (entries ps) := fun e he => by
  obtain ⟨p, hp, rfl⟩ := List.mem_map.mp he
  show p.levels.length = 0 + ltrs (signsOf p) + 1
  rw [signs_ltrs (h p hp), (h p hp).lev, Nat.zero_add]
theorem entries_short {ps : List Pat} (h : ∀ p ∈ ps, OkPat p) : ∀ e ∈ entries ps, e.1.length ≤ 8 := fun e he => by
  obtain ⟨p, hp, rfl⟩ := List.mem_map.mp he
  exact (signs_len (h p hp)).1
theorem entries_digs {ps : List Pat} (h : ∀ p ∈ ps, OkPat p) : ∀ e ∈ entries ps, e.2.length ≤ 9 := fun e he => by
  obtain ⟨p, hp, rfl⟩ := List.mem_map.mp he
  show p.levels.length ≤ 9
  have := (h p hp).lev
  have := (h p hp).hi
  omega
theorem entries_ends {ps : List Pat} (h : ∀ p ∈ ps, OkPat p) : endsHere (entries ps) = none := by
  unfold endsHere
  have : (entries ps).find? (fun e => e.1.isEmpty) = none := by
    rw [List.find?_eq_none]
    intro e he
    obtain ⟨p, hp, rfl⟩ := List.mem_map.mp he
    have := (signs_len (h p hp)).2
    show ¬ (signsOf p).isEmpty = true
    intro z
    rw [List.isEmpty_iff.mp z] at this
    simp at this
  rw [this]
  rfl
theorem tableOf_eq (ps : List Pat) : tableOf ps = build 8 (entries ps) [] := rfl
theorem table_rp (ps : List Pat) : Rp (tableOf ps).1 8 (tableOf ps).2 (entries ps) := (build_rp 8 (entries ps) []).1
theorem table_small {ps : List Pat} (h : ∀ p ∈ ps, OkPat p) (hn : ps.length ≤ 40) : ∀ n ∈ (tableOf ps).1, SmallNode 9 40 n :=
  build_small 8 (entries ps) [] (entries_digs h) (by show (ps.map entryOf).length ≤ 40; rw [List.length_map]; exact hn) (fun n hn => by cases hn)
theorem table_len {ps : List Pat} (hn : ps.length ≤ 40) : (tableOf ps).1.length ≤ 321 := by
  have h1 := build_len 8 (entries ps) []
  have h2 := plain_le 8 (entries ps)
  have h3 : (entries ps).length = ps.length := List.length_map ..
  rw [h3] at h2
  show (build 8 (entries ps) []).1.length ≤ 321
  have : ([] : Table).length = 0 := rfl
  omega
theorem table_first (ps : List Pat) : (tableOf ps).2 < (tableOf ps).1.length := build_lt 8 _ _
theorem plainSize_eq (ps : List Pat) : Vahypd.plainSize ps = plainBy 8 (entries ps) := rfl
end Mx
set_option Elab.async false
set_option linter.all false
set_option maxRecDepth 100000
/-! ## nodes along signs; ends counted; the level digits along a way -/
namespace Mx
open Vahypd (Entry Node Table firstSigns behind endsHere kidAt nodeAt walk look over signed nodesBy findOut)
theorem nodes_ne (t : Table) (k : Nat) (l : List Nat) : nodesBy t k l ≠ [] := by
  cases l <;> simp [nodesBy]
theorem nodes_cons (t : Table) (k s : Nat) (r : List Nat) : nodesBy t k (s :: r) = k :: (match kidAt t k s with | none => [] | some j => nodesBy t j r) := rfl
theorem nodes_len (t : Table) : ∀ (l : List Nat) (k : Nat), (nodesBy t k l).length ≤ l.length + 1
  | [], k => Nat.le_refl _
  | s :: r, k => by
    rw [nodes_cons, List.length_cons, List.length_cons]
    cases kidAt t k s with
    | none => simp
    | some j =>
      have := nodes_len t r j
      dsimp only
      omega
theorem nodes_one (t : Table) (l : List Nat) (k : Nat) : 1 ≤ (nodesBy t k l).length := by
  have := nodes_ne t k l
  cases h : nodesBy t k l with
  | nil => exact absurd h this
  | cons a b => simp
/-- the last node reached -/
def endOf (t : Table) (k : Nat) (l : List Nat) : Nat := (nodesBy t k l).getLast?.getD 0
theorem endOf_cons (t : Table) (k s : Nat) (r : List Nat) : endOf t k (s :: r) = (match kidAt t k s with | none => k | some j => endOf t j r) := by
  unfold endOf
  rw [nodes_cons]
  cases kidAt t k s with
  | none => rfl
  | some j =>
    dsimp only
    rw [List.getLast?_cons_of_ne_nil (nodes_ne t j r)]
theorem find_eq (t : Table) : ∀ (l : List Nat) (k : Nat), findOut t k l = if (nodesBy t k l).length ≤ l.length then none else (nodeAt t (endOf t k l)).out
  | [], k => by simp [nodesBy, findOut, endOf]
  | s :: r, k => by
    rw [show findOut t k (s :: r) = (kidAt t k s).bind fun j => findOut t j r from rfl, nodes_cons, endOf_cons]
    cases h : kidAt t k s with
    | none => simp
    | some j =>
      dsimp only [Option.bind_some]
      rw [find_eq t r j, List.length_cons, List.length_cons]
      by_cases h2 : (nodesBy t j r).length ≤ r.length
      · rw [if_pos h2, if_pos (by omega)]
      · rw [if_neg h2, if_neg (by omega)]
theorem walk_eq (t : Table) : ∀ (l : List Nat) (k : Nat), walk t k l = ((nodesBy t k l).flatMap (outs1 t), min (nodesBy t k l).length l.length)
  | [], k => by
    rw [walk_nil]
    simp [nodesBy]
  | s :: r, k => by
    rw [walk_cons, nodes_cons]
    cases h : kidAt t k s with
    | none => simp
    | some j =>
      dsimp only
      rw [walk_eq t r j]
      simp only [List.flatMap_cons, List.length_cons]
      congr 1
      omega
/-- one more sign -/
theorem nodes_snoc (t : Table) : ∀ (l : List Nat) (k s : Nat), (nodesBy t k l).length = l.length + 1 → nodesBy t k (l ++ [s]) = nodesBy t k l ++ (match kidAt t (endOf t k l) s with | none => [] | some j => [j])
  | [], k, s, _ => by
    show nodesBy t k [s] = _
    rw [nodes_cons]
    show _ = [k] ++ (match kidAt t k s with | none => [] | some j => [j])
    cases kidAt t k s <;> rfl
  | a :: r, k, s, h => by
    rw [nodes_cons, List.length_cons, List.length_cons] at h
    rw [List.cons_append, nodes_cons, nodes_cons, endOf_cons]
    cases hk : kidAt t k a with
    | none => rw [hk] at h; simp at h
    | some j =>
      rw [hk] at h
      dsimp only at h ⊢
      rw [nodes_snoc t r j s (by omega)]
      rfl
theorem nodes_stop (t : Table) : ∀ (l : List Nat) (k s : Nat) (m : List Nat), (nodesBy t k l).length = l.length + 1 → kidAt t (endOf t k l) s = none → nodesBy t k (l ++ s :: m) = nodesBy t k l
  | [], k, s, m, _, h => by
    have h : kidAt t k s = none := h
    show nodesBy t k (s :: m) = _
    rw [nodes_cons, h]
    rfl
  | a :: r, k, s, m, hl, h => by
    rw [nodes_cons, List.length_cons, List.length_cons] at hl
    rw [endOf_cons] at h
    rw [List.cons_append, nodes_cons, nodes_cons]
    cases hk : kidAt t k a with
    | none => simp [hk] at hl
    | some j =>
      rw [hk] at h hl
      dsimp only at h hl ⊢
      rw [nodes_stop t r j s m (by omega) h]
/-- all nodes reached are there -/
def Inner (t : Table) : Prop := ∀ n ∈ t, ∀ x ∈ n.kids, x.2 < t.length
theorem kid_lt {t : Table} (h : Inner t) {k s j : Nat} (hk : kidAt t k s = some j) : j < t.length := by
  unfold kidAt nodeAt at hk
  cases hn : t[k]? with
  | none => rw [hn] at hk; simp at hk
  | some n =>
    rw [hn] at hk
    simp only [Option.getD_some] at hk
    cases hf : n.kids.find? (fun x => x.1 == s) with
    | none => rw [hf] at hk; cases hk
    | some x =>
      rw [hf] at hk
      have e : x.2 = j := Option.some.inj hk
      rw [← e]
      exact h n (List.mem_of_getElem? hn) x (List.mem_of_find?_eq_some hf)
theorem nodes_lt {t : Table} (h : Inner t) : ∀ (l : List Nat) (k : Nat), k < t.length → ∀ j ∈ nodesBy t k l, j < t.length
  | [], k, hk, j, hj => by
    rw [show nodesBy t k [] = [k] from rfl, List.mem_singleton] at hj
    rw [hj]
    exact hk
  | s :: r, k, hk, j, hj => by
    rw [nodes_cons] at hj
    rcases List.mem_cons.mp hj with e | hj
    · rw [e]; exact hk
    · cases hq : kidAt t k s with
      | none => rw [hq] at hj; cases hj
      | some i =>
        rw [hq] at hj
        exact nodes_lt h r i (kid_lt h hq) j hj
theorem endOf_mem (t : Table) (k : Nat) (l : List Nat) : endOf t k l ∈ nodesBy t k l := by
  unfold endOf
  have := nodes_ne t k l
  rw [List.getLast?_eq_some_getLast this, Option.getD_some]
  exact List.getLast_mem this
/-- digits fit along a way -/
theorem nodes_fit {t : Table} : ∀ (l : List Nat) (f k c : Nat) (es : List Entry), Rp t f k es → Fit c es → ∀ j ∈ nodesBy t k l, j < t.length ∧ ∀ v, (nodeAt t j).out = some v → v.length ≤ c + ltrs l + 1
  | [], f, k, c, es, hR, hF, j, hj => by
    rw [show nodesBy t k [] = [k] from rfl, List.mem_singleton] at hj
    subst hj
    obtain ⟨n, hn⟩ := rp_at hR
    refine ⟨(List.getElem?_eq_some_iff.mp hn).1, fun v hv => ?_⟩
    rw [rp_out hR] at hv
    have := hF.out hv
    omega
  | s :: r, f, k, c, es, hR, hF, j, hj => by
    have hlt : ltrs (s :: r) = ltrs [s] + ltrs r := by
      unfold ltrs
      rw [← List.length_append, ← List.filter_append]
      rfl
    rw [nodes_cons] at hj
    rcases List.mem_cons.mp hj with e | hj
    · subst e
      obtain ⟨n, hn⟩ := rp_at hR
      refine ⟨(List.getElem?_eq_some_iff.mp hn).1, fun v hv => ?_⟩
      rw [rp_out hR] at hv
      have := hF.out hv
      omega
    · cases hq : kidAt t k s with
      | none => rw [hq] at hj; cases hj
      | some i =>
        rw [hq] at hj
        obtain ⟨f2, hR2⟩ := rp_kid hR hq
        obtain ⟨h1, h2⟩ := nodes_fit r f2 i _ _ hR2 (hF.behind (s := s)) j hj
        refine ⟨h1, fun v hv => ?_⟩
        have := h2 v hv
        omega
/-- levels after one beginning, node by node -/
def overN (t : Table) (g : Nat) (ls : List Nat) (j : Nat) : List Nat := match (nodeAt t j).out with
  | some v => over ls g v
  | none => ls
theorem fold_outs (t : Table) (g : Nat) : ∀ (js : List Nat) (ls : List Nat), (js.flatMap (outs1 t)).foldl (fun l v => over l g v) ls = js.foldl (overN t g) ls
  | [], ls => rfl
  | j :: js, ls => by
    rw [List.flatMap_cons, List.foldl_append, fold_outs t g js, List.foldl_cons]
    congr 1
    unfold outs1 overN
    cases (nodeAt t j).out <;> rfl
theorem lookAt_nodes (t : Table) (k s : Nat) (z : List Nat) (r : List Nat × Nat) : lookAt t k z r s = ((nodesBy t k (z.drop s)).foldl (overN t (s - 1)) r.1, r.2 + min (nodesBy t k (z.drop s)).length (z.drop s).length) := by
  have h1 : (if s = 0 then 0 else s - 1) = s - 1 := by split <;> omega
  unfold lookAt
  rw [h1, walk_eq]
  show ((List.flatMap (outs1 t) _).foldl _ _, _) = _
  rw [fold_outs]
theorem overN_len (t : Table) (g : Nat) (ls : List Nat) (j : Nat) : (overN t g ls j).length = ls.length := by
  unfold overN
  cases (nodeAt t j).out with
  | none => rfl
  | some v => exact over_len _ _ _
theorem overs_len (t : Table) (g : Nat) : ∀ (js : List Nat) (ls : List Nat), (js.foldl (overN t g) ls).length = ls.length
  | [], ls => rfl
  | j :: js, ls => by rw [List.foldl_cons, overs_len t g js, overN_len]
end Mx
set_option Elab.async false
set_option linter.all false
set_option maxRecDepth 100000
/-! ## ends counted -/
namespace Mx
open Vahypd (Entry Node Table firstSigns behind endsHere kidAt nodeAt spellOut countsOf)
def ownN (n : Node) : Nat := if n.out.isSome = true then 1 else 0
def cstep (l : List Nat) (n : Node) : List Nat := l ++ [ownN n + (n.kids.map fun x => l.getD x.2 0).sum]
def cnts (t : Table) : List Nat := t.foldl cstep []
theorem getD_map_min (l : List Nat) (i : Nat) : (l.map (Nat.min 1000)).getD i 0 = Nat.min 1000 (l.getD i 0) := by
  rw [List.getD_eq_getElem?_getD, List.getD_eq_getElem?_getD, List.getElem?_map]
  cases l[i]? <;> simp
theorem sum_min (f : Nat × Nat → Nat) : ∀ (ks : List (Nat × Nat)) (a : Nat), Nat.min 1000 (a + (ks.map fun x => Nat.min 1000 (f x)).sum) = Nat.min 1000 (a + (ks.map f).sum)
  | [], a => rfl
  | x :: r, a => by
    rw [List.map_cons, List.sum_cons, List.map_cons, List.sum_cons, ← Nat.add_assoc, ← Nat.add_assoc, sum_min f r]
    show min 1000 (a + min 1000 (f x) + _) = min 1000 (a + f x + _)
    omega
theorem counts_go : ∀ (t : Table) (l : List Nat), t.foldl (fun l n => l ++ [Nat.min 1000 ((if n.out.isSome = true then 1 else 0) + (n.kids.map fun x => l.getD x.2 0).sum)]) (l.map (Nat.min 1000)) = (t.foldl cstep l).map (Nat.min 1000)
  | [], l => rfl
  | n :: t, l => by
    rw [List.foldl_cons, List.foldl_cons, ← counts_go t (cstep l n)]
    congr 1
    unfold cstep
    rw [List.map_append]
    congr 1
    show [_] = [_]
    congr 1
    have : (n.kids.map fun x => (l.map (Nat.min 1000)).getD x.2 0) = n.kids.map fun x => Nat.min 1000 (l.getD x.2 0) := List.map_congr_left fun x _ => getD_map_min l x.2
    rw [this]
    exact sum_min (fun x => l.getD x.2 0) n.kids (ownN n)
theorem counts_eq (t : Table) : countsOf t = (cnts t).map (Nat.min 1000) := counts_go t []
theorem cfold_len : ∀ (t : Table) (l : List Nat), (t.foldl cstep l).length = l.length + t.length
  | [], l => rfl
  | n :: t, l => by
    rw [List.foldl_cons, cfold_len t]
    unfold cstep
    rw [List.length_append, List.length_cons, List.length_cons]
    show l.length + 1 + t.length = _
    omega
theorem cnts_len (t : Table) : (cnts t).length = t.length := by
  unfold cnts
  rw [cfold_len]
  exact Nat.zero_add _
theorem cnts_snoc (t : Table) (n : Node) : cnts (t ++ [n]) = cstep (cnts t) n := by
  unfold cnts
  rw [List.foldl_append]
  rfl
theorem cfold_pre : ∀ (t : Table) (l : List Nat), ∃ u, t.foldl cstep l = l ++ u
  | [], l => ⟨[], by simp⟩
  | n :: t, l => by
    rw [List.foldl_cons]
    obtain ⟨u, h⟩ := cfold_pre t (cstep l n)
    exact ⟨_ :: u, by rw [h]; unfold cstep; rw [List.append_assoc]; rfl⟩
theorem cnts_take (t : Table) (k : Nat) : ∃ u, cnts t = cnts (t.take k) ++ u := by
  have : cnts t = (t.drop k).foldl cstep (cnts (t.take k)) := by
    unfold cnts
    rw [← List.foldl_append, List.take_append_drop]
  rw [this]
  exact cfold_pre _ _
/-- ways lead to lesser numbers -/
def Low (t : Table) : Prop := ∀ (k : Nat) (n : Node), t[k]? = some n → ∀ x ∈ n.kids, x.2 < k
theorem Low.inner {t : Table} (h : Low t) : Inner t := fun n hn x hx => by
  obtain ⟨k, hk⟩ := List.mem_iff_getElem?.mp hn
  have := h k n hk x hx
  have := (List.getElem?_eq_some_iff.mp hk).1
  omega
theorem cnts_at {t : Table} (h : Low t) {k : Nat} {n : Node} (hn : t[k]? = some n) : (cnts t).getD k 0 = ownN n + (n.kids.map fun x => (cnts t).getD x.2 0).sum := by
  obtain ⟨hl, he⟩ := List.getElem?_eq_some_iff.mp hn
  obtain ⟨u, hu⟩ := cnts_take t (k + 1)
  obtain ⟨v, hv⟩ := cnts_take t k
  have htk : t.take (k + 1) = t.take k ++ [n] := by rw [List.take_add_one, hn]; rfl
  have hlen : (cnts (t.take k)).length = k := by rw [cnts_len, List.length_take]; omega
  rw [htk, cnts_snoc] at hu
  have hk : (cnts t).getD k 0 = ownN n + (n.kids.map fun x => (cnts (t.take k)).getD x.2 0).sum := by
    rw [hu]
    unfold cstep
    rw [List.getD_eq_getElem?_getD, List.append_assoc, List.getElem?_append_right (by omega), hlen, Nat.sub_self]
    rfl
  rw [hk]
  congr 2
  refine List.map_congr_left fun x hx => ?_
  have := h k n hn x hx
  rw [hv, List.getD_eq_getElem?_getD, List.getD_eq_getElem?_getD, List.getElem?_append_left (by omega)]
/-- a node's height -/
def Tall (t : Table) : Nat → Nat → Prop
  | 0, k => ∃ n, t[k]? = some n ∧ n.kids = []
  | f + 1, k => ∃ n, t[k]? = some n ∧ ∀ x ∈ n.kids, Tall t f x.2
theorem nodeAt_eq {t : Table} {k : Nat} {n : Node} (h : t[k]? = some n) : nodeAt t k = n := by
  unfold nodeAt
  rw [h]
  rfl
def ownE (o : Option (List Nat)) : List Entry := match o with
  | some v => [([], v)]
  | none => []
theorem spell_zero {t : Table} {k : Nat} {n : Node} (h : t[k]? = some n) : spellOut t 0 k = ownE n.out := by
  unfold spellOut
  simp only [nodeAt_eq h]
  rfl
theorem spell_succ {t : Table} {k f : Nat} {n : Node} (h : t[k]? = some n) : spellOut t (f + 1) k = ownE n.out ++ n.kids.flatMap fun x => (spellOut t f x.2).map fun e => (x.1 :: e.1, e.2) := by
  conv => lhs; unfold spellOut
  simp only [nodeAt_eq h]
  rfl
theorem spell_tall {t : Table} : ∀ {f g k : Nat}, Tall t f k → f ≤ g → spellOut t g k = spellOut t f k
  | 0, 0, k, _, _ => rfl
  | 0, g + 1, k, ⟨n, h1, h2⟩, _ => by
    rw [spell_zero h1, spell_succ h1, h2]
    simp
  | f + 1, 0, k, _, h => absurd h (by omega)
  | f + 1, g + 1, k, ⟨n, h1, h2⟩, h => by
    rw [spell_succ h1, spell_succ h1]
    congr 1
    rw [List.flatMap_def, List.flatMap_def]
    congr 1
    refine List.map_congr_left fun x hx => ?_
    rw [spell_tall (h2 x hx) (by omega)]
theorem spell_len {t : Table} (hl : Low t) : ∀ {f k : Nat}, Tall t f k → (spellOut t f k).length = (cnts t).getD k 0
  | 0, k, ⟨n, h1, h2⟩ => by
    rw [spell_zero h1, cnts_at hl h1, h2]
    unfold ownE ownN
    cases n.out <;> simp
  | f + 1, k, ⟨n, h1, h2⟩ => by
    rw [spell_succ h1, cnts_at hl h1, List.length_append, List.length_flatMap]
    congr 1
    · unfold ownE ownN
      cases n.out <;> simp
    · congr 1
      refine List.map_congr_left fun x hx => ?_
      rw [List.length_map, spell_len hl (h2 x hx)]
end Mx
set_option Elab.async false
set_option linter.all false
set_option maxRecDepth 100000
/-! ## a packed table's nodes tell unlike things -/
namespace Mx
open Vahypd (Entry Node Table firstSigns behind endsHere kidAt nodeAt spellOut build put)
def Full (t : Table) : Nat → Nat → List Entry → Prop
  | 0, k, es => ∃ n, t[k]? = some n ∧ n.out = endsHere es ∧ n.kids.map (·.1) = [] ∧ n.kids = []
  | f + 1, k, es => ∃ n, t[k]? = some n ∧ n.out = endsHere es ∧ n.kids.map (·.1) = firstSigns es ∧ ∀ x ∈ n.kids, Full t f x.2 (behind es x.1)
theorem Full.app {t u : Table} : ∀ {f k : Nat} {es : List Entry}, Full t f k es → Full (t ++ u) f k es
  | 0, k, es, ⟨n, h1, h2, h3⟩ => ⟨n, by rw [List.getElem?_append_left (List.getElem?_eq_some_iff.mp h1).1]; exact h1, h2, h3⟩
  | f + 1, k, es, ⟨n, h1, h2, h3, h4⟩ => ⟨n, by rw [List.getElem?_append_left (List.getElem?_eq_some_iff.mp h1).1]; exact h1, h2, h3, fun x hx => Full.app (h4 x hx)⟩
theorem steps_full {f : Nat} {es : List Entry} (h : ∀ (s : Nat) (t : Table), Full (build f (behind es s) t).1 f (build f (behind es s) t).2 (behind es s) ∧ ∃ u, (build f (behind es s) t).1 = t ++ u) :
    ∀ (ss : List Nat) (x : Table × List (Nat × Nat)), (∀ p ∈ x.2, Full x.1 f p.2 (behind es p.1)) →
      (∀ p ∈ (ss.foldl (bstep (build f) es) x).2, Full (ss.foldl (bstep (build f) es) x).1 f p.2 (behind es p.1)) ∧ (ss.foldl (bstep (build f) es) x).2.map (·.1) = x.2.map (·.1) ++ ss
  | [], x, hx => ⟨hx, by simp⟩
  | s :: ss, x, hx => by
    rw [List.foldl_cons]
    obtain ⟨h1, u, h2⟩ := h s x.1
    have hx' : ∀ p ∈ (bstep (build f) es x s).2, Full (bstep (build f) es x s).1 f p.2 (behind es p.1) := fun p hp => by
      have e1 : (bstep (build f) es x s).1 = (build f (behind es s) x.1).1 := rfl
      rcases List.mem_append.mp (show p ∈ x.2 ++ [(s, (build f (behind es s) x.1).2)] from hp) with q | q
      · rw [e1, h2]
        exact (hx p q).app
      · rw [List.mem_singleton.mp q, e1]
        exact h1
    obtain ⟨g1, g2⟩ := steps_full h ss _ hx'
    refine ⟨g1, ?_⟩
    rw [g2]
    show (x.2 ++ [(s, (build f (behind es s) x.1).2)]).map (fun p : Nat × Nat => p.1) ++ ss = _
    rw [List.map_append, List.append_assoc]
    rfl
theorem build_full : ∀ (f : Nat) (es : List Entry) (t : Table), Full (build f es t).1 f (build f es t).2 es
  | 0, es, t => ⟨_, put_at.1, rfl, rfl, rfl⟩
  | f + 1, es, t => by
    rw [build_succ]
    unfold bnode
    obtain ⟨h1, h2⟩ := steps_full (fun s t => ⟨build_full f (behind es s) t, (build_rp f (behind es s) t).2⟩) (firstSigns es) (t, []) (fun p hp => by cases hp)
    obtain ⟨g1, v, g2⟩ := put_at (t := ((firstSigns es).foldl (bstep (build f) es) (t, [])).1) (n := ⟨endsHere es, ((firstSigns es).foldl (bstep (build f) es) (t, [])).2⟩)
    refine ⟨_, g1, rfl, by rw [h2]; rfl, fun x hx => ?_⟩
    rw [g2]
    exact (h1 x hx).app
def shortBy (f : Nat) (es : List Entry) : Prop := ∀ e ∈ es, e.1.length ≤ f
/-- each node of a table stands for some entries -/
def FF (t : Table) : Prop := ∀ k, k < t.length → ∃ f es, f ≤ 8 ∧ shortBy f es ∧ Full t f k es
theorem put_FF {t : Table} {n : Node} (h : FF t) {f : Nat} {es : List Entry} (hf : f ≤ 8) (hs : shortBy f es) (hF : Full (put t n).1 f (put t n).2 es) : FF (put t n).1 := by
  by_cases hn : n ∈ t
  · unfold put
    cases hx : t.findIdx? (fun m => m == n) with
    | some k => exact h
    | none =>
      rw [List.findIdx?_eq_none_iff] at hx
      have := hx n hn
      simp at this
  · rw [put_new hn] at hF ⊢
    intro k hk
    by_cases hkt : k < t.length
    · obtain ⟨f', es', h1, h2, h3⟩ := h k hkt
      exact ⟨f', es', h1, h2, h3.app⟩
    · have : k = t.length := by
        have : (t ++ [n]).length = t.length + 1 := by simp
        have hk : k < (t ++ [n]).length := hk
        omega
      rw [this]
      exact ⟨f, es, hf, hs, hF⟩
theorem steps_FF {bf : List Entry → Table → Table × Nat} {es : List Entry} (hg : ∀ (s : Nat) (t : Table), FF t → FF (bf (behind es s) t).1) :
    ∀ (ss : List Nat) (x : Table × List (Nat × Nat)), FF x.1 → FF (ss.foldl (bstep bf es) x).1
  | [], x, hx => hx
  | s :: ss, x, hx => steps_FF hg ss _ (hg s x.1 hx)
theorem build_FF : ∀ (f : Nat) (es : List Entry) (t : Table), f ≤ 8 → shortBy f es → FF t → FF (build f es t).1
  | 0, es, t, hf, hs, h => put_FF h hf hs (build_full 0 es t)
  | f + 1, es, t, hf, hs, h => by
    have hb := build_full (f + 1) es t
    rw [build_succ] at hb ⊢
    exact put_FF (steps_FF (fun s t ht => build_FF f (behind es s) t (by omega) (behind_short hs) ht) _ _ h) hf hs hb
theorem put_Low {t : Table} {n : Node} (h : Low t) (hk : ∀ x ∈ n.kids, x.2 < t.length) : Low (put t n).1 := by
  by_cases hn : n ∈ t
  · unfold put
    cases hx : t.findIdx? (fun m => m == n) with
    | some k => exact h
    | none =>
      rw [List.findIdx?_eq_none_iff] at hx
      have := hx n hn
      simp at this
  · rw [put_new hn]
    intro k m hm x hx
    by_cases hkt : k < t.length
    · rw [List.getElem?_append_left hkt] at hm
      exact h k m hm x hx
    · rw [List.getElem?_append_right (by omega)] at hm
      have h0 : k - t.length = 0 := by
        have := (List.getElem?_eq_some_iff.mp hm).1
        simp at this
        omega
      rw [h0] at hm
      have e : n = m := by simpa using hm
      subst e
      have := hk x hx
      omega
theorem steps_Low {bf : List Entry → Table → Table × Nat} {es : List Entry} (hg : ∀ (s : Nat) (t : Table), Low t → Low (bf (behind es s) t).1 ∧ t.length ≤ (bf (behind es s) t).1.length ∧ (bf (behind es s) t).2 < (bf (behind es s) t).1.length) :
    ∀ (ss : List Nat) (x : Table × List (Nat × Nat)), Low x.1 → (∀ p ∈ x.2, p.2 < x.1.length) → Low (ss.foldl (bstep bf es) x).1 ∧ x.1.length ≤ (ss.foldl (bstep bf es) x).1.length ∧ ∀ p ∈ (ss.foldl (bstep bf es) x).2, p.2 < (ss.foldl (bstep bf es) x).1.length
  | [], x, hx, hp => ⟨hx, Nat.le_refl _, hp⟩
  | s :: ss, x, hx, hp => by
    obtain ⟨h1, h2, h3⟩ := hg s x.1 hx
    obtain ⟨g1, g2, g3⟩ := steps_Low hg ss (bstep bf es x s) h1 fun p hp' => by
      rcases List.mem_append.mp (show p ∈ x.2 ++ [(s, (bf (behind es s) x.1).2)] from hp') with q | q
      · exact Nat.lt_of_lt_of_le (hp p q) h2
      · rw [List.mem_singleton.mp q]
        exact h3
    exact ⟨g1, Nat.le_trans h2 g2, g3⟩
theorem build_Low : ∀ (f : Nat) (es : List Entry) (t : Table), Low t → Low (build f es t).1 ∧ t.length ≤ (build f es t).1.length ∧ (build f es t).2 < (build f es t).1.length
  | 0, es, t, h => ⟨put_Low h (fun x hx => by cases hx), put_len.2, put_lt⟩
  | f + 1, es, t, h => by
    rw [build_succ]
    obtain ⟨h1, h2, h3⟩ := steps_Low (fun s t ht => build_Low f (behind es s) t ht) (firstSigns es) (t, []) h (fun p hp => by cases hp)
    exact ⟨put_Low h1 h3, Nat.le_trans h2 put_len.2, put_lt⟩
structure Canon (t : Table) : Prop where
  low : Low t
  ff : FF t
  nd : t.Nodup
theorem build_canon {es : List Entry} (h : shortBy 8 es) : Canon (build 8 es []).1 :=
  ⟨(build_Low 8 es [] (fun k n hn => by simp at hn)).1, build_FF 8 es [] (Nat.le_refl _) h (fun k hk => by cases hk), build_nodup 8 es [] List.nodup_nil⟩
/-! ### what is told from a node on -/
theorem Full.tall {t : Table} : ∀ {f k : Nat} {es : List Entry}, Full t f k es → Tall t f k
  | 0, k, es, ⟨n, h1, h2, h3, h4⟩ => ⟨n, h1, h4⟩
  | f + 1, k, es, ⟨n, h1, h2, h3, h4⟩ => ⟨n, h1, fun x hx => (h4 x hx).tall⟩
theorem Tall.up {t : Table} : ∀ {f g k : Nat}, Tall t f k → f ≤ g → Tall t g k
  | 0, 0, k, h, _ => h
  | 0, g + 1, k, ⟨n, h1, h2⟩, _ => ⟨n, h1, fun x hx => by rw [h2] at hx; cases hx⟩
  | f + 1, 0, k, _, h => absurd h (by omega)
  | f + 1, g + 1, k, ⟨n, h1, h2⟩, h => ⟨n, h1, fun x hx => (h2 x hx).up (by omega)⟩
theorem FF.tall {t : Table} (h : FF t) {k : Nat} (hk : k < t.length) : Tall t 8 k := by
  obtain ⟨f, es, h1, _, h3⟩ := h k hk
  exact h3.tall.up h1
def sp (t : Table) (k : Nat) : List Entry := spellOut t 8 k
theorem spell_up {t : Table} {f k : Nat} {n : Node} (hn : t[k]? = some n) (ht : Tall t f k) : ∀ g, f ≤ g → spellOut t g k = ownE n.out ++ n.kids.flatMap fun x => (spellOut t g x.2).map fun e => (x.1 :: e.1, e.2) := fun g hg => by
  cases f with
  | zero =>
    obtain ⟨m, e1, e2⟩ := ht
    rw [hn] at e1
    have e : n = m := Option.some.inj e1
    subst e
    rw [spell_tall (f := 0) ⟨n, hn, e2⟩ (Nat.zero_le _), spell_zero hn, e2]
    simp
  | succ f =>
    have ht0 := ht
    obtain ⟨m, e1, e2⟩ := ht
    rw [hn] at e1
    have e : n = m := Option.some.inj e1
    subst e
    rw [spell_tall ht0 hg, spell_succ hn]
    congr 1
    rw [List.flatMap_def, List.flatMap_def]
    congr 1
    refine List.map_congr_left fun x hx => ?_
    rw [spell_tall (e2 x hx) (g := g) (by omega)]
theorem sp_eq {t : Table} (c : FF t) {k : Nat} {n : Node} (hn : t[k]? = some n) : sp t k = ownE n.out ++ n.kids.flatMap fun x => (sp t x.2).map fun e => (x.1 :: e.1, e.2) := by
  obtain ⟨f, es, h1, h2, h3⟩ := c k (List.getElem?_eq_some_iff.mp hn).1
  exact spell_up hn h3.tall 8 h1
theorem sp_len {t : Table} (c : Canon t) {k : Nat} (hk : k < t.length) : (sp t k).length = (cnts t).getD k 0 := spell_len c.low (c.ff.tall hk)
theorem behind_ne {es : List Entry} {s : Nat} (h : s ∈ firstSigns es) : behind es s ≠ [] := fun z => by
  rw [firsts_mem] at h
  obtain ⟨e, he, hh⟩ := List.mem_filterMap.mp h
  obtain ⟨l, d⟩ := e
  cases l with
  | nil => cases hh
  | cons a r =>
    have ha : a = s := Option.some.inj hh
    subst ha
    have : (r, d) ∈ behind es a := by
      unfold behind
      exact List.mem_filterMap.mpr ⟨_, he, by simp⟩
    rw [z] at this
    cases this
theorem Full.told {t : Table} : ∀ {f k : Nat} {es : List Entry}, Full t f k es → shortBy f es → es ≠ [] → spellOut t f k ≠ []
  | 0, k, es, ⟨n, h1, h2, h3, h4⟩, hs, hne => by
    rw [spell_zero h1, h2]
    cases es with
    | nil => exact absurd rfl hne
    | cons e r =>
      have : e.1 = [] := List.length_eq_zero_iff.mp (Nat.le_zero.mp (hs e (List.mem_cons_self ..)))
      have : endsHere (e :: r) = some e.2 := by
        unfold endsHere
        rw [List.find?_cons_of_pos (p := fun e : Entry => e.1.isEmpty) (by rw [this]; rfl)]
        rfl
      rw [this]
      simp [ownE]
  | f + 1, k, es, ⟨n, h1, h2, h3, h4⟩, hs, hne => by
    rw [spell_succ h1]
    cases hk : n.kids with
    | nil =>
      rw [hk] at h3
      have h3 : [] = firstSigns es := h3
      cases es with
      | nil => exact absurd rfl hne
      | cons e r =>
        have hs1 : e.1 = [] := by
          cases he : e.1 with
          | nil => rfl
          | cons a l =>
            have : a ∈ firstSigns (e :: r) := by
              rw [firsts_mem]
              exact List.mem_filterMap.mpr ⟨e, List.mem_cons_self .., by unfold headOf; rw [he]; rfl⟩
            rw [← h3] at this
            cases this
        have : endsHere (e :: r) = some e.2 := by
          unfold endsHere
          rw [List.find?_cons_of_pos (p := fun e : Entry => e.1.isEmpty) (by rw [hs1]; rfl)]
          rfl
        rw [h2, this]
        simp [ownE]
    | cons x l =>
      have hx : x ∈ n.kids := by rw [hk]; exact List.mem_cons_self ..
      have hsg : x.1 ∈ firstSigns es := by rw [← h3]; exact List.mem_map.mpr ⟨x, hx, rfl⟩
      have := (h4 x hx).told (behind_short hs) (behind_ne hsg)
      intro z
      rw [List.append_eq_nil_iff, List.flatMap_cons, List.append_eq_nil_iff, List.map_eq_nil_iff] at z
      exact this z.2.1
/-- kids of a packed table's node: signs in order, each tells something -/
theorem FF.kids {t : Table} (c : FF t) {k : Nat} {n : Node} (hn : t[k]? = some n) : n.kids.Pairwise (fun x y => x.1 < y.1) ∧ ∀ x ∈ n.kids, sp t x.2 ≠ [] := by
  obtain ⟨f, es, h1, h2, h3⟩ := c k (List.getElem?_eq_some_iff.mp hn).1
  cases f with
  | zero =>
    obtain ⟨m, e1, e2, e3, e4⟩ := h3
    rw [hn] at e1
    have e : n = m := Option.some.inj e1
    subst e
    rw [e4]
    exact ⟨.nil, fun x hx => by cases hx⟩
  | succ f =>
    obtain ⟨m, e1, e2, e3, e4⟩ := h3
    rw [hn] at e1
    have e : n = m := Option.some.inj e1
    subst e
    refine ⟨?_, fun x hx => ?_⟩
    · have := firsts_ris es
      rw [← e3, List.pairwise_map] at this
      exact this
    · have hsg : x.1 ∈ firstSigns es := by rw [← e3]; exact List.mem_map.mpr ⟨x, hx, rfl⟩
      have := (e4 x hx).told (behind_short h2) (behind_ne hsg)
      unfold sp
      rw [spell_tall (e4 x hx).tall (by omega)]
      exact this
theorem kids_inj (A B : Nat → List Entry) : ∀ (ka kb : List (Nat × Nat)), ka.Pairwise (fun x y => x.1 < y.1) → kb.Pairwise (fun x y => x.1 < y.1) → (∀ x ∈ ka, A x.2 ≠ []) → (∀ x ∈ kb, B x.2 ≠ []) →
    (ka.flatMap fun x => (A x.2).map fun e => ((x.1 :: e.1, e.2) : Entry)) = (kb.flatMap fun x => (B x.2).map fun e => (x.1 :: e.1, e.2)) → ka.map (fun x => (x.1, A x.2)) = kb.map fun x => (x.1, B x.2)
  | [], [], _, _, _, _, _ => rfl
  | [], y :: kb, _, _, _, hB, h => by
    rw [List.flatMap_nil, List.flatMap_cons] at h
    have := List.append_eq_nil_iff.mp h.symm
    rw [List.map_eq_nil_iff] at this
    exact absurd this.1 (hB y (List.mem_cons_self ..))
  | x :: ka, [], _, _, hA, _, h => by
    rw [List.flatMap_nil, List.flatMap_cons] at h
    have := List.append_eq_nil_iff.mp h
    rw [List.map_eq_nil_iff] at this
    exact absurd this.1 (hA x (List.mem_cons_self ..))
  | x :: ka, y :: kb, pa, pb, hA, hB, h => by
    rw [List.pairwise_cons] at pa pb
    rw [List.flatMap_cons, List.flatMap_cons] at h
    have hs : x.1 = y.1 := by
      have hh := congrArg List.head? h
      cases ha : A x.2 with
      | nil => exact absurd ha (hA x (List.mem_cons_self ..))
      | cons a ra =>
        cases hb : B y.2 with
        | nil => exact absurd hb (hB y (List.mem_cons_self ..))
        | cons b rb =>
          rw [ha, hb] at hh
          simp only [List.map_cons, List.cons_append, List.head?_cons, Option.some.injEq, Prod.mk.injEq, List.cons.injEq] at hh
          exact hh.1.1
    have hf : ∀ (C : Nat → List Entry) (s : Nat) (l : List Entry) (ks : List (Nat × Nat)), (∀ z ∈ ks, s < z.1) → ((l.map fun e => ((s :: e.1, e.2) : Entry)) ++ ks.flatMap fun x => (C x.2).map fun e => (x.1 :: e.1, e.2)).filter (fun e => e.1.head? == some s) = l.map fun e => (s :: e.1, e.2) := fun C s l ks hks => by
      rw [List.filter_append]
      have h1 : (l.map fun e => ((s :: e.1, e.2) : Entry)).filter (fun e => e.1.head? == some s) = l.map fun e => (s :: e.1, e.2) := by
        rw [List.filter_eq_self]
        intro e he
        obtain ⟨u, _, rfl⟩ := List.mem_map.mp he
        simp
      have h2 : (ks.flatMap fun x => (C x.2).map fun e => ((x.1 :: e.1, e.2) : Entry)).filter (fun e => e.1.head? == some s) = [] := by
        rw [List.filter_eq_nil_iff]
        intro e he
        obtain ⟨z, hz, he⟩ := List.mem_flatMap.mp he
        obtain ⟨u, _, rfl⟩ := List.mem_map.mp he
        have := hks z hz
        simp
        omega
      rw [h1, h2, List.append_nil]
    have h1 := congrArg (List.filter fun e : Entry => e.1.head? == some x.1) h
    rw [hf A x.1 _ ka pa.1] at h1
    rw [← hs] at h1 h
    rw [hf B x.1 _ kb (by rw [hs]; exact pb.1)] at h1
    have hinj : ∀ a b : Entry, ((x.1 :: a.1, a.2) : Entry) = (x.1 :: b.1, b.2) → a = b := fun a b z => by
      have z1 := Prod.mk.inj z
      exact Prod.ext (List.cons.inj z1.1).2 z1.2
    have hAB : A x.2 = B y.2 := (List.map_inj_right (fun a b z => hinj a b z)).mp h1
    rw [hAB] at h
    have h3 := List.append_cancel_left h
    rw [List.map_cons, List.map_cons, hAB, hs, kids_inj A B ka kb pa.2 pb.2 (fun z hz => hA z (List.mem_cons_of_mem _ hz)) (fun z hz => hB z (List.mem_cons_of_mem _ hz)) h3]
theorem own_inj {oa ob : Option (List Nat)} {ra rb : List Entry} (ha : ∀ e ∈ ra, e.1 ≠ []) (hb : ∀ e ∈ rb, e.1 ≠ []) (h : ownE oa ++ ra = ownE ob ++ rb) : oa = ob ∧ ra = rb := by
  cases oa with
  | none =>
    cases ob with
    | none => exact ⟨rfl, h⟩
    | some v =>
      have h : ra = ([], v) :: rb := h
      exact absurd rfl (ha ([], v) (by rw [h]; exact List.mem_cons_self ..))
  | some u =>
    cases ob with
    | none =>
      have h : ([], u) :: ra = rb := h
      exact absurd rfl (hb ([], u) (by rw [← h]; exact List.mem_cons_self ..))
    | some v =>
      have h : (([], u) : Entry) :: ra = ([], v) :: rb := h
      injection h with h1 h2
      exact ⟨by rw [(Prod.mk.inj h1).2], h2⟩
theorem flat_ne (A : Nat → List Entry) (ks : List (Nat × Nat)) : ∀ e ∈ ks.flatMap fun x => (A x.2).map fun e => ((x.1 :: e.1, e.2) : Entry), e.1 ≠ [] := fun e he => by
  obtain ⟨z, hz, he⟩ := List.mem_flatMap.mp he
  obtain ⟨u, _, rfl⟩ := List.mem_map.mp he
  simp
/-- nodes that tell the same have the same digits, and ways by the same signs to nodes that tell the same -/
theorem sp_inj {a b : Table} (ca : FF a) (cb : FF b) {i j : Nat} {n m : Node} (hn : a[i]? = some n) (hm : b[j]? = some m) (h : sp a i = sp b j) : n.out = m.out ∧ n.kids.map (fun x => (x.1, sp a x.2)) = m.kids.map fun x => (x.1, sp b x.2) := by
  rw [sp_eq ca hn, sp_eq cb hm] at h
  obtain ⟨h1, h2⟩ := own_inj (flat_ne _ _) (flat_ne _ _) h
  exact ⟨h1, kids_inj _ _ _ _ (ca.kids hn).1 (cb.kids hm).1 (ca.kids hn).2 (cb.kids hm).2 h2⟩
theorem sp_uniq {t : Table} (c : Canon t) : ∀ (i j : Nat), i < t.length → j < t.length → sp t i = sp t j → i = j
  | i, j, hi, hj, h => by
    have hn := List.getElem?_eq_getElem hi
    have hm := List.getElem?_eq_getElem hj
    obtain ⟨h1, h2⟩ := sp_inj c.ff c.ff hn hm h
    have hk : t[i].kids = t[j].kids := by
      have hl : t[i].kids.length = t[j].kids.length := by
        have := congrArg List.length h2
        rw [List.length_map, List.length_map] at this
        exact this
      refine List.ext_getElem hl fun q g1 g2 => ?_
      have hq := congrArg (fun l => l[q]?) h2
      simp only [List.getElem?_map, List.getElem?_eq_getElem g1, List.getElem?_eq_getElem g2, Option.map_some, Option.some.injEq, Prod.mk.injEq] at hq
      have k1 := c.low i _ hn _ (List.getElem_mem g1)
      have k2 := c.low j _ hm _ (List.getElem_mem g2)
      exact Prod.ext hq.1 (sp_uniq c (t[i].kids[q]).2 (t[j].kids[q]).2 (by omega) (by omega) hq.2)
    have e : t[i] = t[j] := by
      cases ha : t[i] with
      | mk o ks =>
        cases hb : t[j] with
        | mk o' ks' =>
          rw [ha, hb] at h1 hk
          rw [show o = o' from h1, show ks = ks' from hk]
    rcases Nat.lt_trichotomy i j with z | z | z
    · exact absurd e (List.pairwise_iff_getElem.mp c.nd i j hi hj z)
    · exact z
    · exact absurd e.symm (List.pairwise_iff_getElem.mp c.nd j i hj hi z)
termination_by i => i
end Mx
set_option Elab.async false
set_option linter.all false
set_option maxRecDepth 100000
/-! ## how many nodes of one packed table another has -/
namespace Mx
open Vahypd (Entry Node Table spellOut kept)
/-- the node of b that tells what node i of a tells -/
def twin (a b : Table) (i : Nat) : Option Nat := (List.range b.length).find? fun j => sp b j == sp a i
theorem twin_iff {a b : Table} (cb : Canon b) {i j : Nat} : twin a b i = some j ↔ j < b.length ∧ sp b j = sp a i := by
  unfold twin
  constructor
  · intro h
    have h1 := List.mem_of_find?_eq_some h
    have h2 := List.find?_some h
    exact ⟨List.mem_range.mp h1, eq_of_beq h2⟩
  · rintro ⟨h1, h2⟩
    cases hf : (List.range b.length).find? (fun j => sp b j == sp a i) with
    | none =>
      have := List.find?_eq_none.mp hf j (List.mem_range.mpr h1)
      rw [h2] at this
      simp at this
    | some j' =>
      have g1 := List.mem_range.mp (List.mem_of_find?_eq_some hf)
      have g2 : sp b j' = sp a i := by
        have := List.find?_some hf
        exact eq_of_beq this
      rw [sp_uniq cb j' j g1 h1 (g2.trans h2.symm)]
theorem twin_none {a b : Table} {i : Nat} : twin a b i = none ↔ ∀ j, j < b.length → sp b j ≠ sp a i := by
  unfold twin
  rw [List.find?_eq_none]
  constructor
  · intro h j hj e
    have := h j (List.mem_range.mpr hj)
    rw [e] at this
    simp at this
  · intro h j hj
    have := h j (List.mem_range.mp hj)
    simpa using this
/-- ways by the numbers of a map -/
def thru (m : List (Nat × Nat)) : List (Nat × Nat) → Option (List (Nat × Nat))
  | [] => some []
  | x :: r => match m.lookup x.2 with
    | none => none
    | some j => (thru m r).map ((x.1, j) :: ·)
def keepStep (b : Table) (m : List (Nat × Nat)) (x : Node × Nat) : List (Nat × Nat) := match thru m x.1.kids with
  | none => m
  | some ks => match b.findIdx? (fun n => n == ⟨x.1.out, ks⟩) with
    | none => m
    | some j => m ++ [(x.2, j)]
/-- what has been kept of the first i nodes -/
def kmap (a b : Table) (i : Nat) : List (Nat × Nat) := (List.range i).filterMap fun k => (twin a b k).map fun j => (k, j)
theorem kmap_succ (a b : Table) (i : Nat) : kmap a b (i + 1) = kmap a b i ++ (match twin a b i with | none => [] | some j => [(i, j)]) := by
  unfold kmap
  rw [List.range_succ, List.filterMap_append]
  congr 1
  cases h : twin a b i with
  | none => simp [h]
  | some j => simp [h]
theorem kmap_look (a b : Table) : ∀ (i k : Nat), (kmap a b i).lookup k = if k < i then twin a b k else none
  | 0, k => by simp [kmap]
  | i + 1, k => by
    rw [kmap_succ, List.lookup_append, kmap_look a b i k]
    by_cases h : k < i
    · rw [if_pos h, if_pos (by omega)]
      cases ht : twin a b k with
      | some j => rfl
      | none =>
        cases hi : twin a b i with
        | none => rfl
        | some j =>
          have : (k == i) = false := by rw [beq_eq_false_iff_ne]; omega
          simp [this, List.lookup]
    · rw [if_neg h]
      by_cases h2 : k = i
      · subst h2
        rw [if_pos (by omega)]
        cases hi : twin a b k with
        | none => rfl
        | some j => simp [List.lookup]
      · rw [if_neg (by omega)]
        cases hi : twin a b i with
        | none => rfl
        | some j =>
          have : (k == i) = false := by rw [beq_eq_false_iff_ne]; omega
          simp [this, List.lookup]
theorem kmap_len (a b : Table) : ∀ i, (kmap a b i).length = ((List.range i).filter fun k => (twin a b k).isSome).length
  | 0 => rfl
  | i + 1 => by
    rw [kmap_succ, List.length_append, kmap_len a b i, List.range_succ, List.filter_append, List.length_append]
    congr 1
    cases h : twin a b i <;> simp [h]
theorem thru_none {m : List (Nat × Nat)} : ∀ {ks : List (Nat × Nat)}, thru m ks = none ↔ ∃ x ∈ ks, m.lookup x.2 = none
  | [] => by simp [thru]
  | x :: r => by
    unfold thru
    cases h : m.lookup x.2 with
    | none => exact ⟨fun _ => ⟨x, List.mem_cons_self .., h⟩, fun _ => rfl⟩
    | some j =>
      dsimp only
      rw [Option.map_eq_none_iff, thru_none]
      constructor
      · rintro ⟨y, hy, e⟩
        exact ⟨y, List.mem_cons_of_mem _ hy, e⟩
      · rintro ⟨y, hy, e⟩
        rcases List.mem_cons.mp hy with z | z
        · rw [z, h] at e
          cases e
        · exact ⟨y, z, e⟩
theorem thru_some {m : List (Nat × Nat)} : ∀ {ks js : List (Nat × Nat)}, thru m ks = some js ↔ ks.map (fun x => (x.1, m.lookup x.2)) = js.map fun y => (y.1, some y.2)
  | [], js => by
    cases js <;> simp [thru]
  | x :: r, [] => by
    unfold thru
    cases h : m.lookup x.2 <;> simp [h]
  | x :: r, y :: js => by
    unfold thru
    cases h : m.lookup x.2 with
    | none => simp [h]
    | some j =>
      simp only [Option.map_eq_some_iff, List.map_cons, List.cons.injEq, h, Prod.mk.injEq, Option.some.injEq]
      constructor
      · rintro ⟨a, ha, rfl, rfl⟩
        exact ⟨⟨rfl, rfl⟩, thru_some.mp ha⟩
      · rintro ⟨⟨h1, h2⟩, h3⟩
        exact ⟨js, thru_some.mpr h3, Prod.ext h1 h2, rfl⟩
theorem map_at {α β : Type} {f : α → β} {l : List α} {i : Nat} {b : β} (h : (l.map f)[i]? = some b) : ∃ a, l[i]? = some a ∧ f a = b := by
  rw [List.getElem?_map] at h
  cases ha : l[i]? with
  | none => rw [ha] at h; cases h
  | some a => rw [ha] at h; exact ⟨a, rfl, Option.some.inj h⟩
theorem keep_step {a b : Table} (ca : Canon a) (cb : Canon b) {i : Nat} {n : Node} (hn : a[i]? = some n) : keepStep b (kmap a b i) (n, i) = kmap a b (i + 1) := by
  have hlow := ca.low i n hn
  have hl : ∀ x ∈ n.kids, (kmap a b i).lookup x.2 = twin a b x.2 := fun x hx => by rw [kmap_look, if_pos (hlow x hx)]
  rw [kmap_succ]
  unfold keepStep
  dsimp only
  -- a twin of i has kids that are twins of i's kids
  have hkids : ∀ j m, b[j]? = some m → sp b j = sp a i → m.out = n.out ∧ n.kids.map (fun x => (x.1, twin a b x.2)) = m.kids.map fun y => (y.1, some y.2) := fun j m hm he => by
    obtain ⟨h1, h2⟩ := sp_inj cb.ff ca.ff hm hn he
    refine ⟨h1, ?_⟩
    refine List.ext_getElem? fun q => ?_
    have hq := congrArg (fun l => l[q]?) h2
    simp only [List.getElem?_map] at hq ⊢
    cases hx : n.kids[q]? with
    | none =>
      rw [hx] at hq
      cases hy : m.kids[q]? with
      | none => rfl
      | some y => rw [hy] at hq; cases hq
    | some x =>
      rw [hx] at hq
      cases hy : m.kids[q]? with
      | none => rw [hy] at hq; cases hq
      | some y =>
        rw [hy] at hq
        simp only [Option.map_some, Option.some.injEq, Prod.mk.injEq] at hq ⊢
        have hlt := cb.low j m hm y (List.mem_of_getElem? hy)
        have hjl := (List.getElem?_eq_some_iff.mp hm).1
        exact ⟨hq.1.symm, (twin_iff cb).mpr ⟨by omega, hq.2⟩⟩
  cases hth : thru (kmap a b i) n.kids with
  | none =>
    dsimp only
    obtain ⟨x, hx, hxn⟩ := thru_none.mp hth
    rw [hl x hx] at hxn
    cases ht : twin a b i with
    | none => simp
    | some j =>
      obtain ⟨hj, he⟩ := (twin_iff cb).mp ht
      obtain ⟨_, h2⟩ := hkids j _ (List.getElem?_eq_getElem hj) he
      have : (x.1, twin a b x.2) ∈ n.kids.map (fun x => (x.1, twin a b x.2)) := List.mem_map.mpr ⟨x, hx, rfl⟩
      rw [h2] at this
      obtain ⟨y, _, hy⟩ := List.mem_map.mp this
      have := (Prod.mk.inj hy).2
      rw [hxn] at this
      cases this
  | some ks =>
    dsimp only
    have hks := thru_some.mp hth
    have hks : n.kids.map (fun x => (x.1, twin a b x.2)) = ks.map fun y => (y.1, some y.2) := by
      rw [← hks]
      exact List.map_congr_left fun x hx => by rw [hl x hx]
    have hsame : ∀ j m, b[j]? = some m → sp b j = sp a i → m = ⟨n.out, ks⟩ := fun j m hm he => by
      obtain ⟨h1, h2⟩ := hkids j m hm he
      rw [hks] at h2
      have hk : ks = m.kids := by
        refine (List.map_inj_right (f := fun y : Nat × Nat => (y.1, some y.2)) fun x y e => ?_).mp h2
        have e1 := Prod.mk.inj e
        exact Prod.ext e1.1 (Option.some.inj e1.2)
      cases m with
      | mk o ks' => rw [show o = n.out from h1, hk]
    cases hf : b.findIdx? (fun m => m == ⟨n.out, ks⟩) with
    | none =>
      dsimp only
      cases ht : twin a b i with
      | none => simp
      | some j =>
        obtain ⟨hj, he⟩ := (twin_iff cb).mp ht
        have := hsame j _ (List.getElem?_eq_getElem hj) he
        rw [List.findIdx?_eq_none_iff] at hf
        have h2 := hf _ (List.getElem_mem hj)
        rw [this] at h2
        simp at h2
    | some j =>
      dsimp only
      obtain ⟨hj, he, _⟩ := List.findIdx?_eq_some_iff_getElem.mp hf
      have he : b[j] = ⟨n.out, ks⟩ := eq_of_beq he
      have hbj : b[j]? = some ⟨n.out, ks⟩ := by rw [List.getElem?_eq_getElem hj, he]
      have hsp : sp b j = sp a i := by
        rw [sp_eq cb.ff hbj, sp_eq ca.ff hn]
        congr 1
        have : ∀ (ka kb : List (Nat × Nat)), ka.map (fun x => (x.1, twin a b x.2)) = kb.map (fun y => (y.1, some y.2)) → (kb.flatMap fun x => (sp b x.2).map fun e => ((x.1 :: e.1, e.2) : Entry)) = ka.flatMap fun x => (sp a x.2).map fun e => (x.1 :: e.1, e.2) := by
          intro ka
          induction ka with
          | nil =>
            intro kb h
            cases kb with
            | nil => rfl
            | cons y kb => cases h
          | cons x ka ih =>
            intro kb h
            cases kb with
            | nil => cases h
            | cons y kb =>
              rw [List.map_cons, List.map_cons] at h
              injection h with h1 h2
              obtain ⟨e1, e2⟩ := Prod.mk.inj h1
              rw [List.flatMap_cons, List.flatMap_cons, ih kb h2, ((twin_iff cb).mp e2).2, e1]
        exact this n.kids ks hks
      rw [(twin_iff cb).mpr ⟨hj, hsp⟩]
theorem findIdx_self {t : Table} (hd : t.Nodup) {i : Nat} {n : Node} (hn : t[i]? = some n) : t.findIdx (fun m => m == n) = i := by
  obtain ⟨hi, he⟩ := List.getElem?_eq_some_iff.mp hn
  have h1 : t.findIdx (fun m => m == n) < t.length := List.findIdx_lt_length_of_exists ⟨n, List.mem_of_getElem? hn, by simp⟩
  have h2 : (t[t.findIdx (fun m => m == n)] == n) = true := List.findIdx_getElem (p := fun m => m == n) (w := h1)
  have h3 : t[t.findIdx (fun m => m == n)] = t[i] := by rw [he]; exact eq_of_beq h2
  rcases Nat.lt_trichotomy (t.findIdx (fun m => m == n)) i with z | z | z
  · exact absurd h3 (List.pairwise_iff_getElem.mp hd _ _ h1 hi z)
  · exact z
  · exact absurd h3.symm (List.pairwise_iff_getElem.mp hd _ _ hi h1 z)
theorem told_map {t : Table} (hd : t.Nodup) : t.map (fun n => spellOut t 8 (t.findIdx fun m => m == n)) = (List.range t.length).map (sp t) := by
  refine List.ext_getElem (by simp) fun i h1 h2 => ?_
  rw [List.getElem_map, List.getElem_map, List.getElem_range]
  have hi : i < t.length := by simpa using h1
  rw [findIdx_self hd (List.getElem?_eq_getElem hi)]
  rfl
theorem kept_eq {a b : Table} (ca : Canon a) (cb : Canon b) : kept a b = (kmap a b a.length).length := by
  unfold kept
  dsimp only
  rw [told_map ca.nd, told_map cb.nd, kmap_len, List.filter_map, List.length_map]
  congr 1
  refine List.filter_congr fun i _ => ?_
  show ((List.range b.length).map (sp b)).contains (sp a i) = _
  rw [Bool.eq_iff_iff, List.contains_iff_mem, List.mem_map, Option.isSome_iff_exists]
  constructor
  · rintro ⟨j, hj, e⟩
    exact ⟨j, (twin_iff cb).mpr ⟨List.mem_range.mp hj, e⟩⟩
  · rintro ⟨j, h⟩
    obtain ⟨h1, h2⟩ := (twin_iff cb).mp h
    exact ⟨j, List.mem_range.mpr h1, h2⟩
end Mx
set_option Elab.async false
set_option linter.all false
set_option maxRecDepth 100000
set_option maxHeartbeats 2000000
namespace Pt
open PySem PySem.Spec PyProof.Rows L2 Evl
open VahypBase (Bytes)
open Vahypd (Node Table)
section
variable {P : Program} {w : World} {K : PySem.W.Frag} {mg : Str → Option Value} {base : Heap} {X : Cx}
variable {σ : L2.St} {H H' : Hp} {ta tb tc te tl : TE} {t : TT} {x y z v : V} {C : Addr} {D : Ends} {tz : TS}
/-! ### nodes_along, of a list and of a tuple -/
theorem kidV_at {tab : Table} {k s : Nat} {n : Node} (h : tab[k]? = some n) : kidV n s = (match Vahypd.kidAt tab k s with | none => V.non | some j => .int (j : Int)) := by
  unfold kidV Vahypd.kidAt Vahypd.nodeAt
  rw [h]
  simp only [Option.getD_some]
  cases n.kids.find? (fun x => x.1 == s) <;> rfl
theorem nodeAt_of {tab : Table} {k : Nat} {n : Node} (h : tab[k]? = some n) : Vahypd.nodeAt tab k = n := by
  unfold Vahypd.nodeAt
  rw [h]
  rfl
theorem nat_at {l : List Nat} {i : Nat} {x : V} (h : (nv l)[i]? = some x) : ∃ s : Nat, l[i]? = some s ∧ x = .int (s : Int) := by
  unfold nv at h
  rw [List.getElem?_map] at h
  cases hc : l[i]? with
  | none => rw [hc] at h; cases h
  | some b => rw [hc] at h; exact ⟨b, rfl, (Option.some.inj h).symm⟩
theorem end_at (t : Table) (k : Nat) (l : List Nat) : atI (nv (Vahypd.nodesBy t k l)) (-1) = some (.int ((Mx.endOf t k l : Nat) : Int)) := by
  obtain ⟨y, h1, h2⟩ := last_at (Vahypd.nodesBy t k l) (Mx.nodes_ne t k l)
  rw [h2]
  unfold Mx.endOf
  rw [h1]
  rfl
theorem ev_way {T : Tx K mg} {o : Addr} {n : Node} {s : Nat} {E : XK} (ho : Ev ta σ H (.ref o)) (hs : Ev tb σ H (.int (s : Int))) (hN : NodeAt T H o n) : Ev (tMeth T.cNode.C "way_by" (spWayBy T) [] E ta (tCons tb tNil)) σ H (kidV n s) := fun H1 e Q q => by
  obtain ⟨dx, u, wa, h1, h2, h3⟩ := hN
  exact t_meth (a := o) (ho.mono e) (e _ _ h1) (by rfl) (ea_cons (hs.mono e) ea_nil) fun H2 e2 => ⟨kidV n s, ⟨o, n, s, rfl, ⟨dx, u, wa, (e.trans e2) _ _ h1, h2.mono (e.trans e2), h3.mono (e.trans e2)⟩, rfl⟩, fun H3 e3 => q H3 (e2.trans e3)⟩
theorem ev_atI {T : Tx K mg} {i : Nat} {t dt nl o : Addr} {k0 : Nat} {refs : List V} {k : Nat} (hi : σ[i]? = some (some (.ref t))) (hj : Ev ta σ H (.int (k : Int))) (h : H t = some (.ins T.cTable.C dt (tbF nl k0))) (hl : SqL K H nl refs) (ho : refs[k]? = some (.ref o)) : Ev (tOp (rIxL K) (tFld K (tVar i) "nodes") ta) σ H (.ref o) :=
  ev_op (ev_nodes hi h) hj (rv_ixL hl (atI_nat ho))
theorem nodes_pre (t : Table) (m : List Nat) : ∀ (l : List Nat) (k : Nat), ∀ j ∈ Vahypd.nodesBy t k l, j ∈ Vahypd.nodesBy t k (l ++ m)
  | [], k, j, hj => by
    rw [show Vahypd.nodesBy t k [] = [k] from rfl, List.mem_singleton] at hj
    rw [hj]
    cases m with
    | nil => exact List.mem_cons_self ..
    | cons s r => exact List.mem_cons_self ..
  | s :: r, k, j, hj => by
    rw [List.cons_append, Mx.nodes_cons]
    rw [Mx.nodes_cons] at hj
    rcases List.mem_cons.mp hj with q | q
    · rw [q]; exact List.mem_cons_self ..
    · cases hk : Vahypd.kidAt t k s with
      | none => rw [hk] at q; cases q
      | some j2 =>
        rw [hk] at q
        exact List.mem_cons_of_mem _ (nodes_pre t m r j2 j q)
def spAlong (S : Hp → Addr → List V → Prop) (T : Tx K mg) : Sp := fun vs H Q _ => ∃ (t a : Addr) (tk : Table × Nat) (z : List Nat), vs = [.ref t, .ref a] ∧ TabAt T H t tk ∧ S H a (nv z) ∧ z.length ≤ 1000 ∧ (∀ j ∈ Vahypd.nodesBy tk.1 tk.2 z, j < tk.1.length) ∧ RetL (nv (Vahypd.nodesBy tk.1 tk.2 z)) H Q
theorem ok_nodes_alongL (T : Tx K mg) : FnOk P w K mg base CX0 2 T.nodes_along.f T.nodes_along.fd ["table", "signs"] (spAlong (SqL K) T) := by
  have GW : FnOk P w K mg base CX0 1 _ _ _ _ := ok_way_by T
  refine T.nodes_along.F.ok scNodesAlong (fun vs H Q E h => ?_) (fun cdv A outer s H vs Q E hr h => ⟨_,
    pss_cons (ps_set (i := 2) scNodesAlong.nd rfl (.inl rfl) (pe_lst (pa_cons (pe_fld (pv 0) rfl) pa_nil)))
    (pss_cons (ps_for PassesOwn.never rfl (pi_list (pv 1)) (pg_name (i := 3) scNodesAlong.nd rfl (.inl rfl))
      (pss_cons (ps_set (i := 4) scNodesAlong.nd rfl (.inl rfl) (pe_meth (pe_ix ix_list (pe_fld (pv 0) rfl) (pe_ix ix_list (pv 2) (pe_un un_neg pe_int) (fun _ _ => rfl)) (fun _ _ => rfl)) T.cNode.cl T.mNode_way_by.M GW hr (bdNodeWayBy T.mNode_way_by.F) .nil pass0 (pa_cons (pv 3) pa_nil)))
      (pss_cons (ps_if (pt_cmpR op_isN (pv 4) pe_non (nomark _)) (pss_one (ps_ret (pv 2))) pss_nil)
      (pss_one (ps_expr (pe_bm PySem.F.plainAttrs_list PySem.F.slot_list_append PySem.F.type_list_append mt_append (pv 2) (pa_cons (pv 4) pa_nil)))))))
    (pss_one (ps_ret (pv 2)))), ?_⟩)
  · obtain ⟨t, a, tk, z, rfl, _⟩ := h
    rfl
  obtain ⟨t, a, tk, z, rfl, ⟨dt, nl, refs, h1, h2, h3⟩, hS, hz, hin, k⟩ := h
  refine q_asgL (el_lst (vs := nv [tk.2]) (ea_cons (ev_fld (ev_var rfl) h1 T.cTable.cl T.nTable_first (v := .int (tk.2 : Int)) (by rfl)) ea_nil) (by show 1 ≤ 100000; decide)) fun rl H1 hrl e1 hl1 => ?_
  obtain ⟨G1, g1, eG1, rfl⟩ := ex_split0 hrl e1 hl1
  refine q_forLn (K := K) (a := a) (xs := nv z) (ev_var rfl) (ex_l (eG1.trans (ex_upd g1)) hS) (fun i σ' H' => ∃ (G : Hp) (u3 u4 : Option V), σ' = [some (.ref t), some (.ref a), some (.ref rl), u3, u4] ∧ G rl = none ∧ Ex H G ∧ H' = upd G rl (.lst (nv (Vahypd.nodesBy tk.1 tk.2 (z.take i)))) ∧ (i ≤ z.length → (Vahypd.nodesBy tk.1 tk.2 (z.take i)).length = i + 1))
    (fun H3 e3 => ?_) (fun i σ' H' _ pp => ?_) ?_ ?_
  · obtain ⟨G3, g3, eG3, rfl⟩ := ex_split g1 e3
    exact ⟨G3, none, none, rfl, g3, eG1.trans eG3, rfl, fun _ => rfl⟩
  · obtain ⟨G, u3, u4, rfl, g, e, rfl, _⟩ := pp
    exact ex_l (e.trans (ex_upd g)) hS
  · rintro i x σ' H' hi ⟨G, u3, u4, rfl, g, e, rfl, hlen⟩
    obtain ⟨sg, hsg, rfl⟩ := nat_at hi
    have hil : i < z.length := (List.getElem?_eq_some_iff.mp hsg).1
    have hlen := hlen (by omega)
    have hzz : z = z.take i ++ sg :: z.drop (i + 1) := by
      conv => lhs; rw [← List.take_append_drop i z, drop_of hsg]
    have htl : (z.take i).length = i := by rw [List.length_take]; omega
    have hst : z.take (i + 1) = z.take i ++ [sg] := by rw [List.take_add_one, hsg]; rfl
    have hnn := Mx.nodes_snoc tk.1 (z.take i) tk.2 sg (by rw [hlen, htl])
    have hmem : Mx.endOf tk.1 tk.2 (z.take i) ∈ Vahypd.nodesBy tk.1 tk.2 z := by
      have := nodes_pre tk.1 (sg :: z.drop (i + 1)) (z.take i) tk.2 _ (Mx.endOf_mem _ _ _)
      rw [← hzz] at this
      exact this
    have hlt := hin _ hmem
    obtain ⟨kk, hkk⟩ : ∃ kk, kk = Mx.endOf tk.1 tk.2 (z.take i) := ⟨_, rfl⟩
    have hend := end_at tk.1 tk.2 (z.take i)
    have hstop := Mx.nodes_stop tk.1 (z.take i) tk.2 sg (z.drop (i + 1)) (by rw [hlen, htl])
    rw [← hkk] at hlt hend hnn hstop
    have hn := List.getElem?_eq_getElem hlt
    obtain ⟨o, hro, hN⟩ := h3.2 kk _ hn
    have eU := e.trans (ex_upd (o := .lst (nv (Vahypd.nodesBy tk.1 tk.2 (z.take i)))) g)
    refine q_asg (v := kidV tk.1[kk] sg) (ev_way (ev_atI rfl (ev_op (ev_var (v := .ref rl) rfl) ev_neg1 (rv_ixL (sq_of upd_same) hend)) (eU _ _ h1) (ex_l eU h2) hro) (ev_var rfl) (hN.mono eU)) fun H3 e3 => ?_
    rw [kidV_at hn]
    cases hkid : Vahypd.kidAt tk.1 kk sg with
    | none =>
      refine q_when (b := true) (et_test (ev_op (ev_var (v := .non) rfl) ev_c rv_isN)) (fun _ H4 e4 => s_ret (ev_var (v := .ref rl) rfl) fun H5 e5 => ?_) (fun z => nomatch z)
      have e35 := (e3.trans e4).trans e5
      refine k rl H5 hrl (eU.trans e35) ?_
      rw [hzz, hstop hkid]
      exact e35 _ _ upd_same
    | some j =>
      rw [hkid] at hnn
      refine q_when (b := false) (et_is (et_test (ev_op (ev_var (v := .int (j : Int)) rfl) ev_c rv_isN)) (by simp)) (fun z => nomatch z) (fun _ H4 e4 => ?_)
      refine s_app ((e3.trans e4) _ _ upd_same) (ev_var rfl) (ev_var rfl) (by rw [nv_len, hlen]; omega) fun H5 e5 => ?_
      obtain ⟨G5, g5, eG5, rfl⟩ := ex_split g ((e3.trans e4).trans e5)
      refine ⟨G5, _, _, rfl, g5, e.trans eG5, ?_, fun _ => ?_⟩
      · rw [upd_upd, hst, hnn, nv_app]
        rfl
      · rw [hst, hnn, List.length_append, hlen]
        rfl
  · rintro σ' H' ⟨G, u3, u4, rfl, g, e, rfl, hlen⟩
    rw [nv_len, List.take_length] at *
    refine s_ret (ev_var rfl) fun H3 e3 => k rl H3 hrl ((e.trans (ex_upd g)).trans e3) ?_
    exact e3 _ _ upd_same
theorem ok_nodes_alongT (T : Tx K mg) : FnOk P w K mg base CX0 2 T.nodes_along.f T.nodes_along.fd ["table", "signs"] (spAlong (SqT K) T) := by
  have GW : FnOk P w K mg base CX0 1 _ _ _ _ := ok_way_by T
  refine T.nodes_along.F.ok scNodesAlong (fun vs H Q E h => ?_) (fun cdv A outer s H vs Q E hr h => ⟨_,
    pss_cons (ps_set (i := 2) scNodesAlong.nd rfl (.inl rfl) (pe_lst (pa_cons (pe_fld (pv 0) rfl) pa_nil)))
    (pss_cons (ps_for PassesOwn.never rfl (pi_tup (pv 1)) (pg_name (i := 3) scNodesAlong.nd rfl (.inl rfl))
      (pss_cons (ps_set (i := 4) scNodesAlong.nd rfl (.inl rfl) (pe_meth (pe_ix ix_list (pe_fld (pv 0) rfl) (pe_ix ix_list (pv 2) (pe_un un_neg pe_int) (fun _ _ => rfl)) (fun _ _ => rfl)) T.cNode.cl T.mNode_way_by.M GW hr (bdNodeWayBy T.mNode_way_by.F) .nil pass0 (pa_cons (pv 3) pa_nil)))
      (pss_cons (ps_if (pt_cmpR op_isN (pv 4) pe_non (nomark _)) (pss_one (ps_ret (pv 2))) pss_nil)
      (pss_one (ps_expr (pe_bm PySem.F.plainAttrs_list PySem.F.slot_list_append PySem.F.type_list_append mt_append (pv 2) (pa_cons (pv 4) pa_nil)))))))
    (pss_one (ps_ret (pv 2)))), ?_⟩)
  · obtain ⟨t, a, tk, z, rfl, _⟩ := h
    rfl
  obtain ⟨t, a, tk, z, rfl, ⟨dt, nl, refs, h1, h2, h3⟩, hS, hz, hin, k⟩ := h
  refine q_asgL (el_lst (vs := nv [tk.2]) (ea_cons (ev_fld (ev_var rfl) h1 T.cTable.cl T.nTable_first (v := .int (tk.2 : Int)) (by rfl)) ea_nil) (by show 1 ≤ 100000; decide)) fun rl H1 hrl e1 hl1 => ?_
  obtain ⟨G1, g1, eG1, rfl⟩ := ex_split0 hrl e1 hl1
  refine q_forTn (K := K) (a := a) (xs := nv z) (ev_var rfl) (ex_t (eG1.trans (ex_upd g1)) hS) (fun i σ' H' => ∃ (G : Hp) (u3 u4 : Option V), σ' = [some (.ref t), some (.ref a), some (.ref rl), u3, u4] ∧ G rl = none ∧ Ex H G ∧ H' = upd G rl (.lst (nv (Vahypd.nodesBy tk.1 tk.2 (z.take i)))) ∧ (i ≤ z.length → (Vahypd.nodesBy tk.1 tk.2 (z.take i)).length = i + 1))
    (fun H3 e3 => ?_) (fun i σ' H' _ pp => ?_) ?_ ?_
  · obtain ⟨G3, g3, eG3, rfl⟩ := ex_split g1 e3
    exact ⟨G3, none, none, rfl, g3, eG1.trans eG3, rfl, fun _ => rfl⟩
  · obtain ⟨G, u3, u4, rfl, g, e, rfl, _⟩ := pp
    exact ex_t (e.trans (ex_upd g)) hS
  · rintro i x σ' H' hi ⟨G, u3, u4, rfl, g, e, rfl, hlen⟩
    obtain ⟨sg, hsg, rfl⟩ := nat_at hi
    have hil : i < z.length := (List.getElem?_eq_some_iff.mp hsg).1
    have hlen := hlen (by omega)
    have hzz : z = z.take i ++ sg :: z.drop (i + 1) := by
      conv => lhs; rw [← List.take_append_drop i z, drop_of hsg]
    have htl : (z.take i).length = i := by rw [List.length_take]; omega
    have hst : z.take (i + 1) = z.take i ++ [sg] := by rw [List.take_add_one, hsg]; rfl
    have hnn := Mx.nodes_snoc tk.1 (z.take i) tk.2 sg (by rw [hlen, htl])
    have hmem : Mx.endOf tk.1 tk.2 (z.take i) ∈ Vahypd.nodesBy tk.1 tk.2 z := by
      have := nodes_pre tk.1 (sg :: z.drop (i + 1)) (z.take i) tk.2 _ (Mx.endOf_mem _ _ _)
      rw [← hzz] at this
      exact this
    have hlt := hin _ hmem
    obtain ⟨kk, hkk⟩ : ∃ kk, kk = Mx.endOf tk.1 tk.2 (z.take i) := ⟨_, rfl⟩
    have hend := end_at tk.1 tk.2 (z.take i)
    have hstop := Mx.nodes_stop tk.1 (z.take i) tk.2 sg (z.drop (i + 1)) (by rw [hlen, htl])
    rw [← hkk] at hlt hend hnn hstop
    have hn := List.getElem?_eq_getElem hlt
    obtain ⟨o, hro, hN⟩ := h3.2 kk _ hn
    have eU := e.trans (ex_upd (o := .lst (nv (Vahypd.nodesBy tk.1 tk.2 (z.take i)))) g)
    refine q_asg (v := kidV tk.1[kk] sg) (ev_way (ev_atI rfl (ev_op (ev_var (v := .ref rl) rfl) ev_neg1 (rv_ixL (sq_of upd_same) hend)) (eU _ _ h1) (ex_l eU h2) hro) (ev_var rfl) (hN.mono eU)) fun H3 e3 => ?_
    rw [kidV_at hn]
    cases hkid : Vahypd.kidAt tk.1 kk sg with
    | none =>
      refine q_when (b := true) (et_test (ev_op (ev_var (v := .non) rfl) ev_c rv_isN)) (fun _ H4 e4 => s_ret (ev_var (v := .ref rl) rfl) fun H5 e5 => ?_) (fun z => nomatch z)
      have e35 := (e3.trans e4).trans e5
      refine k rl H5 hrl (eU.trans e35) ?_
      rw [hzz, hstop hkid]
      exact e35 _ _ upd_same
    | some j =>
      rw [hkid] at hnn
      refine q_when (b := false) (et_is (et_test (ev_op (ev_var (v := .int (j : Int)) rfl) ev_c rv_isN)) (by simp)) (fun z => nomatch z) (fun _ H4 e4 => ?_)
      refine s_app ((e3.trans e4) _ _ upd_same) (ev_var rfl) (ev_var rfl) (by rw [nv_len, hlen]; omega) fun H5 e5 => ?_
      obtain ⟨G5, g5, eG5, rfl⟩ := ex_split g ((e3.trans e4).trans e5)
      refine ⟨G5, _, _, rfl, g5, e.trans eG5, ?_, fun _ => ?_⟩
      · rw [upd_upd, hst, hnn, nv_app]
        rfl
      · rw [hst, hnn, List.length_append, hlen]
        rfl
  · rintro σ' H' ⟨G, u3, u4, rfl, g, e, rfl, hlen⟩
    rw [nv_len, List.take_length] at *
    refine s_ret (ev_var rfl) fun H3 e3 => k rl H3 hrl ((e.trans (ex_upd g)).trans e3) ?_
    exact e3 _ _ upd_same
end
end Pt
set_option Elab.async false
set_option linter.all false
set_option maxRecDepth 100000
set_option maxHeartbeats 2000000
namespace Pt
open PySem PySem.Spec PyProof.Rows L2 Evl
open VahypBase (Bytes)
open Vahypd (Node Table)
section
variable {P : Program} {w : World} {K : PySem.W.Frag} {mg : Str → Option Value} {base : Heap} {X : Cx}
variable {σ : L2.St} {H H' : Hp} {ta tb tc te tl : TE} {t : TT} {x y z v : V} {C : Addr} {D : Ends} {tz : TS}
/-! ### comprehensions over a tuple -/
theorem el_lcTp {a : Addr} {xs : List V} {tl : TE} {j : Nat} {vs : List Nat} (f : Nat → Bool) (v : Nat → V) (h : Ev tl σ H (.ref a)) (hx : SqT K H a xs) (hz : xs.length ≤ 40000) (hw : ∀ x, wipe ((wipe σ vs).set j (some x)) vs = wipe σ vs)
    (ht : ∀ (i : Nat) (x : V) H1, Ex H H1 → xs[i]? = some x → EvT t ((wipe σ vs).set j (some x)) H1 (f i)) (he : ∀ (i : Nat) (x : V) H1, Ex H H1 → xs[i]? = some x → f i = true → Ev te ((wipe σ vs).set j (some x)) H1 (v i)) :
    EvL (tLc (iTup K tl) (gName j) t te vs) σ H (given xs.length f v) := fun H0 e Q q => h H0 e _ fun H1 e1 => ⟨a, rfl, ⟨xs, ex_t (e.trans e1) hx⟩, fun Dl hD =>
  lc_tup (xs := xs) (Cw H1 f v Dl) ⟨hD, Ex.new hD, upd_same⟩ (fun i H' _ p => ex_t ((e.trans e1).trans p.2.1) hx) (fun i x H' hi p => ⟨hw x, cw_turn p (by have := (List.getElem?_eq_some_iff.mp hi).1; omega) (ht i x H1 (e.trans e1) hi) (fun hf => he i x H1 (e.trans e1) hi hf)⟩)
    (fun H' p => q Dl H' (fresh_back e1 p.1) (e1.trans p.2.1) p.2.2)⟩
theorem el_lcRT {α : Type} {a : Addr} {refs : List V} {es : List α} {R : Addr → α → Prop} {j : Nat} {vs : List Nat} (d : α) (p : α → Bool) (g : α → V)
    (h : Ev tl σ H (.ref a)) (hx : SqT K H a refs) (hR : Rep R refs es) (hz : es.length ≤ 40000) (hw : ∀ x, wipe ((wipe σ vs).set j (some x)) vs = wipe σ vs)
    (ht : ∀ (o : Addr) (e : α) H1, Ex H H1 → e ∈ es → R o e → EvT t ((wipe σ vs).set j (some (.ref o))) H1 (p e))
    (he : ∀ (o : Addr) (e : α) H1, Ex H H1 → e ∈ es → R o e → p e = true → Ev te ((wipe σ vs).set j (some (.ref o))) H1 (g e)) :
    EvL (tLc (iTup K tl) (gName j) t te vs) σ H ((es.filter p).map g) := by
  rw [← given_map2 d, ← hR.1]
  refine el_lcTp (fun i => p (es.getD i d)) (fun i => g (es.getD i d)) h hx (by rw [hR.1]; exact hz) hw (fun i x H1 e hi => ?_) (fun i x H1 e hi hf => ?_)
  · obtain ⟨en, o, h1, rfl, h2⟩ := hR.at hi
    rw [List.getD_eq_getElem?_getD, h1]
    exact ht o en H1 e (List.mem_of_getElem? h1) h2
  · obtain ⟨en, o, h1, rfl, h2⟩ := hR.at hi
    rw [List.getD_eq_getElem?_getD, h1] at hf ⊢
    exact he o en H1 e (List.mem_of_getElem? h1) h2 hf
/-! ### digits_at -/
theorem el_alongL {T : Tx K mg} {t a : Addr} {tk : Table × Nat} {z : List Nat} {E : XK} (hT : TabAt T H t tk) (hS : SqL K H a (nv z)) (hz : z.length ≤ 1000) (hin : ∀ j ∈ Vahypd.nodesBy tk.1 tk.2 z, j < tk.1.length) (ha : Ev ta σ H (.ref t)) (hb : Ev tb σ H (.ref a)) :
    EvL (tCall (spAlong (SqL K) T) [] E (tCons ta (tCons tb tNil))) σ H (nv (Vahypd.nodesBy tk.1 tk.2 z)) := fun H1 e Q q =>
  t_fn (ea_cons (ha.mono e) (ea_cons (hb.mono e) ea_nil)) fun H2 e2 => ⟨t, a, tk, z, rfl, hT.mono (e.trans e2), ex_l (e.trans e2) hS, hz, hin, fun p H3 hp e3 h3 => q p H3 (fresh_back e2 hp) (e2.trans e3) h3⟩
theorem el_alongT {T : Tx K mg} {t a : Addr} {tk : Table × Nat} {z : List Nat} {E : XK} (hT : TabAt T H t tk) (hS : SqT K H a (nv z)) (hz : z.length ≤ 1000) (hin : ∀ j ∈ Vahypd.nodesBy tk.1 tk.2 z, j < tk.1.length) (ha : Ev ta σ H (.ref t)) (hb : Ev tb σ H (.ref a)) :
    EvL (tCall (spAlong (SqT K) T) [] E (tCons ta (tCons tb tNil))) σ H (nv (Vahypd.nodesBy tk.1 tk.2 z)) := fun H1 e Q q =>
  t_fn (ea_cons (ha.mono e) (ea_cons (hb.mono e) ea_nil)) fun H2 e2 => ⟨t, a, tk, z, rfl, hT.mono (e.trans e2), ex_t (e.trans e2) hS, hz, hin, fun p H3 hp e3 h3 => q p H3 (fresh_back e2 hp) (e2.trans e3) h3⟩
def spDigAt (T : Tx K mg) : Sp := fun vs H Q _ => ∃ (t a : Addr) (tk : Table × Nat) (z : List Nat), vs = [.ref t, .ref a] ∧ TabAt T H t tk ∧ SqT K H a (nv z) ∧ z.length ≤ 1000 ∧ (∀ j ∈ Vahypd.nodesBy tk.1 tk.2 z, j < tk.1.length) ∧
  ∀ u H2, Ex H H2 → DigV K H2 u (Vahypd.findOut tk.1 tk.2 z) → Q u H2
theorem ok_digits_at (T : Tx K mg) : FnOk P w K mg base CX0 3 T.digits_at.f T.digits_at.fd ["table", "signs"] (spDigAt T) := by
  have GA : FnOk P w K mg base CX0 2 _ _ _ _ := ok_nodes_alongT T
  refine T.digits_at.F.ok scDigitsAt (fun vs H Q E h => ?_) (fun cdv A outer s H vs Q E hr h => ⟨_,
    pss_cons (ps_set (i := 2) scDigitsAt.nd rfl (.inl rfl) (pe_fn T.nodes_along GA hr (bdNodesAlong T.nodes_along.F) pass0 (pa_cons (pv 0) (pa_cons (pv 1) pa_nil))))
    (pss_cons (ps_if (pt_cmpR op_le (pe_len T.b_len (pv 2)) (pe_len T.b_len (pv 1)) (nomark _)) (pss_one (ps_ret pe_non)) pss_nil)
    (pss_one (ps_ret (pe_fld (pe_ix ix_list (pe_fld (pv 0) rfl) (pe_ix ix_list (pv 2) (pe_un un_neg pe_int) (fun _ _ => rfl)) (fun _ _ => rfl)) rfl)))), ?_⟩)
  · obtain ⟨t, a, tk, z, rfl, _⟩ := h
    rfl
  obtain ⟨t, a, tk, z, rfl, hT, hS, hz, hin, k⟩ := h
  have hT0 := hT
  obtain ⟨dt, nl, refs, h1, h2, h3⟩ := hT
  refine q_asgL (el_alongT hT0 hS hz hin (ev_var rfl) (ev_var rfl)) fun rl H1 hrl e1 hl1 => ?_
  rw [Mx.find_eq] at k
  refine q_when (b := decide ((Vahypd.nodesBy tk.1 tk.2 z).length ≤ z.length)) (et_is (et_test (ev_op (ev_len (ev_var rfl) (sq_of hl1)) (ev_lenT (ev_var rfl) (ex_t e1 hS)) rv_I0)) ?_) (fun hs H2 e2 => ?_) (fun hs H2 e2 => ?_)
  · rw [nv_len, nv_len, Bool.eq_iff_iff]
    simp only [decide_eq_true_eq]
    omega
  · rw [if_pos (of_decide_eq_true hs)] at k
    exact s_ret ev_c fun H3 e3 => k _ H3 ((e1.trans e2).trans e3) rfl
  · rw [if_neg (of_decide_eq_false hs)] at k
    have hlt := hin _ (Mx.endOf_mem tk.1 tk.2 z)
    have hn := List.getElem?_eq_getElem hlt
    obtain ⟨o, hro, dx, u, wa, g1, g2, g3⟩ := h3.2 _ _ hn
    rw [nodeAt_of hn] at k
    have e12 := e1.trans e2
    refine s_ret (ev_fld (ev_atI rfl (ev_op (ev_var (v := .ref rl) rfl) ev_neg1 (rv_ixL (sq_of (e2 _ _ hl1)) (end_at tk.1 tk.2 z))) (e12 _ _ h1) (ex_l e12 h2) hro) (e12 _ _ g1) T.cNode.cl T.nNode_digits (v := u) (by rfl)) fun H3 e3 => ?_
    exact k _ H3 (e12.trans e3) (g2.mono (e12.trans e3))
/-! ### counted_ends -/
theorem ev_ifI {tt : TT} {b : Bool} {m n : Int} (ht : EvT tt σ H b) (ha : Ev ta σ H (.int m)) (hb : Ev tb σ H (.int n)) : Ev (tIf tt ta tb) σ H (.int (if b = true then m else n)) := fun H1 e Q q =>
  ht H1 e _ fun H2 e2 => by
    cases b with
    | true => exact ha H2 (e.trans e2) Q fun H3 e3 => q H3 (e2.trans e3)
    | false => exact hb H2 (e.trans e2) Q fun H3 e3 => q H3 (e2.trans e3)
def spCounted (T : Tx K mg) : Sp := fun vs H Q _ => ∃ (t : Addr) (tk : Table × Nat), vs = [.ref t] ∧ TabAt T H t tk ∧ tk.1.length ≤ 1000 ∧ (∀ n ∈ tk.1, n.kids.length ≤ 40000) ∧ Mx.Low tk.1 ∧ RetL (nv (Mx.cnts tk.1)) H Q
theorem ok_counted_ends (T : Tx K mg) : FnOk P w K mg base CX0 1 T.counted_ends.f T.counted_ends.fd ["table"] (spCounted T) := by
  refine T.counted_ends.F.ok scCountedEnds (fun vs H Q E h => ?_) (fun cdv A outer s H vs Q E hr h => ⟨_,
    pss_cons (ps_set (i := 1) scCountedEnds.nd rfl (.inr rfl) (pe_lst pa_nil))
    (pss_cons (ps_for PassesOwn.never rfl (pi_list (pe_fld (pv 0) rfl)) (pg_name (i := 2) scCountedEnds.nd rfl (.inl rfl))
      (pss_cons (ps_set (i := 3) scCountedEnds.nd rfl (.inl rfl) (pe_ifExp (pt_cmpR op_isN (pe_fld (pv 2) rfl) pe_non (nomark _)) pe_int pe_int))
      (pss_one (ps_expr (pe_bm PySem.F.plainAttrs_list PySem.F.slot_list_append PySem.F.type_list_append mt_append (pv 1) (pa_cons (pe_op op_add (pv 3) (pe_callB (cr_sum rfl) (by rfl) T.b_sum (by decide +kernel) (pa_cons
        (pe_lc (own := [("way", 4)]) (g := gName 4) (tt := tYes) (te := tOp (rIxL K) (tVar 1) (tOp (rIxT K) (tVar 4) (tC (.int 1)))) rfl scCountedEnds.nd (pi_tup (pe_fld (pv 2) rfl)) (blkOk_by (N := ["table", "counts", "node", "own", "way"]) (sc := defScope sCountedEnds) (by decide +kernel))
          (fun _ _ _ _ _ => pg_name (i := 4) scCountedEnds.nd rfl (Or.inl rfl)) (fun _ _ _ _ _ => pts_nil) (fun _ _ _ _ _ => pe_ix ix_list (pv 1) (pe_ix ix_tup (pv 4) pe_int (fun _ _ => rfl)) (fun _ _ => rfl))) pa_nil))) pa_nil))))))
    (pss_one (ps_ret (pv 1)))), ?_⟩)
  · obtain ⟨t, tk, rfl, _⟩ := h
    rfl
  obtain ⟨t, tk, rfl, ⟨dt, nl, refs, h1, h2, h3⟩, hz, hkz, hlow, k⟩ := h
  refine q_asgL (el_lst ea_nil (by decide)) fun cl H1 hcl e1 hl1 => ?_
  obtain ⟨G1, g1, eG1, rfl⟩ := ex_split0 hcl e1 hl1
  have eU := eG1.trans (ex_upd (o := .lst (nv [])) g1)
  refine q_forLn (K := K) (a := nl) (xs := refs) (ev_nodes rfl (eU _ _ h1)) (ex_l eU h2) (fun i σ' H' => ∃ (G : Hp) (u2 u3 : Option V), σ' = [some (.ref t), some (.ref cl), u2, u3, none] ∧ G cl = none ∧ Ex H G ∧ H' = upd G cl (.lst (nv (Mx.cnts (tk.1.take i)))))
    (fun H3 e3 => ?_) (fun i σ' H' _ pp => ?_) ?_ ?_
  · obtain ⟨G3, g3, eG3, rfl⟩ := ex_split g1 e3
    exact ⟨G3, none, none, rfl, g3, eG1.trans eG3, rfl⟩
  · obtain ⟨G, u2, u3, rfl, g, e, rfl⟩ := pp
    exact ex_l (e.trans (ex_upd g)) h2
  · rintro i x σ' H' hi ⟨G, u2, u3, rfl, g, e, rfl⟩
    obtain ⟨n, o, hn, rfl, dx, dv, wa, k1, k2, ws, k3, k4⟩ := h3.at hi
    have hil := (List.getElem?_eq_some_iff.mp hn).1
    have hmem := List.mem_of_getElem? hn
    have eU := e.trans (ex_upd (o := .lst (nv (Mx.cnts (tk.1.take i)))) g)
    have hcl : (Mx.cnts (tk.1.take i)).length = i := by rw [Mx.cnts_len, List.length_take]; omega
    refine q_asg (v := .int ((Mx.ownN n : Nat) : Int)) (ev_is (ev_ifI (b := !n.out.isSome) (et_is (et_test (ev_op (ev_fld (ev_var (v := .ref o) rfl) (eU _ _ k1) T.cNode.cl T.nNode_digits (v := dv) (by rfl)) ev_c rv_isN)) ?_) ev_c ev_c) ?_) fun H3 e3 => ?_
    · cases hout : n.out with
      | none =>
        rw [hout] at k2
        have : dv = .non := k2
        rw [this]
        rfl
      | some dd =>
        rw [hout] at k2
        obtain ⟨da, rfl, _⟩ := k2
        rfl
    · unfold Mx.ownN
      cases n.out <;> rfl
    have eU3 := eU.trans e3
    have hsum : EvL (tLc (iTup K (tFld K (tVar 2) "ways")) (gName 4) tYes (tOp (rIxL K) (tVar 1) (tOp (rIxT K) (tVar 4) (tC (.int 1)))) [4]) [some (.ref t), some (.ref cl), some (.ref o), some (.int ((Mx.ownN n : Nat) : Int)), none] H3 (nv (n.kids.map fun x => (Mx.cnts (tk.1.take i)).getD x.2 0)) := by
      have := el_lcRT (K := K) (te := tOp (rIxL K) (tVar 1) (tOp (rIxT K) (tVar 4) (tC (.int 1)))) (t := tYes) (tl := tFld K (tVar 2) "ways") (σ := [some (.ref t), some (.ref cl), some (.ref o), some (.int ((Mx.ownN n : Nat) : Int)), none]) (H := H3) (j := 4) (vs := [4]) ((0, 0) : Nat × Nat) (fun _ => true) (fun x => .int (((Mx.cnts (tk.1.take i)).getD x.2 0 : Nat) : Int)) (ev_fld (ev_var rfl) (eU3 _ _ k1) T.cNode.cl T.nNode_ways (v := .ref wa) (by rfl)) (ex_t eU3 k3) k4 (hkz n hmem) (fun _ => rfl) (fun o n H1 e1 hm ho => et_yes) (fun p kx H4 e4 hm hp _ => by
        have hlt : kx.2 < i := hlow i n hn kx hm
        have hat : (Mx.cnts (tk.1.take i))[kx.2]? = some ((Mx.cnts (tk.1.take i)).getD kx.2 0) := by
          rw [List.getD_eq_getElem?_getD, List.getElem?_eq_getElem (by omega)]
          rfl
        exact ev_op (ev_var (v := .ref cl) rfl) (ev_op (ev_var (v := .ref p) rfl) ev_c (rv_ixT (ex_t (eU3.trans e4) hp) (atI_nat (j := 1) (v := .int (kx.2 : Int)) rfl))) (rv_ixL (sq_of ((e3.trans e4) _ _ upd_same)) (atI_nat (nv_at hat))))
      rw [List.filter_eq_self.mpr (fun _ _ => rfl)] at this
      unfold nv
      rw [List.map_map]
      exact this
    refine s_app (e3 _ _ upd_same) (ev_var rfl) (ev_op (ev_var rfl) (ev_sum hsum) rv_I0) (by rw [nv_len, hcl]; omega) fun H5 e5 => ?_
    obtain ⟨G5, g5, eG5, rfl⟩ := ex_split g (e3.trans e5)
    refine ⟨G5, _, _, rfl, g5, e.trans eG5, ?_⟩
    rw [upd_upd, List.take_add_one, hn]
    show _ = upd G5 cl (.lst (nv (Mx.cnts (tk.1.take i ++ [n]))))
    rw [Mx.cnts_snoc]
    unfold Mx.cstep
    rw [nv_app]
    rfl
  · rintro σ' H' ⟨G, u2, u3, rfl, g, e, rfl⟩
    rw [h3.1, List.take_length] at *
    refine s_ret (ev_var rfl) fun H3 e3 => k cl H3 hcl ((e.trans (ex_upd g)).trans e3) ?_
    exact e3 _ _ upd_same
end
end Pt
set_option Elab.async false
set_option linter.all false
set_option maxRecDepth 100000
set_option maxHeartbeats 2000000
namespace Pt
open PySem PySem.Spec PyProof.Rows L2 Evl
open VahypBase (Bytes)
open Vahypd (Node Table)
theorem ltrs_cons (s : Nat) (l : List Nat) : Mx.ltrs (s :: l) = Mx.ltrs [s] + Mx.ltrs l := by
  unfold Mx.ltrs
  rw [← List.length_append, ← List.filter_append]
  rfl
theorem ltrs_le (l : List Nat) : Mx.ltrs l ≤ l.length := List.length_filter_le _ _
theorem ltrs_snoc (l : List Nat) : Mx.ltrs (l ++ [0]) = Mx.ltrs l := by
  unfold Mx.ltrs
  rw [List.filter_append]
  simp
theorem signed_fit (x : Bytes) (b : Nat) (h : b < (Vahypd.signed x).length) : (b - 1) + Mx.ltrs ((Vahypd.signed x).drop b) ≤ x.length := by
  have e : Vahypd.signed x = 0 :: (x.map (fun c => c.toNat) ++ [0]) := rfl
  rw [e] at h ⊢
  rw [List.length_cons, List.length_append, List.length_map] at h
  have h : b < x.length + 1 + 1 := h
  cases b with
  | zero =>
    rw [List.drop_zero, ltrs_cons, ltrs_snoc]
    have := ltrs_le (x.map fun c => c.toNat)
    rw [List.length_map] at this
    have h0 : Mx.ltrs [0] = 0 := rfl
    omega
  | succ b =>
    rw [List.drop_succ_cons, List.drop_append_of_le_length (by rw [List.length_map]; omega), ltrs_snoc]
    have := ltrs_le ((x.map fun c => c.toNat).drop b)
    rw [List.length_drop, List.length_map] at this
    omega
theorem overN_of {t : Table} {g j : Nat} {ls : List Nat} {n : Node} (h : t[j]? = some n) : Mx.overN t g ls j = (match n.out with | some v => Vahypd.over ls g v | none => ls) := by
  unfold Mx.overN
  rw [nodeAt_of h]
  all_goals (cases n.out <;> rfl)
section
variable {P : Program} {w : World} {K : PySem.W.Frag} {mg : Str → Option Value} {base : Heap} {X : Cx}
variable {σ : L2.St} {H H' : Hp} {ta tb tc te tl : TE} {t : TT} {x y z v : V} {C : Addr} {D : Ends} {tz : TS}
/-! ### go_from -/
def stp (T : Tx K mg) (M : Hp) (p dx ll : Addr) (n : Nat) : Hp := upd M p (.ins T.cFound.C dx (fdF ll n))
theorem FdS.bump {T : Tx K mg} {G M : Hp} {p dx ll : Addr} {r : List Nat × Nat} (h : FdS T G M p dx ll r) (n : Nat) : FdS T G (stp T M p dx ll n) p dx ll (r.1, n) := ⟨h.ap.put h.mp, upd_same, by unfold stp; rw [upd_ne h.ne]; exact h.ml⟩
theorem fd_put {ll : Addr} {n m : Nat} : putF ("steps" : Str) (.int (m : Int)) (fdF ll n) = fdF ll m := by
  have h1 : ¬ ("levels" : Str) = "steps" := by decide +kernel
  simp [putF, fdF, h1]
theorem ev_min2 {i j : Int} (ha : Ev ta σ H (.int i)) (hb : Ev tb σ H (.int j)) : Ev (tCB (fun xs H Q => ∃ i j, xs = [.int i, .int j] ∧ Q (.int (if j < i then j else i)) H) (tCons ta (tCons tb tNil))) σ H (.int (if j < i then j else i)) := fun H1 e Q q =>
  ha H1 e _ fun H2 e2 => hb H2 (e.trans e2) _ fun H3 e3 => ⟨i, j, rfl, q H3 (e2.trans e3)⟩
def spGo (T : Tx K mg) : Sp := fun vs H Q _ => ∃ (t sl p dx ll : Addr) (b f : Nat) (tk : Table × Nat) (z : List Nat) (es : List Vahypd.Entry) (r : List Nat × Nat) (G M : Hp), vs = [.ref t, .ref sl, .int (b : Int), .ref p] ∧ H = over G M ∧ TabAt T G t tk ∧ SqL K G sl (nv z) ∧ FdS T G M p dx ll r ∧
  Mx.Rp tk.1 f tk.2 es ∧ Mx.Fit 0 es ∧ b ≤ z.length ∧ z.length ≤ 1000 ∧ (b - 1) + Mx.ltrs (z.drop b) + 1 ≤ r.1.length ∧
  ∀ G2 M2, Ex G G2 → FdS T G2 M2 p dx ll (Mx.lookAt tk.1 tk.2 z r b) → (∀ c, c ≠ p → c ≠ ll → M2 c = M c) → Q .non (over G2 M2)
theorem ok_go_from (T : Tx K mg) : FnOk P w K mg base CX0 3 T.go_from.f T.go_from.fd ["table", "signs", "begin", "found"] (spGo T) := by
  have GA : FnOk P w K mg base CX0 2 _ _ _ _ := ok_nodes_alongL T
  have GO : FnOk P w K mg base CX0 2 _ _ _ _ := (ok_put_over T).mono (by decide)
  refine T.go_from.F.ok scGoFrom (fun vs H Q E h => ?_) (fun cdv A outer s H vs Q E hr h => ⟨_,
    pss_cons (ps_set (i := 4) scGoFrom.nd rfl (.inl rfl) (pe_callB (call_max2 rfl) (by rfl) T.b_max (by decide +kernel) (pa_cons (pe_op op_sub (pv 2) pe_int) (pa_cons pe_int pa_nil))))
    (pss_cons (ps_set (i := 5) scGoFrom.nd rfl (.inl rfl) (pe_slice sl_list (pv 1) (po_some (pv 2)) po_none))
    (pss_cons (ps_set (i := 6) scGoFrom.nd rfl (.inl rfl) (pe_fn T.nodes_along GA hr (bdNodesAlong T.nodes_along.F) pass0 (pa_cons (pv 0) (pa_cons (pv 5) pa_nil))))
    (pss_cons (ps_fldaug (pv 3) (pe_callB (call_min2 rfl) (by rfl) T.b_min (by decide +kernel) (pa_cons (pe_len T.b_len (pv 6)) (pa_cons (pe_len T.b_len (pv 5)) pa_nil))) in_add)
    (pss_one (ps_for PassesOwn.never rfl (pi_list (pv 6)) (pg_name (i := 7) scGoFrom.nd rfl (.inl rfl))
      (pss_one (ps_if (pt_cmpR op_notN (pe_fld (pe_ix ix_list (pe_fld (pv 0) rfl) (pv 7) (fun _ _ => rfl)) rfl) pe_non (nomark _))
        (pss_one (ps_expr (pe_meth (pv 3) T.cFound.cl T.mFound_put_over.M GO hr (bdFoundPutOver T.mFound_put_over.F) .nil pass0 (pa_cons (pe_fld (pe_ix ix_list (pe_fld (pv 0) rfl) (pv 7) (fun _ _ => rfl)) rfl) (pa_cons (pv 4) pa_nil))))) pss_nil))))))), ?_⟩)
  · obtain ⟨t, sl, p, dx, ll, b, f, tk, z, es, r, G, M, rfl, _⟩ := h
    rfl
  obtain ⟨t, sl, p, dx, ll, b, f, tk, z, es, r, G, M, rfl, rfl, hTab, hS, hF, hR, hFit, hb, hzl, hz, k⟩ := h
  have hTab0 := hTab
  obtain ⟨dt, nl, refs, g1, g2, g3⟩ := hTab
  have hfit := Mx.nodes_fit (z.drop b) f tk.2 0 es hR hFit
  have eO := ex_over hF.ap
  have hdl : (z.drop b).length ≤ 1000 := by rw [List.length_drop]; omega
  refine q_asg (v := .int ((b - 1 : Nat) : Int)) (ev_is (ev_max2 (ev_op (ev_var rfl) ev_c rv_I0) ev_c) ?_) fun H1 e1 => ?_
  · congr 1
    split <;> omega
  have hcut : cutV (nv z) (some ((b : Nat) : Int)) none = nv (z.drop b) := by rw [cut_from, nv_drop]
  refine q_asgL (xs := nv (z.drop b)) (by
      have := el_sl (K := K) (te := tVar 1) (tl := tPart (tVar 2)) (th := tNoPart) (σ := [some (.ref t), some (.ref sl), some (.int (b : Int)), some (.ref p), some (.int ((b - 1 : Nat) : Int)), none, none, none]) (H := H1) (a := sl) (xs := nv z) (lo := some (b : Int)) (hi := none) (ev_var rfl) (eo_some (ev_var rfl)) eo_none (ex_l (eO.trans e1) hS)
      rw [hcut] at this
      exact this) fun al H2 hal e2 h2 => ?_
  refine q_asgL (el_alongL (hTab0.mono (eO.trans (e1.trans e2))) (sq_of h2) hdl (fun j hj => (hfit j hj).1) (ev_var rfl) (ev_var rfl)) fun rl H3 hrl e3 h3 => ?_
  have e13 := (e1.trans e2).trans e3
  have hrlM : M rl = none := none_m (fresh_back (e1.trans e2) hrl)
  obtain ⟨G3, a3, eG3, rfl⟩ := over_split hF.ap e13
  have hF3 := hF.grow a3
  have hrlG : G3 rl = some (.lst (nv (Vahypd.nodesBy tk.1 tk.2 (z.drop b)))) := by rw [over_g hrlM] at h3; exact h3
  refine ⟨_, rfl, p, T.cFound.C, dx, fdF ll r.2, .int (r.2 : Int), rfl, over_m hF3.mp, T.cFound.cl, T.nFound_steps, by rfl, ?_⟩
  obtain ⟨stp2, hstp⟩ : ∃ stp2 : Nat, stp2 = min (Vahypd.nodesBy tk.1 tk.2 (z.drop b)).length (z.drop b).length := ⟨_, rfl⟩
  refine (show Ev _ _ _ (V.int (stp2 : Int)) from ev_is (ev_min2 (ev_len (ev_var (v := .ref rl) rfl) (sq_of h3)) (ev_len (ev_var (v := .ref al) rfl) (sq_of (e3 _ _ h2)))) ?_) _ (Ex.refl _) _ fun H5 e5 => ?_
  · rw [nv_len, nv_len, hstp]
    congr 1
    split <;> omega
  obtain ⟨G5, a5, eG5, rfl⟩ := over_split a3 e5
  have hF5 := hF3.grow a5
  refine ⟨(r.2 : Int), (stp2 : Int), rfl, rfl, dx, fdF ll r.2, over_m hF5.mp, by show 2 < 1000; decide, ?_⟩
  have e6 : putF ("steps" : Str) (.int ((r.2 : Int) + (stp2 : Int))) (fdF ll r.2) = fdF ll (r.2 + stp2) := fd_put (m := r.2 + stp2)
  rw [e6, over_upd]
  have hF6 := hF5.bump (r.2 + stp2)
  have hlk := Mx.lookAt_nodes tk.1 tk.2 b z r
  rw [← hstp] at hlk
  obtain ⟨M6, hM6⟩ : ∃ M6, M6 = stp T M p dx ll (r.2 + stp2) := ⟨_, rfl⟩
  have hMb : ∀ c, c ≠ p → c ≠ ll → M6 c = M c := fun c h1 h2 => by
    rw [hM6]
    unfold stp
    rw [upd_ne h1]
  rw [← hM6] at hF6
  dsimp only
  rw [show upd M p (HO.ins T.cFound.C dx (fdF ll (r.2 + stp2))) = M6 from hM6.symm]
  have hg1 := (eG3.trans eG5) _ _ g1
  have hg2 := ex_l (eG3.trans eG5) g2
  have hrl5 := eG5 _ _ hrlG
  refine s_forL (K := K) (a := rl) (xs := nv (Vahypd.nodesBy tk.1 tk.2 (z.drop b))) (ev_var rfl) (sq_of ((ex_over hF6.ap) _ _ hrl5)) (fun i σ' H' => ∃ (G' M' : Hp) (u : Option V), σ' = [some (.ref t), some (.ref sl), some (.int (b : Int)), some (.ref p), some (.int ((b - 1 : Nat) : Int)), some (.ref al), some (.ref rl), u] ∧ H' = over G' M' ∧ Ex G5 G' ∧ FdS T G' M' p dx ll (((Vahypd.nodesBy tk.1 tk.2 (z.drop b)).take i).foldl (Mx.overN tk.1 (b - 1)) r.1, r.2 + stp2) ∧ (∀ c, c ≠ p → c ≠ ll → M' c = M c))
    (fun H7 e7 => ?_) (fun i σ' H' _ pp => ?_) ?_ ?_
  · obtain ⟨G7, a7, eG7, rfl⟩ := over_split hF6.ap e7
    exact ⟨G7, M6, none, rfl, rfl, eG7, hF6.grow a7, hMb⟩
  · obtain ⟨G', M', u, rfl, rfl, e, hF', _⟩ := pp
    exact sq_of ((ex_over hF'.ap) _ _ (e _ _ hrl5))
  · rintro i x σ' H' hi ⟨G', M', u, rfl, rfl, e, hF', hM'⟩
    obtain ⟨j, hj, rfl⟩ := nat_at hi
    have hjm := List.mem_of_getElem? hj
    obtain ⟨hjl, hjv⟩ := hfit j hjm
    have hn := List.getElem?_eq_getElem hjl
    obtain ⟨o, hro, hN⟩ := g3.2 j _ hn
    have eA : Ex G G' := (eG3.trans eG5).trans e
    have hd1 := (ex_over hF'.ap) _ _ (eA _ _ g1)
    have hd2 := ex_l (ex_over hF'.ap) (ex_l eA g2)
    obtain ⟨dxn, un, wan, k1, k2, k3⟩ := hN.mono eA
    have hdg : ∀ H2, Ex (over G' M') H2 → Ev (tFld K (tOp (rIxL K) (tFld K (tVar 0) "nodes") (tVar 7)) "digits") [some (.ref t), some (.ref sl), some (.int (b : Int)), some (.ref p), some (.int ((b - 1 : Nat) : Int)), some (.ref al), some (.ref rl), some (.int (j : Int))] H2 un := fun H2 e' => ev_fld (ev_atI rfl (ev_var rfl) (e' _ _ hd1) (ex_l e' hd2) hro) (e' _ _ ((ex_over hF'.ap) _ _ k1)) T.cNode.cl T.nNode_digits (by rfl)
    have hfold : ((Vahypd.nodesBy tk.1 tk.2 (z.drop b)).take (i + 1)).foldl (Mx.overN tk.1 (b - 1)) r.1 = Mx.overN tk.1 (b - 1) (((Vahypd.nodesBy tk.1 tk.2 (z.drop b)).take i).foldl (Mx.overN tk.1 (b - 1)) r.1) j := by
      rw [List.take_add_one, hj, List.foldl_append]
      rfl
    rw [nodeAt_of hn] at hjv
    have hov := overN_of hn (g := b - 1) (ls := ((Vahypd.nodesBy tk.1 tk.2 (z.drop b)).take i).foldl (Mx.overN tk.1 (b - 1)) r.1)
    refine s_when (b := tk.1[j].out.isSome) (et_is (et_test (ev_op (hdg _ (Ex.refl _)) ev_c rv_notN)) ?_) (fun hs H5 e5 => ?_) (fun hs H5 e5 => ?_)
    · cases ho : tk.1[j].out with
      | none =>
        rw [ho] at k2
        have : un = .non := k2
        rw [this]
        rfl
      | some dd =>
        rw [ho] at k2
        obtain ⟨da, rfl, _⟩ := k2
        rfl
    · cases ho : tk.1[j].out with
      | none => rw [ho] at hs; cases hs
      | some dd =>
        rw [ho] at k2 hjv hov
        obtain ⟨da, rfl, hda⟩ := k2
        have hvl := hjv dd rfl
        obtain ⟨G8, a8, eG8, rfl⟩ := over_split hF'.ap e5
        have hF8 := hF'.grow a8
        refine t_meth (a := p) (ev_var (v := .ref p) rfl) (over_m hF8.mp) (by rfl) (ea_cons (hdg _ e5) (ea_cons (ev_var rfl) ea_nil)) fun H6 e6 => ?_
        obtain ⟨G9, a9, eG9, rfl⟩ := over_split a8 e6
        have hF9 := hF8.grow a9
        refine ⟨p, dx, ll, da, b - 1, dd, (((Vahypd.nodesBy tk.1 tk.2 (z.drop b)).take i).foldl (Mx.overN tk.1 (b - 1)) r.1, r.2 + stp2), G9, M', rfl, rfl, hF9, ex_t (eG8.trans eG9) hda, ?_, fun G10 eG10 hF10 => ?_⟩
        · show b - 1 + dd.length ≤ (((Vahypd.nodesBy tk.1 tk.2 (z.drop b)).take i).foldl (Mx.overN tk.1 (b - 1)) r.1).length
          rw [Mx.overs_len]
          omega
        · refine ⟨G10, _, _, rfl, rfl, e.trans ((eG8.trans eG9).trans eG10), ?_, fun c h1 h2 => by rw [upd_ne h2]; exact hM' c h1 h2⟩
          rw [hfold, hov]
          exact hF10
    · cases ho : tk.1[j].out with
      | some dd => rw [ho] at hs; cases hs
      | none =>
        rw [ho] at hov
        obtain ⟨G8, a8, eG8, rfl⟩ := over_split hF'.ap e5
        refine ⟨G8, M', _, rfl, rfl, e.trans eG8, ?_, hM'⟩
        rw [hfold, hov]
        exact hF'.grow a8
  · rintro σ' H' ⟨G', M', u, rfl, rfl, e, hF', hM'⟩
    rw [nv_len, List.take_length] at hF'
    rw [hlk] at k
    exact k G' M' ((eG3.trans eG5).trans e) hF' hM'
end
end Pt
set_option Elab.async false
set_option linter.all false
set_option maxRecDepth 100000
set_option maxHeartbeats 2000000
namespace Pt
open PySem PySem.Spec PyProof.Rows L2 Evl
open VahypBase (Bytes)
open Vahypd (Node Table)
section
variable {P : Program} {w : World} {K : PySem.W.Frag} {mg : Str → Option Value} {base : Heap} {X : Cx}
variable {σ : L2.St} {H H' : Hp} {ta tb tc te tl : TE} {t : TT} {x y z v : V} {C : Addr} {D : Ends} {tz : TS}
/-! ### look_up -/
theorem el_cat1 {a : Addr} {xs ys : List V} (ha : EvL ta σ H xs) (hb : Ev tb σ H (.ref a)) (h : H a = some (.lst ys)) (hz : xs.length + ys.length ≤ 100000) : EvL (tOp rCat ta tb) σ H (xs ++ ys) := fun H1 e Q q =>
  ha H1 e _ fun p H2 hp e2 h2 => hb H2 (e.trans e2) _ fun H3 e3 => ⟨p, a, xs, ys, rfl, rfl, e3 _ _ h2, ((e.trans e2).trans e3) _ _ h, sz_of hz, fun l hl => q l _ (fresh_back (e2.trans e3) hl) ((e2.trans e3).trans (Ex.new hl)) upd_same⟩
def spLookUp (T : Tx K mg) : Sp := fun vs H Q _ => ∃ (t a : Addr) (f : Nat) (tk : Table × Nat) (x : Bytes) (es : List Vahypd.Entry), vs = [.ref t, .ref a] ∧ TabAt T H t tk ∧ H a = some (.lst (tx x)) ∧ x.length ≤ 16 ∧ Mx.Rp tk.1 f tk.2 es ∧ Mx.Fit 0 es ∧
  ∀ p ll dx H2, H p = none → H ll = none → Ex H H2 → H2 p = some (.ins T.cFound.C dx (fdF ll (Vahypd.look tk.1 tk.2 x).2)) → H2 ll = some (.lst (nv (Vahypd.look tk.1 tk.2 x).1)) → Q (.ref p) H2
theorem ok_look_up (T : Tx K mg) : FnOk P w K mg base CX0 4 T.look_up.f T.look_up.fd ["table", "letters"] (spLookUp T) := by
  have GF : FnOk P w K mg base CX0 2 _ _ _ _ := (ok_Found T).mono (by decide)
  have GG : FnOk P w K mg base CX0 3 _ _ _ _ := ok_go_from T
  refine T.look_up.F.ok scLookUp (fun vs H Q E h => ?_) (fun cdv A outer s H vs Q E hr h => ⟨_,
    pss_cons (ps_set (i := 2) scLookUp.nd rfl (.inl rfl) (pe_op op_cat (pe_op op_cat (pe_lst (pa_cons (pe_k T.k_EDGE) pa_nil)) (pv 1)) (pe_lst (pa_cons (pe_k T.k_EDGE) pa_nil))))
    (pss_cons (ps_set (i := 3) scLookUp.nd rfl (.inl rfl) (pe_make T.cFound.mkc GF hr rfl T.cFound.m (bdFoundInit T.cFound.F) .nil pass0 (pa_cons (pe_op op_add (pe_len T.b_len (pv 1)) pe_int) pa_nil)))
    (pss_cons (ps_for PassesOwn.never rfl (pi_range1 (by rfl) T.b_range (pa_cons (pe_len T.b_len (pv 2)) pa_nil)) (pg_name (i := 4) scLookUp.nd rfl (.inl rfl))
      (pss_one (ps_expr (pe_fn T.go_from GG hr (bdGoFrom T.go_from.F) pass0 (pa_cons (pv 0) (pa_cons (pv 2) (pa_cons (pv 4) (pa_cons (pv 3) pa_nil))))))))
    (pss_one (ps_ret (pv 3))))), ?_⟩)
  · obtain ⟨t, a, f, tk, x, es, rfl, _⟩ := h
    rfl
  obtain ⟨t, a, f, tk, x, es, rfl, hTab, hx, hxl, hR, hFit, k⟩ := h
  have hsz : (Vahypd.signed x).length = x.length + 2 := by unfold Vahypd.signed; simp
  have hsg : [V.int 0] ++ tx x ++ [V.int 0] = nv (Vahypd.signed x) := by
    rw [tx_nv]
    unfold Vahypd.signed
    rw [nv_cons, nv_app]
    rfl
  refine q_asgL (xs := nv (Vahypd.signed x)) ?_ fun sl H1 hsl e1 h1 => ?_
  · rw [← hsg]
    exact el_catL (el_cat1 (el_lst (ea_cons ev_c ea_nil) (by show 1 ≤ 100000; decide)) (ev_var rfl) hx (by rw [tx_len]; show 1 + _ ≤ _; omega)) (el_lst (ea_cons ev_c ea_nil) (by show 1 ≤ 100000; decide)) (by rw [List.length_append, tx_len]; show 1 + _ + 1 ≤ _; omega)
  refine q_asgQ (eq_Found (T := T) (n := x.length + 1) (by omega) (ev_is (ev_op (ev_lenX (ev_var rfl) (sq_of (e1 _ _ hx))) ev_c rv_I0) (by congr 1))) fun u H2 e2 ⟨p, dx, ll, hu, hp, hll, hpl, h2, h3⟩ => ?_
  subst hu
  obtain ⟨G1, a1, g1, E1⟩ := taken (H3 := H1) (G := H2) (M := noHp) (l := p) apart_no rfl (by rw [over_no]; exact h2) hp e2
  rw [over_no] at E1
  obtain ⟨G2, a2, g2, E2⟩ := taken (H3 := H1) (l := ll) a1 (by rw [upd_ne (Ne.symm hpl)]; rfl) (by rw [← E1]; exact h3) hll g1
  obtain ⟨M2, hM2⟩ : ∃ M2, M2 = upd (upd noHp p (HO.ins T.cFound.C dx (fdF ll 0))) ll (HO.lst (nv (List.replicate (x.length + 1) 0))) := ⟨_, rfl⟩
  rw [← hM2] at a2 E2
  rw [E1, E2]
  have hz0 : x.map (fun _ => 0) ++ [0] = List.replicate (x.length + 1) 0 := by
    rw [List.map_const', List.replicate_succ']
  have hF2 : FdS T G2 M2 p dx ll (List.replicate (x.length + 1) 0, 0) := ⟨a2, by rw [hM2, upd_ne hpl, upd_same], by rw [hM2, upd_same]⟩
  have hOnly : ∀ c, c ≠ p → c ≠ ll → M2 c = none := fun c h1 h2 => by rw [hM2, upd_ne h2, upd_ne h1]; rfl
  have hx2 : Ex H G2 := e1.trans g2
  clear hM2 E1 E2 a1 g1
  have hlk := Mx.look_eq tk.1 tk.2 x
  rw [hz0] at hlk
  refine q_forR1 (n := ((Vahypd.signed x).length : Nat)) (ea_cons (ev_is (ev_len (ev_var rfl) (ex_l (ex_over a2) (ex_l g2 (sq_of h1)))) (by rw [nv_len])) ea_nil) (by omega) (fun i σ' H' => ∃ (G' M' : Hp) (r' : List Nat × Nat) (u : Option V), σ' = [some (.ref t), some (.ref a), some (.ref sl), some (.ref p), u] ∧ H' = over G' M' ∧ Ex G2 G' ∧ FdS T G' M' p dx ll r' ∧
      r'.1.length = x.length + 1 ∧ r' = (List.range i).foldl (Mx.lookAt tk.1 tk.2 (Vahypd.signed x)) (List.replicate (x.length + 1) 0, 0) ∧ (∀ c, c ≠ p → c ≠ ll → M' c = none)) (fun H3 e3 => ?_) ?_ ?_
  · obtain ⟨G3, a3, eG3, rfl⟩ := over_split a2 e3
    exact ⟨G3, M2, _, none, rfl, rfl, eG3, hF2.grow a3, by simp, rfl, hOnly⟩
  · rintro i σ' H' hi ⟨G', M', r', u, rfl, rfl, e, hF', hrl, hr', hOn⟩
    have hi : i < (Vahypd.signed x).length := by omega
    refine t_call (ea_cons (ev_var rfl) (ea_cons (ev_var rfl) (ea_cons (ev_var rfl) (ea_cons (ev_var rfl) ea_nil)))) fun H4 e4 => ?_
    obtain ⟨G4, a4, eG4, rfl⟩ := over_split hF'.ap e4
    have hF4 := hF'.grow a4
    have hfit := signed_fit x i hi
    have eX : Ex H1 G4 := (g2.trans e).trans eG4
    refine ⟨t, sl, p, dx, ll, i, f, tk, Vahypd.signed x, es, r', G4, M', rfl, rfl, hTab.mono (e1.trans eX), ex_l eX (sq_of h1), hF4, hR, hFit, by omega, by omega, by omega, fun G5 M5 eG5 hF5 hM5 => ?_⟩
    refine ⟨G5, M5, _, _, rfl, rfl, (e.trans eG4).trans eG5, hF5, ?_, ?_, fun c h1 h2 => by rw [hM5 c h1 h2]; exact hOn c h1 h2⟩
    · rw [Mx.lookAt_nodes]
      dsimp only
      rw [Mx.overs_len]
      exact hrl
    · rw [List.range_succ, List.foldl_append, ← hr']
      rfl
  · rintro σ' H' ⟨G', M', r', u, rfl, rfl, e, hF', hrl, hr', hOn⟩
    have hr2 : r' = Vahypd.look tk.1 tk.2 x := by
      rw [hr', hlk, Int.toNat_natCast]
    refine s_ret (ev_var rfl) fun H5 e5 => ?_
    have eX : Ex H H5 := (hx2.trans e).trans ((ex_over hF'.ap).trans e5)
    rw [← hr2] at k
    exact k p ll dx H5 (fresh_back e1 hp) (fresh_back e1 hll) eX (e5 _ _ (over_m hF'.mp)) (e5 _ _ (over_m hF'.ml))
end
end Pt
set_option Elab.async false
set_option linter.all false
set_option maxRecDepth 100000
set_option maxHeartbeats 2000000
namespace Pt
open PySem PySem.Spec PyProof.Rows L2 Evl
open VahypBase (Bytes)
section
variable {P : Program} {w : World} {K : PySem.W.Frag} {mg : Str → Option Value} {base : Heap} {X : Cx}
variable {σ : L2.St} {H H' : Hp} {ta tb tc te tl : TE} {t : TT} {x y z v : V} {C : Addr} {D : Ends} {tz : TS}
/-! ### parted_gaps -/
theorem el_lcR2 {ta : TA} {j : Nat} {vs : List Nat} {n : Nat} (f : Nat → Bool) (v : Nat → V) (h : EvA ta σ H [.int 1, .int (n : Int)]) (hn : n ≤ 40000) (hw : ∀ x, wipe ((wipe σ vs).set j (some x)) vs = wipe σ vs)
    (ht : ∀ (i : Nat) H1, Ex H H1 → i + 1 < n → EvT t ((wipe σ vs).set j (some (.int ((i + 1 : Nat) : Int)))) H1 (f i)) (he : ∀ (i : Nat) H1, Ex H H1 → i + 1 < n → f i = true → Ev te ((wipe σ vs).set j (some (.int ((i + 1 : Nat) : Int)))) H1 (v i)) :
    EvL (tLc (iRng2 ta) (gName j) t te vs) σ H (given (n - 1) f v) := fun H0 e Q q => h H0 e _ fun H1 e1 => ⟨1, (n : Int), rfl, ⟨by omega, by omega, by omega, by omega⟩, fun Dl hD => by
  have hn1 : ((n : Int) - 1).toNat = n - 1 := by omega
  rw [hn1]
  refine lc_range (lo := 1) (n := n - 1) (Cw H1 f v Dl) ⟨hD, Ex.new hD, upd_same⟩ (fun i H' hi p => ?_) (fun H' p => q Dl H' (fresh_back e1 p.1) (e1.trans p.2.1) p.2.2)
  have e0 : (1 : Int) + (i : Int) = ((i + 1 : Nat) : Int) := by omega
  show wipe ((wipe σ vs).set j (some (.int ((1 : Int) + (i : Int))))) vs = wipe σ vs ∧ t ((wipe σ vs).set j (some (.int ((1 : Int) + (i : Int))))) H' fun b H3 => if b = true then te ((wipe σ vs).set j (some (.int ((1 : Int) + (i : Int))))) H3 fun y H4 => ∃ acc, H4 Dl = some (.lst acc) ∧ acc.length < sizeLine ∧ Cw H1 f v Dl (i + 1) (upd H4 Dl (.lst (acc ++ [y]))) else Cw H1 f v Dl (i + 1) H3
  rw [e0]
  exact ⟨hw _, cw_turn p (by omega) (ht i H1 (e.trans e1) (by omega)) (fun hf => he i H1 (e.trans e1) (by omega) hf)⟩⟩
def gapsN (n : Nat) : List Nat := (List.range (n - 1)).map fun k => k + 1
def oddV (ls : List Nat) : V → Bool
  | .int i => ls.getD i.toNat 0 % 2 == 1
  | _ => false
theorem odd_nv (ls l : List Nat) : (nv l).filter (oddV ls) = nv (l.filter fun g => ls.getD g 0 % 2 == 1) := by
  unfold nv
  rw [List.filter_map]
  rfl
theorem given_nv (m : Nat) (p : Nat → Bool) : given m (fun i => p (i + 1)) (fun i => V.int ((i + 1 : Nat) : Int)) = nv (((List.range m).map fun k => k + 1).filter p) := by
  unfold given nv
  rw [List.filter_map, List.map_map]
  rfl
def spParted (T : Tx K mg) : Sp := fun vs H Q _ => ∃ (a : Addr) (l r n : Nat) (ls : List Nat), vs = [.ref a, .int (l : Int), .int (r : Int)] ∧ SqL K H a (nv ls) ∧ ls.length = n + 1 ∧ n ≤ 1000 ∧
  RetL (nv ((gapsN n).filter fun g => ls.getD g 0 % 2 == 1 && decide (l ≤ g ∧ g + r ≤ n))) H Q
theorem ok_parted_gaps (T : Tx K mg) : FnOk P w K mg base CX0 1 T.parted_gaps.f T.parted_gaps.fd ["levels", "left", "right"] (spParted T) := by
  refine T.parted_gaps.F.ok scPartedGaps (fun vs H Q E h => ?_) (fun cdv A outer s H vs Q E hr h => ⟨_,
    pss_cons (ps_set (i := 3) scPartedGaps.nd rfl (.inr rfl) (pe_op op_sub (pe_len T.b_len (pv 0)) pe_int))
    (pss_cons (ps_setLc (i := 4) (own := [("gap", 5)]) (g := gName 5) (te := tVar 5) rfl scPartedGaps.nd rfl rfl (sw_true rfl rfl rfl (by decide +kernel)) (pi_range2 (by rfl) T.b_range (pa_cons pe_int (pa_cons (pv 3) pa_nil))) (blkOk_by (N := ["levels", "left", "right", "letters", "within", "gap"]) (sc := defScope sPartedGaps) (by decide +kernel))
      (fun _ _ _ _ _ => pg_name (i := 5) scPartedGaps.nd rfl (Or.inl rfl)) (fun _ _ _ _ _ => pts_one (PW.pt (pw_and (pt_cmpR op_ge (pv 5) (pv 1) (nomark _)) (pw_and1 (pt_cmpR op_ge (pe_op op_sub (pv 3) (pv 5)) (pv 2) (nomark _)))))) (fun _ _ _ _ _ => pv 5))
    (pss_one (ps_ret (pe_lc (own := [("gap", 5)]) (g := gName 5) (tt := tTest (tOp rEq (tOp (rI (fun _ j => 0 < j) fun i j => .int (i % j)) (tOp (rIxL K) (tVar 0) (tVar 5)) (tC (.int 2))) (tC (.int 1)))) (te := tVar 5) rfl scPartedGaps.nd (pi_list (pv 4)) (blkOk_by (N := ["levels", "left", "right", "letters", "within", "gap"]) (sc := defScope sPartedGaps) (by decide +kernel))
      (fun _ _ _ _ _ => pg_name (i := 5) scPartedGaps.nd rfl (Or.inl rfl)) (fun _ _ _ _ _ => pts_one (pt_cmpR op_eq (pe_op op_mod (pe_ix ix_list (pv 0) (pv 5) (fun _ _ => rfl)) pe_int) pe_int (nomark _))) (fun _ _ _ _ _ => pv 5))))), ?_⟩)
  · obtain ⟨a, l, r, n, ls, rfl, _⟩ := h
    rfl
  obtain ⟨a, l, r, n, ls, rfl, hS, hl, hn, k⟩ := h
  refine q_asg (v := .int (n : Int)) (ev_is (ev_op (ev_len (ev_var rfl) hS) ev_c rv_I0) (by rw [nv_len, hl]; congr 1; omega)) fun H1 e1 => ?_
  refine q_asgL (xs := nv ((gapsN n).filter fun g => decide (l ≤ g ∧ g + r ≤ n))) ?_ fun wl H2 hwl e2 h2 => ?_
  · have := el_lcR2 (σ := [some (.ref a), some (.int (l : Int)), some (.int (r : Int)), some (.int (n : Int)), none, none]) (H := H1) (te := tVar 5) (t := tAnd (tTest (tOp (rI0 fun i j => .bl (decide (j ≤ i))) (tVar 5) (tVar 1))) (tTest (tOp (rI0 fun i j => .bl (decide (j ≤ i))) (tOp (rI0 fun i j => .int (i - j)) (tVar 3) (tVar 5)) (tVar 2)))) (ta := tCons (tC (.int 1)) (tCons (tVar 3) tNil)) (j := 5) (vs := [5]) (n := n) (fun i => decide (l ≤ i + 1 ∧ i + 1 + r ≤ n)) (fun i => .int ((i + 1 : Nat) : Int)) (ea_cons ev_c (ea_cons (ev_var rfl) ea_nil)) (by omega) (fun _ => rfl) (fun i H3 e3 hi => ?_) (fun i H3 e3 hi hf => ev_var rfl)
    · rw [given_nv (n - 1) (fun g => decide (l ≤ g ∧ g + r ≤ n))] at this
      exact this
    · refine et_is (et_and (et_test (ev_op (ev_var rfl) (ev_var rfl) rv_I0)) fun _ => et_test (ev_op (ev_op (ev_var rfl) (ev_var rfl) rv_I0) (ev_var rfl) rv_I0)) ?_
      rw [Bool.eq_iff_iff]
      simp only [Bool.and_eq_true, decide_eq_true_eq]
      omega
  · have e12 := e1.trans e2
    refine s_retL (xs := nv ((gapsN n).filter fun g => ls.getD g 0 % 2 == 1 && decide (l ≤ g ∧ g + r ≤ n))) ?_ fun p H3 hp e3 h3 => k p H3 (fresh_back e12 hp) (e12.trans e3) h3
    rw [show (gapsN n).filter (fun g => ls.getD g 0 % 2 == 1 && decide (l ≤ g ∧ g + r ≤ n)) = ((gapsN n).filter fun g => decide (l ≤ g ∧ g + r ≤ n)).filter (fun g => ls.getD g 0 % 2 == 1) from List.filter_filter.symm, ← odd_nv]
    have hmem : ∀ x ∈ nv ((gapsN n).filter fun g => decide (l ≤ g ∧ g + r ≤ n)), ∃ g : Nat, x = .int (g : Int) ∧ g < n := fun x hx => by
      obtain ⟨g, hg, rfl⟩ := List.mem_map.mp hx
      obtain ⟨q, hq, rfl⟩ := List.mem_map.mp (List.mem_filter.mp hg).1
      have := List.mem_range.mp hq
      exact ⟨_, rfl, by omega⟩
    have := el_lcF (K := K) (σ := [some (.ref a), some (.int (l : Int)), some (.int (r : Int)), some (.int (n : Int)), some (.ref wl), none]) (H := H2) (tl := tVar 4) (te := tVar 5) (t := tTest (tOp rEq (tOp (rI (fun _ j => 0 < j) fun i j => .int (i % j)) (tOp (rIxL K) (tVar 0) (tVar 5)) (tC (.int 2))) (tC (.int 1)))) (j := 5) (vs := [5]) (oddV ls) (fun v => v) (ev_var rfl) (sq_of h2) (by
      rw [nv_len]
      have h1 := List.length_filter_le (fun g => decide (l ≤ g ∧ g + r ≤ n)) (gapsN n)
      have h2 : (gapsN n).length = n - 1 := by unfold gapsN; rw [List.length_map, List.length_range]
      omega) (fun _ => rfl) (fun x H3 e3 hx => ?_) (fun x H3 e3 hx hf => ev_var rfl)
    · rw [List.map_id''] at this
      · exact this
      · exact fun _ => rfl
    · obtain ⟨g, rfl, hg⟩ := hmem x hx
      have hlt : g < ls.length := by omega
      refine et_is (et_test (ev_op (ev_op (ev_op (ev_var rfl) (ev_var rfl) (rv_ixL (ex_l (e12.trans e3) hS) (atI_nat (nv_at (List.getElem?_eq_getElem hlt))))) ev_c (rv_I (by decide))) ev_c (rv_eq rfl))) ?_
      show _ = (ls.getD ((g : Int).toNat) 0 % 2 == 1)
      rw [Int.toNat_natCast, List.getD_eq_getElem?_getD, List.getElem?_eq_getElem hlt, Option.getD_some, Bool.eq_iff_iff, decide_eq_true_eq, beq_iff_eq, V.int.injEq]
      omega
end
end Pt
set_option Elab.async false
set_option linter.all false
set_option maxRecDepth 100000
set_option maxHeartbeats 2000000
namespace Pt
open PySem PySem.Spec PyProof.Rows L2 Evl
open VahypBase (Bytes)
/-! ## the reader of rows -/
def iv (l : List Int) : List V := l.map V.int
theorem iv_len (l : List Int) : (iv l).length = l.length := List.length_map ..
theorem iv_at {l : List Int} {i : Nat} {n : Int} (h : l[i]? = some n) : (iv l)[i]? = some (V.int n) := by unfold iv; rw [List.getElem?_map, h]; rfl
theorem iv_drop (l : List Int) (n : Nat) : (iv l).drop n = iv (l.drop n) := by unfold iv; rw [List.map_drop]
theorem iv_take (l : List Int) (n : Nat) : (iv l).take n = iv (l.take n) := by unfold iv; rw [List.map_take]
def crF (cl : Addr) (i : Nat) : List (Str × V) := [("numbers", .ref cl), ("at", .int (i : Int))]
theorem crF_put {cl : Addr} {i j : Nat} : putF ("at" : Str) (.int (j : Int)) (crF cl i) = crF cl j := by
  have h1 : ¬ ("numbers" : Str) = "at" := by decide +kernel
  simp [putF, crF, h1]
/-- a promise with errors, where none is raised -/
theorem calm {P : Program} {w : World} {K : PySem.W.Frag} {mg : Str → Option Value} {base : Heap} {k : Nat} {f : Addr} {fd : FuncData} {ps : List Str} {sp sp' : Sp} (F : FnOk P w K mg base (L2.CX P w) k f fd ps sp) (h : ∀ vs H Q E, sp' vs H Q E → sp vs H Q (fun _ _ _ => False)) : FnOk P w K mg base CX0 k f fd ps sp' :=
  ⟨fun vs H Q E q => F.len _ _ _ _ (h _ _ _ _ q), fun A outer s H args us vs Q E hr he hb hv hs => codeAny_mono (F.run A outer s H args us vs Q _ hr he hb hv (h _ _ _ _ hs)) fun r s' q => by
    cases r with
    | error e =>
      obtain ⟨_, _, _, _, _, _, _, _, _, _, _, _, z⟩ := q
      exact z.elim
    | ok fl => cases fl <;> exact q⟩
section
variable {P : Program} {w : World} {K : PySem.W.Frag} {mg : Str → Option Value} {base : Heap} {X : Cx}
variable {σ : L2.St} {H H' : Hp} {ta tb tc te tl : TE} {t : TT} {x y z v : V} {C : Addr} {D : Ends} {tz : TS}
theorem ok_RowReader (T : Tx K mg) : FnOk P w K mg base CX0 1 T.cRowReader.f T.cRowReader.fd ["self", "numbers"] (spIni T.cRowReader.C 1 fun as => [("numbers", as.getD 0 .non), ("at", .int 0)]) := by
  refine T.cRowReader.F.ok scRowReaderInit (fun vs H Q E h => ?_) (fun cdv A outer s H vs Q E hr h => ⟨_, pss_cons (ps_fld (pv 0) (pv 1) rfl) (pss_one (ps_fld (pv 0) pe_int rfl)), ?_⟩)
  · obtain ⟨p, dx, as, rfl, hl, _⟩ := h
    rw [List.length_cons, hl]
    rfl
  · obtain ⟨p, dx, as, rfl, hl, hp, k⟩ := h
    match as, hl with
    | [v1], _ =>
      refine ⟨_, rfl, _, rfl, p, T.cRowReader.C, dx, [], rfl, hp, T.cRowReader.cl, T.nRowReader_numbers, (by show 0 < 1000; decide), ?_⟩
      refine ⟨_, rfl, p, T.cRowReader.C, dx, _, rfl, upd_same, T.cRowReader.cl, T.nRowReader_at, (by show 1 < 1000; decide), ?_⟩
      show Q .non _
      rw [upd_upd, puts2 (by decide +kernel)]
      exact k
structure CrS (T : Tx K mg) (G M : Hp) (r cl dr : Addr) (l : List Int) (i : Nat) : Prop where
  ap : Apart G M
  mr : M r = some (.ins T.cRowReader.C dr (crF cl i))
  cl : SqL K G cl (iv l)
def hop (T : Tx K mg) (M : Hp) (r cl dr : Addr) (i : Nat) : Hp := upd M r (.ins T.cRowReader.C dr (crF cl i))
theorem CrS.hop {T : Tx K mg} {G M : Hp} {r cl dr : Addr} {l : List Int} {i : Nat} (h : CrS T G M r cl dr l i) (j : Nat) : CrS T G (hop T M r cl dr j) r cl dr l j := ⟨h.ap.put h.mr, upd_same, h.cl⟩
theorem CrS.grow {T : Tx K mg} {G G2 M : Hp} {r cl dr : Addr} {l : List Int} {i : Nat} (h : CrS T G M r cl dr l i) (e : Ex G G2) (a : Apart G2 M) : CrS T G2 M r cl dr l i := ⟨a, h.mr, ex_l e h.cl⟩
theorem hop2 {T : Tx K mg} {M : Hp} {r cl dr : Addr} {i j : Nat} : Pt.hop T (Pt.hop T M r cl dr i) r cl dr j = Pt.hop T M r cl dr j := upd_upd
theorem hop_ne {T : Tx K mg} {M : Hp} {r cl dr b : Addr} {i : Nat} (h : b ≠ r) : Pt.hop T M r cl dr i b = M b := upd_ne h
def spIsDone (T : Tx K mg) : Sp := spOf fun vs H v => ∃ (r cl dr : Addr) (l : List Int) (i : Nat), vs = [.ref r] ∧ H r = some (.ins T.cRowReader.C dr (crF cl i)) ∧ SqL K H cl (iv l) ∧ v = .bl (decide (i = l.length))
theorem ok_is_done (T : Tx K mg) : FnOk P w K mg base CX0 1 T.mRowReader_is_done.f T.mRowReader_is_done.fd ["self"] (spIsDone T) := by
  refine T.mRowReader_is_done.F.ok scRowReaderIsDone (fun vs H Q E h => ?_) (fun cdv A outer s H vs Q E hr h => ⟨_,
    pss_one (ps_ret (pe_cmpR op_eq (pe_fld (pv 0) rfl) (pe_len T.b_len (pe_fld (pv 0) rfl)) (nomark _))), ?_⟩)
  · obtain ⟨_, ⟨r, cl, dr, l, i, rfl, _⟩, _⟩ := h
    rfl
  obtain ⟨_, ⟨r, cl, dr, l, i, rfl, hr, hl, rfl⟩, k⟩ := h
  refine s_ret (v := .bl (decide (i = l.length))) (ev_is (ev_op (ev_fld (ev_var rfl) hr T.cRowReader.cl T.nRowReader_at (v := .int (i : Int)) (by rfl)) (ev_len (ev_fld (ev_var rfl) hr T.cRowReader.cl T.nRowReader_numbers (v := .ref cl) (by rfl)) hl) (rv_eq rfl)) ?_) fun H1 e1 => k.go e1
  rw [iv_len]
  congr 1
  rw [Bool.eq_iff_iff]
  simp only [decide_eq_true_eq, V.int.injEq]
  omega
/-- the numbers are not told so -/
def NtE (T : Tx K mg) (E : XK) (G : Hp) : Prop := ∀ H2, Ex G H2 → E (.ref T.cN) none H2
theorem NtE.go {T : Tx K mg} {E : XK} {G G2 : Hp} (h : NtE T E G) (e : Ex G G2) : NtE T E G2 := fun H2 e2 => h H2 (e.trans e2)
theorem ev_cat_ {T : Tx K mg} {r cl dr : Addr} {i j : Nat} (hj : σ[j]? = some (some (.ref r))) (h : H r = some (.ins T.cRowReader.C dr (crF cl i))) : Ev (tFld K (tVar j) "at") σ H (.int (i : Int)) := ev_fld (ev_var hj) h T.cRowReader.cl T.nRowReader_at (by rfl)
theorem ev_ccl {T : Tx K mg} {r cl dr : Addr} {i j : Nat} (hj : σ[j]? = some (some (.ref r))) (h : H r = some (.ins T.cRowReader.C dr (crF cl i))) : Ev (tFld K (tVar j) "numbers") σ H (.ref cl) := ev_fld (ev_var hj) h T.cRowReader.cl T.nRowReader_numbers (by rfl)
/-! ### take_some -/
def spTakeSome (T : Tx K mg) : Sp := fun vs H Q E => ∃ (r cl dr : Addr) (l : List Int) (i n : Nat) (G M : Hp), vs = [.ref r, .int (n : Int)] ∧ H = over G M ∧ CrS T G M r cl dr l i ∧
  if i + n ≤ l.length then (∀ p G2, over G M p = none → Ex G G2 → CrS T G2 (hop T M r cl dr (i + n)) r cl dr l (i + n) → G2 p = some (.lst (iv ((l.drop i).take n))) → Q (.ref p) (over G2 (hop T M r cl dr (i + n)))) else NtE T E G
theorem ok_take_some (T : Tx K mg) : FnOk P w K mg base (L2.CX P w) 1 T.mRowReader_take_some.f T.mRowReader_take_some.fd ["self", "count"] (spTakeSome T) := by
  refine T.mRowReader_take_some.F.okX scRowReaderTakeSome (fun vs H Q E h => ?_) (fun cdv A outer s H vs Q E hr h => ⟨_,
    pss_cons (ps_set (i := 2) scRowReaderTakeSome.nd rfl (.inl rfl) (pe_op op_add (pe_fld (pv 0) rfl) (pv 1)))
    (pss_cons (ps_if (pt_cmpR op_gt (pv 2) (pe_len T.b_len (pe_fld (pv 0) rfl)) (nomark _)) (pss_one (ps_raiseNt rfl T.nt (takes_of rfl rfl rfl rfl))) pss_nil)
    (pss_cons (ps_set (i := 3) scRowReaderTakeSome.nd rfl (.inl rfl) (pe_slice sl_list (pe_fld (pv 0) rfl) (po_some (pe_fld (pv 0) rfl)) (po_some (pv 2))))
    (pss_cons (ps_fld (pv 0) (pv 2) rfl)
    (pss_one (ps_ret (pv 3)))))), ?_⟩)
  · obtain ⟨r, cl, dr, l, i, n, G, M, rfl, _⟩ := h
    rfl
  obtain ⟨r, cl, dr, l, i, n, G, M, rfl, rfl, hC, k⟩ := h
  refine q_asg (v := .int ((i + n : Nat) : Int)) (ev_is (ev_op (ev_cat_ rfl (over_m hC.mr)) (ev_var rfl) rv_I0) (by congr 1)) fun H1 e1 => ?_
  refine q_when (b := decide (l.length < i + n)) (et_is (et_test (ev_op (ev_var rfl) (ev_len (ev_ccl rfl (e1 _ _ (over_m hC.mr))) (ex_l ((ex_over hC.ap).trans e1) hC.cl)) rv_I0)) ?_) (fun hs H2 e2 => ?_) (fun hs H2 e2 => ?_)
  · rw [iv_len, Bool.eq_iff_iff]
    simp only [decide_eq_true_eq]
    omega
  · have hs := of_decide_eq_true hs
    rw [if_neg (by omega)] at k
    exact k H2 ((ex_over hC.ap).trans (e1.trans e2))
  · have hs := of_decide_eq_false hs
    rw [if_pos (by omega)] at k
    obtain ⟨G2, a2, eG2, rfl⟩ := over_split hC.ap (e1.trans e2)
    have hC2 := hC.grow eG2 a2
    refine q_asgL (xs := iv ((l.drop i).take n)) ?_ fun p H3 hp e3 h3 => ?_
    · have := el_sl (K := K) (te := tFld K (tVar 0) "numbers") (tl := tPart (tFld K (tVar 0) "at")) (th := tPart (tVar 2)) (σ := [some (.ref r), some (.int (n : Int)), some (.int ((i + n : Nat) : Int)), none]) (H := over G2 M) (ev_ccl rfl (over_m hC2.mr)) (eo_some (ev_cat_ rfl (over_m hC2.mr))) (eo_some (ev_var rfl)) (ex_l (ex_over hC2.ap) hC2.cl)
      rw [cut_nat _ _ _ (by omega) (by rw [iv_len]; omega), iv_drop, iv_take, Nat.add_sub_cancel_left] at this
      exact this
    · have hpM : M p = none := none_m hp
      have hpr : p ≠ r := fun z => by rw [z, hC.mr] at hpM; cases hpM
      obtain ⟨G3, a3, eG3, rfl⟩ := over_split a2 e3
      have hC3 := hC2.grow eG3 a3
      refine t_fldset ?_
      refine (ev_var (v := .int ((i + n : Nat) : Int)) rfl) _ (Ex.refl _) _ fun H4 e4 => ?_
      refine (ev_var (v := .ref r) rfl) H4 (Ex.refl _) _ fun H5 e5 => ?_
      obtain ⟨G5, a5, eG5, rfl⟩ := over_split a3 (e4.trans e5)
      have hC5 := hC3.grow eG5 a5
      refine ⟨r, T.cRowReader.C, dr, crF cl i, rfl, over_m hC5.mr, T.cRowReader.cl, T.nRowReader_at, (by show 2 < 1000; decide), ?_⟩
      rw [crF_put, over_upd]
      have hC6 := hC5.hop (i + n)
      dsimp only
      refine s_ret (ev_var (v := .ref p) rfl) fun H7 e7 => ?_
      obtain ⟨G7, a7, eG7, rfl⟩ := over_split hC6.ap e7
      rw [over_g hpM] at h3
      exact k p G7 (fresh_back (e1.trans e2) hp) (((eG2.trans eG3).trans eG5).trans eG7) (hC6.grow eG7 a7) ((eG5.trans eG7) _ _ h3)
/-! ### take_number, take_row -/
def spTakeNumber (T : Tx K mg) : Sp := fun vs H Q E => ∃ (r cl dr : Addr) (l : List Int) (i : Nat) (G M : Hp), vs = [.ref r] ∧ H = over G M ∧ CrS T G M r cl dr l i ∧ match l[i]? with
  | some n => ∀ G2, Ex G G2 → CrS T G2 (hop T M r cl dr (i + 1)) r cl dr l (i + 1) → Q (.int n) (over G2 (hop T M r cl dr (i + 1)))
  | none => NtE T E G
theorem ok_take_number (T : Tx K mg) : FnOk P w K mg base (L2.CX P w) 2 T.mRowReader_take_number.f T.mRowReader_take_number.fd ["self"] (spTakeNumber T) := by
  have GS : FnOk P w K mg base (L2.CX P w) 1 _ _ _ _ := ok_take_some T
  refine T.mRowReader_take_number.F.okX scRowReaderTakeNumber (fun vs H Q E h => ?_) (fun cdv A outer s H vs Q E hr h => ⟨_,
    pss_one (ps_ret (pe_ix ix_list (pe_meth (pv 0) T.cRowReader.cl T.mRowReader_take_some.M GS hr (bdRowReaderTakeSome T.mRowReader_take_some.F) .nil (passes_call (takes_of rfl rfl rfl rfl) (fun _ _ _ _ h => h)) (pa_cons pe_int pa_nil)) pe_int (fun _ _ => rfl))), ?_⟩)
  · obtain ⟨r, cl, dr, l, i, G, M, rfl, _⟩ := h
    rfl
  obtain ⟨r, cl, dr, l, i, G, M, rfl, rfl, hC, k⟩ := h
  refine t_meth (a := r) (ev_var rfl) (over_m hC.mr) (by rfl) (ea_cons ev_c ea_nil) fun H1 e1 => ?_
  obtain ⟨G1, a1, eG1, rfl⟩ := over_split hC.ap e1
  refine ⟨r, cl, dr, l, i, 1, G1, M, rfl, rfl, hC.grow eG1 a1, ?_⟩
  cases hl : l[i]? with
  | none =>
    rw [hl] at k
    rw [if_neg (by have := List.getElem?_eq_none_iff.mp hl; omega)]
    exact k.go eG1
  | some n =>
    rw [hl] at k
    have hil := (List.getElem?_eq_some_iff.mp hl).1
    rw [if_pos (by omega)]
    intro p G2 hp eG2 hC2 h2
    have h1 : (l.drop i).take 1 = [n] := by rw [drop_of hl]; rfl
    rw [h1] at h2
    have hpM : hop T M r cl dr (i + 1) p = none := by
      have hpM : M p = none := none_m hp
      rw [hop_ne (fun z => by rw [z, hC.mr] at hpM; cases hpM)]
      exact hpM
    refine ev_c _ (Ex.refl _) _ fun H3 e3 => ?_
    obtain ⟨G3, a3, eG3, rfl⟩ := over_split hC2.ap e3
    refine ⟨p, iv [n], 0, .int n, rfl, rfl, sq_of (by rw [over_g hpM]; exact eG3 _ _ h2), atI_nat (j := 0) rfl, ?_⟩
    exact k G3 ((eG1.trans eG2).trans eG3) (hC2.grow eG3 a3)
def spTakeRow (T : Tx K mg) : Sp := fun vs H Q E => ∃ (r cl dr : Addr) (l : List Int) (i : Nat) (G M : Hp), vs = [.ref r] ∧ H = over G M ∧ CrS T G M r cl dr l i ∧ match l[i]? with
  | some z => ∃ n : Nat, z = (n : Int) ∧ if i + 1 + n ≤ l.length then (∀ p G2, over G M p = none → Ex G G2 → CrS T G2 (hop T M r cl dr (i + 1 + n)) r cl dr l (i + 1 + n) → G2 p = some (.lst (iv ((l.drop (i + 1)).take n))) → Q (.ref p) (over G2 (hop T M r cl dr (i + 1 + n)))) else NtE T E G
  | none => NtE T E G
theorem ok_take_row (T : Tx K mg) : FnOk P w K mg base (L2.CX P w) 3 T.mRowReader_take_row.f T.mRowReader_take_row.fd ["self"] (spTakeRow T) := by
  have GS : FnOk P w K mg base (L2.CX P w) 2 _ _ _ _ := (ok_take_some T).mono (by decide)
  have GN : FnOk P w K mg base (L2.CX P w) 2 _ _ _ _ := ok_take_number T
  refine T.mRowReader_take_row.F.okX scRowReaderTakeRow (fun vs H Q E h => ?_) (fun cdv A outer s H vs Q E hr h => ⟨_,
    pss_one (ps_ret (pe_meth (pv 0) T.cRowReader.cl T.mRowReader_take_some.M GS hr (bdRowReaderTakeSome T.mRowReader_take_some.F) .nil (passes_call (takes_of rfl rfl rfl rfl) (fun _ _ _ _ h => h))
      (pa_cons (pe_meth0 (pv 0) T.cRowReader.cl T.mRowReader_take_number.M GN hr (bdRowReaderTakeNumber T.mRowReader_take_number.F) .nil (passes_call (takes_of rfl rfl rfl rfl) (fun _ _ _ _ h => h))) pa_nil))), ?_⟩)
  · obtain ⟨r, cl, dr, l, i, G, M, rfl, _⟩ := h
    rfl
  obtain ⟨r, cl, dr, l, i, G, M, rfl, rfl, hC, k⟩ := h
  refine t_methR (a := r) (ev_var rfl) (over_m hC.mr) (by rfl) fun H1 e1 => t_cons ?_
  refine t_meth (a := r) (ev_var rfl) (e1 _ _ (over_m hC.mr)) (by rfl) ea_nil fun H2 e2 => ?_
  obtain ⟨G2, a2, eG2, rfl⟩ := over_split hC.ap (e1.trans e2)
  refine ⟨r, cl, dr, l, i, G2, M, rfl, rfl, hC.grow eG2 a2, ?_⟩
  cases hl : l[i]? with
  | none =>
    rw [hl] at k
    exact k.go eG2
  | some z =>
    rw [hl] at k
    obtain ⟨n, rfl, k⟩ := k
    intro G3 eG3 hC3
    refine t_nil ⟨r, cl, dr, l, i + 1, n, G3, _, rfl, rfl, hC3, ?_⟩
    by_cases hz : i + 1 + n ≤ l.length
    · rw [if_pos hz] at k ⊢
      intro p G4 hp eG4 hC4 h4
      rw [hop2] at hC4 ⊢
      have hpM : M p = none := by
        have h1 : hop T M r cl dr (i + 1) p = none := none_m hp
        have hpr : p ≠ r := fun z => by
          rw [z] at h1
          unfold hop at h1
          rw [upd_same] at h1
          cases h1
        rw [hop_ne hpr] at h1
        exact h1
      have hpG : G p = none := by
        cases q : G p with
        | none => rfl
        | some u =>
          have h5 := (eG2.trans eG3) _ _ q
          have hpr : p ≠ r := fun z => by rw [z, hC.mr] at hpM; cases hpM
          rw [over_g (by rw [hop_ne hpr]; exact hpM), h5] at hp
          cases hp
      exact k p G4 (by rw [over_g hpM]; exact hpG) ((eG2.trans eG3).trans eG4) hC4 h4
    · rw [if_neg hz] at k ⊢
      exact k.go (eG2.trans eG3)
end
end Pt
set_option Elab.async false
set_option linter.all false
set_option maxRecDepth 100000
set_option maxHeartbeats 2000000
namespace Pt
open PySem PySem.Spec PyProof.Rows L2 Evl
open VahypBase (Bytes)
section
variable {P : Program} {w : World} {K : PySem.W.Frag} {mg : Str → Option Value} {base : Heap} {X : Cx}
variable {σ : L2.St} {H H' : Hp} {ta tb tc te tl : TE} {t : TT} {x y z v : V} {C : Addr} {D : Ends} {tz : TS}
/-! ### argument_of -/
def spTakeNumber0 (T : Tx K mg) : Sp := fun vs H Q _ => ∃ (r cl dr : Addr) (l : List Int) (i : Nat) (n : Int) (G M : Hp), vs = [.ref r] ∧ H = over G M ∧ CrS T G M r cl dr l i ∧ l[i]? = some n ∧
  ∀ G2, Ex G G2 → CrS T G2 (hop T M r cl dr (i + 1)) r cl dr l (i + 1) → Q (.int n) (over G2 (hop T M r cl dr (i + 1)))
theorem ok_take_number0 (T : Tx K mg) : FnOk P w K mg base CX0 2 T.mRowReader_take_number.f T.mRowReader_take_number.fd ["self"] (spTakeNumber0 T) := calm (ok_take_number T) fun vs H Q E h => by
  obtain ⟨r, cl, dr, l, i, n, G, M, e1, e2, hC, hn, k⟩ := h
  refine ⟨r, cl, dr, l, i, G, M, e1, e2, hC, ?_⟩
  rw [hn]
  exact k
def spTakeRow0 (T : Tx K mg) : Sp := fun vs H Q _ => ∃ (r cl dr : Addr) (l : List Int) (i n : Nat) (G M : Hp), vs = [.ref r] ∧ H = over G M ∧ CrS T G M r cl dr l i ∧ l[i]? = some (n : Int) ∧ i + 1 + n ≤ l.length ∧
  ∀ p G2, over G M p = none → Ex G G2 → CrS T G2 (hop T M r cl dr (i + 1 + n)) r cl dr l (i + 1 + n) → G2 p = some (.lst (iv ((l.drop (i + 1)).take n))) → Q (.ref p) (over G2 (hop T M r cl dr (i + 1 + n)))
theorem ok_take_row0 (T : Tx K mg) : FnOk P w K mg base CX0 3 T.mRowReader_take_row.f T.mRowReader_take_row.fd ["self"] (spTakeRow0 T) := calm (ok_take_row T) fun vs H Q E h => by
  obtain ⟨r, cl, dr, l, i, n, G, M, e1, e2, hC, hn, hz, k⟩ := h
  refine ⟨r, cl, dr, l, i, G, M, e1, e2, hC, ?_⟩
  rw [hn]
  refine ⟨n, rfl, ?_⟩
  rw [if_pos hz]
  exact k
theorem et_inU {xs : List V} {b : Bool} (ha : Ev ta σ H x) (hb : EvU tb σ H xs) (hx : flatV x = true) (hall : xs.all flatV = true) (he : inV x xs = b) : EvT (tTest (tOp (rIn K false) ta tb)) σ H b := fun H1 e Q q =>
  ha H1 e _ fun H2 e2 => hb H2 (e.trans e2) _ fun p H3 hp e3 h3 => (rv_isT (st_of h3) hx hall) H3 (Ex.refl _) _ fun H4 e4 => ⟨_, rfl, by
    rw [he]
    exact q H4 ((e2.trans e3).trans e4)⟩
def withRow (c : Int) : Bool := c == 0 || c == 3 || c == 4 || c == 5 || c == 7 || c == 8
def withNum (c : Int) : Bool := c == 6 || c == 9
def spTakeArg (T : Tx K mg) : Sp := fun vs H Q _ => ∃ (r cl dr : Addr) (l : List Int) (i : Nat) (c : Int) (G M : Hp), vs = [.ref r, .int c] ∧ H = over G M ∧ CrS T G M r cl dr l i ∧
  (withRow c = true → ∃ n : Nat, l[i]? = some (n : Int) ∧ i + 1 + n ≤ l.length ∧ ∀ p G2, over G M p = none → Ex G G2 → CrS T G2 (hop T M r cl dr (i + 1 + n)) r cl dr l (i + 1 + n) → G2 p = some (.lst (iv ((l.drop (i + 1)).take n))) → Q (.ref p) (over G2 (hop T M r cl dr (i + 1 + n)))) ∧
  (withNum c = true → ∃ n : Int, l[i]? = some n ∧ ∀ G2, Ex G G2 → CrS T G2 (hop T M r cl dr (i + 1)) r cl dr l (i + 1) → Q (.int n) (over G2 (hop T M r cl dr (i + 1)))) ∧
  (withRow c = false → withNum c = false → ∀ G2, Ex G G2 → CrS T G2 M r cl dr l i → Q .non (over G2 M))
theorem inV_row (c : Int) : inV (.int c) [.int 0, .int 3, .int 4, .int 5, .int 7, .int 8] = withRow c := by
  unfold inV withRow
  rw [Bool.eq_iff_iff]
  simp [eqV]
  omega
theorem inV_num (c : Int) : inV (.int c) [.int 6, .int 9] = withNum c := by
  unfold inV withNum
  rw [Bool.eq_iff_iff]
  simp [eqV]
  omega
theorem ok_argument_of (T : Tx K mg) : FnOk P w K mg base CX0 4 T.argument_of.f T.argument_of.fd ["reader", "call"] (spTakeArg T) := by
  have GR : FnOk P w K mg base CX0 3 _ _ _ _ := ok_take_row0 T
  have GN : FnOk P w K mg base CX0 3 _ _ _ _ := (ok_take_number0 T).mono (by decide)
  refine T.argument_of.F.ok scArgumentOf (fun vs H Q E h => ?_) (fun cdv A outer s H vs Q E hr h => ⟨_,
    pss_cons (ps_if (pt_cmpR op_in_seq (pv 1) (pe_tup (pa_cons (pe_k T.k_LOAD) (pa_cons (pe_k T.k_LEVELS) (pa_cons (pe_k T.k_PART) (pa_cons (pe_k T.k_ADD) (pa_cons (pe_k T.k_CHECK) (pa_cons (pe_k T.k_FIND) pa_nil))))))) (by rfl)) (pss_one (ps_ret (pe_meth0 (pv 0) T.cRowReader.cl T.mRowReader_take_row.M GR hr (bdRowReaderTakeRow T.mRowReader_take_row.F) .nil pass0))) pss_nil)
    (pss_cons (ps_if (pt_cmpR op_in_seq (pv 1) (pe_tup (pa_cons (pe_k T.k_DROP) (pa_cons (pe_k T.k_NODE) pa_nil))) (by rfl)) (pss_one (ps_ret (pe_meth0 (pv 0) T.cRowReader.cl T.mRowReader_take_number.M GN hr (bdRowReaderTakeNumber T.mRowReader_take_number.F) .nil pass0))) pss_nil)
    (pss_one (ps_ret pe_non))), ?_⟩)
  · obtain ⟨r, cl, dr, l, i, c, G, M, rfl, _⟩ := h
    rfl
  obtain ⟨r, cl, dr, l, i, c, G, M, rfl, rfl, hC, k1, k2, k3⟩ := h
  refine q_when (b := withRow c) (et_inU (ev_var rfl) (eu_tup (vs := [.int 0, .int 3, .int 4, .int 5, .int 7, .int 8]) (ea_cons ev_c (ea_cons ev_c (ea_cons ev_c (ea_cons ev_c (ea_cons ev_c (ea_cons ev_c ea_nil)))))) (by decide)) rfl (by decide) (inV_row c)) (fun hs H1 e1 => ?_) (fun hs H1 e1 => ?_)
  · obtain ⟨n, hn, hz, k⟩ := k1 hs
    refine t_meth (a := r) (ev_var rfl) (e1 _ _ (over_m hC.mr)) (by rfl) ea_nil fun H2 e2 => ?_
    obtain ⟨G2, a2, eG2, rfl⟩ := over_split hC.ap (e1.trans e2)
    exact ⟨r, cl, dr, l, i, n, G2, M, rfl, rfl, hC.grow eG2 a2, hn, hz, fun p G3 hp eG3 hC3 h3 => k p G3 (fresh_back (e1.trans e2) hp) (eG2.trans eG3) hC3 h3⟩
  · refine q_when (b := withNum c) (et_inU (ev_var rfl) (eu_tup (vs := [.int 6, .int 9]) (ea_cons ev_c (ea_cons ev_c ea_nil)) (by decide)) rfl (by decide) (inV_num c)) (fun hs2 H2 e2 => ?_) (fun hs2 H2 e2 => ?_)
    · obtain ⟨n, hn, k⟩ := k2 hs2
      refine t_meth (a := r) (ev_var rfl) ((e1.trans e2) _ _ (over_m hC.mr)) (by rfl) ea_nil fun H3 e3 => ?_
      obtain ⟨G2, a2, eG2, rfl⟩ := over_split hC.ap ((e1.trans e2).trans e3)
      exact ⟨r, cl, dr, l, i, n, G2, M, rfl, rfl, hC.grow eG2 a2, hn, fun G3 eG3 hC3 => k G3 (eG2.trans eG3) hC3⟩
    · refine s_ret ev_c fun H3 e3 => ?_
      obtain ⟨G2, a2, eG2, rfl⟩ := over_split hC.ap ((e1.trans e2).trans e3)
      exact k3 hs hs2 G2 eG2 (hC.grow eG2 a2)
end
end Pt
set_option Elab.async false
set_option linter.all false
set_option maxRecDepth 100000
set_option maxHeartbeats 2000000
/-! ## a comprehension whose element may raise (out of a call) -/
namespace L2
open PySem PySem.Spec PyProof.Rows
/-- the block of a comprehension, where errors go to xe -/
abbrev blx (X : Cx) (s : Shared) (H : Hp) (scope : Scope) (cenv : Env) (fp : List Addr) (xe : Value → Shared → Prop) : Cx := { X.blk s H scope cenv fp with xe := xe }
theorem Inv.air {X : Cx} {pins : List (Addr × Obj)} {σ : St} {H : Hp} {s : Shared} (I : Inv X pins σ H s) (xe : Value → Shared → Prop) : Inv { X with xe := xe } pins σ H s :=
  ⟨⟨I.ok.mod, I.ok.kind, I.ok.glob, I.ok.blt, I.ok.above, I.ok.inj, I.ok.has, I.ok.cab, I.ok.hd, I.ok.frames, I.ok.stk, I.ok.exf, I.ok.bs, I.ok.bsz, I.ok.noex, I.ok.exfs, I.ok.funs, I.ok.frf⟩, I.os, I.bare, I.base, I.loc, I.cell, I.free, I.freeC, I.pin, I.hok, I.len⟩
theorem Inv.still {X : Cx} {pins : List (Addr × Obj)} {σ : St} {H : Hp} {s : Shared} {xe xe' : Value → Shared → Prop} (I : Inv { X with xe := xe } pins σ H s) : Inv { X with xe := xe' } pins σ H s := I.air xe'
section
variable {X : Cx} {pins : List (Addr × Obj)} {σ : St} {H3 : Hp} {s3 : Shared} {scope : Scope} {fp : List Addr} {E : XK} {cenv : Env}
/-- an error that a call within the block lets out goes on in the def's own frame -/
theorem block_raise (tk : Takes X (fun cls d _ H => E cls d H)) (hst : X.stack = X.env :: X.outer) (hf : X.env.frame = some X.env.locals) (I3 : Inv X pins σ H3 s3) (f3 : ∀ b ∈ fp, FpOk X pins H3 b ∧ b < s3.heap.objs.size)
    (hcL : cenv.locals = s3.heap.objs.size) (hcf : cenv.frame = X.env.frame) {xe : Value → Shared → Prop} {pins' : List (Addr × Obj)} {σ' : St} {H : Hp} {s : Shared} (I : Inv (blx X s3 H3 scope cenv fp xe) pins' σ' H s) {e : Value} {s' : Shared}
    (c : L2.CX X.prog X.w X.stack H s E e s') : notedBy (model X.prog X.w) X.A cenv (CompFails (model X.prog X.w) X.A X.xe cenv) e s' := by
  have I7 : Inv X pins σ H s := I3.call' (ch := fp) I.os I.base I.hok I.bare fun b hb => ⟨(f3 b hb).1.2.2.2.1, (f3 b hb).1.2.1, (f3 b hb).1.2.2.2.2.1, (f3 b hb).1.2.2.2.2.2⟩
  obtain ⟨a, B, Hx, cls, d, rfl, fl, hok, ub, na, os, ag, hE⟩ := c
  have hCn : H cenv.locals = none := I.free
  have hCf : cenv.locals ∉ frs X.stack := fun hm => by
    obtain ⟨_, o, ho, _⟩ := I3.stack.mem hm
    have := Heap.lt_size ho
    rw [hcL] at this
    exact absurd this (Nat.lt_irrefl _)
  obtain ⟨m, ⟨oC, es, ep, hoC, hdC, rC⟩, _⟩ := I.loc
  have hoC : s.heap.get? cenv.locals = some oC := hoC
  have hBC : B.get? cenv.locals = some oC := ub.keep _ oC hoC hCn hCf
  have hsC : s'.heap.get? cenv.locals = some oC := fl.1 _ _ hBC
  have hHxC : Hx cenv.locals = none := ub.free _ oC hoC hCn
  obtain ⟨B', b1, b2⟩ := restrict B fun b => decide (b ≠ cenv.locals)
  have bC : B'.get? cenv.locals = none := b2 _ (by simp)
  have bk : ∀ b, b ≠ cenv.locals → B'.get? b = B.get? b := fun b hb => b1 b (by simpa using hb)
  have sub : ∀ b o, B'.get? b = some o → B.get? b = some o ∧ b ≠ cenv.locals := fun b o q => by
    have hb : b ≠ cenv.locals := fun z => by rw [z, bC] at q; cases q
    exact ⟨by rw [← bk b hb]; exact q, hb⟩
  have none' : ∀ b, B.get? b = none → B'.get? b = none := fun b q => by
    cases z : B'.get? b with
    | none => rfl
    | some o => rw [(sub b o z).1] at q; cases q
  have fl' : HandSPX.FlyingZ B' X.stack a (Zc cls d) s'.heap := by
    obtain ⟨k1, k2, k3, oe, vs, T, oT, ts, he, hz, hd, h1, hnT, hTe, hT, hdT, h3⟩ := fl
    exact ⟨fun b o q => k1 b o (sub b o q).1, none' a k2, funFrames_none k3 fun L hL => none' L (k3.mem hL).1, oe, vs, T, oT, ts, he, hz, hd, h1, none' T hnT, hTe, hT, hdT, h3⟩
  rw [hst] at fl'
  have hfr : X.A.frames = some (X.env :: X.outer) := by rw [I3.ok.frames, hst]
  show wpAny _ X.A (noteFrame (.ref a) cenv) _ _ s'
  rw [noteFrame_env _ hcf]
  refine HandSPX.looks_onZ Zc.steady hfr hf fl' fun h1 hh1 up1 => ?_
  obtain ⟨sl1, hC1⟩ := up1 _ oC hsC fun vs z => by rw [hdC] at z; cases z
  refine ⟨m, ⟨_, es, ep, hC1, hdC, rC⟩, fun h2 m2 hn2 hs2 => ?_⟩
  have hh2 : HandSPX.HeldZ B' (X.env :: X.outer) a (Zc cls d) X.env.locals h2 := by
    obtain ⟨k1, k2, k3, oe, vs, T, oT, ts, he, hz, hd, g1, hnT, hTe, hT, hdT, g3⟩ := hh1
    have off : ∀ b o vs, h1.get? b = some o → o.data = .fields vs → b ≠ cenv.locals := fun b o vs q z y => by
      rw [y, hC1] at q
      rw [← Option.some.inj q] at z
      have z : oC.data = .fields vs := z
      rw [hdC] at z
      cases z
    exact ⟨fun b o q => (hs2.2 b (sub b o q).2).trans (k1 b o q), k2, Heap.FunFrames.sameBut hs2 hn2 k3, oe, vs, T, oT, ts, (hs2.2 a (off a oe vs he hd)).trans he, hz, hd, g1, hnT, hTe, (hs2.2 T (off T oT ts hT hdT)).trans hT, hdT, g3⟩
  have hh2' := hh2
  obtain ⟨k1, k2, k3, oe, vs, T, oT, ts, he, hz, hd, g1, hnT, hTe, hT, hdT, g3⟩ := hh2'
  unfold PySem.passOn
  refine wpAny_bind (wpAny_field he hd g1 ?_)
  rw [if_neg (show ¬ ((Value.ref T == Value.none) = true) from by simp), hcf, hf]
  refine wpAny_bind (HandSPX.setFlight_onZ (s := { s' with heap := h2 }) hh2 fun h4 hh4 up4 => wpAny_throw ?_)
  -- the state behind it is one of ours
  obtain ⟨G, q1, q2⟩ := restrict s'.heap fun b => (B'.get? b).isSome || decide (b ∈ frs X.stack)
  have gB : ∀ b o, B'.get? b = some o → G.get? b = some o := fun b o z => by
    rw [q1 b (by simp [z])]
    exact fl.1 b o (sub b o z).1
  have gF : ∀ b, b ∈ frs X.stack → G.get? b = s'.heap.get? b := fun b hb => q1 b (by simp [hb])
  have og : ∀ b o, G.get? b = some o → s'.heap.get? b = some o ∧ ((B'.get? b).isSome = true ∨ b ∈ frs X.stack) := fun b o z => by
    cases q : ((B'.get? b).isSome || decide (b ∈ frs X.stack)) with
    | false => rw [q2 b q] at z; cases z
    | true =>
      rw [q1 b q] at z
      exact ⟨z, by simpa [Bool.or_eq_true] using q⟩
  have gC : ∀ b o, G.get? b = some o → b ≠ cenv.locals := fun b o z y => by
    rcases (og b o z).2 with h | h
    · rw [y, bC] at h; cases h
    · rw [y] at h; exact hCf h
  have hokG : HOk X.prog X.w Hx G := fun b u hu => (hok b u hu).stay (fun x v hx hv => by
      have hne : x ≠ cenv.locals := fun y => by
        rcases hx with hx | hx
        · rw [← hx, y, hHxC] at hu; cases hu
        · rw [y, hHxC] at hx; cases hx
      exact gB x v (by rw [bk x hne]; exact hv)) (fun _ z => z) fun _ _ z => z
  have fC := I3.fpOk (b := cenv.locals) (by rw [hcL]; exact Nat.le_refl _) hCn
  have J : Inv X pins σ Hx { s with heap := G, gens := s'.gens, drawn := s'.drawn, toks := s'.toks } := by
    refine I7.call (ch := [cenv.locals]) ⟨fun b o z n hb hc => ?_, fun b o z n hb hc => ?_, fun b o z n _ => ub.free b o z n, fun b o z hc => ?_, ub.tups, ub.frzs, ub.tbls⟩ hokG ag fun b hb => ?_
    · exact gB b o (by rw [bk b (fun y => hc (by simp [y]))]; exact ub.keep b o z n hb)
    · obtain ⟨sl, q⟩ := ub.slot b o z hb
      exact ⟨sl, by rw [gF b hb]; exact q⟩
    · by_cases hb : b ∈ frs X.stack
      · obtain ⟨sl, q⟩ := ub.slot b o z hb
        exact ⟨_, by rw [gF b hb]; exact q⟩
      · obtain ⟨o', q⟩ := ub.there b o z hb
        exact ⟨o', gB b o' (by rw [bk b (fun y => hc (by simp [y]))]; exact q)⟩
    · have : b = cenv.locals := by simpa using hb
      subst this
      exact ⟨fC.2.2.2.1, fC.2.1, fC.2.2.2.2.1, fC.2.2.2.2.2⟩
  refine tk _ _ ⟨a, B', _, pins, σ, Hx, cls, d, rfl, J, fun b o z hb => ?_, fun b o z hnf => ?_, .inr (.inr (by rw [hst]; exact hh4)), na, os, ag, hE⟩
  · obtain ⟨z1, z2⟩ := og b o z
    rcases z2 with h | h
    · obtain ⟨o', q⟩ := Option.isSome_iff_exists.mp h
      have := fl.1 b o' (sub b o' q).1
      rw [z1] at this
      cases this
      exact q
    · exact absurd h hb
  · obtain ⟨z1, _⟩ := og b o z
    obtain ⟨sl, y1⟩ := up1 b o z1 hnf
    have y2 := (hs2.2 b (gC b o z)).trans y1
    obtain ⟨sl', y3⟩ := up4 b _ y2 hnf
    exact ⟨sl', y3⟩
/-- name = [..], the element may raise -/
theorem ps_setLcX {i : Nat} {y : Str} {py : Pos} {elt tg iter : Expr} {own : List (Str × Nat)} {pos spos : Pos} {wi : TI} {g : TG} {te : TE} (hc : X.calm = true) (hN : X.N.Nodup) (hy : X.N[i]? = some y) (hyl : X.env.scope.names.lookup y = some .local)
    (tk : Takes X (fun cls d _ H => E cls d H)) (hst : X.stack = X.env :: X.outer) (hf : X.env.frame = some X.env.locals)
    (hsw : swapsWith (.ListComp elt [⟨tg, iter, [], 0⟩] scope pos) (some (.Name y py)) spos.line X.env = pure true) (hi : PI X tg iter wi) (ok : BlkOk X.N X.env.scope scope own)
    (hg : ∀ (s : Shared) (H : Hp) (C : Addr) (cl : List (Str × Addr)) (fp : List Addr) (xe : Value → Shared → Prop), PG (blx X s H scope (compEnvC scope cl C X.env) fp xe) tg g)
    (he : ∀ (s : Shared) (H : Hp) (C : Addr) (cl : List (Str × Addr)) (fp : List Addr) (xe : Value → Shared → Prop), Passes (L2.CX X.prog X.w) (blx X s H scope (compEnvC scope cl C X.env) fp xe) E → PE (blx X s H scope (compEnvC scope cl C X.env) fp xe) elt te)
    (hs : ∀ x, foldedSetIterable iter X.env x = pure x := by intro _; rfl) :
    PS X (.Assign [.Name y py] (.ListComp elt [⟨tg, iter, [], 0⟩] scope pos) spos) (tAsg (tLc wi g tYes te (own.map (·.2))) (gName i)) := by
  refine ⟨fun pins s σ H D I h => ?_⟩
  rw [exec_Assign_Name_used _ _ _ _ hsw]
  refine wpAny_bind (wpAny_standAt (wpAny_bind ?_))
  show wpAny _ X.A (do let _ ← comprehension (.ListComp elt [⟨tg, iter, [], 0⟩] scope pos) scope X.env (firstIterPos [⟨tg, iter, [], 0⟩] pos) (newList []) false (eval iter X.env) (some (assign (.Name y py) X.env))) _ _ s
  have h : tLc wi g tYes te (own.map (·.2)) σ H (fun x H1 => gName i x σ H1 D.nx) := h
  refine wpAny_bind (thn (Q := fun _ s' => SP X pins D .next s') ?_ fun _ s' hq => wpAny_pure (wpAny_pure hq))
  have hfree : ∀ z ∈ scope.names, z.2 = .free → ∃ c, X.env.cells.lookup z.1 = some c := fun z hz e => by
    rcases ok.free z hz e with k | k
    · exact I.ok.has _ (.inl k)
    · exact I.ok.has _ (.inr k)
  refine comprehension_at (use := some (assign (.Name y py) X.env)) rfl hs (closure_ok hfree) ok.kind (fun z hz e => by rw [ok.uniq z hz, e])
    (thn (hi.run pins s σ H _ I h) fun xv s1 hx => thn hx fun itv s2 h2 => ?_)
  obtain ⟨it, fp, tn, J, H2, e, I2, T, st2, f2, q⟩ := h2
  subst e
  refine wpAny_newObj_type (newEnv_comp ?_) (by show 0 ≤ sizeLine; decide)
  generalize hD : s2.heap.objs.size = L
  have hDn : H2 L = none := I2.hok.fresh (Nat.le_of_eq hD)
  obtain ⟨W, ⟨m0, w0⟩, turn⟩ := q L hDn
  generalize hs3 : ({ s2 with heap := s2.heap.push { cls := .type "list", data := .seq ([] : List Value).toArray } } : Shared) = s3
  have I3 : Inv X pins σ (upd H2 L (.lst [])) s3 := by
    rw [← hs3]
    refine I2.laid (t' := s2.toks) (fun b o e => Heap.get?_push_of_some _ e) (Nat.le_of_eq hD) ⟨Nat.zero_le _, [], 0, .nil, ?_⟩
    rw [← hD]
    exact Heap.get?_push_size _ rfl
  have h3 : s3.heap = s2.heap.push { cls := .type "list", data := .seq ([] : List Value).toArray } := by rw [← hs3]
  have f3 : ∀ b ∈ fp, FpOk X pins (upd H2 L (.lst [])) b ∧ b < s3.heap.objs.size := fun b hb => by
    obtain ⟨o, ho, _⟩ := T.obj _ _ st2 b hb
    have lt := Heap.lt_size ho
    refine ⟨⟨?_, (f2 b hb).2⟩, by rw [h3, Heap.size_push]; exact Nat.lt_succ_of_lt lt⟩
    rw [upd_ne (by rw [← hD]; exact Nat.ne_of_lt lt)]
    exact (f2 b hb).1
  have st3 : tn 0 s3.heap := T.keep _ _ _ st2 fun b _ o e => by rw [h3]; exact Heap.get?_push_of_some _ e
  have I4 := block_start I3 ok hN f3
  have pg := hg s3 (upd H2 L (.lst [])) s3.heap.objs.size (cellsFrom (s3.heap.objs.size + 1) scope.names (cloFrom X.env.cells scope.names [])) fp
  have pe := he s3 (upd H2 L (.lst [])) s3.heap.objs.size (cellsFrom (s3.heap.objs.size + 1) scope.names (cloFrom X.env.cells scope.names [])) fp
  show codeAny _ _ (.compStart (.ListComp elt [⟨tg, iter, [], 0⟩] scope pos) 0 (.ref it) (.ref L) (compEnvC scope (cellsFrom (s3.heap.objs.size + 1) scope.names (cloFrom X.env.cells scope.names [])) s3.heap.objs.size X.env))
    (compEnds (model X.prog X.w) X.A X.xe (some (assign (.Name y py) X.env)) (fun _ s' => SP X pins D .next s') (.ref L) (compEnvC scope (cellsFrom (s3.heap.objs.size + 1) scope.names (cloFrom X.env.cells scope.names [])) s3.heap.objs.size X.env)) { s3 with heap := pushCells (s3.heap.push { cls := .type "dict", data := .dict #[] }) scope.names }
  have nfp : ∀ b ∈ fp, (upd H2 L (.lst [])) b = none := fun b hb => (f3 b hb).1.1
  generalize hce : compEnvC scope (cellsFrom (s3.heap.objs.size + 1) scope.names (cloFrom X.env.cells scope.names [])) s3.heap.objs.size X.env = ce at I4 pg pe ⊢
  have cL : ce.locals = s3.heap.objs.size := by subst hce; rfl
  have cF : ce.frame = X.env.frame := by subst hce; rfl
  generalize hH3 : upd H2 L (.lst []) = H3 at I3 I4 pg pe w0 nfp f3
  generalize hs4 : ({ s3 with heap := pushCells (s3.heap.push { cls := .type "dict", data := .dict #[] }) scope.names } : Shared) = s4 at I4 ⊢
  have st4 : tn 0 s4.heap := T.keep _ _ _ st3 fun b _ o e => by rw [← hs4]; exact pushCells_keeps _ _ _ _ (Heap.get?_push_of_some _ e)
  obtain ⟨xe, hxe⟩ : ∃ xe, xe = notedBy (model X.prog X.w) X.A ce (CompFails (model X.prog X.w) X.A X.xe ce) := ⟨_, rfl⟩
  have I4 : Inv (blx X s3 H3 scope ce fp xe) [] (wipe σ (own.map (·.2))) H3 s4 := I4.air xe
  have pg := pg xe
  have pe := pe xe fun pins' σ' H s e s' I' c => by
    show xe e s'
    rw [hxe]
    exact block_raise tk hst hf I3 f3 cL cF I' c
  have stat : ∀ {σ' : St} {H' : Hp} {s' : Shared}, Inv (blx X s3 H3 scope ce fp xe) [] σ' H' s' → (∀ b ∈ fp, H' b = none) → ∀ b ∈ fp, FpOk (blx X s3 H3 scope ce fp xe) [] H' b := fun {σ' H' s'} I' hn b hb =>
    ⟨hn b hb, (I'.ok.exf b hb).1, I'.ok.exfs b hb, .inl hb, fun x c e => (I'.ok.exf b hb).2 x c e, fun p hp => absurd (show p ∈ ([] : List (Addr × Obj)) ++ [] from hp) (by simp)⟩
  -- from the exceptions of the block to what the loop asks
  have air : ∀ {α : Type} {t : Sem α} {Q Q' : α → Shared → Prop} {s : Shared}, wpAny (model X.prog X.w) X.A t Q xe s → (∀ a s, Q a s → Q' a s) →
      wpAny (model X.prog X.w) X.A t Q' (notedBy (model X.prog X.w) X.A ce fun e s' => compEnds (model X.prog X.w) X.A X.xe (some (assign (.Name y py) X.env)) (fun _ s' => SP X pins D .next s') (.ref L) ce (.error e) s') s := fun {α t Q Q' s} h1 h2 => wpAny_mono h1 h2 fun e s' z => by
    rw [hxe] at z
    exact z
  have loop : codeAny (model X.prog X.w) X.A (.compLoop (.ListComp elt [⟨tg, iter, [], 0⟩] scope pos) 0 (.ref it) (.ref L) ce) (compEnds (model X.prog X.w) X.A X.xe (some (assign (.Name y py) X.env)) (fun _ s' => SP X pins D .next s') (.ref L) ce) s4 := by
    refine compLoop_any (fun n s' => ∃ i H', Inv (blx X s3 H3 scope ce fp xe) [] (wipe σ (own.map (·.2))) H' s' ∧ tn i s'.heap ∧ (∀ b ∈ fp, H' b = none) ∧ W i n H') ?_ m0 ⟨0, H3, I4, st4, nfp, w0⟩
    rintro n s5 ⟨j, H5, I5, st5, n5, w5⟩
    rcases turn j n H5 w5 with ⟨stop, qq⟩ | ⟨go, Nx, hNx, step⟩
    · have td := T.done (blx X s3 H3 scope ce fp xe) rfl rfl rfl hc j [] s5 _ H5 (fun _ _ => False) I5 (stat I5 n5) st5 stop
      refine thnF td fun r s6 ⟨hr, I6⟩ => ?_
      subst hr
      have I8 : Inv X pins σ H5 s6 := I3.call' (ch := fp) I6.os I6.base I6.hok I6.bare fun b hb => ⟨(f3 b hb).1.2.2.2.1, (f3 b hb).1.2.1, (f3 b hb).1.2.2.2.2.1, (f3 b hb).1.2.2.2.2.2⟩
      have nC : H5 s3.heap.objs.size = none := by
        have z : H5 ce.locals = none := I6.free
        rw [cL] at z
        exact z
      obtain ⟨m, hn, _⟩ := I6.loc
      have hn : s6.heap.Ns ce.locals m := hn
      show wpAny _ _ (assign (.Name y py) X.env (.ref L)) _ _ _
      refine wpAny_assign_Name (store_ok2 (v := V.ref L) I8 hN hy (.inl hyl) rfl (fun s9 I9 ⟨ad, sb, ha⟩ => ?_) (.inr hyl))
      obtain ⟨e0, e1, e2, e3, e4, e5⟩ := I3.fpOk (Nat.le_refl _) nC
      have haC : ce.locals ≠ ad := by
        rw [cL]
        rcases ha with z | z
        · rw [z]; exact e1
        · exact fun e => e4 y ad z e.symm
      refine ⟨m, hn.sameBut sb haC, fun h9 sb9 => ?_⟩
      rw [cL] at sb9
      exact ⟨_, H5, I9.turned (t' := s9.toks) (fun b o hb e => (sb9.2 b hb).trans e) e0 e1 e3 e4 e5, qq⟩
    · have ti := T.item (blx X s3 H3 scope ce fp xe) rfl rfl rfl hc j [] s5 _ H5 (fun _ _ => False) I5 (stat I5 n5) st5 go
      refine thnF ti fun r s6 ⟨u, hr, h6⟩ => ?_
      subst hr
      refine thnF h6 fun _ s7 ⟨x, H7, I7, r7, y7, st7, n7⟩ => ?_
      have I7' := I7.pinned (stat I7 n7) (T.obj _ _ st7)
      refine air (pg.run _ s7 _ H7 x u _ I7' r7 (step x H7 y7)) fun _ s8 ⟨σ8, H8, I8, hw8, q8⟩ => ?_
      have fin : ∀ {s' : Shared} {H' : Hp}, Inv (blx X s3 H3 scope ce fp xe) ([] ++ pinsAt fp s7.heap) σ8 H' s' → Nx H' → ∃ m, m < n ∧ ∃ i H', Inv (blx X s3 H3 scope ce fp xe) [] (wipe σ (own.map (·.2))) H' s' ∧ tn i s'.heap ∧ (∀ b ∈ fp, H' b = none) ∧ W i m H' := fun {s' H'} I' nx => by
        obtain ⟨m', hm, w'⟩ := hNx H' nx
        have pin' : ∀ b ∈ fp, ∀ o, s7.heap.get? b = some o → s'.heap.get? b = some o ∧ H' b = none := fun b hb o e =>
          let z := I'.pin (b, o) (List.mem_append_right _ (List.mem_append_right _ (mem_pinsAt hb e)))
          ⟨z.1, z.2.1⟩
        have hl : (wipe σ (own.map (·.2))).length = σ8.length := by rw [← hw8, wipe_length]
        refine ⟨m', hm, j + 1, H', (I'.unpinned (pins := [])).weak hl (fun k v e => ?_), T.keep _ _ _ st7 fun b hb o e => (pin' b hb o e).1, fun b hb => ?_, w'⟩
        · rw [← hw8] at e
          exact (wipe_some e).1
        · obtain ⟨o, e, _⟩ := T.obj _ _ st7 b hb
          exact (pin' b hb o e).2
      have q8 : te σ8 H8 fun yv H10 => ∃ acc, H10 L = some (.lst acc) ∧ acc.length < sizeLine ∧ Nx (upd H10 L (.lst (acc ++ [yv]))) := q8
      refine thnF (Q := fun b s => b = true ∧ Inv (blx X s3 H3 scope ce fp xe) ([] ++ pinsAt fp s7.heap) σ8 H8 s) (wpAny_pure ⟨rfl, I8⟩) fun b s9 ⟨hb, I9⟩ => ?_
      rw [if_pos hb]
      refine air (pe.run _ s9 σ8 H8 _ I9 q8) fun z s10 ⟨yv, H10, I10, r10, acc, hD10, hz10, nx⟩ => ?_
      exact app_ok (X := blx X s3 H3 scope ce fp xe) I10 hD10 hz10 r10 fun s11 I11 => fin I11 nx
  exact codeAny_compStart_list loop (T.self X.A 0 _ _ _ st4 loop)
end
end L2
set_option Elab.async false
set_option linter.all false
set_option maxRecDepth 100000
/-! ## a list that was read has unlike patterns; patterns put in and taken out -/
namespace Mx
open VahypBase (Toks Fault)
open Vahypa (Pat takePats patOf)
open Vahypd (signsOf withPat sameLetters)
def Unlike (ps : List Pat) : Prop := ps.Pairwise fun p q => signsOf p ≠ signsOf q
theorem unlike_snoc {ps : List Pat} {p : Pat} (h : Unlike ps) (hn : ∀ q ∈ ps, signsOf q ≠ signsOf p) : Unlike (ps ++ [p]) := by
  refine List.pairwise_append.mpr ⟨h, List.pairwise_singleton .., fun a ha b hb => ?_⟩
  rw [List.mem_singleton.mp hb]
  exact hn a ha
theorem takePats_unlike : ∀ (n : Nat) (ps : List Pat) (l : Toks) (qs : List Pat), takePats n ps l = .ok qs → (∀ p ∈ ps, OkPat p) → Unlike ps → Unlike qs
  | 0, ps, l, qs, h, _, _ => by
    unfold takePats at h
    cases h
  | n + 1, ps, l, qs, h, hok, hu => by
    unfold takePats at h
    split at h
    · cases h
      exact hu
    · cases h1 : VahypBase.takeWord "pattern" l with
      | error f => rw [h1] at h; cases h
      | ok m =>
        rw [h1] at h
        simp only [Except.bind] at h
        split at h
        · cases h
        · cases h2 : VahypBase.takeChunk m with
          | error f => rw [h2] at h; cases h
          | ok x =>
            rw [h2] at h
            simp only [Except.bind] at h
            cases h3 : patOf x.2.1 with
            | none => rw [h3] at h; cases h
            | some p =>
              rw [h3] at h
              simp only at h
              split at h
              · cases h
              · rename_i hno
                have hp := patOf_ok h3
                cases h4 : VahypBase.takeSign 59 x.2.2 with
                | error f => rw [h4] at h; cases h
                | ok m2 =>
                  rw [h4] at h
                  simp only [Except.bind] at h
                  refine takePats_unlike n (ps ++ [p]) m2 qs h (fun q hq => ?_) (unlike_snoc hu fun q hq e => hno ?_)
                  · rcases List.mem_append.mp hq with z | z
                    · exact hok q z
                    · rw [List.mem_singleton.mp z]
                      exact hp
                  · rw [List.any_eq_true]
                    refine ⟨q, hq, ?_⟩
                    rw [same_signs hp (hok q hq), e]
                    simp
theorem read_unlike {b : VahypBase.Bytes} {s : Vahypa.Lst} (h : Vahypa.read b = .ok s) : Unlike s.pats := by
  unfold Vahypa.read at h
  cases h1 : VahypBase.tokens b with
  | error f => rw [h1] at h; cases h
  | ok l =>
    rw [h1] at h
    simp only [Except.bind] at h
    cases h2 : VahypBase.takeWord "margins" l with
    | error f => rw [h2] at h; cases h
    | ok l2 =>
      rw [h2] at h
      simp only [Except.bind] at h
      cases h3 : Vahypa.takeMargin l2 with
      | error f => rw [h3] at h; cases h
      | ok a =>
        rw [h3] at h
        simp only [Except.bind] at h
        cases h4 : Vahypa.takeMargin a.2 with
        | error f => rw [h4] at h; cases h
        | ok z =>
          rw [h4] at h
          simp only [Except.bind] at h
          cases h5 : VahypBase.takeSign 59 z.2 with
          | error f => rw [h5] at h; cases h
          | ok l3 =>
            rw [h5] at h
            simp only [Except.bind] at h
            cases h6 : Vahypa.takeWords (l3.length + 1) [] l3 with
            | error f => rw [h6] at h; cases h
            | ok ws =>
              rw [h6] at h
              simp only [Except.bind] at h
              cases h7 : takePats (l3.length + 1) [] ws.2 with
              | error f => rw [h7] at h; cases h
              | ok ps =>
                rw [h7] at h
                simp only [Except.map] at h
                cases h
                exact takePats_unlike _ _ _ _ h7 (fun p hp => nomatch hp) .nil
/-! ### a pattern put in -/
theorem same_is {p q : Pat} (hp : OkPat p) (hq : OkPat q) : sameLetters p q = (signsOf p == signsOf q) := same_signs hq hp
/-- the entries, where a pattern is put -/
def withE (es : List Vahypd.Entry) (e : Vahypd.Entry) : List Vahypd.Entry := match es.findIdx? fun x => x.1 == e.1 with
  | none => es ++ [e]
  | some i => es.take i ++ e :: es.drop (i + 1)
theorem findIdx_ext {α : Type} {f g : α → Bool} : ∀ {l : List α}, (∀ x ∈ l, f x = g x) → l.findIdx? f = l.findIdx? g
  | [], _ => rfl
  | x :: r, h => by
    rw [List.findIdx?_cons, List.findIdx?_cons, h x (List.mem_cons_self ..), findIdx_ext fun y hy => h y (List.mem_cons_of_mem _ hy)]
theorem with_eq {ps : List Pat} {p : Pat} (hok : ∀ q ∈ ps, OkPat q) (hp : OkPat p) (hu : Unlike ps) : entries (withPat ps p) = withE (entries ps) (Vahypd.entryOf p) := by
  unfold withPat withE
  have hf : (entries ps).findIdx? (fun x => x.1 == (Vahypd.entryOf p).1) = ps.findIdx? fun q => sameLetters p q := by
    unfold entries
    rw [List.findIdx?_map]
    refine findIdx_ext fun q hq => ?_
    show (signsOf q == signsOf p) = sameLetters p q
    rw [same_is hp (hok q hq), Bool.eq_iff_iff, beq_iff_eq, beq_iff_eq]
    exact eq_comm
  rw [hf]
  cases h : ps.findIdx? (fun q => sameLetters p q) with
  | none =>
    rw [List.findIdx?_eq_none_iff] at h
    have : ps.any (sameLetters p) = false := by
      rw [List.any_eq_false]
      intro q hq
      rw [h q hq]
      decide
    rw [this, if_neg (by decide)]
    unfold entries
    rw [List.map_append]
    rfl
  | some i =>
    obtain ⟨hi, hs, _⟩ := List.findIdx?_eq_some_iff_getElem.mp h
    have hany : ps.any (sameLetters p) = true := by
      rw [List.any_eq_true]
      exact ⟨_, List.getElem_mem hi, hs⟩
    rw [hany, if_pos rfl]
    have hsi : signsOf p = signsOf ps[i] := by
      have := hs
      rw [same_is hp (hok _ (List.getElem_mem hi))] at this
      exact eq_of_beq this
    have hother : ∀ j (hj : j < ps.length), j ≠ i → sameLetters p ps[j] = false := fun j hj hne => by
      rw [same_is hp (hok _ (List.getElem_mem hj)), beq_eq_false_iff_ne, hsi]
      rcases Nat.lt_trichotomy i j with z | z | z
      · exact List.pairwise_iff_getElem.mp hu i j hi hj z
      · exact absurd z.symm hne
      · exact Ne.symm (List.pairwise_iff_getElem.mp hu j i hj hi z)
    unfold entries
    refine List.ext_getElem? fun j => ?_
    dsimp only
    rw [List.map_map, List.getElem?_map]
    by_cases hj : j < ps.length
    · rw [List.getElem?_eq_getElem hj, Option.map_some]
      by_cases hji : j = i
      · subst hji
        have hl : ((ps.map Vahypd.entryOf).take j).length = j := by rw [List.length_take, List.length_map]; omega
        rw [List.getElem?_append_right (by omega), hl, Nat.sub_self]
        show some (Vahypd.entryOf (if sameLetters p ps[j] = true then p else ps[j])) = some (Vahypd.entryOf p)
        rw [if_pos hs]
      · show some (Vahypd.entryOf (if sameLetters p ps[j] = true then p else ps[j])) = _
        rw [if_neg (by rw [hother j hj hji]; decide)]
        by_cases hlt : j < i
        · rw [List.getElem?_append_left (by rw [List.length_take, List.length_map]; omega), List.getElem?_take_of_lt hlt, List.getElem?_map, List.getElem?_eq_getElem hj]
          rfl
        · have hl : ((ps.map Vahypd.entryOf).take i).length = i := by rw [List.length_take, List.length_map]; omega
          rw [List.getElem?_append_right (by omega), hl]
          obtain ⟨d, hd⟩ : ∃ d, j = i + 1 + d := ⟨j - i - 1, by omega⟩
          rw [show j - i = d + 1 by omega, List.getElem?_cons_succ, List.getElem?_drop, ← hd, List.getElem?_map, List.getElem?_eq_getElem hj]
          rfl
    · rw [List.getElem?_eq_none (by omega)]
      refine (List.getElem?_eq_none ?_).symm
      rw [List.length_append, List.length_take, List.length_cons, List.length_drop, List.length_map]
      omega
theorem with_ok {ps : List Pat} {p : Pat} (hok : ∀ q ∈ ps, OkPat q) (hp : OkPat p) : ∀ q ∈ withPat ps p, OkPat q := fun q hq => by
  unfold withPat at hq
  split at hq
  · obtain ⟨r, hr, rfl⟩ := List.mem_map.mp hq
    split
    · exact hp
    · exact hok r hr
  · rcases List.mem_append.mp hq with z | z
    · exact hok q z
    · rw [List.mem_singleton.mp z]
      exact hp
theorem with_unlike {ps : List Pat} {p : Pat} (hok : ∀ q ∈ ps, OkPat q) (hp : OkPat p) (hu : Unlike ps) : Unlike (withPat ps p) := by
  unfold withPat
  split
  · unfold Unlike
    rw [List.pairwise_map]
    refine hu.imp_of_mem fun {a b} ha hb hne => ?_
    have e : ∀ q ∈ ps, signsOf (if sameLetters p q = true then p else q) = signsOf q := fun q hq => by
      split
      · rename_i h
        rw [same_is hp (hok q hq)] at h
        exact eq_of_beq h
      · rfl
    rw [e a ha, e b hb]
    exact hne
  · rename_i h
    refine unlike_snoc hu fun q hq e => h ?_
    rw [List.any_eq_true]
    refine ⟨q, hq, ?_⟩
    rw [same_is hp (hok q hq), e]
    simp
theorem erase_unlike {ps : List Pat} (hu : Unlike ps) (k : Nat) : Unlike (ps.eraseIdx k) := List.Pairwise.sublist (List.eraseIdx_sublist ps k) hu
theorem entries_erase (ps : List Pat) (k : Nat) : entries (ps.eraseIdx k) = (entries ps).take k ++ (entries ps).drop (k + 1) := by
  unfold entries
  rw [List.eraseIdx_eq_take_drop_succ, List.map_append, List.map_take, List.map_drop]
end Mx
set_option Elab.async false
set_option linter.all false
set_option maxRecDepth 100000
/-! ## tables told as numbers, read again and checked -/
namespace Mx
open Vahypd (Node Table takeMany takeOut takeNode takeNodes pairsIn readTable proper tells countsOf findOut)
theorem many_at (ns : List Nat) (i m : Nat) (hi : i ≤ ns.length) : takeMany m (ns.drop i) = if i + m ≤ ns.length then some ((ns.drop i).take m, ns.drop (i + m)) else none := by
  unfold takeMany
  rw [List.length_drop]
  by_cases h : i + m ≤ ns.length
  · rw [if_neg (by omega), if_pos h, List.drop_drop]
  · rw [if_pos (by omega), if_neg h]
theorem dropAt {ns : List Nat} {i a : Nat} (h : ns[i]? = some a) : ns.drop i = a :: ns.drop (i + 1) := by
  obtain ⟨h1, h2⟩ := List.getElem?_eq_some_iff.mp h
  rw [List.drop_eq_getElem_cons h1, h2]
theorem drop_none {ns : List Nat} {i : Nat} (h : ns[i]? = none) : ns.drop i = [] := List.drop_eq_nil_of_le (List.getElem?_eq_none_iff.mp h)
theorem out_none {ns : List Nat} {i : Nat} (h : ns[i]? = none) : takeOut (ns.drop i) = none := by
  rw [drop_none h]
  rfl
theorem out_zero {ns : List Nat} {i : Nat} (h : ns[i]? = some 0) : takeOut (ns.drop i) = some (none, ns.drop (i + 1)) := by
  rw [dropAt h]
  rfl
theorem out_other {ns : List Nat} {i a : Nat} (h : ns[i]? = some a) (h0 : a ≠ 0) (h1 : a ≠ 1) : takeOut (ns.drop i) = none := by
  rw [dropAt h]
  match a, h0, h1 with
  | 0, h0, _ => exact absurd rfl h0
  | 1, _, h1 => exact absurd rfl h1
  | a + 2, _, _ => rfl
theorem out_one {ns : List Nat} {i : Nat} (h : ns[i]? = some 1) : takeOut (ns.drop i) = match ns[i + 1]? with
  | none => none
  | some m => if i + 2 + m ≤ ns.length then some (some ((ns.drop (i + 2)).take m), ns.drop (i + 2 + m)) else none := by
  rw [dropAt h]
  cases hm : ns[i + 1]? with
  | none =>
    rw [drop_none hm]
    rfl
  | some m =>
    have hl := (List.getElem?_eq_some_iff.mp hm).1
    rw [dropAt hm]
    show (takeMany m (ns.drop (i + 1 + 1))).map (fun x => (some x.1, x.2)) = _
    rw [many_at ns (i + 1 + 1) m (by omega)]
    dsimp only
    by_cases hz : i + 2 + m ≤ ns.length
    · rw [if_pos hz, if_pos (show i + 1 + 1 + m ≤ ns.length by omega)]
      rfl
    · rw [if_neg hz, if_neg (show ¬ i + 1 + 1 + m ≤ ns.length by omega)]
      rfl
/-- a node's ways, read -/
def takeW (l : List Nat) : Option (List (Nat × Nat) × List Nat) := match l with
  | n :: r => (takeMany (2 * n) r).map fun x => (pairsIn x.1, x.2)
  | [] => none
theorem w_none {ns : List Nat} {i : Nat} (h : ns[i]? = none) : takeW (ns.drop i) = none := by
  rw [drop_none h]
  rfl
theorem w_some {ns : List Nat} {i n : Nat} (h : ns[i]? = some n) : takeW (ns.drop i) = if i + 1 + 2 * n ≤ ns.length then some (pairsIn ((ns.drop (i + 1)).take (2 * n)), ns.drop (i + 1 + 2 * n)) else none := by
  have hl := (List.getElem?_eq_some_iff.mp h).1
  rw [dropAt h]
  show (takeMany (2 * n) (ns.drop (i + 1))).map (fun x => (pairsIn x.1, x.2)) = _
  rw [many_at ns (i + 1) (2 * n) (by omega)]
  by_cases hz : i + 1 + 2 * n ≤ ns.length
  · rw [if_pos hz, if_pos hz]
    rfl
  · rw [if_neg hz, if_neg hz]
    rfl
theorem node_eq (l : List Nat) : takeNode l = (takeOut l).bind fun o => (takeW o.2).map fun x => (⟨o.1, x.1⟩, x.2) := by
  unfold takeNode
  cases takeOut l with
  | none => rfl
  | some o =>
    simp only [Option.bind_some]
    obtain ⟨d, r⟩ := o
    cases r with
    | nil => rfl
    | cons n r =>
      unfold takeW
      simp only [Option.map_map]
      rfl
theorem nodes_zero (l : List Nat) : takeNodes 0 l = some ([], l) := rfl
theorem nodes_succ (n : Nat) (l : List Nat) : takeNodes (n + 1) l = (takeNode l).bind fun x => (takeNodes n x.2).map fun y => (x.1 :: y.1, y.2) := rfl
/-- some nodes read already -/
theorem nodes_step {k : Nat} {l m : List Nat} {n : Node} {acc : Table} (h : takeNode l = some (n, m)) : ((takeNodes (k + 1) l).map fun y => (acc ++ y.1, y.2)) = (takeNodes k m).map fun y => ((acc ++ [n]) ++ y.1, y.2) := by
  rw [nodes_succ, h]
  simp only [Option.bind_some, Option.map_map]
  congr 1
  funext y
  simp
theorem pairs_len : ∀ (n : Nat) (l : List Nat), l.length = 2 * n → (pairsIn l).length = n
  | 0, l, h => by
    have : l = [] := List.length_eq_zero_iff.mp (by omega)
    rw [this]
    rfl
  | n + 1, [], h => by simp at h
  | n + 1, [a], h => by simp at h; omega
  | n + 1, a :: b :: r, h => by
    show (pairsIn r).length + 1 = n + 1
    rw [pairs_len n r (by simp at h; omega)]
theorem pairs_at : ∀ (l : List Nat) (k : Nat), 2 * k + 1 < l.length → (pairsIn l)[k]? = some (l.getD (2 * k) 0, l.getD (2 * k + 1) 0)
  | [], k, h => by simp at h
  | [a], k, h => by simp at h
  | a :: b :: r, 0, h => rfl
  | a :: b :: r, k + 1, h => by
    show (pairsIn r)[k]? = _
    rw [pairs_at r k (by simp at h; omega)]
    rfl
theorem pairs_map (l : List Nat) (n : Nat) (h : l.length = 2 * n) : pairsIn l = (List.range n).map fun k => (l.getD (2 * k) 0, l.getD (2 * k + 1) 0) := by
  refine List.ext_getElem? fun k => ?_
  rw [List.getElem?_map]
  by_cases hk : k < n
  · rw [pairs_at l k (by omega), List.getElem?_range hk]
    rfl
  · rw [List.getElem?_eq_none (by rw [pairs_len n l h]; omega), List.getElem?_eq_none (by rw [List.length_range]; omega)]
    rfl
/-! ### checked -/
def ascB (ks : List (Nat × Nat)) : Bool := (ks.zip (ks.drop 1)).all fun x => decide (x.1.1 < x.2.1)
theorem asc_iff : ∀ ks : List (Nat × Nat), ascB ks = true ↔ (ks.map (·.1)).Pairwise (· < ·)
  | [] => by simp [ascB]
  | [x] => by simp [ascB]
  | x :: y :: r => by
    have ih := asc_iff (y :: r)
    have e : ascB (x :: y :: r) = (decide (x.1 < y.1) && ascB (y :: r)) := rfl
    rw [e, Bool.and_eq_true, decide_eq_true_eq, ih, List.map_cons, List.map_cons, List.pairwise_cons (a := x.1)]
    constructor
    · rintro ⟨h1, h2⟩
      refine ⟨fun z hz => ?_, h2⟩
      rcases List.mem_cons.mp hz with q | q
      · rw [q]; exact h1
      · exact Nat.lt_trans h1 ((List.pairwise_cons.mp h2).1 z q)
    · rintro ⟨h1, h2⟩
      exact ⟨h1 _ (List.mem_cons_self ..), h2⟩
/-- a node goes on as it may -/
def goesB (n : Node) (k : Nat) : Bool := ascB n.kids && n.kids.all fun x => decide (x.2 < k)
theorem proper_eq (t : Table × Nat) : proper t = (decide (t.2 < t.1.length) && t.1.zipIdx.all fun n => goesB n.1 n.2) := by
  unfold proper
  congr 2
  funext n
  unfold goesB ascB
  exact Bool.and_comm _ _
theorem proper_low {t : Table × Nat} (h : proper t = true) : Low t.1 ∧ t.2 < t.1.length := by
  rw [proper_eq, Bool.and_eq_true, decide_eq_true_eq, List.all_eq_true] at h
  refine ⟨fun k n hn x hx => ?_, h.1⟩
  have hm : (n, k) ∈ t.1.zipIdx := by
    rw [List.mem_zipIdx_iff_getElem?]
    exact hn
  have := h.2 _ hm
  unfold goesB at this
  rw [Bool.and_eq_true, List.all_eq_true] at this
  exact of_decide_eq_true (this.2 x hx)
theorem counts_is {t : Table} {k n : Nat} (hn : n ≤ 40) : ((countsOf t).getD k 0 == n) = ((cnts t).getD k 0 == n) := by
  rw [counts_eq, getD_map_min, Bool.eq_iff_iff, beq_iff_eq, beq_iff_eq]
  show min 1000 _ = n ↔ _
  omega
def tellsE (t : Table × Nat) (es : List Vahypd.Entry) : Bool := (cnts t.1).getD t.2 0 == es.length && es.all fun e => findOut t.1 t.2 e.1 == some e.2
theorem tells_eq {t : Table × Nat} {ps : List Vahypa.Pat} (hn : ps.length ≤ 40) : tells t ps = (proper t && tellsE t (entries ps)) := by
  unfold tells tellsE
  rw [counts_is hn]
  unfold entries
  rw [List.length_map, List.all_map]
  rfl
theorem ris_int : ∀ {l m : List Int}, l.Pairwise (· < ·) → m.Pairwise (· < ·) → (∀ x, x ∈ l ↔ x ∈ m) → l = m
  | [], [], _, _, _ => rfl
  | [], b :: m, _, _, h => absurd ((h b).mpr (List.mem_cons_self ..)) (by simp)
  | a :: l, [], _, _, h => absurd ((h a).mp (List.mem_cons_self ..)) (by simp)
  | a :: l, b :: m, hl, hm, h => by
    rw [List.pairwise_cons] at hl hm
    have hab : a = b := by
      rcases List.mem_cons.mp ((h a).mp (List.mem_cons_self ..)) with e | e
      · exact e
      · rcases List.mem_cons.mp ((h b).mpr (List.mem_cons_self ..)) with e2 | e2
        · exact e2.symm
        · have := hm.1 a e
          have := hl.1 b e2
          omega
    subst hab
    rw [ris_int hl.2 hm.2 fun x => ?_]
    constructor
    · intro hx
      rcases List.mem_cons.mp ((h x).mp (List.mem_cons_of_mem _ hx)) with e | e
      · have := hl.1 x hx
        omega
      · exact e
    · intro hx
      rcases List.mem_cons.mp ((h x).mpr (List.mem_cons_of_mem _ hx)) with e | e
      · have := hm.1 x hx
        omega
      · exact e
theorem sorted_is {ks : List (Nat × Nat)} {ms : List Int} (h1 : ms.Pairwise (· < ·)) (h2 : ∀ k : Int, k ∈ ms ↔ decide (k ∈ ks.map fun x => (x.1 : Int)) = true) : decide ((ks.map fun x => (x.1 : Int)) = ms) = ascB ks := by
  have hm : (ks.map fun x => (x.1 : Int)) = (ks.map (·.1)).map fun (n : Nat) => (n : Int) := by rw [List.map_map]; rfl
  have hp : (ks.map (·.1)).Pairwise (· < ·) ↔ (ks.map fun x => (x.1 : Int)).Pairwise (· < ·) := by
    rw [hm, List.pairwise_map (f := fun (n : Nat) => (n : Int))]
    constructor
    · exact fun h => h.imp fun z => by omega
    · exact fun h => h.imp fun z => by omega
  rw [Bool.eq_iff_iff, decide_eq_true_eq, asc_iff, hp]
  constructor
  · intro e
    rw [e]
    exact h1
  · intro h
    exact ris_int h h1 fun x => by rw [h2 x, decide_eq_true_eq]
end Mx
set_option Elab.async false
set_option linter.all false
set_option maxRecDepth 100000
set_option maxHeartbeats 2000000
namespace Pt
open PySem PySem.Spec PyProof.Rows L2 Evl
open VahypBase (Bytes)
open Vahypd (Node Table)
def ln (ns : List Nat) : List Int := ns.map fun (n : Nat) => (n : Int)
theorem iv_ln (ns : List Nat) : iv (ln ns) = nv ns := by unfold iv ln nv; rw [List.map_map]; rfl
theorem ln_at {ns : List Nat} {i : Nat} : (ln ns)[i]? = (ns[i]?).map fun (n : Nat) => (n : Int) := by unfold ln; rw [List.getElem?_map]
theorem ln_len (ns : List Nat) : (ln ns).length = ns.length := List.length_map ..
theorem ln_cut (ns : List Nat) (i n : Nat) : iv (((ln ns).drop i).take n) = nv ((ns.drop i).take n) := by
  rw [← iv_take, ← iv_drop, iv_ln, nv_drop, nv_take]
section
variable {P : Program} {w : World} {K : PySem.W.Frag} {mg : Str → Option Value} {base : Heap} {X : Cx}
variable {σ : L2.St} {H H' : Hp} {ta tb tc te tl : TE} {t : TT} {x y z v : V} {C : Addr} {D : Ends} {tz : TS}
/-! ### read_digits -/
def spReadDigits (T : Tx K mg) : Sp := fun vs H Q E => ∃ (r cl dr : Addr) (ns : List Nat) (i : Nat) (G M : Hp), vs = [.ref r] ∧ H = over G M ∧ CrS T G M r cl dr (ln ns) i ∧ ns.length ≤ 2000 ∧ match Vahypd.takeOut (ns.drop i) with
  | none => NtE T E G
  | some x => ∀ u j G2, Ex G G2 → x.2 = ns.drop j → i < j → j ≤ ns.length → (∀ d, x.1 = some d → d.length ≤ 2000) → CrS T G2 (hop T M r cl dr j) r cl dr (ln ns) j → DigV K G2 u x.1 → Q u (over G2 (hop T M r cl dr j))
theorem ok_read_digits (T : Tx K mg) : FnOk P w K mg base (L2.CX P w) 4 T.read_digits.f T.read_digits.fd ["reader"] (spReadDigits T) := by
  have GN : FnOk P w K mg base (L2.CX P w) 3 _ _ _ _ := (ok_take_number T).mono (by decide)
  have GR : FnOk P w K mg base (L2.CX P w) 3 _ _ _ _ := ok_take_row T
  refine T.read_digits.F.okX scReadDigits (fun vs H Q E h => ?_) (fun cdv A outer s H vs Q E hr h => ⟨_,
    pss_cons (ps_set (i := 1) scReadDigits.nd rfl (.inl rfl) (pe_meth0 (pv 0) T.cRowReader.cl T.mRowReader_take_number.M GN hr (bdRowReaderTakeNumber T.mRowReader_take_number.F) .nil (passes_call (takes_of rfl rfl rfl rfl) (fun _ _ _ _ h => h))))
    (pss_cons (ps_if (pt_cmpR op_eq (pv 1) pe_int (nomark _)) (pss_one (ps_ret pe_non)) pss_nil)
    (pss_cons (ps_if (pt_cmpR op_ne (pv 1) pe_int (nomark _)) (pss_one (ps_raiseNt rfl T.nt (takes_of rfl rfl rfl rfl))) pss_nil)
    (pss_one (ps_ret (pe_tuple T.b_tuple (pe_meth0 (pv 0) T.cRowReader.cl T.mRowReader_take_row.M GR hr (bdRowReaderTakeRow T.mRowReader_take_row.F) .nil (passes_call (takes_of rfl rfl rfl rfl) (fun _ _ _ _ h => h)))))))), ?_⟩)
  · obtain ⟨r, cl, dr, ns, i, G, M, rfl, _⟩ := h
    rfl
  obtain ⟨r, cl, dr, ns, i, G, M, rfl, rfl, hC, hz, k⟩ := h
  refine q_ask ?_
  refine t_meth (a := r) (ev_var rfl) (over_m hC.mr) (by rfl) ea_nil fun H1 e1 => ?_
  obtain ⟨G1, a1, eG1, rfl⟩ := over_split hC.ap e1
  refine ⟨r, cl, dr, ln ns, i, G1, M, rfl, rfl, hC.grow eG1 a1, ?_⟩
  rw [ln_at]
  cases hi : ns[i]? with
  | none =>
    rw [Mx.out_none hi] at k
    exact k.go eG1
  | some a =>
    have hil := (List.getElem?_eq_some_iff.mp hi).1
    intro G2 eG2 hC2
    have eO2 := ex_over hC2.ap
    refine q_when (b := a == 0) (et_is (et_test (ev_op (ev_var (v := .int (a : Int)) rfl) ev_c (rv_eq rfl))) ?_) (fun hs H3 e3 => ?_) (fun hs H3 e3 => ?_)
    · rw [Bool.eq_iff_iff, decide_eq_true_eq, beq_iff_eq, V.int.injEq]
      omega
    · have ha : a = 0 := eq_of_beq hs
      subst ha
      rw [Mx.out_zero hi] at k
      refine s_ret ev_c fun H4 e4 => ?_
      obtain ⟨G4, a4, eG4, rfl⟩ := over_split hC2.ap (e3.trans e4)
      exact k _ (i + 1) G4 ((eG1.trans eG2).trans eG4) rfl (by omega) (by omega) (fun d z => nomatch z) (hC2.grow eG4 a4) rfl
    · have ha : a ≠ 0 := fun z => by rw [z] at hs; cases hs
      refine q_when (b := !(a == 1)) (et_is (et_test (ev_op (ev_var (v := .int (a : Int)) rfl) ev_c (rv_ne rfl))) ?_) (fun hs1 H4 e4 => ?_) (fun hs1 H4 e4 => ?_)
      · congr 1
        rw [Bool.eq_iff_iff, decide_eq_true_eq, beq_iff_eq, V.int.injEq]
        omega
      · have ha1 : a ≠ 1 := fun z => by rw [z] at hs1; cases hs1
        rw [Mx.out_other hi ha ha1] at k
        exact k H4 ((eG1.trans eG2).trans (eO2.trans (e3.trans e4)))
      · have ha1 : a = 1 := by
          cases q : a == 1 with
          | true => exact eq_of_beq q
          | false => rw [q] at hs1; cases hs1
        subst ha1
        rw [Mx.out_one hi] at k
        obtain ⟨G4, a4, eG4, rfl⟩ := over_split hC2.ap (e3.trans e4)
        refine t_meth (a := r) (ev_var rfl) (over_m (hC2.grow eG4 a4).mr) (by rfl) ea_nil fun H5 e5 => ?_
        obtain ⟨G5, a5, eG5, rfl⟩ := over_split a4 e5
        have hC5 := (hC2.grow eG4 a4).grow eG5 a5
        have e15 := ((eG1.trans eG2).trans eG4).trans eG5
        refine ⟨r, cl, dr, ln ns, i + 1, G5, _, rfl, rfl, hC5, ?_⟩
        rw [ln_at]
        cases hm : ns[i + 1]? with
        | none =>
          rw [hm] at k
          exact k.go e15
        | some m =>
          rw [hm] at k
          refine ⟨m, rfl, ?_⟩
          rw [ln_len]
          dsimp only at k
          by_cases hl : i + 2 + m ≤ ns.length
          · rw [if_pos hl] at k
            rw [if_pos (by omega)]
            intro p G6 hp eG6 hC6 h6
            rw [hop2] at hC6 ⊢
            rw [ln_cut] at h6
            refine ⟨p, nv ((ns.drop (i + 1 + 1)).take m), rfl, .inl ⟨?_, fun l hl2 => ?_⟩⟩
            · have hpM : hop T M r cl dr (i + 1 + 1 + m) p = none := by
                have h1 : hop T M r cl dr (i + 1) p = none := none_m hp
                have hpr : p ≠ r := fun z => by
                  rw [z] at h1
                  unfold hop at h1
                  rw [upd_same] at h1
                  cases h1
                rw [hop_ne hpr] at h1 ⊢
                exact h1
              exact sq_of (by rw [over_g hpM]; exact h6)
            · obtain ⟨G7, a7, eG7, E7⟩ := over_split hC6.ap (Ex.new (o := .tup (nv ((ns.drop (i + 1 + 1)).take m))) hl2)
              have hlM : hop T M r cl dr (i + 1 + 1 + m) l = none := none_m hl2
              have h7 : G7 l = some (.tup (nv ((ns.drop (i + 1 + 1)).take m))) := by
                rw [← over_g (G := G7) hlM, ← E7, upd_same]
              rw [E7]
              have hj : i + 1 + 1 + m = i + 2 + m := by omega
              rw [hj] at hC6 a7 ⊢
              refine k _ (i + 2 + m) G7 ((e15.trans eG6).trans eG7) rfl (by omega) hl (fun d z => ?_) (hC6.grow eG7 a7) ⟨l, rfl, st_of h7⟩
              rw [← Option.some.inj z, List.length_take]
              omega
          · rw [if_neg hl] at k
            rw [if_neg (by omega)]
            exact k.go e15
end
end Pt
set_option Elab.async false
set_option linter.all false
set_option maxRecDepth 100000
set_option maxHeartbeats 2000000
namespace Pt
open PySem PySem.Spec PyProof.Rows L2 Evl
open VahypBase (Bytes)
open Vahypd (Node Table)
theorem size_two (n : Nat) : Builtin.Range.rangeSize 0 ((2 * n : Nat) : Int) 2 = n := by
  unfold Builtin.Range.rangeSize
  rw [if_pos (show (2 : Int) > 0 by decide)]
  split <;> omega
theorem rgc_two {n : Nat} (h : n ≤ 2000) : RgC 0 ((2 * n : Nat) : Int) 2 n := by
  refine ⟨by decide, by decide, ?_, size_two n⟩
  unfold Builtin.Range.small
  rw [size_two]
  have f : ∀ i : Int, -100000 ≤ i → i ≤ 100000 → Builtin.Range.rangeFitsLong i = true := fun i h1 h2 => by
    unfold Builtin.Range.rangeFitsLong
    rw [Bool.and_eq_true, decide_eq_true_eq, decide_eq_true_eq]
    omega
  rw [f 0 (by omega) (by omega), f ((2 * n : Nat) : Int) (by omega) (by omega), f 2 (by omega) (by omega), f (n : Int) (by omega) (by omega), if_pos (show (2 : Int) > 0 by decide), f (((2 * n : Nat) : Int) + (2 - 1)) (by omega) (by omega), Bool.or_true]
  rfl
section
variable {P : Program} {w : World} {K : PySem.W.Frag} {mg : Str → Option Value} {base : Heap} {X : Cx}
variable {σ : L2.St} {H H' : Hp} {ta : TA} {tb tc te tl : TE} {t : TT} {x y z v : V} {C : Addr} {D : Ends} {tz : TS}
theorem eq_lcC {β : Type} {RB : Hp → Addr → β → Prop} {j : Nat} {vs : List Nat} {n : Nat} (g : Nat → β)
    (mono : ∀ {H H' : Hp} {o : Addr} {b : β}, Ex H H' → RB H o b → RB H' o b) (off : ∀ {H : Hp} {l o : Addr} {ys zs : List V} {b : β}, H l = some (.lst ys) → RB H o b → RB (upd H l (.lst zs)) o b)
    (h : EvA ta σ H [.int 0, .int ((2 * n : Nat) : Int), .int 2]) (hn : n ≤ 2000) (hw : ∀ x, wipe ((wipe σ vs).set j (some x)) vs = wipe σ vs)
    (he : ∀ (i : Nat) H1, Ex H H1 → i < n → EvQ te ((wipe σ vs).set j (some (.int ((2 * i : Nat) : Int)))) H1 (fun _ u H2 => ∃ q, u = .ref q ∧ RB H2 q (g i))) :
    EvQ (tLc (iRng3 ta) (gName j) tYes te vs) σ H (fun H1 u H2 => ∃ l rs, u = .ref l ∧ H1 l = none ∧ H2 l = some (.lst rs) ∧ Rep (RB H2) rs ((List.range n).map g)) := fun H0 e0 Q q =>
  h H0 e0 _ fun H1 e1 => ⟨0, _, 2, n, rfl, rgc_two hn, fun Dl hD =>
    lc_it walk_rangeC (fun i H' => H1 Dl = none ∧ Ex H1 H' ∧ ∃ rs, H' Dl = some (.lst rs) ∧ Rep (RB H') rs ((List.range i).map g)) ⟨hD, Ex.new hD, [], upd_same, Rep.nil⟩ (fun _ _ _ _ => trivial) (fun i x H2 H' hi pp y => by
      obtain ⟨rfl, rfl⟩ := y
      obtain ⟨p1, p2, rs, p3, p4⟩ := pp
      refine ⟨hw _, ?_⟩
      have e2 : (0 : Int) + (i : Nat) * 2 = ((2 * i : Nat) : Int) := by omega
      dsimp only
      rw [e2]
      refine he i H' ((e0.trans e1).trans p2) hi H' (Ex.refl H') _ fun u H4 e4 hu => ?_
      obtain ⟨q2, rfl, hq⟩ := hu
      have hl4 := e4 _ _ p3
      have hl := p4.1
      rw [List.length_map, List.length_range] at hl
      refine ⟨rs, hl4, sz_lt (by omega), p1, Ex.mut (p2.trans e4) p1, rs ++ [.ref q2], upd_same, ?_⟩
      rw [List.range_succ, List.map_append]
      exact Rep.snoc (p4.mono fun _ _ r => off hl4 (mono e4 r)) (off hl4 hq))
    (fun H' pp => by
      obtain ⟨p1, p2, rs, p3, p4⟩ := pp
      exact q _ H' (e1.trans p2) ⟨Dl, rs, rfl, fresh_back e1 p1, p3, p4⟩)⟩
/-- tuple(..) of a new list -/
theorem eq_tupQ {R : Hp → List V → Prop} (up : ∀ {H H' : Hp} {rs : List V}, Ex H H' → R H rs → R H' rs) (h : EvQ te σ H (fun H1 u H2 => ∃ l rs, u = .ref l ∧ H1 l = none ∧ H2 l = some (.lst rs) ∧ R H2 rs)) :
    EvQ (tCB (rTupOf K) (tCons te tNil)) σ H (fun H1 u H2 => ∃ wa rs, u = .ref wa ∧ H1 wa = none ∧ SqT K H2 wa rs ∧ R H2 rs) := fun H1 e Q q =>
  h H1 e _ fun u H2 e2 ⟨l, rs, hu, _, hl, hR⟩ => ⟨l, rs, by rw [hu], .inl ⟨sq_of hl, fun wa hwa => q _ _ (e2.trans (Ex.new hwa)) ⟨wa, rs, rfl, fresh_back e2 hwa, st_of upd_same, up (Ex.new hwa) hR⟩⟩⟩
/-! ### read_ways -/
def spReadWays (T : Tx K mg) : Sp := fun vs H Q E => ∃ (r cl dr : Addr) (ns : List Nat) (i : Nat) (G M : Hp), vs = [.ref r] ∧ H = over G M ∧ Clean M ∧ CrS T G M r cl dr (ln ns) i ∧ ns.length ≤ 2000 ∧ match Mx.takeW (ns.drop i) with
  | none => NtE T E G
  | some x => ∀ wa j G2, Ex G G2 → x.2 = ns.drop j → i < j → j ≤ ns.length → x.1.length ≤ 1000 → CrS T G2 (hop T M r cl dr j) r cl dr (ln ns) j → WaysAt K G2 wa x.1 → Q (.ref wa) (over G2 (hop T M r cl dr j))
theorem clean_hop {T : Tx K mg} {M : Hp} {r cl dr : Addr} {j : Nat} (h : Clean M) : Clean (hop T M r cl dr j) := h.put (fun _ z => nomatch z) (fun _ _ z => nomatch z)
theorem ok_read_ways (T : Tx K mg) : FnOk P w K mg base (L2.CX P w) 3 T.read_ways.f T.read_ways.fd ["reader"] (spReadWays T) := by
  have GN : FnOk P w K mg base (L2.CX P w) 2 _ _ _ _ := ok_take_number T
  have GS : FnOk P w K mg base (L2.CX P w) 2 _ _ _ _ := (ok_take_some T).mono (by decide)
  refine T.read_ways.F.okX scReadWays (fun vs H Q E h => ?_) (fun cdv A outer s H vs Q E hr h => ⟨_,
    pss_cons (ps_set (i := 1) scReadWays.nd rfl (.inr rfl) (pe_meth (pv 0) T.cRowReader.cl T.mRowReader_take_some.M GS hr (bdRowReaderTakeSome T.mRowReader_take_some.F) .nil (passes_call (takes_of rfl rfl rfl rfl) (fun _ _ _ _ h => h))
      (pa_cons (pe_op op_mul pe_int (pe_meth0 (pv 0) T.cRowReader.cl T.mRowReader_take_number.M GN hr (bdRowReaderTakeNumber T.mRowReader_take_number.F) .nil (passes_call (takes_of rfl rfl rfl rfl) (fun _ _ _ _ h => h)))) pa_nil)))
    (pss_one (ps_ret (pe_tuple T.b_tuple
      (pe_lc (own := [("k", 2)]) (g := gName 2) (tt := tYes) (te := tTup (tCons (tOp (rIxL K) (tVar 1) (tVar 2)) (tCons (tOp (rIxL K) (tVar 1) (tOp (rI0 fun i j => .int (i + j)) (tVar 2) (tC (.int 1)))) tNil))) rfl scReadWays.nd (pi_range3 (by rfl) T.b_range (pa_cons pe_int (pa_cons (pe_len T.b_len (pv 1)) (pa_cons pe_int pa_nil))))
        (blkOk_by (N := ["reader", "flat", "k"]) (sc := defScope sReadWays) (by decide +kernel)) (fun _ _ _ _ _ => pg_name (i := 2) scReadWays.nd rfl (Or.inl rfl)) (fun _ _ _ _ _ => pts_nil)
        (fun _ _ _ _ _ => pe_tup (pa_cons (pe_ix ix_list (pv 1) (pv 2) (fun _ _ => rfl)) (pa_cons (pe_ix ix_list (pv 1) (pe_op op_add (pv 2) pe_int) (fun _ _ => rfl)) pa_nil))))))), ?_⟩)
  · obtain ⟨r, cl, dr, ns, i, G, M, rfl, _⟩ := h
    rfl
  obtain ⟨r, cl, dr, ns, i, G, M, rfl, rfl, hCM, hC, hz, k⟩ := h
  refine q_ask ?_
  refine t_methR (a := r) (ev_var rfl) (over_m hC.mr) (by rfl) fun H1 e1 => t_cons ?_
  refine ev_c _ (Ex.refl _) _ fun H2 e2 => ?_
  refine t_meth (a := r) (ev_var rfl) ((e1.trans e2) _ _ (over_m hC.mr)) (by rfl) ea_nil fun H3 e3 => ?_
  obtain ⟨G3, a3, eG3, rfl⟩ := over_split hC.ap ((e1.trans e2).trans e3)
  refine ⟨r, cl, dr, ln ns, i, G3, M, rfl, rfl, hC.grow eG3 a3, ?_⟩
  rw [ln_at]
  cases hi : ns[i]? with
  | none =>
    rw [Mx.w_none hi] at k
    exact k.go eG3
  | some n =>
    have hil := (List.getElem?_eq_some_iff.mp hi).1
    rw [Mx.w_some hi] at k
    intro G4 eG4 hC4
    refine ⟨2, (n : Int), rfl, rfl, .inl (by decide), ?_⟩
    refine t_nil ⟨r, cl, dr, ln ns, i + 1, 2 * n, G4, _, ?_, rfl, hC4, ?_⟩
    · show [V.ref r, V.int (2 * (n : Int))] = _
      congr 2
    rw [ln_len]
    by_cases hl : i + 1 + 2 * n ≤ ns.length
    · rw [if_pos hl] at k ⊢
      intro p G5 hp eG5 hC5 h5
      rw [hop2] at hC5 ⊢
      rw [ln_cut] at h5
      dsimp only at k
      obtain ⟨fl, hfl⟩ : ∃ fl, fl = (ns.drop (i + 1)).take (2 * n) := ⟨_, rfl⟩
      have hfn : fl.length = 2 * n := by rw [hfl, List.length_take, List.length_drop]; omega
      rw [← hfl] at h5 k
      have hpM : hop T M r cl dr (i + 1 + 2 * n) p = none := by
        have h1 : hop T M r cl dr (i + 1) p = none := none_m hp
        have hpr : p ≠ r := fun z => by
          rw [z] at h1
          unfold hop at h1
          rw [upd_same] at h1
          cases h1
        rw [hop_ne hpr] at h1 ⊢
        exact h1
      have k := fun wa G2 => k wa (i + 1 + 2 * n) G2
      obtain ⟨M5, hM5⟩ : ∃ M5, M5 = hop T M r cl dr (i + 1 + 2 * n) := ⟨_, rfl⟩
      have hCl5 : Clean M5 := by rw [hM5]; exact clean_hop hCM
      rw [← hM5] at hC5 hpM ⊢
      simp only [← hM5] at k
      have hpO : over G5 M5 p = some (.lst (nv fl)) := by rw [over_g hpM]; exact h5
      have hlc := eq_lcC (ta := tCons (tC (.int 0)) (tCons (tCB (rLenS K) (tCons (tVar 1) tNil)) (tCons (tC (.int 2)) tNil))) (n := n) (j := 2) (vs := [2]) (σ := [some (.ref r), some (.ref p), none]) (H := over G5 M5) (te := tTup (tCons (tOp (rIxL K) (tVar 1) (tVar 2)) (tCons (tOp (rIxL K) (tVar 1) (tOp (rI0 fun i j => .int (i + j)) (tVar 2) (tC (.int 1)))) tNil))) (RB := fun H2 o (x : Nat × Nat) => SqT K H2 o (nv [x.1, x.2])) (fun k => (fl.getD (2 * k) 0, fl.getD (2 * k + 1) 0)) (fun e r => ex_t e r) (fun hl r => sqt_lst hl r)
          (ea_cons ev_c (ea_cons (ev_is (ev_len (ev_var rfl) (sq_of hpO)) (by rw [nv_len, hfn])) (ea_cons ev_c ea_nil))) (by omega) (fun _ => rfl) (fun q H7 e7 hq => by
        have hat : ∀ d, d < 2 * n → atI (nv fl) ((d : Nat) : Int) = some (.int ((fl.getD d 0 : Nat) : Int)) := fun d hd => atI_nat (nv_at (by rw [List.getD_eq_getElem?_getD, List.getElem?_eq_getElem (by omega)]; rfl))
        have hpl := e7 _ _ hpO
        have hu : EvU (tTup (tCons (tOp (rIxL K) (tVar 1) (tVar 2)) (tCons (tOp (rIxL K) (tVar 1) (tOp (rI0 fun i j => .int (i + j)) (tVar 2) (tC (.int 1)))) tNil))) [some (.ref r), some (.ref p), some (.int ((2 * q : Nat) : Int))] H7 (nv [fl.getD (2 * q) 0, fl.getD (2 * q + 1) 0]) :=
          eu_tup (vs := nv [fl.getD (2 * q) 0, fl.getD (2 * q + 1) 0]) (ea_cons (ev_op (ev_var (v := .ref p) rfl) (ev_var rfl) (rv_ixL (sq_of hpl) (hat (2 * q) (by omega)))) (ea_cons (ev_op (ev_var (v := .ref p) rfl) (ev_is (ev_op (ev_var rfl) ev_c rv_I0) (show V.int (((2 * q : Nat) : Int) + 1) = V.int ((2 * q + 1 : Nat) : Int) from rfl)) (rv_ixL (sq_of hpl) (hat (2 * q + 1) (by omega)))) ea_nil)) (by show 2 ≤ 100000; decide)
        exact fun H8 e8 Q8 q8 => hu H8 e8 Q8 fun o H9 ho e9 h9 => q8 _ H9 e9 ⟨o, rfl, st_of h9⟩)
      refine s_retQ (eq_tupQ (K := K) (R := fun H2 rs => Rep (fun o (x : Nat × Nat) => SqT K H2 o (nv [x.1, x.2])) rs ((List.range n).map fun k => (fl.getD (2 * k) 0, fl.getD (2 * k + 1) 0))) (fun e r => r.mono fun _ _ z => ex_t e z) hlc) fun u H6 e6 ⟨wa, ws, hu, hwa, w1, w2⟩ => ?_
      subst hu
      obtain ⟨G6, a6, eG6, rfl⟩ := over_split hC5.ap e6
      refine k wa G6 (((eG3.trans eG4).trans eG5).trans eG6) trivial (by omega) hl (by rw [Mx.pairs_len n fl hfn]; omega) (hC5.grow eG6 a6) ⟨ws, hCl5.tup w1, ?_⟩
      rw [Mx.pairs_map fl n hfn]
      exact w2.mono fun _ _ r => hCl5.tup r
    · rw [if_neg hl] at k ⊢
      exact k.go (eG3.trans eG4)
end
end Pt
set_option Elab.async false
set_option linter.all false
set_option maxRecDepth 100000
namespace Mx
open Vahypd (Node Table takeMany takeOut takeNode takeNodes pairsIn readTable)
theorem rt_none {ns : List Nat} (h : ns[0]? = none) : readTable ns = none := by
  cases ns with
  | nil => rfl
  | cons a r => cases h
theorem rt_many {ns : List Nat} {c : Nat} (h : ns[0]? = some c) (hc : 300 < c) : readTable ns = none := by
  cases ns with
  | nil => cases h
  | cons a r =>
    have e : a = c := Option.some.inj h
    subst e
    show (if Vahypd.NODES < a then none else _) = none
    exact if_pos (show Vahypd.NODES < a from hc)
theorem rt_some {ns : List Nat} {c : Nat} (h : ns[0]? = some c) (hc : c ≤ 300) : readTable ns = (takeNodes c (ns.drop 1)).bind fun x => (match x.2 with
    | [k] => some (x.1, k)
    | _ => none) := by
  cases ns with
  | nil => cases h
  | cons a r =>
    have e : a = c := Option.some.inj h
    subst e
    show (if Vahypd.NODES < a then none else _) = _
    rw [if_neg (show ¬ Vahypd.NODES < a from by show ¬ 300 < a; omega)]
    rfl
theorem rt_end {ns : List Nat} {c j : Nat} {acc : Table} (h : ns[0]? = some c) (hc : c ≤ 300) (hj : j ≤ ns.length) (ht : takeNodes c (ns.drop 1) = some (acc, ns.drop j)) : readTable ns = match ns[j]? with
  | none => none
  | some f => if j + 1 = ns.length then some (acc, f) else none := by
  rw [rt_some h hc, ht]
  simp only [Option.bind_some]
  cases hf : ns[j]? with
  | none => rw [drop_none hf]
  | some f =>
    rw [dropAt hf]
    dsimp only
    have hl := (List.getElem?_eq_some_iff.mp hf).1
    by_cases he : j + 1 = ns.length
    · rw [if_pos he, List.drop_eq_nil_of_le (by omega)]
    · rw [if_neg he]
      cases hd : ns.drop (j + 1) with
      | nil =>
        have := List.drop_eq_nil_iff.mp hd
        omega
      | cons a r => rfl
end Mx
set_option Elab.async false
set_option linter.all false
set_option maxRecDepth 100000
set_option maxHeartbeats 2000000
namespace Pt
open PySem PySem.Spec PyProof.Rows L2 Evl
open VahypBase (Bytes)
open Vahypd (Node Table)
section
variable {P : Program} {w : World} {K : PySem.W.Frag} {mg : Str → Option Value} {base : Heap} {X : Cx}
variable {σ : L2.St} {H H' : Hp} {ta tb tc te tl : TE} {t : TT} {x y z v : V} {C : Addr} {D : Ends} {tz : TS}
theorem t_lcR1 {ta : TA} {j n : Nat} {vs : List Nat} {Q : VK} (h : EvA ta σ H [.int (n : Int)]) (hn : n ≤ 40000) (k : ∀ H1 Dl, Ex H H1 → H1 Dl = none → ∃ Pv : Nat → Hp → Prop, Pv 0 (upd H1 Dl (.lst [])) ∧
    (∀ i H', i < n → Pv i H' → wipe ((wipe σ vs).set j (some (.int (i : Int)))) vs = wipe σ vs ∧ te ((wipe σ vs).set j (some (.int (i : Int)))) H' fun y H4 => ∃ acc, H4 Dl = some (.lst acc) ∧ acc.length < sizeLine ∧ Pv (i + 1) (upd H4 Dl (.lst (acc ++ [y])))) ∧ ∀ H', Pv n H' → Q (.ref Dl) H') :
    tLc (iRng1 ta) (gName j) tYes te vs σ H Q := h H (Ex.refl _) _ fun H1 e1 => ⟨(n : Int), rfl, by omega, by omega, fun Dl hD => by
  obtain ⟨Pv, h0, hs, hd⟩ := k H1 Dl e1 hD
  rw [Int.toNat_natCast]
  refine lc_range (lo := 0) (n := n) Pv h0 (fun i H' hi p => ?_) hd
  have e0 : (0 : Int) + (i : Int) = (i : Int) := Int.zero_add _
  rw [e0]
  exact hs i H' hi p⟩
theorem t_mkU {sp : Sp} {E : XK} {t : TA} {Q : VK} (k : t σ H fun vs H1 => ∀ x dx, H1 x = none → H1 dx = none → dx ≠ x → sp (.ref x :: (vs ++ [])) (upd (upd H1 dx (.own x)) x (.ins C dx [])) (fun v H2 => v = .non ∧ Q (.ref x) H2) E) : tMake C sp [] E t σ H Q := k
/-! ### read_node -/
def spReadNode (T : Tx K mg) : Sp := fun vs H Q E => ∃ (r cl dr : Addr) (ns : List Nat) (i : Nat) (G M : Hp), vs = [.ref r] ∧ H = over G M ∧ Clean M ∧ CrS T G M r cl dr (ln ns) i ∧ ns.length ≤ 2000 ∧ match Vahypd.takeNode (ns.drop i) with
  | none => NtE T E G
  | some x => ∀ o j G2, Ex G G2 → x.2 = ns.drop j → i < j → j ≤ ns.length → Mx.SmallNode 2000 1000 x.1 → CrS T G2 (hop T M r cl dr j) r cl dr (ln ns) j → NodeAt T G2 o x.1 → Q (.ref o) (over G2 (hop T M r cl dr j))
theorem ok_read_node (T : Tx K mg) : FnOk P w K mg base (L2.CX P w) 5 T.read_node.f T.read_node.fd ["reader"] (spReadNode T) := by
  have GD : FnOk P w K mg base (L2.CX P w) 4 _ _ _ _ := ok_read_digits T
  have GW : FnOk P w K mg base (L2.CX P w) 4 _ _ _ _ := (ok_read_ways T).mono (by decide)
  have GN : FnOk P w K mg base CX0 3 _ _ _ _ := (ok_Node T).mono (by decide)
  refine T.read_node.F.okX scReadNode (fun vs H Q E h => ?_) (fun cdv A outer s H vs Q E hr h => ⟨_,
    pss_cons (ps_set (i := 1) scReadNode.nd rfl (.inl rfl) (pe_fn T.read_digits GD hr (bdReadDigits T.read_digits.F) (passes_call (takes_of rfl rfl rfl rfl) (fun _ _ _ _ h => h)) (pa_cons (pv 0) pa_nil)))
    (pss_one (ps_ret (pe_make T.cNode.mkc GN hr rfl T.cNode.m (bdNodeInit T.cNode.F) .nil pass0 (pa_cons (pv 1) (pa_cons (pe_fn T.read_ways GW hr (bdReadWays T.read_ways.F) (passes_call (takes_of rfl rfl rfl rfl) (fun _ _ _ _ h => h)) (pa_cons (pv 0) pa_nil)) pa_nil))))), ?_⟩)
  · obtain ⟨r, cl, dr, ns, i, G, M, rfl, _⟩ := h
    rfl
  obtain ⟨r, cl, dr, ns, i, G, M, rfl, rfl, hCM, hC, hz, k⟩ := h
  rw [Mx.node_eq] at k
  refine q_ask ?_
  refine t_fn (vs := [.ref r]) (ea_cons (ev_var rfl) ea_nil) fun H1 e1 => ?_
  obtain ⟨G1, a1, eG1, rfl⟩ := over_split hC.ap e1
  refine ⟨r, cl, dr, ns, i, G1, M, rfl, rfl, hC.grow eG1 a1, hz, ?_⟩
  cases ho : Vahypd.takeOut (ns.drop i) with
  | none =>
    rw [ho] at k
    exact k.go eG1
  | some x =>
    obtain ⟨d, rest⟩ := x
    rw [ho] at k
    simp only [Option.bind_some] at k
    intro u j G2 eG2 hx hij hj hdl hC2 hD
    have hx : rest = ns.drop j := hx
    subst hx
    refine t_mkU (t_cons ?_)
    refine (ev_var (v := u) rfl) _ (Ex.refl _) _ fun H3 e3 => t_cons ?_
    refine t_fn (vs := [.ref r]) (ea_cons (ev_var rfl) ea_nil) fun H4 e4 => ?_
    obtain ⟨G4, a4, eG4, rfl⟩ := over_split hC2.ap (e3.trans e4)
    refine ⟨r, cl, dr, ns, j, G4, _, rfl, rfl, clean_hop hCM, hC2.grow eG4 a4, hz, ?_⟩
    cases hw : Mx.takeW (ns.drop j) with
    | none =>
      rw [hw] at k
      exact k.go ((eG1.trans eG2).trans eG4)
    | some x2 =>
      rw [hw] at k
      simp only [Option.map_some] at k
      intro wa j2 G5 eG5 hx2 hij2 hj2 hkl hC5 hW
      rw [hop2] at hC5 ⊢
      refine t_nil ?_
      refine mk_fin (n := 2) rfl fun o dx H6 ho6 e6 h6 => ?_
      obtain ⟨G6, a6, eG6, rfl⟩ := over_split hC5.ap e6
      have hoM : hop T M r cl dr j2 o = none := none_m ho6
      rw [over_g hoM] at h6
      exact k o j2 G6 ((((eG1.trans eG2).trans eG4).trans eG5).trans eG6) hx2 (by omega) hj2 ⟨hdl, hkl⟩ (hC5.grow eG6 a6) ⟨dx, u, wa, h6, hD.mono ((eG4.trans eG5).trans eG6), hW.mono eG6⟩
/-! ### read_table -/
theorem ev_done {T : Tx K mg} {r cl dr : Addr} {l : List Int} {i : Nat} {E : XK} (ha : Ev ta σ H (.ref r)) (h : H r = some (.ins T.cRowReader.C dr (crF cl i))) (hl : SqL K H cl (iv l)) : Ev (tMeth T.cRowReader.C "is_done" (spIsDone T) [] E ta tNil) σ H (.bl (decide (i = l.length))) := fun H1 e Q q =>
  t_meth (a := r) (ha.mono e) (e _ _ h) (by rfl) ea_nil fun H2 e2 => ⟨_, ⟨r, cl, dr, l, i, rfl, (e.trans e2) _ _ h, ex_l (e.trans e2) hl, rfl⟩, fun H3 e3 => q H3 (e2.trans e3)⟩
theorem ev_any {bs : List Bool} (h : EvL te σ H (bs.map V.bl)) : Ev (tCB (rAny K) (tCons te tNil)) σ H (.bl (bs.any id)) := fun H1 e Q q => h H1 e _ fun p H2 _ e2 h2 => ⟨p, bs, rfl, sq_of h2, q H2 e2⟩
def negV : V → V
  | .int i => .bl (decide (i < 0))
  | _ => .non
theorem neg_iv (l : List Int) : (iv l).map negV = (l.map fun z => decide (z < 0)).map V.bl := by
  unfold iv
  rw [List.map_map, List.map_map]
  rfl
def MD (T : Tx K mg) (r cl dr Dl : Addr) (j : Nat) (refs : List V) : Hp := upd (hop T noHp r cl dr j) Dl (.lst refs)
theorem md_r {T : Tx K mg} {r cl dr Dl : Addr} {j : Nat} {refs : List V} (h : Dl ≠ r) : MD T r cl dr Dl j refs r = some (.ins T.cRowReader.C dr (crF cl j)) := by
  unfold MD
  rw [upd_ne (Ne.symm h)]
  exact upd_same
theorem md_hop {T : Tx K mg} {r cl dr Dl : Addr} {i j : Nat} {refs : List V} (h : Dl ≠ r) : hop T (MD T r cl dr Dl i refs) r cl dr j = MD T r cl dr Dl j refs := by
  funext b
  unfold MD
  by_cases h1 : b = r
  · rw [h1]
    unfold hop
    rw [upd_same, upd_ne (Ne.symm h), upd_same]
  · rw [hop_ne h1]
    by_cases h2 : b = Dl
    · rw [h2, upd_same, upd_same]
    · rw [upd_ne h2, upd_ne h2, hop_ne h1, hop_ne h1]
theorem md_put {T : Tx K mg} {r cl dr Dl : Addr} {j : Nat} {refs rs : List V} : upd (MD T r cl dr Dl j refs) Dl (.lst rs) = MD T r cl dr Dl j rs := upd_upd
theorem md_cl {T : Tx K mg} {r cl dr Dl : Addr} {j : Nat} {refs : List V} : Clean (MD T r cl dr Dl j refs) := (clean_hop (M := noHp) (fun b u hb => nomatch hb)).put (fun _ z => nomatch z) (fun _ _ z => nomatch z)
def okNums (l : List Int) : Option (Table × Nat) := if l.any (fun z => decide (z < 0)) = true then none else Vahypd.readTable (l.map fun z => z.toNat)
theorem nums_ln {l : List Int} (h : ¬ l.any (fun z => decide (z < 0)) = true) : l = ln (l.map fun z => z.toNat) := by
  unfold ln
  rw [List.map_map]
  conv => lhs; rw [← List.map_id l]
  refine List.map_congr_left fun z hz => ?_
  have : ¬ z < 0 := fun q => h (List.any_eq_true.mpr ⟨z, hz, decide_eq_true q⟩)
  show z = ((z.toNat : Nat) : Int)
  omega
def spReadTable (T : Tx K mg) : Sp := fun vs H Q E => ∃ (a : Addr) (l : List Int), vs = [.ref a] ∧ SqL K H a (iv l) ∧ l.length ≤ 2000 ∧ match okNums l with
  | none => NtE T E H
  | some t => ∀ tt H2, H tt = none → Ex H H2 → TabAt T H2 tt t → t.1.length ≤ 300 → (∀ n ∈ t.1, Mx.SmallNode 2000 1000 n) → Q (.ref tt) H2
theorem ok_read_table (T : Tx K mg) : FnOk P w K mg base (L2.CX P w) 6 T.read_table.f T.read_table.fd ["numbers"] (spReadTable T) := by
  have GI : FnOk P w K mg base CX0 4 _ _ _ _ := (ok_RowReader T).mono (by decide)
  have GB : FnOk P w K mg base CX0 4 _ _ _ _ := (ok_Table T).mono (by decide)
  have GD : FnOk P w K mg base CX0 5 _ _ _ _ := (ok_is_done T).mono (by decide)
  have GT : FnOk P w K mg base (L2.CX P w) 5 _ _ _ _ := (ok_take_number T).mono (by decide)
  have GN : FnOk P w K mg base (L2.CX P w) 5 _ _ _ _ := ok_read_node T
  refine T.read_table.F.okX scReadTable (fun vs H Q E h => ?_) (fun cdv A outer s H vs Q E hr h => ⟨_,
    pss_cons (ps_if (pt_val (pe_callB (cr_any rfl) (by rfl) T.b_any (by decide +kernel) (pa_cons
        (pe_lc (own := [("number", 5)]) (g := gName 5) (tt := tYes) (te := tOp (rI0 fun i j => .bl (decide (i < j))) (tVar 5) (tC (.int 0))) rfl scReadTable.nd (pi_list (pv 0)) (blkOk_by (N := ["numbers", "reader", "count", "nodes", "table", "number", "k"]) (sc := defScope sReadTable) (by decide +kernel))
          (fun _ _ _ _ _ => pg_name (i := 5) scReadTable.nd rfl (Or.inl rfl)) (fun _ _ _ _ _ => pts_nil) (fun _ _ _ _ _ => pe_cmpR op_lt (pv 5) pe_int (nomark _))) pa_nil)))
      (pss_one (ps_raiseNt rfl T.nt (takes_of rfl rfl rfl rfl))) pss_nil)
    (pss_cons (ps_set (i := 1) scReadTable.nd rfl (.inr rfl) (pe_make T.cRowReader.mkc GI hr rfl T.cRowReader.m (bdRowReaderInit T.cRowReader.F) .nil pass0 (pa_cons (pv 0) pa_nil)))
    (pss_cons (ps_set (i := 2) scReadTable.nd rfl (.inl rfl) (pe_meth0 (pv 1) T.cRowReader.cl T.mRowReader_take_number.M GT hr (bdRowReaderTakeNumber T.mRowReader_take_number.F) .nil (passes_call (takes_of rfl rfl rfl rfl) (fun _ _ _ _ h => h))))
    (pss_cons (ps_if (pt_cmpR op_gt (pv 2) (pe_k T.k_MOST_NODES) (nomark _)) (pss_one (ps_raiseNt rfl T.nt (takes_of rfl rfl rfl rfl))) pss_nil)
    (pss_cons (ps_setLcX (i := 3) (own := [("k", 6)]) (g := gName 6) (te := tCall (spReadNode T) [] E (tCons (tVar 1) tNil)) rfl scReadTable.nd rfl rfl (takes_of rfl rfl rfl rfl) rfl rfl (sw_true rfl rfl rfl (by decide +kernel)) (pi_range1 (by rfl) T.b_range (pa_cons (pv 2) pa_nil))
        (blkOk_by (N := ["numbers", "reader", "count", "nodes", "table", "number", "k"]) (sc := defScope sReadTable) (by decide +kernel)) (fun _ _ _ _ _ _ => pg_name (i := 6) scReadTable.nd rfl (Or.inl rfl))
        (fun _ _ _ _ _ _ hx => pe_fn T.read_node GN hr (bdReadNode T.read_node.F) hx (pa_cons (pv 1) pa_nil)))
    (pss_cons (ps_set (i := 4) scReadTable.nd rfl (.inl rfl) (pe_make T.cTable.mkc GB hr rfl T.cTable.m (bdTableInit T.cTable.F) .nil pass0 (pa_cons (pv 3) (pa_cons (pe_meth0 (pv 1) T.cRowReader.cl T.mRowReader_take_number.M GT hr (bdRowReaderTakeNumber T.mRowReader_take_number.F) .nil (passes_call (takes_of rfl rfl rfl rfl) (fun _ _ _ _ h => h))) pa_nil))))
    (pss_cons (ps_if (pt_not (pt_val (pe_meth0 (pv 1) T.cRowReader.cl T.mRowReader_is_done.M GD hr (bdRowReaderIsDone T.mRowReader_is_done.F) .nil pass0))) (pss_one (ps_raiseNt rfl T.nt (takes_of rfl rfl rfl rfl))) pss_nil)
    (pss_one (ps_ret (pv 4))))))))), ?_⟩)
  · obtain ⟨a, l, rfl, _⟩ := h
    rfl
  obtain ⟨a, l, rfl, hL, hz, k⟩ := h
  refine q_when (b := l.any fun z => decide (z < 0)) (et_B (ev_is (v := .bl ((l.map fun z => decide (z < 0)).any id)) (ev_any (K := K) ?_) (by rw [List.any_map]; rfl))) (fun hs H1 e1 => ?_) (fun hs H1 e1 => ?_)
  · rw [← neg_iv]
    refine el_lcA negV (ev_var rfl) hL (by rw [iv_len]; omega) (fun _ => rfl) fun u H2 e2 hu => ?_
    obtain ⟨z, _, rfl⟩ := List.mem_map.mp hu
    exact ev_op (ev_var rfl) ev_c rv_I0
  · unfold okNums at k
    rw [if_pos hs] at k
    exact k H1 e1
  have hs' : ¬ l.any (fun z => decide (z < 0)) = true := by rw [hs]; decide
  unfold okNums at k
  rw [if_neg hs'] at k
  obtain ⟨ns, hns⟩ : ∃ ns, ns = l.map fun z => z.toNat := ⟨_, rfl⟩
  have hln : l = ln ns := by rw [hns]; exact nums_ln hs'
  have hnl : ns.length = l.length := by rw [hns, List.length_map]
  rw [← hns] at k
  clear hns
  rw [hln] at hL
  have hz2 : ns.length ≤ 2000 := by omega
  refine q_asgN (en_make (vs := [.ref a]) (ea_cons (ev_var rfl) ea_nil) rfl) fun r dr H2 hr0 e2 h2 => ?_
  have hrH := fresh_back e1 hr0
  obtain ⟨G2, a2, g2, E2⟩ := taken (H3 := H) (G := H2) (M := noHp) (l := r) apart_no rfl (by rw [over_no]; exact h2) hrH (e1.trans e2)
  rw [over_no] at E2
  subst E2
  have hC2 : CrS T G2 (hop T noHp r a dr 0) r a dr (ln ns) 0 := ⟨a2, upd_same, ex_l g2 hL⟩
  refine q_ask ?_
  refine t_meth (a := r) (ev_var rfl) (over_m hC2.mr) (by rfl) ea_nil fun H3 e3 => ?_
  obtain ⟨G3, a3, eG3, rfl⟩ := over_split hC2.ap e3
  refine ⟨r, a, dr, ln ns, 0, G3, _, rfl, rfl, hC2.grow eG3 a3, ?_⟩
  rw [ln_at]
  cases h0 : ns[0]? with
  | none =>
    rw [Mx.rt_none h0] at k
    exact k.go (g2.trans eG3)
  | some c =>
  intro G4 eG4 hC4
  rw [hop2] at hC4 ⊢
  have g4 := (g2.trans eG3).trans eG4
  refine q_when (b := decide (300 < c)) (et_is (et_test (ev_op (ev_var (v := .int (c : Int)) rfl) ev_c rv_I0)) ?_) (fun hs H5 e5 => ?_) (fun hs H5 e5 => ?_)
  · rw [Bool.eq_iff_iff, decide_eq_true_eq, decide_eq_true_eq]
    omega
  · rw [Mx.rt_many h0 (of_decide_eq_true hs)] at k
    exact k H5 (g4.trans ((ex_over hC4.ap).trans e5))
  have hc : c ≤ 300 := by have := of_decide_eq_false hs; omega
  obtain ⟨G5, a5, eG5, rfl⟩ := over_split hC4.ap e5
  have hC5 := hC4.grow eG5 a5
  have g5 := g4.trans eG5
  refine q_ask ?_
  refine t_lcR1 (n := c) (ea_cons (ev_var rfl) ea_nil) (by omega) fun H6 Dl e6 hD => ?_
  obtain ⟨G6, a6, eG6, rfl⟩ := over_split hC5.ap e6
  have hC6 := hC5.grow eG6 a6
  have g6 := g5.trans eG6
  have hDM : hop T noHp r a dr 1 Dl = none := none_m hD
  have hDr : Dl ≠ r := fun z => by rw [z, hC6.mr] at hDM; cases hDM
  have hDG : G6 Dl = none := by rw [← over_g (G := G6) hDM]; exact hD
  have hDH : H Dl = none := by
    cases q : H Dl with
    | none => rfl
    | some u => rw [g6 _ _ q] at hDG; cases hDG
  refine ⟨fun q H' => ∃ (G' : Hp) (j : Nat) (acc : Table) (refs : List V), H' = over G' (MD T r a dr Dl j refs) ∧ Ex H G' ∧ CrS T G' (MD T r a dr Dl j refs) r a dr (ln ns) j ∧ j ≤ ns.length ∧ Rep (NodeAt T G') refs acc ∧ acc.length = q ∧ q ≤ c ∧ (∀ n ∈ acc, Mx.SmallNode 2000 1000 n) ∧
    Vahypd.takeNodes c (ns.drop 1) = (Vahypd.takeNodes (c - q) (ns.drop j)).map fun y => (acc ++ y.1, y.2), ?_, fun q H' hq pp => ?_, fun H' pp => ?_⟩
  · rw [over_upd]
    have hil := (List.getElem?_eq_some_iff.mp h0).1
    refine ⟨G6, 1, [], [], rfl, g6, ⟨hC6.ap.add hDG, md_r hDr, hC6.cl⟩, by omega, Rep.nil, rfl, Nat.zero_le _, (fun n hn => nomatch hn), ?_⟩
    cases Vahypd.takeNodes c (ns.drop 1) <;> rfl
  · obtain ⟨G', j, acc, refs, rfl, g', hC', hj, hR, hal, hqc, hsm, hT⟩ := pp
    refine ⟨rfl, ?_⟩
    refine t_fn (vs := [.ref r]) (ea_cons (ev_var rfl) ea_nil) fun H7 e7 => ?_
    obtain ⟨G7, a7, eG7, rfl⟩ := over_split hC'.ap e7
    refine ⟨r, a, dr, ns, j, G7, _, rfl, rfl, md_cl, hC'.grow eG7 a7, hz2, ?_⟩
    obtain ⟨m, hm⟩ : ∃ m, c - q = m + 1 := ⟨c - q - 1, by omega⟩
    rw [hm] at hT
    cases hn : Vahypd.takeNode (ns.drop j) with
    | none =>
      have hnone : Vahypd.takeNodes c (ns.drop 1) = none := by
        rw [hT, Mx.nodes_succ, hn]
        rfl
      rw [Mx.rt_some h0 hc, hnone] at k
      exact k.go (g'.trans eG7)
    | some x =>
      obtain ⟨n, rest⟩ := x
      intro o j2 G8 eG8 hx hij hj2 hsn hC8 hN
      have hx : rest = ns.drop j2 := hx
      subst hx
      rw [md_hop hDr] at hC8 ⊢
      have hlook : over G8 (MD T r a dr Dl j2 refs) Dl = some (.lst refs) := over_m upd_same
      refine ⟨refs, hlook, sz_lt (by rw [hR.1, hal]; omega), ?_⟩
      rw [over_upd, md_put]
      refine ⟨G8, j2, acc ++ [n], refs ++ [.ref o], rfl, (g'.trans eG7).trans eG8, ⟨?_, md_r hDr, hC8.cl⟩, hj2, Rep.snoc (hR.mono fun _ _ r => r.mono (eG7.trans eG8)) hN, by rw [List.length_append, hal]; rfl, by omega, fun n' hn' => ?_, ?_⟩
      · have := hC8.ap.put (o := .lst (refs ++ [.ref o])) (show MD T r a dr Dl j2 refs Dl = some (.lst refs) from upd_same)
        rw [md_put] at this
        exact this
      · rcases List.mem_append.mp hn' with z | z
        · exact hsm n' z
        · rw [List.mem_singleton.mp z]
          exact hsn
      · rw [hT, Mx.nodes_step hn]
        congr 2
        omega
  · obtain ⟨G', j, acc, refs, rfl, g', hC', hj, hR, hal, hqc, hsm, hT⟩ := pp
    rw [Nat.sub_self, Mx.nodes_zero] at hT
    have hT : Vahypd.takeNodes c (ns.drop 1) = some (acc, ns.drop j) := by
      rw [hT]
      simp
    rw [Mx.rt_end h0 hc hj hT] at k
    refine q_ask (t_mkU (t_cons ?_))
    refine (ev_var (v := .ref Dl) rfl) _ (Ex.refl _) _ fun H7 e7 => t_cons ?_
    refine t_meth (a := r) (ev_var rfl) (e7 _ _ (over_m (md_r hDr))) (by rfl) ea_nil fun H8 e8 => ?_
    obtain ⟨G8, a8, eG8, rfl⟩ := over_split hC'.ap (e7.trans e8)
    refine ⟨r, a, dr, ln ns, j, G8, _, rfl, rfl, hC'.grow eG8 a8, ?_⟩
    rw [ln_at]
    cases hf : ns[j]? with
    | none =>
      rw [hf] at k
      exact k.go (g'.trans eG8)
    | some f =>
      rw [hf] at k
      dsimp only at k
      intro G9 eG9 hC9
      rw [md_hop hDr] at hC9 ⊢
      have g9 := (g'.trans eG8).trans eG9
      refine t_nil ?_
      refine mk_fin (n := 2) rfl fun tt dx H10 htt e10 h10 => ?_
      obtain ⟨G10, a10, eG10, rfl⟩ := over_split hC9.ap e10
      have hC10 := hC9.grow eG10 a10
      have g10 := g9.trans eG10
      have hHtt : H tt = none := by
        cases q : H tt with
        | none => rfl
        | some u =>
          have h1 := g9 _ _ q
          rw [over_g (none_m htt), h1] at htt
          cases htt
      refine q_when (b := !(decide (j + 1 = (ln ns).length))) (et_not (et_B (ev_done (ev_var rfl) (over_m (md_r hDr)) (ex_l (ex_over hC10.ap) hC10.cl)))) (fun hs H11 e11 => ?_) (fun hs H11 e11 => ?_)
      · rw [ln_len] at hs
        rw [if_neg (of_decide_eq_false (nb1 hs))] at k
        exact k H11 (g10.trans ((ex_over hC10.ap).trans e11))
      · rw [ln_len] at hs
        rw [if_pos (of_decide_eq_true (nb2 hs))] at k
        refine s_ret (ev_var (v := .ref tt) rfl) fun H12 e12 => ?_
        have e := e11.trans e12
        exact k tt H12 hHtt (g10.trans ((ex_over hC10.ap).trans e)) ⟨dx, Dl, refs, e _ _ h10, sq_of (e _ _ (over_m (show MD T r a dr Dl (j + 1) refs Dl = some (.lst refs) from upd_same))), hR.mono fun _ _ z => z.mono ((((eG8.trans eG9).trans eG10).trans (ex_over hC10.ap)).trans e)⟩ (by rw [hal]; exact hc) hsm
end
end Pt
set_option Elab.async false
set_option linter.all false
set_option maxRecDepth 100000
set_option maxHeartbeats 2000000
namespace Pt
open PySem PySem.Spec PyProof.Rows L2 Evl
open VahypBase (Bytes)
open Vahypd (Node Table)
section
variable {P : Program} {w : World} {K : PySem.W.Frag} {mg : Str → Option Value} {base : Heap} {X : Cx}
variable {σ : L2.St} {H H' : Hp} {ta tb tc te tl : TE} {t : TT} {x y z v : V} {C : Addr} {D : Ends} {tz : TS}
/-- over enumerate of a list of things -/
theorem el_lcE {α : Type} {ta : TA} {a : Addr} {refs : List V} {es : List α} {R : Addr → α → Prop} {j1 j2 : Nat} {vs : List Nat} (g : α → Nat → V) (h : EvA ta σ H [.ref a]) (hx : SqL K H a refs) (hR : Rep R refs es) (hz : es.length ≤ 40000)
    (hw : ∀ x y, wipe (((wipe σ vs).set j1 (some x)).set j2 (some y)) vs = wipe σ vs)
    (he : ∀ (i : Nat) (o : Addr) (e : α) H1, Ex H H1 → es[i]? = some e → R o e → Ev te (((wipe σ vs).set j1 (some (.int (i : Int)))).set j2 (some (.ref o))) H1 (g e i)) :
    EvL (tLc (iEnum K ta) (gTup K 2 (gCons (gName j1) (gCons (gName j2) gNil))) tYes te vs) σ H (es.zipIdx.map fun x => g x.1 x.2) := fun H0 e0 Q q =>
  h H0 e0 _ fun H1 e1 => ⟨a, refs, rfl, ex_l (e0.trans e1) hx, fun Dl hD =>
    lc_it walk_enum (fun i H' => H1 Dl = none ∧ Ex H1 H' ∧ H' Dl = some (.lst ((es.zipIdx.take i).map fun x => g x.1 x.2))) ⟨hD, Ex.new hD, upd_same⟩ (fun i H' _ p => ex_l ((e0.trans e1).trans p.2.1) hx) (fun i x H2 H3 hi p y => by
      obtain ⟨T, u1, u2, rfl, hT, rfl, e2, e3⟩ := y
      cases e2
      obtain ⟨p1, p2, p3⟩ := p
      obtain ⟨e, o, he1, rfl, ho⟩ := hR.at e3
      have hil := (List.getElem?_eq_some_iff.mp he1).1
      have eT : Ex H2 (upd H2 T (.tup [.int (i : Int), .ref o])) := Ex.new hT
      refine ⟨T, [.int (i : Int), .ref o], rfl, st_of upd_same, rfl, .int (i : Int), [.ref o], rfl, .ref o, [], rfl, rfl, hw _ _, ?_⟩
      refine he i o e _ (((e0.trans e1).trans p2).trans eT) he1 ho _ (Ex.refl _) _ fun H4 e4 => ?_
      refine ⟨_, (eT.trans e4) _ _ p3, sz_lt ?_, p1, Ex.mut ((p2.trans eT).trans e4) p1, ?_⟩
      · rw [List.length_map]
        have := List.length_take_le i es.zipIdx
        have := List.length_zipIdx (l := es) (i := 0)
        have h3 : (es.zipIdx.take i).length ≤ es.zipIdx.length := List.length_take_le' ..
        omega
      · rw [upd_same, List.take_add_one, List.getElem?_zipIdx, he1]
        simp) (fun H' p => q Dl H' (fresh_back e1 p.1) (e1.trans p.2.1) (by
      have := p.2.2
      rw [hR.1, List.take_of_length_le (by rw [List.length_zipIdx]; exact Nat.le_refl _)] at this
      exact this))⟩
/-! ### goes_on_right -/
def kv1 (ks : List (Nat × Nat)) : List Int := ks.map fun x => (x.1 : Int)
def spGoes (T : Tx K mg) : Sp := spOf fun vs H v => ∃ (o : Addr) (n : Node) (k : Nat), vs = [.ref o, .int (k : Int)] ∧ NodeAt T H o n ∧ n.kids.length ≤ 1000 ∧ v = .bl (Mx.goesB n k)
theorem dp_iv {a : Addr} {l : List Int} (h : SqL K H a (iv l)) : Dp K H (.ref a) (.list (l.map PyData.int)) := by
  refine Dp.lst h ?_
  unfold iv
  clear h
  induction l with
  | nil => exact DpAll.nil
  | cons b r ih => exact DpAll.cons (Dp.int _) ih
theorem shaped_iv (l : List Int) : SeqAt.shaped (.list (l.map PyData.int)) = true := by
  unfold SeqAt.shaped
  rw [Bool.and_eq_true]
  refine ⟨?_, decide_eq_true ?_⟩
  · show PyData.canLayAll0 _ = true
    exact lay_ints (fun z : Int => z) l
  · have := deep_ints (fun z : Int => z) l
    show PyData.depthAll _ + 1 ≤ 64
    have this : PyData.depthAll (l.map PyData.int) ≤ 1 := this
    omega
theorem eqv_iv (l m : List Int) : PyData.eqv (.list (l.map PyData.int)) (.list (m.map PyData.int)) = decide (l = m) := by
  have : ∀ l m : List Int, PyData.eqvAll (l.map PyData.int) (m.map PyData.int) = decide (l = m) := by
    intro l
    induction l with
    | nil => intro m; cases m <;> rfl
    | cons a l ih =>
      intro m
      cases m with
      | nil => rfl
      | cons b m =>
        show ((a == b) && PyData.eqvAll _ _) = _
        rw [ih m, Bool.eq_iff_iff]
        simp
  exact this l m
theorem et_neL {a : Addr} {l m : List Int} (ha : Ev ta σ H (.ref a)) (hl : SqL K H a (iv l)) (hb : EvL tb σ H (iv m)) : EvT (tTest (tOp (rNeD K) ta tb)) σ H (!decide (l = m)) := fun H1 e Q q =>
  ha H1 e _ fun H2 e2 => hb H2 (e.trans e2) _ fun p H3 hp e3 h3 => ⟨_, _, dp_iv (ex_l ((e.trans e2).trans e3) hl), dp_iv (sq_of h3), shaped_iv l, shaped_iv m, by
    rw [eqv_iv]
    exact ⟨_, rfl, q H3 (e2.trans e3)⟩⟩
theorem el_setSort {a : Addr} {l ms : List Int} (ha : Ev ta σ H (.ref a)) (hl : SqL K H a (iv l)) (hz : l.length ≤ 2000) (h1 : ms.Pairwise (· < ·)) (h2 : ∀ k : Int, k ∈ ms ↔ decide (k ∈ l) = true) :
    EvL (tCB (rSortedSetI w) (tCons (tCB (rSetLi K w) (tCons ta tNil)) tNil)) σ H (iv ms) := fun H1 e Q q => ha H1 e _ fun H2 e2 =>
  ⟨a, l, rfl, ex_l (e.trans e2) hl, hz, fun b c hb hc => ⟨b, _, c, rfl, upd_same, by omega, fun ns r hs hm _ hr => by
    have e3 : Ex H2 (upd H2 b (SetO w b (fun j => decide (j ∈ l)) c)) := Ex.new hb
    rw [Mx.ris_int hs h1 fun x => by rw [hm x, h2 x]]
    exact q r _ (fresh_back (e2.trans e3) hr) ((e2.trans e3).trans (Ex.new hr)) upd_same⟩⟩
/-- each finite set of ints has a row in order -/
theorem has_row : ∀ l : List Int, ∃ ms : List Int, ms.Pairwise (· < ·) ∧ ∀ k : Int, k ∈ ms ↔ decide (k ∈ l) = true
  | [] => ⟨[], .nil, fun k => by simp⟩
  | a :: l => by
    obtain ⟨ms, h1, h2⟩ := has_row l
    have ins : ∀ ms : List Int, ms.Pairwise (· < ·) → ∃ ns : List Int, ns.Pairwise (· < ·) ∧ ∀ k, k ∈ ns ↔ k = a ∨ k ∈ ms := by
      intro ms
      induction ms with
      | nil => intro _; exact ⟨[a], List.pairwise_singleton .., fun k => by simp⟩
      | cons b r ih =>
        intro h
        rw [List.pairwise_cons] at h
        rcases Int.lt_trichotomy a b with z | z | z
        · refine ⟨a :: b :: r, List.pairwise_cons.mpr ⟨fun c hc => ?_, List.pairwise_cons.mpr h⟩, fun k => by simp⟩
          rcases List.mem_cons.mp hc with q | q
          · rw [q]; exact z
          · exact Int.lt_trans z (h.1 c q)
        · refine ⟨b :: r, List.pairwise_cons.mpr h, fun k => ?_⟩
          rw [z]
          simp
        · obtain ⟨ns, g1, g2⟩ := ih h.2
          refine ⟨b :: ns, List.pairwise_cons.mpr ⟨fun c hc => ?_, g1⟩, fun k => ?_⟩
          · rcases (g2 c).mp hc with q | q
            · rw [q]; exact z
            · exact h.1 c q
          · rw [List.mem_cons, g2 k, List.mem_cons]
            constructor
            · rintro (q | q | q)
              · exact .inr (.inl q)
              · exact .inl q
              · exact .inr (.inr q)
            · rintro (q | q | q)
              · exact .inr (.inl q)
              · exact .inl q
              · exact .inr (.inr q)
    obtain ⟨ns, g1, g2⟩ := ins ms h1
    refine ⟨ns, g1, fun k => ?_⟩
    rw [g2 k, h2 k]
    simp
theorem ok_goes_on_right (T : Tx K mg) : FnOk P w K mg base CX0 1 T.goes_on_right.f T.goes_on_right.fd ["node", "number"] (spGoes T) := by
  refine T.goes_on_right.F.ok scGoesOnRight (fun vs H Q E h => ?_) (fun cdv A outer s H vs Q E hr h => ⟨_,
    pss_cons (ps_setLc (i := 2) (own := [("way", 3)]) (g := gName 3) (tt := tYes) (te := tOp (rIxT K) (tVar 3) (tC (.int 0))) rfl scGoesOnRight.nd rfl rfl (sw_true rfl rfl rfl (by decide +kernel)) (pi_tup (pe_fld (pv 0) rfl)) (blkOk_by (N := ["node", "number", "signs", "way"]) (sc := defScope sGoesOnRight) (by decide +kernel))
      (fun _ _ _ _ _ => pg_name (i := 3) scGoesOnRight.nd rfl (Or.inl rfl)) (fun _ _ _ _ _ => pts_nil) (fun _ _ _ _ _ => pe_ix ix_tup (pv 3) pe_int (fun _ _ => rfl)))
    (pss_cons (ps_if (pt_cmpR (op_neD (hu64 hr)) (pv 2) (pe_callB (cr_sortedSetI rfl) (by rfl) T.b_sorted (by decide +kernel) (pa_cons (pe_callTy (cr_setLi rfl) (by rfl) T.b_set (by decide +kernel) (pa_cons (pv 2) pa_nil)) pa_nil)) (nomark _)) (pss_one (ps_ret pe_bl)) pss_nil)
    (pss_one (ps_ret (pe_callB (cr_all rfl) (by rfl) T.b_all (by decide +kernel) (pa_cons
      (pe_lc (own := [("way", 3)]) (g := gName 3) (tt := tYes) (te := tOp (rI0 fun i j => .bl (decide (i < j))) (tOp (rIxT K) (tVar 3) (tC (.int 1))) (tVar 1)) rfl scGoesOnRight.nd (pi_tup (pe_fld (pv 0) rfl)) (blkOk_by (N := ["node", "number", "signs", "way"]) (sc := defScope sGoesOnRight) (by decide +kernel))
        (fun _ _ _ _ _ => pg_name (i := 3) scGoesOnRight.nd rfl (Or.inl rfl)) (fun _ _ _ _ _ => pts_nil) (fun _ _ _ _ _ => pe_cmpR op_lt (pe_ix ix_tup (pv 3) pe_int (fun _ _ => rfl)) (pv 1) (nomark _))) pa_nil))))), ?_⟩)
  · obtain ⟨_, ⟨o, n, k, rfl, _⟩, _⟩ := h
    rfl
  obtain ⟨_, ⟨o, n, k, rfl, hN, hz, rfl⟩, kk⟩ := h
  obtain ⟨dx, u, wa, h1, h2, ws, h3, h4⟩ := hN
  have hsg : EvL (tLc (iTup K (tFld K (tVar 0) "ways")) (gName 3) tYes (tOp (rIxT K) (tVar 3) (tC (.int 0))) [3]) [some (.ref o), some (.int (k : Int)), none, none] H (iv (kv1 n.kids)) := by
    have := el_lcRT (K := K) (te := tOp (rIxT K) (tVar 3) (tC (.int 0))) (t := tYes) (tl := tFld K (tVar 0) "ways") (σ := [some (.ref o), some (.int (k : Int)), none, none]) (H := H) (j := 3) (vs := [3]) ((0, 0) : Nat × Nat) (fun _ => true) (fun x => .int (x.1 : Int)) (ev_fld (ev_var rfl) h1 T.cNode.cl T.nNode_ways (v := .ref wa) (by rfl)) h3 h4 (by omega) (fun _ => rfl) (fun _ _ _ _ _ _ => et_yes) (fun p kx H1 e1 hm hp _ => ev_op (ev_var (v := .ref p) rfl) ev_c (rv_ixT (ex_t e1 hp) (atI_nat (j := 0) (v := V.int (kx.1 : Int)) rfl)))
    rw [List.filter_eq_self.mpr (fun _ _ => rfl)] at this
    unfold iv kv1
    rw [List.map_map]
    exact this
  refine q_asgL hsg fun sl H1 hsl e1 hl1 => ?_
  obtain ⟨ms, m1, m2⟩ := has_row (kv1 n.kids)
  refine q_when (b := !Mx.ascB n.kids) (et_is (et_neL (ev_var (v := .ref sl) rfl) (sq_of hl1) (el_setSort (ev_var (v := .ref sl) rfl) (sq_of hl1) (by unfold kv1; rw [List.length_map]; omega) m1 m2)) ?_) (fun hs H2 e2 => ?_) (fun hs H2 e2 => ?_)
  · congr 1
    exact Mx.sorted_is m1 m2
  · have hf : Mx.goesB n k = false := by
      unfold Mx.goesB
      rw [nb1 hs]
      rfl
    rw [hf] at kk
    exact s_ret ev_c fun H3 e3 => kk.go ((e1.trans e2).trans e3)
  · have hf : Mx.goesB n k = n.kids.all fun x => decide (x.2 < k) := by
      unfold Mx.goesB
      rw [nb2 hs]
      rfl
    rw [hf] at kk
    have e12 := e1.trans e2
    have hall : EvL (tLc (iTup K (tFld K (tVar 0) "ways")) (gName 3) tYes (tOp (rI0 fun i j => .bl (decide (i < j))) (tOp (rIxT K) (tVar 3) (tC (.int 1))) (tVar 1)) [3]) [some (.ref o), some (.int (k : Int)), some (.ref sl), none] H2 ((n.kids.map fun x => decide (x.2 < k)).map V.bl) := by
      have := el_lcRT (K := K) (te := tOp (rI0 fun i j => .bl (decide (i < j))) (tOp (rIxT K) (tVar 3) (tC (.int 1))) (tVar 1)) (t := tYes) (tl := tFld K (tVar 0) "ways") (σ := [some (.ref o), some (.int (k : Int)), some (.ref sl), none]) (H := H2) (j := 3) (vs := [3]) ((0, 0) : Nat × Nat) (fun _ => true) (fun x => .bl (decide (x.2 < k))) (ev_fld (ev_var rfl) (e12 _ _ h1) T.cNode.cl T.nNode_ways (v := .ref wa) (by rfl)) (ex_t e12 h3) h4 (by omega) (fun _ => rfl) (fun _ _ _ _ _ _ => et_yes) (fun p kx H3 e3 hm hp _ => ev_is (ev_op (ev_op (ev_var (v := .ref p) rfl) ev_c (rv_ixT (ex_t (e12.trans e3) hp) (atI_nat (j := 1) (v := V.int (kx.2 : Int)) rfl))) (ev_var (v := .int (k : Int)) rfl) rv_I0) (by
          congr 1
          rw [Bool.eq_iff_iff, decide_eq_true_eq, decide_eq_true_eq]
          omega))
      rw [List.filter_eq_self.mpr (fun _ _ => rfl)] at this
      rw [List.map_map]
      exact this
    refine s_ret (v := .bl (n.kids.all fun x => decide (x.2 < k))) (ev_is (ev_all hall) (by rw [List.all_map]; rfl)) fun H3 e3 => kk.go (e12.trans e3)
end
end Pt
set_option Elab.async false
set_option linter.all false
set_option maxRecDepth 100000
set_option maxHeartbeats 2000000
namespace Pt
open PySem PySem.Spec PyProof.Rows L2 Evl
open VahypBase (Bytes)
open Vahypd (Node Table)
section
variable {P : Program} {w : World} {K : PySem.W.Frag} {mg : Str → Option Value} {base : Heap} {X : Cx}
variable {σ : L2.St} {H H' : Hp} {ta tb tc te tl : TE} {t : TT} {x y z v : V} {C : Addr} {D : Ends} {tz : TS}
theorem ev_goes {T : Tx K mg} {o : Addr} {n : Node} {k : Nat} {E : XK} (ha : Ev ta σ H (.ref o)) (hb : Ev tb σ H (.int (k : Int))) (hN : NodeAt T H o n) (hz : n.kids.length ≤ 1000) : Ev (tCall (spGoes T) [] E (tCons ta (tCons tb tNil))) σ H (.bl (Mx.goesB n k)) :=
  ev_call (ea_cons ha (ea_cons hb ea_nil)) (SpV.of fun H1 e => ⟨o, n, k, rfl, hN.mono e, hz, rfl⟩)
/-! ### is_right -/
def spIsRight (T : Tx K mg) : Sp := spOf fun vs H v => ∃ (t : Addr) (tk : Table × Nat), vs = [.ref t] ∧ TabAt T H t tk ∧ tk.1.length ≤ 1000 ∧ (∀ n ∈ tk.1, n.kids.length ≤ 1000) ∧ v = .bl (Vahypd.proper tk)
theorem ok_is_right (T : Tx K mg) : FnOk P w K mg base CX0 2 T.is_right.f T.is_right.fd ["table"] (spIsRight T) := by
  have GG : FnOk P w K mg base CX0 1 _ _ _ _ := ok_goes_on_right T
  refine T.is_right.F.ok scIsRight (fun vs H Q E h => ?_) (fun cdv A outer s H vs Q E hr h => ⟨_,
    pss_cons (ps_if (pt_cmpR op_ge (pe_fld (pv 0) rfl) (pe_len T.b_len (pe_fld (pv 0) rfl)) (nomark _)) (pss_one (ps_ret pe_bl)) pss_nil)
    (pss_one (ps_ret (pe_callB (cr_all rfl) (by rfl) T.b_all (by decide +kernel) (pa_cons
      (pe_lc (own := [("number", 1), ("node", 2)]) (g := gTup K 2 (gCons (gName 1) (gCons (gName 2) gNil))) (tt := tYes) (te := tCall (spGoes T) [] E0 (tCons (tVar 2) (tCons (tVar 1) tNil))) rfl scIsRight.nd (pi_enum (by rfl) T.b_enumerate (pa_cons (pe_fld (pv 0) rfl) pa_nil)) (blkOk_by (N := ["table", "number", "node"]) (sc := defScope sIsRight) (by decide +kernel))
        (fun _ _ _ _ _ => pg_tup rfl (pgs_cons (pg_name (i := 1) scIsRight.nd rfl (Or.inl rfl)) (pgs_cons (pg_name (i := 2) scIsRight.nd rfl (Or.inl rfl)) pgs_nil))) (fun _ _ _ _ _ => pts_nil)
        (fun _ _ _ _ _ => pe_fn T.goes_on_right GG hr (bdGoesOnRight T.goes_on_right.F) pass0 (pa_cons (pv 2) (pa_cons (pv 1) pa_nil)))) pa_nil)))), ?_⟩)
  · obtain ⟨_, ⟨t, tk, rfl, _⟩, _⟩ := h
    rfl
  obtain ⟨_, ⟨t, tk, rfl, ⟨dt, nl, refs, h1, h2, h3⟩, hz, hk, rfl⟩, kk⟩ := h
  rw [Mx.proper_eq] at kk
  refine q_when (b := decide (tk.1.length ≤ tk.2)) (et_is (et_test (ev_op (ev_fld (ev_var rfl) h1 T.cTable.cl T.nTable_first (v := .int (tk.2 : Int)) (by rfl)) (ev_len (ev_nodes rfl h1) h2) rv_I0)) ?_) (fun hs H2 e2 => ?_) (fun hs H2 e2 => ?_)
  · rw [h3.1, Bool.eq_iff_iff, decide_eq_true_eq, decide_eq_true_eq]
    omega
  · have hs := of_decide_eq_true hs
    rw [decide_eq_false (by omega), Bool.false_and] at kk
    exact s_ret ev_c fun H3 e3 => kk.go (e2.trans e3)
  · have hs := of_decide_eq_false hs
    rw [decide_eq_true (by omega), Bool.true_and] at kk
    have hall := el_lcE (K := K) (te := tCall (spGoes T) [] E0 (tCons (tVar 2) (tCons (tVar 1) tNil))) (ta := tCons (tFld K (tVar 0) "nodes") tNil) (σ := [some (.ref t), none, none]) (H := H2) (j1 := 1) (j2 := 2) (vs := [1, 2]) (fun n k => .bl (Mx.goesB n k)) (ea_cons (ev_nodes rfl (e2 _ _ h1)) ea_nil) (ex_l e2 h2) (h3.mono fun _ _ r => r.mono e2) (by omega) (fun _ _ => rfl)
      (fun i o n H3 e3 hi ho => ev_goes (ev_var rfl) (ev_var rfl) (ho.mono e3) (hk n (List.mem_of_getElem? hi)))
    have hb : (tk.1.zipIdx.map fun x => V.bl (Mx.goesB x.1 x.2)) = (tk.1.zipIdx.map fun x => Mx.goesB x.1 x.2).map V.bl := by rw [List.map_map]; rfl
    rw [hb] at hall
    refine s_ret (v := .bl (tk.1.zipIdx.all fun n => Mx.goesB n.1 n.2)) (ev_is (ev_all hall) (by rw [List.all_map]; rfl)) fun H3 e3 => kk.go (e2.trans e3)
/-! ### tells_just -/
def digD : Option (List Nat) → PyData
  | none => .none
  | some d => dn d
theorem DigV.dp {u : V} {o : Option (List Nat)} (h : DigV K H u o) : Dp K H u (digD o) := by
  cases o with
  | none =>
    have h : u = .non := h
    rw [h]
    exact .non
  | some d =>
    obtain ⟨a, rfl, h2⟩ := h
    exact dp_nv h2
theorem shaped_dig (o : Option (List Nat)) : SeqAt.shaped (digD o) = true := by
  cases o with
  | none => decide
  | some d => exact shaped_dn d
theorem eqv_dig (o : Option (List Nat)) (d : List Nat) : PyData.eqv (digD o) (dn d) = (o == some d) := by
  cases o with
  | none => rfl
  | some e =>
    show PyData.eqv (dn e) (dn d) = _
    rw [eqv_dn]
    rfl
def spTells (T : Tx K mg) : Sp := spOf fun vs H v => ∃ (t a : Addr) (tk : Table × Nat) (es : List Vahypd.Entry), vs = [.ref t, .ref a] ∧ TabAt T H t tk ∧ EntList T H a es ∧ tk.1.length ≤ 1000 ∧ (∀ n ∈ tk.1, n.kids.length ≤ 1000) ∧ es.length ≤ 40 ∧ (∀ e ∈ es, e.1.length ≤ 8) ∧ Mx.Low tk.1 ∧ tk.2 < tk.1.length ∧ v = .bl (Mx.tellsE tk es)
theorem ok_tells_just (T : Tx K mg) : FnOk P w K mg base CX0 4 T.tells_just.f T.tells_just.fd ["table", "entries"] (spTells T) := by
  have GC : FnOk P w K mg base CX0 3 _ _ _ _ := (ok_counted_ends T).mono (by decide)
  have GD : FnOk P w K mg base CX0 3 _ _ _ _ := ok_digits_at T
  refine T.tells_just.F.ok scTellsJust (fun vs H Q E h => ?_) (fun cdv A outer s H vs Q E hr h => ⟨_,
    pss_cons (ps_if (pt_cmpR op_ne (pe_ix ix_list (pe_fn T.counted_ends GC hr (bdCountedEnds T.counted_ends.F) pass0 (pa_cons (pv 0) pa_nil)) (pe_fld (pv 0) rfl) (fun _ _ => rfl)) (pe_len T.b_len (pv 1)) (nomark _)) (pss_one (ps_ret pe_bl)) pss_nil)
    (pss_one (ps_ret (pe_callB (cr_all rfl) (by rfl) T.b_all (by decide +kernel) (pa_cons
      (pe_lc (own := [("entry", 2)]) (g := gName 2) (tt := tYes) (te := tOp (rEqD K) (tCall (spDigAt T) [] E0 (tCons (tVar 0) (tCons (tFld K (tVar 2) "signs") tNil))) (tFld K (tVar 2) "digits")) rfl scTellsJust.nd (pi_list (pv 1)) (blkOk_by (N := ["table", "entries", "entry"]) (sc := defScope sTellsJust) (by decide +kernel))
        (fun _ _ _ _ _ => pg_name (i := 2) scTellsJust.nd rfl (Or.inl rfl)) (fun _ _ _ _ _ => pts_nil)
        (fun _ _ _ _ _ => pe_cmpR (op_eqD (hu64 hr)) (pe_fn T.digits_at GD hr (bdDigitsAt T.digits_at.F) pass0 (pa_cons (pv 0) (pa_cons (pe_fld (pv 2) rfl) pa_nil))) (pe_fld (pv 2) rfl) (nomark _))) pa_nil)))), ?_⟩)
  · obtain ⟨_, ⟨t, a, tk, es, rfl, _⟩, _⟩ := h
    rfl
  obtain ⟨_, ⟨t, a, tk, es, rfl, hT, ⟨erefs, hL, hR⟩, hz, hk, hez, hes, hlow, hf, rfl⟩, kk⟩ := h
  have hT0 := hT
  obtain ⟨dt, nl, refs, h1, h2, h3⟩ := hT
  have hcl : EvL (tCall (spCounted T) [] E0 (tCons (tVar 0) tNil)) [some (.ref t), some (.ref a), none] H (nv (Mx.cnts tk.1)) := fun H1 e Q q =>
    t_fn (ea_cons (ev_var rfl) ea_nil) fun H2 e2 => ⟨t, tk, rfl, hT0.mono (e.trans e2), hz, fun n hn => Nat.le_trans (hk n hn) (by decide), hlow, fun p H3 hp e3 h3 => q p H3 (fresh_back e2 hp) (e2.trans e3) h3⟩
  have hat : (Mx.cnts tk.1)[tk.2]? = some ((Mx.cnts tk.1).getD tk.2 0) := by
    rw [List.getD_eq_getElem?_getD, List.getElem?_eq_getElem (by rw [Mx.cnts_len]; exact hf)]
    rfl
  have hix : Ev (tOp (rIxL K) (tCall (spCounted T) [] E0 (tCons (tVar 0) tNil)) (tFld K (tVar 0) "first")) [some (.ref t), some (.ref a), none] H (.int (((Mx.cnts tk.1).getD tk.2 0 : Nat) : Int)) :=
    ev_opL1 hcl (fun H1 e => ev_fld (ev_var rfl) (e _ _ h1) T.cTable.cl T.nTable_first (v := .int (tk.2 : Int)) (by rfl)) fun p H1 hp e => rv_ixL (sq_of hp) (atI_nat (nv_at hat))
  refine q_when (b := !((Mx.cnts tk.1).getD tk.2 0 == es.length)) (et_is (et_test (ev_op hix (ev_len (ev_var rfl) hL) (rv_ne rfl))) ?_) (fun hs H2 e2 => ?_) (fun hs H2 e2 => ?_)
  · congr 1
    rw [hR.1, Bool.eq_iff_iff, decide_eq_true_eq, beq_iff_eq, V.int.injEq]
    omega
  · have he : Mx.tellsE tk es = false := by
      unfold Mx.tellsE
      rw [nb1 hs]
      rfl
    rw [he] at kk
    exact s_ret ev_c fun H3 e3 => kk.go (e2.trans e3)
  · have he : Mx.tellsE tk es = es.all fun e => Vahypd.findOut tk.1 tk.2 e.1 == some e.2 := by
      unfold Mx.tellsE
      rw [nb2 hs]
      rfl
    rw [he] at kk
    have hall := el_lcR (K := K) (te := tOp (rEqD K) (tCall (spDigAt T) [] E0 (tCons (tVar 0) (tCons (tFld K (tVar 2) "signs") tNil))) (tFld K (tVar 2) "digits")) (t := tYes) (tl := tVar 1) (σ := [some (.ref t), some (.ref a), none]) (H := H2) (j := 2) (vs := [2]) (([], []) : Vahypd.Entry) (fun _ => true) (fun e => .bl (Vahypd.findOut tk.1 tk.2 e.1 == some e.2)) (ev_var rfl) (ex_l e2 hL) (hR.mono fun _ _ r => r.mono e2) (by omega) (fun _ => rfl) (fun _ _ _ _ _ _ => et_yes) (fun o e H3 e3 hm ho _ => by
      obtain ⟨dx, sa, da, k1, k2, k3⟩ := ho.mono e3
      have hl8 := hes e hm
      intro H4 e4 Q q
      refine t_fn (ea_cons (ev_var (v := .ref t) rfl) (ea_cons (ev_fld (ev_var (v := .ref o) rfl) (e4 _ _ k1) T.cEntry.cl T.nEntry_signs (v := .ref sa) (by rfl)) ea_nil)) fun H5 e5 => ⟨t, sa, tk, e.1, rfl, hT0.mono (e2.trans (e3.trans (e4.trans e5))), ex_t (e4.trans e5) k2, by omega, Mx.nodes_lt hlow.inner e.1 tk.2 hf, fun u H6 e6 hD => ?_⟩
      refine (ev_fld (ev_var (v := .ref o) rfl) ((e4.trans (e5.trans e6)) _ _ k1) T.cEntry.cl T.nEntry_digits (v := .ref da) (by rfl)) H6 (Ex.refl _) _ fun H7 e7 => ?_
      refine ⟨_, _, (hD.mono e7).dp, dp_nv (ex_t (e4.trans (e5.trans (e6.trans e7))) k3), shaped_dig _, shaped_dn _, ?_⟩
      rw [eqv_dig]
      exact q H7 (e5.trans (e6.trans e7)))
    rw [List.filter_eq_self.mpr (fun _ _ => rfl)] at hall
    have hb : (es.map fun e => V.bl (Vahypd.findOut tk.1 tk.2 e.1 == some e.2)) = (es.map fun e => Vahypd.findOut tk.1 tk.2 e.1 == some e.2).map V.bl := by rw [List.map_map]; rfl
    rw [hb] at hall
    refine s_ret (v := .bl (es.all fun e => Vahypd.findOut tk.1 tk.2 e.1 == some e.2)) (ev_is (ev_all hall) (by rw [List.all_map]; rfl)) fun H3 e3 => kk.go (e2.trans e3)
end
end Pt
set_option Elab.async false
set_option linter.all false
set_option maxRecDepth 100000
set_option maxHeartbeats 2000000
namespace Pt
open PySem PySem.Spec PyProof.Rows L2 Evl
open VahypBase (Bytes)
open Vahypd (Node Table)
/-- y in d -/
def rInN (K : PySem.W.Frag) (P : Program) (w : World) : R2 := fun x y H Q => ∃ a d xs k, x = .ref a ∧ y = .ref d ∧ H d = some (dN P w d xs) ∧ KeysIn K H xs ∧ NkV K H (.ref a) k ∧ k.depth ≤ 8 ∧ Q (.bl (xs.any fun x => decide (x.1 = k))) H
theorem op_inN {X : Cx} (hu : X.A.units + 9 < cLine) : OpR X (compareOp .In) (rInN X.K X.prog X.w) := by
  intro pins s σ H x y v u Q I rx ry h
  obtain ⟨a, d, xs, k, rfl, rfl, hd, hk, hv, hdp, q⟩ := h
  cases rx
  cases ry
  obtain ⟨ys, r, dd, hs, hz, hn⟩ := dN_of I hd hk
  refine wpAny_in_heap (nk_room (X := X) hu) ⟨hv.is I rfl, hdp⟩ hs dd ?_
  rw [NRel.at_ r]
  exact ⟨.bl (xs.any fun x => decide (x.1 = k)), H, I.tok _, rfl, q⟩
/-- a dict of numbers -/
def dk (m : List (Nat × Nat)) : List (Key × V) := m.map fun x => (Sum.inl (x.1 : Int), V.int (x.2 : Int))
theorem dk_val : ∀ (m : List (Nat × Nat)) (k : Nat), valV (dk m) (Sum.inl (k : Int)) = (m.lookup k).map fun (j : Nat) => V.int (j : Int)
  | [], k => rfl
  | (i, j) :: r, k => by
    by_cases h : i = k
    · subst h
      rw [show dk ((i, j) :: r) = (Sum.inl (i : Int), V.int (j : Int)) :: dk r from rfl, valV_pos rfl]
      simp [List.lookup]
    · have h2 : ¬ (Sum.inl (i : Int) : Key) = Sum.inl (k : Int) := fun z => h (by injection z with z; omega)
      have h3 : (k == i) = false := by rw [beq_eq_false_iff_ne]; exact fun z => h z.symm
      have : valV (dk ((i, j) :: r)) (Sum.inl (k : Int)) = valV (dk r) (Sum.inl (k : Int)) := by
        unfold valV dk
        rw [List.map_cons, List.find?_cons_of_neg (by simpa using h2)]
      rw [this, dk_val r k, List.lookup_cons, h3]
theorem dk_put (m : List (Nat × Nat)) (k j : Nat) (h : m.lookup k = none) : putK (dk m) (Sum.inl (k : Int)) (V.int (j : Int)) = dk (m ++ [(k, j)]) := by
  unfold putK
  have hno : ((dk m).any fun kv => decide (kv.1 = Sum.inl (k : Int))) = false := by
    rw [List.any_eq_false]
    intro x hx
    obtain ⟨y, hy, rfl⟩ := List.mem_map.mp hx
    rw [decide_eq_true_eq]
    intro z
    injection z with z
    have hz : y.1 = k := by omega
    rw [List.lookup_eq_none_iff] at h
    have := h y hy
    rw [hz] at this
    simp at this
  rw [hno, if_neg (by decide)]
  unfold dk
  rw [List.map_append]
  rfl
section
variable {P : Program} {w : World} {K : PySem.W.Frag} {mg : Str → Option Value} {base : Heap} {X : Cx}
variable {σ : L2.St} {H H' : Hp} {ta tb tc te tl : TE} {t : TT} {x y z v : V} {C : Addr} {D : Ends} {tz : TS}
/-- a comprehension of new things over a tuple -/
theorem eq_lcNT {α β : Type} {a : Addr} {refs : List V} {es : List α} {R : Addr → α → Prop} {RB : Hp → Addr → β → Prop} {j : Nat} {vs : List Nat} (g : α → β)
    (mono : ∀ {H H' : Hp} {o : Addr} {b : β}, Ex H H' → RB H o b → RB H' o b) (off : ∀ {H : Hp} {l o : Addr} {ys zs : List V} {b : β}, H l = some (.lst ys) → RB H o b → RB (upd H l (.lst zs)) o b)
    (h : Ev tl σ H (.ref a)) (hx : SqT K H a refs) (hR : Rep R refs es) (hz : es.length ≤ 40000) (hw : ∀ x, wipe ((wipe σ vs).set j (some x)) vs = wipe σ vs)
    (he : ∀ (o : Addr) (e : α) H1, Ex H H1 → e ∈ es → R o e → EvQ te ((wipe σ vs).set j (some (.ref o))) H1 (fun _ u H2 => ∃ q, u = .ref q ∧ RB H2 q (g e))) :
    EvQ (tLc (iTup K tl) (gName j) tYes te vs) σ H (fun H1 u H2 => ∃ l rs, u = .ref l ∧ H1 l = none ∧ H2 l = some (.lst rs) ∧ Rep (RB H2) rs (es.map g)) := fun H0 e0 Q q =>
  h H0 e0 _ fun H1 e1 => ⟨a, rfl, ⟨refs, ex_t (e0.trans e1) hx⟩, fun Dl hD =>
    lc_tup (xs := refs) (fun i H' => H1 Dl = none ∧ Ex H1 H' ∧ ∃ rs, H' Dl = some (.lst rs) ∧ Rep (RB H') rs ((es.take i).map g)) ⟨hD, Ex.new hD, [], upd_same, Rep.nil⟩ (fun i H' _ p => ex_t ((e0.trans e1).trans p.2.1) hx) (fun i x H' hi pp => by
      obtain ⟨p1, p2, rs, p3, p4⟩ := pp
      obtain ⟨e, o, he1, rfl, ho⟩ := hR.at hi
      have hil := (List.getElem?_eq_some_iff.mp he1).1
      refine ⟨hw _, ?_⟩
      refine he o e H' ((e0.trans e1).trans p2) (List.mem_of_getElem? he1) ho H' (Ex.refl H') _ fun u H4 e4 hu => ?_
      obtain ⟨q2, rfl, hq⟩ := hu
      have hl4 := e4 _ _ p3
      have hl := p4.1
      rw [List.length_map] at hl
      have h6 := List.length_take_le i es
      refine ⟨rs, hl4, sz_lt (by omega), p1, Ex.mut (p2.trans e4) p1, rs ++ [.ref q2], upd_same, ?_⟩
      rw [List.take_add_one, he1, List.map_append]
      exact Rep.snoc (p4.mono fun _ _ r => off hl4 (mono e4 r)) (off hl4 hq))
    (fun H' pp => by
      obtain ⟨p1, p2, rs, p3, p4⟩ := pp
      rw [hR.1, List.take_length] at p4
      exact q _ H' (e1.trans p2) ⟨Dl, rs, rfl, fresh_back e1 p1, p3, p4⟩)⟩
/-! ### ways_through -/
def spThru (T : Tx K mg) : Sp := fun vs H Q _ => ∃ (wa d : Addr) (kids : List (Nat × Nat)) (m : List (Nat × Nat)), vs = [.ref wa, .ref d] ∧ WaysAt K H wa kids ∧ kids.length ≤ 1000 ∧ H d = some (.dK (dk m)) ∧
  ∀ u H2, Ex H H2 → (match Mx.thru m kids with | none => u = .non | some ks => ∃ p, u = .ref p ∧ WaysAt K H2 p ks) → Q u H2
theorem thru_map {m : List (Nat × Nat)} : ∀ {ks : List (Nat × Nat)}, (∀ x ∈ ks, (m.lookup x.2).isSome = true) → Mx.thru m ks = some (ks.map fun x => (x.1, (m.lookup x.2).getD 0))
  | [], _ => rfl
  | x :: r, h => by
    have h1 := h x (List.mem_cons_self ..)
    obtain ⟨j, hj⟩ := Option.isSome_iff_exists.mp h1
    unfold Mx.thru
    rw [hj]
    dsimp only
    rw [thru_map fun y hy => h y (List.mem_cons_of_mem _ hy), List.map_cons, hj]
    rfl
theorem ok_ways_through (T : Tx K mg) : FnOk P w K mg base CX0 1 T.ways_through.f T.ways_through.fd ["ways", "numbers"] (spThru T) := by
  refine T.ways_through.F.ok scWaysThrough (fun vs H Q E h => ?_) (fun cdv A outer s H vs Q E hr h => ?_)
  · obtain ⟨wa, d, kids, m, rfl, _⟩ := h
    rfl
  have hu : (A.deeper (envOfC "ways_through" (defScope sWaysThrough) s.heap.objs.size T.ways_through.f cdv)).units + 1 < cLine := by have := hr.un; omega
  refine ⟨_, pss_cons (ps_if (pt_val (pe_callB (cr_any rfl) (by rfl) T.b_any (by decide +kernel) (pa_cons
      (pe_lc (own := [("way", 2)]) (g := gName 2) (tt := tYes) (te := tDNotIn (tOp (rIxT K) (tVar 2) (tC (.int 1))) (tVar 1)) rfl scWaysThrough.nd (pi_tup (pv 0)) (blkOk_by (N := ["ways", "numbers", "way"]) (sc := defScope sWaysThrough) (by decide +kernel))
        (fun _ _ _ _ _ => pg_name (i := 2) scWaysThrough.nd rfl (Or.inl rfl)) (fun _ _ _ _ _ => pts_nil) (fun _ _ _ _ _ => pe_cmp (pc_dnotin hu (pe_ix ix_tup (pv 2) pe_int (fun _ _ => rfl)) (pv 1)))) pa_nil))) (pss_one (ps_ret pe_non)) pss_nil)
    (pss_one (ps_ret (pe_tuple T.b_tuple
      (pe_lc (own := [("way", 2)]) (g := gName 2) (tt := tYes) (te := tTup (tCons (tOp (rIxT K) (tVar 2) (tC (.int 0))) (tCons (tDGet (tVar 1) (tOp (rIxT K) (tVar 2) (tC (.int 1)))) tNil))) rfl scWaysThrough.nd (pi_tup (pv 0)) (blkOk_by (N := ["ways", "numbers", "way"]) (sc := defScope sWaysThrough) (by decide +kernel))
        (fun _ _ _ _ _ => pg_name (i := 2) scWaysThrough.nd rfl (Or.inl rfl)) (fun _ _ _ _ _ => pts_nil) (fun _ _ _ _ _ => pe_tup (pa_cons (pe_ix ix_tup (pv 2) pe_int (fun _ _ => rfl)) (pa_cons (pe_dget hu (pv 1) (pe_ix ix_tup (pv 2) pe_int (fun _ _ => rfl)) (fun _ _ => rfl)) pa_nil))))))), ?_⟩
  obtain ⟨wa, d, kids, m, rfl, ⟨ws, h1, h2⟩, hz, hd, k⟩ := h
  have hix : ∀ (p : Addr) (kx : Nat × Nat) (H1 : Hp) (i : Int) (n : Nat), (nv [kx.1, kx.2])[i.toNat]? = some (.int (n : Int)) → 0 ≤ i → SqT K H1 p (nv [kx.1, kx.2]) → Ev (tOp (rIxT K) (tVar 2) (tC (.int i))) [some (.ref wa), some (.ref d), some (.ref p)] H1 (.int (n : Int)) := fun p kx H1 i n hn hi hp => by
    have : i = ((i.toNat : Nat) : Int) := by omega
    exact ev_op (ev_var (v := .ref p) rfl) ev_c (rv_ixT hp (by rw [this]; exact atI_nat hn))
  have hany : EvL (tLc (iTup K (tVar 0)) (gName 2) tYes (tDNotIn (tOp (rIxT K) (tVar 2) (tC (.int 1))) (tVar 1)) [2]) [some (.ref wa), some (.ref d), none] H ((kids.map fun x : Nat × Nat => !(m.lookup x.2).isSome).map V.bl) := by
    have := el_lcRT (K := K) (te := tDNotIn (tOp (rIxT K) (tVar 2) (tC (.int 1))) (tVar 1)) (t := tYes) (tl := tVar 0) (σ := [some (.ref wa), some (.ref d), none]) (H := H) (j := 2) (vs := [2]) ((0, 0) : Nat × Nat) (fun _ => true) (fun x => .bl (!(m.lookup x.2).isSome)) (ev_var rfl) h1 h2 (by omega) (fun _ => rfl) (fun _ _ _ _ _ _ => et_yes) (fun p kx H1 e1 hm hp _ => by
      intro H2 e2 Q q
      refine (hix p kx H2 1 kx.2 rfl (by decide) (ex_t (e1.trans e2) hp)) H2 (Ex.refl _) _ fun H3 e3 => ?_
      refine (ev_var (v := .ref d) rfl) H3 (Ex.refl _) _ fun H4 e4 => ?_
      have e := e1.trans ((e2.trans e3).trans e4)
      refine ⟨d, _, rfl, DGet.k (k := Sum.inl (kx.2 : Int)) (e _ _ hd), ?_⟩
      rw [dk_val, Option.isSome_map]
      exact q H4 (e3.trans e4))
    rw [List.filter_eq_self.mpr (fun _ _ => rfl)] at this
    rw [List.map_map]
    exact this
  refine q_when (b := kids.any fun x : Nat × Nat => !(m.lookup x.2).isSome) (et_B (ev_is (v := .bl ((kids.map fun x : Nat × Nat => !(m.lookup x.2).isSome).any id)) (ev_any hany) (by rw [List.any_map]; rfl))) (fun hs H2 e2 => ?_) (fun hs H2 e2 => ?_)
  · have hn : Mx.thru m kids = none := by
      rw [Mx.thru_none]
      rw [List.any_eq_true] at hs
      obtain ⟨x, hx, hh⟩ := hs
      refine ⟨x, hx, ?_⟩
      cases q : m.lookup x.2 with
      | none => rfl
      | some j => rw [q] at hh; cases hh
    rw [hn] at k
    exact s_ret ev_c fun H3 e3 => k _ H3 (e2.trans e3) rfl
  · have hall : ∀ x ∈ kids, (m.lookup x.2).isSome = true := fun x hx => by
      rw [List.any_eq_false] at hs
      have := hs x hx
      cases q : (m.lookup x.2).isSome with
      | true => rfl
      | false => rw [q] at this; exact absurd rfl this
    rw [thru_map hall] at k
    have hlc := eq_lcNT (K := K) (te := tTup (tCons (tOp (rIxT K) (tVar 2) (tC (.int 0))) (tCons (tDGet (tVar 1) (tOp (rIxT K) (tVar 2) (tC (.int 1)))) tNil))) (tl := tVar 0) (σ := [some (.ref wa), some (.ref d), none]) (H := H2) (j := 2) (vs := [2]) (RB := fun H2 o (x : Nat × Nat) => SqT K H2 o (nv [x.1, x.2])) (fun x : Nat × Nat => (x.1, (m.lookup x.2).getD 0)) (fun e r => ex_t e r) (fun hl r => sqt_lst hl r)
      (ev_var rfl) (ex_t e2 h1) (h2.mono fun _ _ r => ex_t e2 r) (by omega) (fun _ => rfl) (fun p kx H3 e3 hm hp => by
      intro H4 e4 Q q
      obtain ⟨j, hj⟩ := Option.isSome_iff_exists.mp (hall kx hm)
      refine t_tup2 ?_
      refine (hix p kx H4 0 kx.1 rfl (by decide) (ex_t (e3.trans e4) hp)) H4 (Ex.refl _) _ fun H5 e5 => ?_
      refine (ev_var (v := .ref d) rfl) H5 (Ex.refl _) _ fun H6 e6 => ?_
      refine (hix p kx H6 1 kx.2 rfl (by decide) (ex_t (e3.trans (e4.trans (e5.trans e6))) hp)) H6 (Ex.refl _) _ fun H7 e7 => ?_
      have e := e2.trans (e3.trans (e4.trans (e5.trans (e6.trans e7))))
      refine ⟨d, .int (j : Int), rfl, ?_, sz2, fun o ho => ?_⟩
      · have := DGet.k (k := Sum.inl (kx.2 : Int)) (e _ _ hd)
        rw [dk_val, hj] at this
        exact this
      · refine q _ _ ((e5.trans (e6.trans e7)).trans (Ex.new ho)) ⟨o, rfl, ?_⟩
        show SqT K _ o (nv [kx.1, (m.lookup kx.2).getD 0])
        rw [hj]
        exact st_of upd_same)
    refine s_retQ (eq_tupQ (K := K) (R := fun H2 rs => Rep (fun o (x : Nat × Nat) => SqT K H2 o (nv [x.1, x.2])) rs (kids.map fun x : Nat × Nat => (x.1, (m.lookup x.2).getD 0))) (fun e r => r.mono fun _ _ z => ex_t e z) hlc) fun u H6 e6 ⟨wa2, ws2, hu2, _, w1, w2⟩ => ?_
    exact k u H6 (e2.trans e6) ⟨wa2, hu2, ws2, w1, w2⟩
end
end Pt
set_option Elab.async false
set_option linter.all false
set_option maxRecDepth 100000
set_option maxHeartbeats 2000000
namespace Pt
open PySem PySem.Spec PyProof.Rows L2 Evl
open VahypBase (Bytes)
open Vahypd (Node Table)
/-- a dict's keys are a table's nodes, its values their numbers -/
structure Nums (K : PySem.W.Frag) (G : Hp) (tab : Table) (xs : List NE) : Prop where
  len : xs.length = tab.length
  ks : ∀ (i : Nat) (x : NE), xs[i]? = some x → ∃ n, tab[i]? = some n ∧ x.1 = keyOfN n ∧ x.2.2 = .int (i : Int)
  kin : KeysIn K G xs
theorem Nums.mono {K : PySem.W.Frag} {G G2 : Hp} {tab : Table} {xs : List NE} (h : Nums K G tab xs) (e : Ex G G2) : Nums K G2 tab xs := ⟨h.len, h.ks, h.kin.mono e⟩
theorem Nums.any {K : PySem.W.Frag} {G : Hp} {tab : Table} {xs : List NE} (h : Nums K G tab xs) (n : Node) : (xs.any fun x => decide (x.1 = keyOfN n)) = decide (n ∈ tab) := by
  rw [Bool.eq_iff_iff, List.any_eq_true, decide_eq_true_eq]
  constructor
  · rintro ⟨x, hx, e⟩
    obtain ⟨i, hi⟩ := List.mem_iff_getElem?.mp hx
    obtain ⟨m, hm, hk, _⟩ := h.ks i x hi
    rw [← (keyOfN_inj (hk.symm.trans (of_decide_eq_true e)) : m = n)]
    exact List.mem_of_getElem? hm
  · intro hn
    obtain ⟨i, hi⟩ := List.mem_iff_getElem?.mp hn
    have hl : i < xs.length := by rw [h.len]; exact (List.getElem?_eq_some_iff.mp hi).1
    obtain ⟨m, hm, hk, _⟩ := h.ks i _ (List.getElem?_eq_getElem hl)
    rw [hi] at hm
    have e : n = m := Option.some.inj hm
    exact ⟨_, List.getElem_mem hl, decide_eq_true (by rw [hk, e])⟩
theorem Nums.at_ {K : PySem.W.Frag} {G : Hp} {tab : Table} {xs : List NE} (h : Nums K G tab xs) {n : Node} {k : Nat} (hn : tab[k]? = some n) : ∃ b, (keyOfN n, b, V.int (k : Int)) ∈ xs := by
  have hl : k < xs.length := by rw [h.len]; exact (List.getElem?_eq_some_iff.mp hn).1
  obtain ⟨m, hm, hk, hi⟩ := h.ks k _ (List.getElem?_eq_getElem hl)
  rw [hn] at hm
  have e : n = m := Option.some.inj hm
  refine ⟨(xs[k]).2.1, ?_⟩
  have : xs[k] = (keyOfN n, (xs[k]).2.1, V.int (k : Int)) := by rw [e, ← hk, ← hi]
  rw [← this]
  exact List.getElem_mem hl
theorem Nums.none_ {K : PySem.W.Frag} {G : Hp} {tab : Table} {xs : List NE} (h : Nums K G tab xs) (o : Option (List Nat)) : (xs.any fun x => decide (x.1 = NestedKey.tup [digKey o, .none])) = false := by
  rw [List.any_eq_false]
  intro x hx
  obtain ⟨i, hi⟩ := List.mem_iff_getElem?.mp hx
  obtain ⟨m, hm, hk, _⟩ := h.ks i x hi
  rw [hk, decide_eq_true_eq]
  intro z
  have z := NestedKey.tup.inj z
  injection z with _ z
  injection z with z _
  cases z
theorem Nums.add {K : PySem.W.Frag} {G : Hp} {tab : Table} {xs : List NE} (h : Nums K G tab xs) {n : Node} {a : Addr} (hk : NkV K G (.ref a) (keyOfN n)) : Nums K G (tab ++ [n]) (xs ++ [(keyOfN n, a, V.int (tab.length : Int))]) := by
  refine ⟨by rw [List.length_append, List.length_append, h.len]; rfl, fun i x hx => ?_, fun x hx => ?_⟩
  · by_cases hi : i < xs.length
    · rw [List.getElem?_append_left hi] at hx
      obtain ⟨m, hm, h1, h2⟩ := h.ks i x hx
      exact ⟨m, by rw [List.getElem?_append_left (by rw [← h.len]; exact hi)]; exact hm, h1, h2⟩
    · rw [List.getElem?_append_right (by omega)] at hx
      have hi2 : i - xs.length = 0 := by
        have := (List.getElem?_eq_some_iff.mp hx).1
        simp at this
        omega
      rw [hi2] at hx
      have e : (keyOfN n, a, V.int (tab.length : Int)) = x := by simpa using hx
      subst e
      have hie : i = tab.length := by
        rw [← h.len]
        omega
      exact ⟨n, by rw [hie]; simp, rfl, by rw [hie]⟩
  · rcases List.mem_append.mp hx with q | q
    · exact h.kin x q
    · rw [List.mem_singleton.mp q]
      exact ⟨hk, keyOfN_deep n⟩
section
variable {P : Program} {w : World} {K : PySem.W.Frag} {mg : Str → Option Value} {base : Heap} {X : Cx}
variable {σ : L2.St} {H H' : Hp} {ta tb tc te tl : TE} {t : TT} {x y z v : V} {C : Addr} {D : Ends} {tz : TS}
theorem q_forE {ta : TA} {a : Addr} {xs : List V} {tu : TS} {j1 j2 : Nat} (h : EvA ta σ H [.ref a]) (hx : SqL K H a xs) (Pv : Nat → L2.St → Hp → Prop) (h0 : ∀ H1, Ex H H1 → Pv 0 σ H1) (hl : ∀ i σ' H', i ≤ xs.length → Pv i σ' H' → SqL K H' a xs)
    (hs : ∀ (i : Nat) x T σ' H', xs[i]? = some x → Pv i σ' H' → H' T = none → tu { D with nx := Pv (i + 1), ct := Pv (i + 1), bk := tz D } ((σ'.set j1 (some (.int (i : Int)))).set j2 (some x)) (upd H' T (.tup [.int (i : Int), x]))) (hd : ∀ σ' H', Pv xs.length σ' H' → tz D σ' H') :
    tSeq (tFor (iEnum K ta) (gTup K 2 (gCons (gName j1) (gCons (gName j2) gNil))) tu) tz D σ H := h H (Ex.refl H) _ fun H1 e => ⟨a, xs, rfl, ex_l e hx, for_it walk_enum Pv (h0 H1 e) hl (fun i x σ2 H2 H3 hi p y => by
    obtain ⟨T, u1, u2, rfl, hT, rfl, e1, e2⟩ := y
    cases e1
    exact ⟨T, [.int (i : Int), u2], rfl, st_of upd_same, rfl, .int (i : Int), [u2], rfl, u2, [], rfl, rfl, hs i u2 T σ2 H2 e2 p hT⟩) hd⟩
theorem ev_fldV {f : Str} {a dx : Addr} {fs : List (Str × V)} {Q : VK} (h : H a = some (.ins C dx fs)) (hc : Cls K C) (hn : NoAttr K C f) (hl : fs.lookup f = some v) (ha : Ev ta σ H (.ref a)) (k : ∀ H1, Ex H H1 → Q v H1) : tFld K ta f σ H Q := (ev_fld ha h hc hn hl) H (Ex.refl _) Q k
/-! ### kept_nodes -/
def spKept (T : Tx K mg) : Sp := fun vs H Q _ => ∃ (tb ta : Addr) (b a : Table × Nat), vs = [.ref tb, .ref ta] ∧ TabAt T H tb b ∧ TabAt T H ta a ∧ Mx.Canon b.1 ∧ Mx.Canon a.1 ∧ b.1.length ≤ 1000 ∧ a.1.length ≤ 1000 ∧ (∀ n ∈ b.1, n.kids.length ≤ 1000) ∧ RetV (.int (Vahypd.kept b.1 a.1 : Nat)) H Q
theorem ok_kept_nodes (T : Tx K mg) : FnOk P w K mg base CX0 2 T.kept_nodes.f T.kept_nodes.fd ["before", "after"] (spKept T) := by
  have GW : FnOk P w K mg base CX0 1 _ _ _ _ := ok_ways_through T
  refine T.kept_nodes.F.ok scKeptNodes (fun vs H Q E h => ?_) (fun cdv A outer s H vs Q E hr h => ?_)
  · obtain ⟨tb, ta, b, a, rfl, _⟩ := h
    rfl
  have hu : (A.deeper (envOfC "kept_nodes" (defScope sKeptNodes) s.heap.objs.size T.kept_nodes.f cdv)).units + 9 < cLine := by have := hr.un; omega
  have hu1 : (A.deeper (envOfC "kept_nodes" (defScope sKeptNodes) s.heap.objs.size T.kept_nodes.f cdv)).units + 1 < cLine := by omega
  refine ⟨_, pss_cons (ps_set (i := 2) scKeptNodes.nd rfl (.inl rfl) pe_dnewN)
    (pss_cons (ps_for PassesOwn.never rfl (pi_enum (by rfl) T.b_enumerate (pa_cons (pe_fld (pv 1) rfl) pa_nil)) (pg_tup rfl (pgs_cons (pg_name (i := 3) scKeptNodes.nd rfl (.inl rfl)) (pgs_cons (pg_name (i := 4) scKeptNodes.nd rfl (.inl rfl)) pgs_nil)))
      (pss_one (ps_asg (pv 3) (pg_sub (pv 2) (pe_tup (pa_cons (pe_fld (pv 4) rfl) (pa_cons (pe_fld (pv 4) rfl) pa_nil))) (set_N hu)))))
    (pss_cons (ps_set (i := 5) scKeptNodes.nd rfl (.inl rfl) pe_dnewK)
    (pss_cons (ps_for PassesOwn.never rfl (pi_enum (by rfl) T.b_enumerate (pa_cons (pe_fld (pv 0) rfl) pa_nil)) (pg_tup rfl (pgs_cons (pg_name (i := 3) scKeptNodes.nd rfl (.inl rfl)) (pgs_cons (pg_name (i := 4) scKeptNodes.nd rfl (.inl rfl)) pgs_nil)))
      (pss_cons (ps_set (i := 6) scKeptNodes.nd rfl (.inl rfl) (pe_tup (pa_cons (pe_fld (pv 4) rfl) (pa_cons (pe_fn T.ways_through GW hr (bdWaysThrough T.ways_through.F) pass0 (pa_cons (pe_fld (pv 4) rfl) (pa_cons (pv 5) pa_nil))) pa_nil))))
      (pss_one (ps_if (pt_cmpR (op_inN hu) (pv 6) (pv 2) (by rfl)) (pss_one (ps_dput hu1 (pv 5) (pv 3) (pe_nget hu (pv 2) (pv 6) (fun _ _ => rfl)) rfl)) pss_nil))))
    (pss_one (ps_ret (pe_callB call_lenD (by rfl) T.b_len (by decide +kernel) (pa_cons (pv 5) pa_nil))))))), ?_⟩
  obtain ⟨tb, ta, b, a, rfl, ⟨dtb, nlb, brefs, b1, b2, b3⟩, ⟨dta, nla, arefs, a1, a2, a3⟩, cb, ca, hbz, haz, hkz, k⟩ := h
  rw [Mx.kept_eq cb ca] at k
  refine q_ask fun d hd => ?_
  rw [md_over]
  have eO0 := ex_over (md_apart (P := P) (w := w) (xs := []) hd)
  refine q_forE (K := K) (a := nla) (xs := arefs) (ea_cons (ev_nodes rfl (eO0 _ _ a1)) ea_nil) (ex_l eO0 a2) (fun i σ' H' => ∃ (G : Hp) (xs : List NE) (u3 u4 : Option V), σ' = [some (.ref tb), some (.ref ta), some (.ref d), u3, u4, none, none] ∧ H' = over G (Md P w d xs) ∧ G d = none ∧ Ex H G ∧ Nums K G (a.1.take i) xs)
    (fun H1 e1 => ?_) (fun i σ' H' _ pp => ?_) ?_ ?_
  · obtain ⟨G1, g1, eG1, rfl⟩ := md_split hd e1
    exact ⟨G1, [], none, none, rfl, rfl, g1, eG1, rfl, (fun i x hx => by simp at hx), (fun x hx => nomatch hx)⟩
  · obtain ⟨G, xs, u3, u4, rfl, rfl, hg, eG, _⟩ := pp
    exact ex_l (eG.trans (ex_over (md_apart hg))) a2
  · rintro i x Tn σ' H' hi ⟨G, xs, u3, u4, rfl, rfl, hg, eG, hN⟩ hTn
    obtain ⟨n, o, hn, rfl, dx, u, wa, k1, k2, k3⟩ := a3.at hi
    have hil := (List.getElem?_eq_some_iff.mp hn).1
    have htl : (a.1.take i).length = i := by rw [List.length_take]; omega
    obtain ⟨G2, g2, eG2, E2⟩ := md_split hg (Ex.new (o := .tup [.int (i : Int), .ref o]) hTn)
    rw [E2]
    have eO2 := ex_over (md_apart (P := P) (w := w) (xs := xs) g2)
    have eA := (eG.trans eG2).trans eO2
    refine t_asgSub ?_
    refine (ev_var (v := .int (i : Int)) rfl) _ (Ex.refl _) _ fun H3 e3 => ?_
    refine (ev_var (v := .ref d) rfl) H3 (Ex.refl _) _ fun H4 e4 => ?_
    have e34 := e3.trans e4
    refine (eu_tup (vs := [u, .ref wa]) (ea_cons (ev_fld (ev_var (v := .ref o) rfl) ((eA.trans e34) _ _ k1) T.cNode.cl T.nNode_digits (v := u) (by rfl)) (ea_cons (ev_fld (ev_var (v := .ref o) rfl) ((eA.trans e34) _ _ k1) T.cNode.cl T.nNode_ways (v := .ref wa) (by rfl)) ea_nil)) (by show 2 ≤ 100000; decide)) H4 (Ex.refl _) _ fun p H5 hp e5 h5 => ?_
    obtain ⟨G5, g5, eG5, rfl⟩ := md_split g2 (e34.trans e5)
    have hpM : Md P w d xs p = none := none_m (fresh_back e34 hp)
    have eH5 : Ex H G5 := (eG.trans eG2).trans eG5
    have hK5 : NkV K G5 (.ref p) (keyOfN n) := key_tup (sqt_g (st_of h5) hpM) (k2.mono eH5) (k3.mono eH5)
    have hN5 := hN.mono (eG2.trans eG5)
    have eO5 := ex_over (md_apart (P := P) (w := w) (xs := xs) g5)
    have hno : n ∉ a.1.take i := fun hm => by
      obtain ⟨j, hj⟩ := List.mem_iff_getElem?.mp hm
      have hjl := (List.getElem?_eq_some_iff.mp hj).1
      rw [htl] at hjl
      rw [List.getElem?_take_of_lt hjl] at hj
      obtain ⟨q1, q2⟩ := List.getElem?_eq_some_iff.mp hj
      obtain ⟨q3, q4⟩ := List.getElem?_eq_some_iff.mp hn
      exact List.pairwise_iff_getElem.mp ca.nd j i q1 q3 hjl (q2.trans q4.symm)
    refine ⟨p, d, xs, keyOfN n, rfl, rfl, over_m md_same, hN5.kin.mono eO5, hK5.mono eO5, keyOfN_deep n, sz_lt (by rw [hN5.len, htl]; omega), .inl ⟨by rw [hN5.any n]; exact decide_eq_false hno, ?_⟩⟩
    have hput : ∀ ys : List NE, upd (over G5 (Md P w d xs)) d (dN P w d ys) = over G5 (Md P w d ys) := fun ys => by
      rw [over_upd]
      unfold Md
      rw [upd_upd]
    erw [hput]
    refine ⟨G5, _, _, _, rfl, rfl, g5, eH5, ?_⟩
    have := hN5.add hK5
    rw [htl] at this
    rw [List.take_add_one, hn]
    exact this
  rintro σ' H' ⟨G, xs, u3, u4, rfl, rfl, hg, eG, hN⟩
  rw [a3.1, List.take_length] at hN
  have eO := ex_over (md_apart (P := P) (w := w) (xs := xs) hg)
  obtain ⟨Hb, hHb⟩ : ∃ Hb, Hb = over G (Md P w d xs) := ⟨_, rfl⟩
  have hbd : Hb d = some (dN P w d xs) := by rw [hHb]; exact over_m md_same
  have eB : Ex H Hb := by rw [hHb]; exact eG.trans eO
  have hNB : Nums K Hb a.1 xs := by rw [hHb]; exact hN.mono eO
  rw [← hHb]
  clear hHb eO hN
  refine q_ask fun kd hkd => ?_
  refine q_forE (K := K) (a := nlb) (xs := brefs) (ea_cons (ev_nodes rfl ((eB.trans (Ex.new hkd)) _ _ b1)) ea_nil) (ex_l (eB.trans (Ex.new hkd)) b2) (fun i σ' H' => ∃ (G : Hp) (u3 u4 u6 : Option V), σ' = [some (.ref tb), some (.ref ta), some (.ref d), u3, u4, some (.ref kd), u6] ∧ G kd = none ∧ Ex Hb G ∧ H' = upd G kd (.dK (dk (Mx.kmap b.1 a.1 i))))
    (fun H1 e1 => ?_) (fun i σ' H' _ pp => ?_) ?_ ?_
  · obtain ⟨G1, g1, eG1, rfl⟩ := ex_split hkd e1
    exact ⟨G1, u3, u4, none, rfl, g1, eG1, rfl⟩
  · obtain ⟨G, u3, u4, u6, rfl, g, e, rfl⟩ := pp
    exact ex_l (eB.trans (e.trans (ex_upd g))) b2
  · rintro i x Tn σ' H' hi ⟨G, u3, u4, u6, rfl, g, e, rfl⟩ hTn
    obtain ⟨n, o, hn, rfl, dx, u, wa, k1, k2, k3⟩ := b3.at hi
    have hil := (List.getElem?_eq_some_iff.mp hn).1
    have hstep := Mx.keep_step cb ca hn
    obtain ⟨m, hm⟩ : ∃ m, m = Mx.kmap b.1 a.1 i := ⟨_, rfl⟩
    have hmi : m.lookup i = none := by rw [hm, Mx.kmap_look, if_neg (Nat.lt_irrefl _)]
    have hml : m.length ≤ i := by
      rw [hm, Mx.kmap_len]
      have := List.length_filter_le (fun k => (Mx.twin b.1 a.1 k).isSome) (List.range i)
      rw [List.length_range] at this
      exact this
    rw [← hm] at hstep hTn ⊢
    have eU := (eB.trans e).trans (ex_upd (o := .dK (dk m)) g)
    have e1 : Ex (upd G kd (.dK (dk m))) (upd (upd G kd (.dK (dk m))) Tn (.tup [.int (i : Int), .ref o])) := Ex.new hTn
    refine q_ask (t_tup2 ?_)
    refine ev_fldV (v := u) ((eU.trans e1) _ _ k1) T.cNode.cl T.nNode_digits (by rfl) (ev_var (v := .ref o) rfl) fun H2 e2 => ?_
    have e12 := e1.trans e2
    refine t_fn (vs := [.ref wa, .ref kd]) (ea_cons (ev_fld (ev_var (v := .ref o) rfl) ((eU.trans e12) _ _ k1) T.cNode.cl T.nNode_ways (v := .ref wa) (by rfl)) (ea_cons (ev_var rfl) ea_nil)) fun H3 e3 => ?_
    have e13 := e12.trans e3
    refine ⟨wa, kd, n.kids, m, rfl, k3.mono (eU.trans e13), hkz n (List.mem_of_getElem? hn), e13 _ _ upd_same, fun wv H4 e4 hwv => ⟨sz2, fun told htold => ?_⟩⟩
    have e14 := e13.trans e4
    have e15 := e14.trans (Ex.new (o := .tup [u, wv]) htold)
    have htup : SqT K (upd H4 told (.tup [u, wv])) told [u, wv] := st_of upd_same
    obtain ⟨G5, g5, eG5, E5⟩ := ex_split g e15
    rw [E5] at htup ⊢
    have eU5 := ex_upd (o := .dK (dk m)) g5
    have eB5 : Ex Hb (upd G5 kd (.dK (dk m))) := (e.trans eG5).trans eU5
    have hD5 : DigV K (upd G5 kd (.dK (dk m))) u n.out := k2.mono (eB.trans eB5)
    have ht1 : Mx.keepStep a.1 m (n, i) = (match Mx.thru m n.kids with
      | none => m
      | some ks => match a.1.findIdx? (fun x => x == ⟨n.out, ks⟩) with
        | none => m
        | some j => m ++ [(i, j)]) := by
      unfold Mx.keepStep
      cases Mx.thru m n.kids with
      | none => rfl
      | some ks => dsimp only; all_goals (cases a.1.findIdx? (fun x => x == ⟨n.out, ks⟩) <;> rfl)
    rw [ht1] at hstep
    cases hth : Mx.thru m n.kids with
    | none =>
      rw [hth] at hwv hstep
      have hwv : wv = .non := hwv
      subst hwv
      have hK : NkV K (upd G5 kd (.dK (dk m))) (.ref told) (.tup [digKey n.out, .none]) := .tup htup (.cons hD5.key (.cons .non .nil))
      have hdeep : (NestedKey.tup [digKey n.out, .none]).depth ≤ 8 := by
        have := keyOfN_deep ⟨n.out, []⟩
        simp only [keyOfN, NestedKey.depth, NestedKey.depthAll, List.map_nil] at this ⊢
        omega
      refine s_when (b := false) (et_test (ev_op (ev_var (v := .ref told) rfl) (ev_var (v := .ref d) rfl) fun H6 e6 Q6 q6 => ⟨told, d, xs, _, rfl, rfl, (eB5.trans e6) _ _ hbd, (hNB.kin.mono (eB5.trans e6)), hK.mono e6, hdeep, by
        rw [hNB.none_ n.out]
        exact q6 H6 (Ex.refl _)⟩)) (fun z => nomatch z) (fun _ H6 e6 => ?_)
      obtain ⟨G6, g6, eG6, rfl⟩ := ex_split g5 e6
      refine ⟨G6, _, _, _, rfl, g6, (e.trans eG5).trans eG6, ?_⟩
      rw [← hstep]
    | some ks =>
      rw [hth] at hwv hstep
      obtain ⟨wp, rfl, hW⟩ := hwv
      dsimp only at hstep
      have hW5 : WaysAt K (upd G5 kd (.dK (dk m))) wp ks := by
        rw [← E5]
        exact hW.mono (Ex.new htold)
      have hK : NkV K (upd G5 kd (.dK (dk m))) (.ref told) (keyOfN ⟨n.out, ks⟩) := key_tup (n := ⟨n.out, ks⟩) htup hD5 hW5
      refine s_when (b := decide (⟨n.out, ks⟩ ∈ a.1)) (et_test (ev_op (ev_var (v := .ref told) rfl) (ev_var (v := .ref d) rfl) fun H6 e6 Q6 q6 => ⟨told, d, xs, _, rfl, rfl, (eB5.trans e6) _ _ hbd, (hNB.kin.mono (eB5.trans e6)), hK.mono e6, keyOfN_deep _, by
        rw [hNB.any]
        exact q6 H6 (Ex.refl _)⟩)) (fun hs H6 e6 => ?_) (fun hs H6 e6 => ?_)
      · have hin := of_decide_eq_true hs
        cases hf : a.1.findIdx? (fun x => x == ⟨n.out, ks⟩) with
        | none =>
          rw [List.findIdx?_eq_none_iff] at hf
          have := hf _ hin
          simp at this
        | some j =>
          rw [hf] at hstep
          dsimp only at hstep
          obtain ⟨hj1, hj2, _⟩ := List.findIdx?_eq_some_iff_getElem.mp hf
          have hj2 : a.1[j] = ⟨n.out, ks⟩ := eq_of_beq hj2
          obtain ⟨bb, hbb⟩ := hNB.at_ (k := j) (n := ⟨n.out, ks⟩) (by rw [List.getElem?_eq_getElem hj1, hj2])
          refine (ev_nget (P := P) (w := w) (K := K) (ev_var (v := .ref d) rfl) (ev_var (v := .ref told) rfl) ((eB5.trans e6) _ _ hbd) (hNB.kin.mono (eB5.trans e6)) (hK.mono e6) (keyOfN_deep _) hbb) H6 (Ex.refl _) _ fun H7 e7 => ?_
          refine (ev_var (v := .ref kd) rfl) H7 (Ex.refl _) _ fun H8 e8 => ?_
          refine (ev_var (v := .int (i : Int)) rfl) H8 (Ex.refl _) _ fun H9 e9 => ?_
          obtain ⟨G9, g9, eG9, rfl⟩ := ex_split g5 (e6.trans (e7.trans (e8.trans e9)))
          refine ⟨kd, _, rfl, DPut.k (k := Sum.inl (i : Int)) upd_same (sz_lt (by unfold dk; rw [List.length_map]; omega)), ?_⟩
          refine ⟨G9, _, _, _, rfl, g9, (e.trans eG5).trans eG9, ?_⟩
          rw [upd_upd, dk_put m i j hmi, hstep]
      · have hin := of_decide_eq_false hs
        cases hf : a.1.findIdx? (fun x => x == ⟨n.out, ks⟩) with
        | some j =>
          obtain ⟨hj1, hj2, _⟩ := List.findIdx?_eq_some_iff_getElem.mp hf
          have hj2 : a.1[j] = ⟨n.out, ks⟩ := eq_of_beq hj2
          exact absurd (by rw [← hj2]; exact List.getElem_mem hj1) hin
        | none =>
          rw [hf] at hstep
          dsimp only at hstep
          obtain ⟨G6, g6, eG6, rfl⟩ := ex_split g5 e6
          refine ⟨G6, _, _, _, rfl, g6, (e.trans eG5).trans eG6, ?_⟩
          rw [← hstep]
  · rintro σ' H' ⟨G, u3, u4, u6, rfl, g, e, rfl⟩
    rw [b3.1] at *
    refine s_ret (v := .int ((Mx.kmap b.1 a.1 b.1.length).length : Nat)) (fun H1 e1 Q1 q1 => ?_) fun H2 e2 => k.go ((eB.trans (e.trans (ex_upd g))).trans e2)
    refine (ev_var (v := .ref kd) rfl) H1 (Ex.refl _) _ fun H2 e2 => ⟨kd, _, rfl, (e1.trans e2) _ _ upd_same, ?_⟩
    have : (dk (Mx.kmap b.1 a.1 b.1.length)).length = (Mx.kmap b.1 a.1 b.1.length).length := by unfold dk; rw [List.length_map]
    rw [this]
    exact q1 H2 e2
end
end Pt
set_option Elab.async false
set_option linter.all false
set_option maxRecDepth 100000
set_option maxHeartbeats 2000000
namespace Pt
open PySem PySem.Spec PyProof.Rows L2 Evl
open VahypBase (Bytes)
open Vahypd (Node Table)
section
variable {P : Program} {w : World} {K : PySem.W.Frag} {mg : Str → Option Value} {base : Heap} {X : Cx}
variable {σ : L2.St} {H H' : Hp} {ta tb tc te tl : TE} {t : TT} {x y z v : V} {C : Addr} {D : Ends} {tz : TS}
/-! ### with_entry -/
theorem rv_notInD {α : Type} {R : Addr → α → Prop} {f : α → PyData} {refs : List V} {xs : List α} {l : Addr} {x : V} {d : PyData} (hl : SqL K H l refs) (hR : Rep R refs xs) (k : ∀ H1, Ex H H1 → ∀ o a, R o a → Dp K H1 (.ref o) (f a)) (hs : ∀ a, (f a).canLay0 = true ∧ (f a).depth ≤ 2) (hx : ∀ H1, Ex H H1 → Dp K H1 x d) (hd : SeqAt.shaped d = true) :
    RV (rNotInD K) x (.ref l) H (.bl (!(xs.any fun a => PyData.eqv (f a) d))) := fun H1 e Q q =>
  ⟨d, xs.map f, hx H1 e, Dp.lst (ex_l e hl) (rep_dp hR (k H1 e)), hd, shaped_list (fun e he => by obtain ⟨a, _, rfl⟩ := List.mem_map.mp he; exact hs a), by
    rw [List.any_map]
    exact q H1 (Ex.refl H1)⟩
theorem Rep.take {α : Type} {R : Addr → α → Prop} {refs : List V} {xs : List α} (h : Rep R refs xs) (n : Nat) : Rep R (refs.take n) (xs.take n) := by
  refine ⟨by rw [List.length_take, List.length_take, h.1], fun i x hx => ?_⟩
  have hi : i < n := by
    have := (List.getElem?_eq_some_iff.mp hx).1
    rw [List.length_take] at this
    omega
  rw [List.getElem?_take_of_lt hi] at hx
  obtain ⟨o, h1, h2⟩ := h.2 i x hx
  exact ⟨o, by rw [List.getElem?_take_of_lt hi]; exact h1, h2⟩
theorem Rep.drop {α : Type} {R : Addr → α → Prop} {refs : List V} {xs : List α} (h : Rep R refs xs) (n : Nat) : Rep R (refs.drop n) (xs.drop n) := by
  refine ⟨by rw [List.length_drop, List.length_drop, h.1], fun i x hx => ?_⟩
  rw [List.getElem?_drop] at hx
  obtain ⟨o, h1, h2⟩ := h.2 _ x hx
  exact ⟨o, by rw [List.getElem?_drop]; exact h1, h2⟩
theorem Rep.app {α : Type} {R : Addr → α → Prop} {r1 r2 : List V} {xs ys : List α} (h1 : Rep R r1 xs) (h2 : Rep R r2 ys) : Rep R (r1 ++ r2) (xs ++ ys) := by
  refine ⟨by rw [List.length_append, List.length_append, h1.1, h2.1], fun i x hx => ?_⟩
  by_cases hi : i < xs.length
  · rw [List.getElem?_append_left hi] at hx
    obtain ⟨o, g1, g2⟩ := h1.2 i x hx
    exact ⟨o, by rw [List.getElem?_append_left (by rw [h1.1]; exact hi)]; exact g1, g2⟩
  · rw [List.getElem?_append_right (by omega)] at hx
    obtain ⟨o, g1, g2⟩ := h2.2 _ x hx
    exact ⟨o, by rw [List.getElem?_append_right (by rw [h1.1]; omega), h1.1]; exact g1, g2⟩
theorem Rep.one {α : Type} {R : Addr → α → Prop} {o : Addr} {x : α} (h : R o x) : Rep R [.ref o] [x] := by
  have := Rep.snoc (R := R) Rep.nil h
  exact this
/-- a list of entries that is tracked -/
def EntL (T : Tx K mg) (H : Hp) (l : Addr) (es : List Vahypd.Entry) : Prop := ∃ refs, H l = some (.lst refs) ∧ Rep (EntAt T H) refs es
theorem EntL.mono {T : Tx K mg} {l : Addr} {es : List Vahypd.Entry} (h : EntL T H l es) (e : Ex H H') : EntL T H' l es := let ⟨refs, h1, h2⟩ := h; ⟨refs, e _ _ h1, h2.mono fun _ _ r => r.mono e⟩
theorem EntL.list {T : Tx K mg} {l : Addr} {es : List Vahypd.Entry} (h : EntL T H l es) : EntList T H l es := let ⟨refs, h1, h2⟩ := h; ⟨refs, sq_of h1, h2⟩
theorem el_catV {a : Addr} {xs ys : List V} (ha : Ev ta σ H (.ref a)) (h : H a = some (.lst xs)) (hb : EvL tb σ H ys) (hz : xs.length + ys.length ≤ 100000) : EvL (tOp rCat ta tb) σ H (xs ++ ys) := fun H1 e Q q =>
  ha H1 e _ fun H2 e2 => hb H2 (e.trans e2) _ fun r H3 hr e3 h3 => ⟨a, r, xs, ys, rfl, rfl, ((e.trans e2).trans e3) _ _ h, h3, sz_of hz, fun l hl => q l _ (fresh_back (e2.trans e3) hl) ((e2.trans e3).trans (Ex.new hl)) upd_same⟩
def spWith (T : Tx K mg) : Sp := fun vs H Q _ => ∃ (a o : Addr) (es : List Vahypd.Entry) (e : Vahypd.Entry), vs = [.ref a, .ref o] ∧ EntL T H a es ∧ EntAt T H o e ∧ es.length ≤ 40 ∧ ∀ l H2, H l = none → Ex H H2 → EntL T H2 l (Mx.withE es e) → Q (.ref l) H2
theorem withE_none {es : List Vahypd.Entry} {e : Vahypd.Entry} (h : es.any (fun x => x.1 == e.1) = false) : Mx.withE es e = es ++ [e] := by
  unfold Mx.withE
  have : es.findIdx? (fun x => x.1 == e.1) = none := by
    rw [List.findIdx?_eq_none_iff]
    intro x hx
    rw [List.any_eq_false] at h
    exact Bool.eq_false_iff.mpr (h x hx)
  rw [this]
theorem withE_some {es : List Vahypd.Entry} {e : Vahypd.Entry} (h : es.any (fun x => x.1 == e.1) = true) : ∃ i, i < es.length ∧ Mx.withE es e = es.take i ++ e :: es.drop (i + 1) ∧ (∃ x, es[i]? = some x ∧ (x.1 == e.1) = true) ∧ ∀ (j : Nat) (y : Vahypd.Entry), j < i → es[j]? = some y → (y.1 == e.1) = false := by
  unfold Mx.withE
  cases hf : es.findIdx? (fun x => x.1 == e.1) with
  | none =>
    rw [List.findIdx?_eq_none_iff] at hf
    rw [List.any_eq_true] at h
    obtain ⟨x, hx, hh⟩ := h
    rw [hf x hx] at hh
    cases hh
  | some i =>
    obtain ⟨h1, h2, h3⟩ := List.findIdx?_eq_some_iff_getElem.mp hf
    refine ⟨i, h1, rfl, ⟨_, List.getElem?_eq_getElem h1, h2⟩, fun j y hj hy => ?_⟩
    obtain ⟨q1, q2⟩ := List.getElem?_eq_some_iff.mp hy
    have := h3 j hj
    rw [q2] at this
    exact Bool.eq_false_iff.mpr this
theorem ok_with_entry (T : Tx K mg) : FnOk P w K mg base CX0 2 T.with_entry.f T.with_entry.fd ["entries", "entry"] (spWith T) := by
  have GS : FnOk P w K mg base CX0 1 _ _ _ _ := ok_all_signs T
  refine T.with_entry.F.ok scWithEntry (fun vs H Q E h => ?_) (fun cdv A outer s H vs Q E hr h => ⟨_,
    pss_cons (ps_set (i := 2) scWithEntry.nd rfl (.inl rfl) (pe_fn T.all_signs GS hr (bdAllSigns T.all_signs.F) pass0 (pa_cons (pv 0) pa_nil)))
    (pss_cons (ps_if (pt_cmpR (op_notInD (hu65 hr)) (pe_fld (pv 1) rfl) (pv 2) (by rfl)) (pss_one (ps_ret (pe_op op_cat (pv 0) (pe_lst (pa_cons (pv 1) pa_nil))))) pss_nil)
    (pss_cons (ps_set (i := 3) scWithEntry.nd rfl (.inl rfl) (pe_bm PySem.F.plainAttrs_list PySem.F.slot_list_index PySem.F.type_list_index (mt_indexD (hu65 hr)) (pv 2) (pa_cons (pe_fld (pv 1) rfl) pa_nil)))
    (pss_one (ps_ret (pe_op op_cat (pe_op op_cat (pe_slice sl_list (pv 0) po_none (po_some (pv 3))) (pe_lst (pa_cons (pv 1) pa_nil))) (pe_slice sl_list (pv 0) (po_some (pe_op op_add (pv 3) pe_int)) po_none)))))), ?_⟩)
  · obtain ⟨a, o, es, e, rfl, _⟩ := h
    rfl
  obtain ⟨a, o, es, e, rfl, ⟨refs, hL, hR⟩, hO, hz, k⟩ := h
  have hO0 := hO
  obtain ⟨dxo, sao, dao, o1, o2, o3⟩ := hO
  refine q_asgL (el_signs (ev_var rfl) (sq_of hL) hR (by omega)) fun sl H1 hsl e1 hl1 => ?_
  have hS : Rep (fun p (x : Vahypd.Entry) => SqT K H p (nv x.1)) (refs.map (fst1 H)) es := rep_signs (f := fun x : Vahypd.Entry => x) hR
  have hany : (es.any fun x => PyData.eqv (dn x.1) (dn e.1)) = es.any fun x => x.1 == e.1 := by
    congr 1
    funext x
    exact eqv_dn _ _
  refine q_when (b := !(es.any fun x => x.1 == e.1)) (et_is (et_test (ev_op (ev_fld (ev_var (v := .ref o) rfl) (e1 _ _ o1) T.cEntry.cl T.nEntry_signs (v := .ref sao) (by rfl)) (ev_var (v := .ref sl) rfl)
    (rv_notInD (f := fun x : Vahypd.Entry => dn x.1) (sq_of hl1) (hS.mono fun _ _ r => ex_t e1 r) (fun H7 e7 o a hr => dp_nv (ex_t e7 hr)) (fun a => dn_small _) (fun H7 e7 => dp_nv (ex_t (e1.trans e7) o2)) (shaped_dn _)))) (by rw [hany])) (fun hs H2 e2 => ?_) (fun hs H2 e2 => ?_)
  · rw [withE_none (nb1 hs)] at k
    have e12 := e1.trans e2
    refine s_retL (xs := refs ++ [.ref o]) (el_catV (ev_var rfl) (e12 _ _ hL) (el_lst (vs := [.ref o]) (ea_cons (ev_var rfl) ea_nil) (by show 1 ≤ 100000; decide)) (by rw [hR.1]; show _ + 1 ≤ _; omega)) fun p H3 hp e3 h3 => ?_
    exact k p H3 (fresh_back e12 hp) (e12.trans e3) ⟨_, h3, (hR.mono fun _ _ r => r.mono (e12.trans e3)).snoc (hO0.mono (e12.trans e3))⟩
  · obtain ⟨i, hi, hw, ⟨x, hx, hxe⟩, hmin⟩ := withE_some (nb2 hs)
    rw [hw] at k
    have e12 := e1.trans e2
    refine q_asg (v := .int (i : Int)) (fun H3 e3 Q3 q3 => ?_) fun H3 e3 => ?_
    · refine (ev_var (v := .ref sl) rfl) H3 (Ex.refl _) _ fun H4 e4 => ⟨.inl ⟨rfl, _, sq_of ((e2.trans (e3.trans e4)) _ _ hl1)⟩, ?_⟩
      refine t_cons ?_
      have e14 := e12.trans (e3.trans e4)
      refine (ev_fld (ev_var (v := .ref o) rfl) (e14 _ _ o1) T.cEntry.cl T.nEntry_signs (v := .ref sao) (by rfl)) H4 (Ex.refl _) _ fun H5 e5 => t_nil ?_
      have e15 := e14.trans e5
      have hat : ∀ (j : Nat) (y : Vahypd.Entry), es[j]? = some y → (es.map fun x => dn x.1)[j]? = some (dn y.1) := fun j y hy => by rw [List.getElem?_map, hy]; rfl
      refine ⟨sl, .ref sao, dn e.1, es.map (fun x : Vahypd.Entry => dn x.1), i, dn x.1, rfl, rfl, Dp.lst (sq_of ((e2.trans (e3.trans (e4.trans e5))) _ _ hl1)) (rep_dp (f := fun x : Vahypd.Entry => dn x.1) hS fun p y r => dp_nv (ex_t e15 r)), dp_nv (ex_t e15 o2), shaped_list (fun d hd => by obtain ⟨y, _, rfl⟩ := List.mem_map.mp hd; exact dn_small _), shaped_dn _, hat i x hx, by rw [eqv_dn]; exact hxe, fun j z hj hz2 => ?_, q3 H5 (e4.trans e5)⟩
      rw [List.getElem?_map] at hz2
      cases hy : es[j]? with
      | none => rw [hy] at hz2; cases hz2
      | some y =>
        rw [hy] at hz2
        rw [← (Option.some.inj hz2 : dn y.1 = z), eqv_dn]
        exact hmin j y hj hy
    · have e13 := e12.trans e3
      have hLs := sq_of (K := K) (e13 _ _ hL)
      have s1 := el_sl (K := K) (te := tVar 0) (tl := tNoPart) (th := tPart (tVar 3)) (σ := [some (.ref a), some (.ref o), some (.ref sl), some (.int (i : Int))]) (H := H3) (a := a) (xs := refs) (lo := none) (hi := some (i : Int)) (ev_var rfl) eo_none (eo_some (ev_var rfl)) hLs
      rw [cut_to] at s1
      have s2 := el_sl (K := K) (te := tVar 0) (tl := tPart (tOp (rI0 fun i j => .int (i + j)) (tVar 3) (tC (.int 1)))) (th := tNoPart) (σ := [some (.ref a), some (.ref o), some (.ref sl), some (.int (i : Int))]) (H := H3) (a := a) (xs := refs) (lo := some ((i + 1 : Nat) : Int)) (hi := none) (ev_var rfl) (eo_some (ev_is (ev_op (ev_var rfl) ev_c rv_I0) (by congr 1))) eo_none hLs
      rw [cut_from] at s2
      refine s_retL (xs := refs.take i ++ [.ref o] ++ refs.drop (i + 1)) (el_catL (el_catL s1 (el_lst (vs := [.ref o]) (ea_cons (ev_var rfl) ea_nil) (by show 1 ≤ 100000; decide)) ?_) s2 ?_) fun p H4 hp e4 h4 => ?_
      · rw [List.length_take]; show _ + 1 ≤ _; omega
      · rw [List.length_append, List.length_take, List.length_drop, hR.1]; show _ + 1 + _ ≤ _; omega
      · have e14 := e13.trans e4
        have hR4 := hR.mono (R' := EntAt T H4) fun _ _ r => r.mono e14
        refine k p H4 (fresh_back e13 hp) e14 ⟨_, h4, ?_⟩
        have := Rep.app (Rep.app (hR4.take i) (Rep.one (hO0.mono e14))) (hR4.drop (i + 1))
        rw [List.append_assoc (es.take i)] at this
        exact this
end
end Pt
set_option Elab.async false
set_option linter.all false
set_option maxRecDepth 100000
set_option maxHeartbeats 2000000
namespace Pt
open PySem PySem.Spec PyProof.Rows L2 Evl
open VahypBase (Bytes)
open Vahypd (Node Table)
/-! ## what is held; the calls that read it -/
section
variable {P : Program} {w : World} {K : PySem.W.Frag} {mg : Str → Option Value} {base : Heap} {X : Cx}
variable {σ : L2.St} {H H' : Hp} {ta tb tc te tl : TE} {t : TT} {x y z v : V} {C : Addr} {D : Ends} {tz : TS}
/-- a list as it lies, its entries at el -/
def LstEl (T : Tx K mg) (H : Hp) (h : Addr) (s : Vahypa.Lst) (el : Addr) : Prop := ∃ dh wl wrefs, H h = some (.ins T.cPatternList.C dh (hF s.l s.r wl el)) ∧ SqL K H wl wrefs ∧ wrefs.length = s.words.length ∧ EntL T H el (Mx.entries s.pats)
def LstAt (T : Tx K mg) (H : Hp) (h : Addr) (s : Vahypa.Lst) : Prop := ∃ dh wl el, H h = some (.ins T.cPatternList.C dh (hF s.l s.r wl el)) ∧ EntL T H el (Mx.entries s.pats)
theorem LstEl.mono {T : Tx K mg} {h el : Addr} {s : Vahypa.Lst} (a : LstEl T H h s el) (e : Ex H H') : LstEl T H' h s el := let ⟨dh, wl, wrefs, h1, h2, h3, h4⟩ := a; ⟨dh, wl, wrefs, e _ _ h1, ex_l e h2, h3, h4.mono e⟩
theorem LstEl.at_ {T : Tx K mg} {h el : Addr} {s : Vahypa.Lst} (a : LstEl T H h s el) : LstAt T H h s := let ⟨dh, wl, wrefs, h1, h2, h3, h4⟩ := a; ⟨dh, wl, el, h1, h4⟩
theorem LstAt.mono {T : Tx K mg} {h : Addr} {s : Vahypa.Lst} (a : LstAt T H h s) (e : Ex H H') : LstAt T H' h s := let ⟨dh, wl, el, h1, h4⟩ := a; ⟨dh, wl, el, e _ _ h1, h4.mono e⟩
structure Good (s : Vahypa.Lst) : Prop where
  ok : ∀ p ∈ s.pats, Mx.OkPat p
  pn : s.pats.length ≤ 40
  wn : s.words.length ≤ 24
  ds : s.pats.Pairwise fun p q => Vahypd.signsOf p ≠ Vahypd.signsOf q
def hoF (hv tv : V) : List (Str × V) := [("held", hv), ("table", tv)]
/-- the holder, a list held -/
def HoAt (T : Tx K mg) (H : Hp) (ho : Addr) (h : Vahypd.Held) : Prop := ∃ dho ha tt, H ho = some (.ins T.cHolder.C dho (hoF (.ref ha) (.ref tt))) ∧ LstAt T H ha h.lst ∧ TabAt T H tt h.tab ∧ h.tab = Vahypd.tableOf h.lst.pats ∧ Good h.lst
theorem HoAt.mono {T : Tx K mg} {ho : Addr} {h : Vahypd.Held} (a : HoAt T H ho h) (e : Ex H H') : HoAt T H' ho h := let ⟨dho, ha, tt, h1, h2, h3, h4⟩ := a; ⟨dho, ha, tt, e _ _ h1, h2.mono e, h3.mono e, h4⟩
theorem entries_len (ps : List Vahypa.Pat) : (Mx.entries ps).length = ps.length := List.length_map ..
theorem iv_nats (l : List Nat) : iv (VahypBase.nats l) = nv l := by unfold iv VahypBase.nats nv; rw [List.map_map]; rfl
def enc (a : VahypBase.Answer) : List V := iv (a.value :: a.rest)
/-! ### patterns_and_sizes -/
def spPaS (T : Tx K mg) : Sp := fun vs H Q _ => ∃ (ho : Addr) (h : Vahypd.Held), vs = [.ref ho] ∧ HoAt T H ho h ∧ RetL (enc (Vahypd.looked h .table)) H Q
theorem ok_patterns_and_sizes (T : Tx K mg) : FnOk P w K mg base CX0 3 T.patterns_and_sizes.f T.patterns_and_sizes.fd ["holder"] (spPaS T) := by
  have GS : FnOk P w K mg base CX0 2 _ _ _ _ := ok_sizes T
  refine T.patterns_and_sizes.F.ok scPatternsAndSizes (fun vs H Q E h => ?_) (fun cdv A outer s H vs Q E hr h => ⟨_,
    pss_cons (ps_set (i := 1) scPatternsAndSizes.nd rfl (.inl rfl) (pe_fld (pe_fld (pv 0) rfl) rfl))
    (pss_one (ps_ret (pe_op op_cat (pe_lst (pa_cons (pe_len T.b_len (pv 1)) pa_nil)) (pe_fn T.sizes GS hr (bdSizes T.sizes.F) pass0 (pa_cons (pe_fld (pv 0) rfl) (pa_cons (pv 1) pa_nil)))))), ?_⟩)
  · obtain ⟨ho, h, rfl, _⟩ := h
    rfl
  obtain ⟨ho, h, rfl, ⟨dho, ha, tt, h1, ⟨dh, wl, el, g1, g4⟩, h3, h4, h5⟩, k⟩ := h
  refine q_asg (v := .ref el) (ev_fld (ev_fld (ev_var rfl) h1 T.cHolder.cl T.nHolder_held (v := .ref ha) (by rfl)) g1 T.cPatternList.cl T.nPatternList_entries (by rfl)) fun H1 e1 => ?_
  obtain ⟨erefs, g5, g6⟩ := g4.mono e1
  have hlen := entries_len h.lst.pats
  refine s_retL (xs := enc (Vahypd.looked h .table)) ?_ fun p H2 hp e2 h2 => k p H2 (fresh_back e1 hp) (e1.trans e2) h2
  have e : enc (Vahypd.looked h .table) = [V.int ((h.lst.pats.length : Nat) : Int)] ++ nv [h.tab.1.length, Vahypd.edges h.tab.1, Vahypd.outs h.tab.1, Vahypd.plainBy 8 (Mx.entries h.lst.pats)] := rfl
  rw [e]
  refine el_catL (el_lst (ea_cons (ev_is (ev_len (ev_var rfl) (sq_of g5)) (by rw [g6.1, hlen])) ea_nil) (by show 1 ≤ 100000; decide)) (fun H3 e3 Q3 q3 => ?_) (by show 5 ≤ 100000; decide)
  refine t_fn (ea_cons (ev_fld (ev_var rfl) ((e1.trans e3) _ _ h1) T.cHolder.cl T.nHolder_table (v := .ref tt) (by rfl)) (ea_cons (ev_var rfl) ea_nil)) fun H4 e4 => ?_
  have hl : h.tab.1.length ≤ 321 := by rw [h4]; exact Mx.table_len h5.pn
  exact ⟨tt, el, h.tab, Mx.entries h.lst.pats, rfl, h3.mono ((e1.trans e3).trans e4), by omega, g4.list.mono ((e1.trans e3).trans e4), by rw [hlen]; exact h5.pn, Mx.entries_short h5.ok, fun p H5 hp e5 h5 => q3 p H5 (fresh_back e4 hp) (e4.trans e5) h5⟩
/-! ### store -/
def spStore (T : Tx K mg) : Sp := fun vs H Q _ => ∃ (ho : Addr) (h : Vahypd.Held), vs = [.ref ho] ∧ HoAt T H ho h ∧ RetL (enc (Vahypd.looked h .store)) H Q
theorem row_small {n : Node} (h : Mx.SmallNode 9 40 n) : SmallN n := h
theorem ok_store (T : Tx K mg) : FnOk P w K mg base CX0 3 T.store.f T.store.fd ["holder"] (spStore T) := by
  have GS : FnOk P w K mg base CX0 2 _ _ _ _ := ok_told_table T
  refine T.store.F.ok scStore (fun vs H Q E h => ?_) (fun cdv A outer s H vs Q E hr h => ⟨_,
    pss_cons (ps_set (i := 1) scStore.nd rfl (.inl rfl) (pe_fn T.told_table GS hr (bdToldTable T.told_table.F) pass0 (pa_cons (pe_fld (pv 0) rfl) pa_nil)))
    (pss_one (ps_ret (pe_op op_cat (pe_lst (pa_cons (pe_len T.b_len (pv 1)) pa_nil)) (pv 1)))), ?_⟩)
  · obtain ⟨ho, h, rfl, _⟩ := h
    rfl
  obtain ⟨ho, h, rfl, ⟨dho, ha, tt, h1, _, h3, h4, h5⟩, k⟩ := h
  have hl : h.tab.1.length ≤ 321 := by rw [h4]; exact Mx.table_len h5.pn
  have hs : ∀ n ∈ h.tab.1, SmallN n := by rw [h4]; exact Mx.table_small h5.ok h5.pn
  have hrow : (Vahypd.tableRow h.tab).length ≤ 99000 := by
    unfold Vahypd.tableRow
    have := rows_len hs
    rw [List.length_cons, List.length_append]
    show _ + 1 + 1 ≤ _
    omega
  refine q_asgL (xs := nv (Vahypd.tableRow h.tab)) (fun H3 e3 Q3 q3 => ?_) fun l H2 hl2 e2 h2 => ?_
  · exact t_fn (ea_cons (ev_fld (ev_var rfl) (e3 _ _ h1) T.cHolder.cl T.nHolder_table (v := .ref tt) (by rfl)) ea_nil) fun H4 e4 => ⟨tt, h.tab, rfl, h3.mono (e3.trans e4), by omega, hs, fun p H5 hp e5 h5 => q3 p H5 (fresh_back e4 hp) (e4.trans e5) h5⟩
  · refine s_retL (xs := enc (Vahypd.looked h .store)) ?_ fun p H3 hp e3 h3 => k p H3 (fresh_back e2 hp) (e2.trans e3) h3
    have e : enc (Vahypd.looked h .store) = [V.int (((Vahypd.tableRow h.tab).length : Nat) : Int)] ++ nv (Vahypd.tableRow h.tab) := by
      show V.int _ :: iv (VahypBase.nats _) = _
      rw [iv_nats]
      rfl
    rw [e]
    exact el_cat1 (el_lst (ea_cons (ev_is (ev_len (ev_var rfl) (sq_of h2)) (by rw [nv_len])) ea_nil) (by show 1 ≤ 100000; decide)) (ev_var rfl) h2 (by rw [nv_len]; show 1 + _ ≤ _; omega)
end
end Pt
set_option Elab.async false
set_option linter.all false
set_option maxRecDepth 100000
set_option maxHeartbeats 2000000
namespace Pt
open PySem PySem.Spec PyProof.Rows L2 Evl
open VahypBase (Bytes)
open Vahypd (Node Table)
theorem tx_ints (b : Bytes) : tx b = (b.map fun c => (c.toNat : Int)).map V.int := by unfold tx; rw [List.map_map]; rfl
theorem lettersB_read (b : Bytes) : lettersB (b.map fun c => (c.toNat : Int)) = (Vahypa.readLetters b).isSome := by
  unfold lettersB Vahypa.readLetters
  have h : (b.map fun c => (c.toNat : Int)).all isL = b.all VahypBase.isLetter := by
    rw [List.all_map]
    congr 1
    funext c
    exact isL_u c
  rw [h, List.length_map]
  have e16 : Vahypa.LETTERS = 16 := rfl
  by_cases h1 : b.length < 2 ∨ Vahypa.LETTERS < b.length ∨ b.all VahypBase.isLetter = false
  · rw [if_pos h1, Bool.and_eq_false_iff.mpr]
    · rfl
    · rcases h1 with h1 | h1 | h1
      · left; exact decide_eq_false (by omega)
      · left; exact decide_eq_false (by omega)
      · exact .inr h1
  · rw [if_neg h1]
    have h2 : ¬ b.length < 2 := fun z => h1 (.inl z)
    have h3 : ¬ Vahypa.LETTERS < b.length := fun z => h1 (.inr (.inl z))
    have h4 : b.all VahypBase.isLetter = true := by
      cases q : b.all VahypBase.isLetter with
      | true => rfl
      | false => exact absurd (.inr (.inr q)) h1
    rw [h4, Bool.and_true]
    exact decide_eq_true (by omega)
theorem read_is {b x : Bytes} (h : Vahypa.readLetters b = some x) : x = b ∧ 2 ≤ b.length ∧ b.length ≤ 16 := by
  unfold Vahypa.readLetters at h
  have e16 : Vahypa.LETTERS = 16 := rfl
  split at h
  · cases h
  · rename_i h1
    exact ⟨(Option.some.inj h).symm, by omega, by omega⟩
theorem look_len (t : Table) (k : Nat) (x : Bytes) : (Vahypd.look t k x).1.length = x.length + 1 := by
  rw [Mx.look_eq]
  have : ∀ (l : List Nat) (r : List Nat × Nat), (l.foldl (Mx.lookAt t k (Vahypd.signed x)) r).1.length = r.1.length := by
    intro l
    induction l with
    | nil => intro r; rfl
    | cons s l ih =>
      intro r
      rw [List.foldl_cons, ih, Mx.lookAt_nodes]
      dsimp only
      rw [Mx.overs_len]
  rw [this]
  simp
section
variable {P : Program} {w : World} {K : PySem.W.Frag} {mg : Str → Option Value} {base : Heap} {X : Cx}
variable {σ : L2.St} {H H' : Hp} {ta tb tc te tl : TE} {t : TT} {x y z v : V} {C : Addr} {D : Ends} {tz : TS}
/-- looked up, the holder at hand -/
theorem t_look {T : Tx K mg} {ho a dho ha tt : Addr} {h : Vahypd.Held} {b : Bytes} {E : XK} {Q : VK} (hA : HoAt T H ho h) (h1 : H ho = some (.ins T.cHolder.C dho (hoF (.ref ha) (.ref tt)))) (h3 : TabAt T H tt h.tab) (ha' : H a = some (.lst (tx b))) (hb : b.length ≤ 16) (h0 : σ[0]? = some (some (.ref ho))) (h1' : σ[1]? = some (some (.ref a)))
    (k : ∀ p ll dx H2, H p = none → H ll = none → Ex H H2 → H2 p = some (.ins T.cFound.C dx (fdF ll (Vahypd.look h.tab.1 h.tab.2 b).2)) → H2 ll = some (.lst (nv (Vahypd.look h.tab.1 h.tab.2 b).1)) → Q (.ref p) H2) :
    tCall (spLookUp T) [] E (tCons (tFld K (tVar 0) "table") (tCons (tVar 1) tNil)) σ H Q :=
  t_fn (ea_cons (ev_fld (ev_var h0) h1 T.cHolder.cl T.nHolder_table (v := .ref tt) (by rfl)) (ea_cons (ev_var h1') ea_nil)) fun H2 e2 => by
    obtain ⟨_, _, _, _, _, _, h4, h5⟩ := hA
    refine ⟨tt, a, 8, h.tab, b, Mx.entries h.lst.pats, rfl, h3.mono e2, e2 _ _ ha', hb, ?_, Mx.entries_fit h5.ok, fun p ll dx H3 hp hll e3 g1 g2 => k p ll dx H3 (fresh_back e2 hp) (fresh_back e2 hll) (e2.trans e3) g1 g2⟩
    rw [h4]
    exact Mx.table_rp _
/-! ### levels_between, part -/
def spLevels (T : Tx K mg) : Sp := fun vs H Q _ => ∃ (ho a : Addr) (h : Vahypd.Held) (b : Bytes), vs = [.ref ho, .ref a] ∧ HoAt T H ho h ∧ H a = some (.lst (tx b)) ∧ RetL (enc (Vahypd.looked h (.levels b))) H Q
theorem ev_word {T : Tx K mg} {a : Addr} {b : Bytes} {E : XK} (h : Ev ta σ H (.ref a)) (hl : H a = some (.lst (tx b))) : Ev (tCall (spAreL K) [] E (tCons ta tNil)) σ H (.bl (Vahypa.readLetters b).isSome) := by
  have := ev_call (E := E) (ea_cons h ea_nil) (spAreL_v (K := K) (H := H) (a := a) (ns := b.map fun c => (c.toNat : Int)) (by rw [← tx_ints]; exact sq_of hl))
  rw [lettersB_read] at this
  exact this
theorem ok_levels_between (T : Tx K mg) : FnOk P w K mg base CX0 5 T.levels_between.f T.levels_between.fd ["holder", "letters"] (spLevels T) := by
  have GA : FnOk P w K mg base CX0 4 _ _ _ _ := (ok_are_word_letters T).mono (by decide)
  have GL : FnOk P w K mg base CX0 4 _ _ _ _ := ok_look_up T
  refine T.levels_between.F.ok scLevelsBetween (fun vs H Q E h => ?_) (fun cdv A outer s H vs Q E hr h => ⟨_,
    pss_cons (ps_if (pt_not (pt_val (pe_fn T.are_word_letters GA hr (bdAreWordLetters T.are_word_letters.F) pass0 (pa_cons (pv 1) pa_nil)))) (pss_one (ps_ret (pe_lst (pa_cons (pe_un un_neg pe_int) pa_nil)))) pss_nil)
    (pss_cons (ps_set (i := 2) scLevelsBetween.nd rfl (.inl rfl) (pe_fn T.look_up GL hr (bdLookUp T.look_up.F) pass0 (pa_cons (pe_fld (pv 0) rfl) (pa_cons (pv 1) pa_nil))))
    (pss_cons (ps_set (i := 3) scLevelsBetween.nd rfl (.inl rfl) (pe_slice sl_list (pe_fld (pv 2) rfl) (po_some pe_int) (po_some (pe_un un_neg pe_int))))
    (pss_one (ps_ret (pe_op op_cat (pe_op op_cat (pe_lst (pa_cons (pe_len T.b_len (pv 3)) pa_nil)) (pv 3)) (pe_lst (pa_cons (pe_fld (pv 2) rfl) pa_nil))))))), ?_⟩)
  · obtain ⟨ho, a, h, b, rfl, _⟩ := h
    rfl
  obtain ⟨ho, a, h, b, rfl, hA, ha', k⟩ := h
  have hA0 := hA
  obtain ⟨dho, ha, tt, h1, h2, h3, h4, h5⟩ := hA
  refine q_when (b := !(Vahypa.readLetters b).isSome) (et_not (et_B (ev_word (T := T) (ev_var rfl) ha'))) (fun hs H1 e1 => ?_) (fun hs H1 e1 => ?_)
  · have hn : Vahypa.readLetters b = none := by
      cases q : Vahypa.readLetters b with
      | none => rfl
      | some x => rw [q] at hs; cases hs
    have e : enc (Vahypd.looked h (.levels b)) = [V.int (-4)] := by
      simp only [Vahypd.looked, hn]
      rfl
    rw [e] at k
    exact s_retL (el_lst (vs := [V.int (-4)]) (ea_cons (ev_un ev_c ru_neg) ea_nil) (by show 1 ≤ 100000; decide)) fun p H2 hp e2 h2 => k p H2 (fresh_back e1 hp) (e1.trans e2) h2
  · obtain ⟨x, hx⟩ : ∃ x, Vahypa.readLetters b = some x := by
      cases q : Vahypa.readLetters b with
      | none => rw [q] at hs; cases hs
      | some x => exact ⟨x, rfl⟩
    obtain ⟨rfl, hb2, hb16⟩ := read_is hx
    refine q_ask (t_look (hA0.mono e1) (e1 _ _ h1) (h3.mono e1) (e1 _ _ ha') hb16 rfl rfl fun p ll dx H2 hp hll e2 g1 g2 => ?_)
    obtain ⟨r, hr'⟩ : ∃ r, r = Vahypd.look h.tab.1 h.tab.2 x := ⟨_, rfl⟩
    have hlen : r.1.length = x.length + 1 := by rw [hr']; exact look_len _ _ _
    rw [← hr'] at g1 g2
    have e : enc (Vahypd.looked h (.levels x)) = [V.int (((Vahypd.between x r.1).length : Nat) : Int)] ++ nv (Vahypd.between x r.1) ++ [V.int ((r.2 : Nat) : Int)] := by
      simp only [Vahypd.looked, hx, ← hr']
      show V.int _ :: iv (VahypBase.nats _) = _
      rw [iv_nats, nv_app]
      rfl
    have hbl : (Vahypd.between x r.1).length = x.length - 1 := by
      unfold Vahypd.between
      rw [List.length_take, List.length_drop, hlen]
      omega
    have hcut : cutV (nv r.1) (some 1) (some (-1)) = nv (Vahypd.between x r.1) := by
      unfold cutV Vahypd.between
      rw [nv_len, hlen]
      have a1 : HT.sIx (x.length + 1) 0 (some 1) = 1 := by
        have := HT.sIx_nat (x.length + 1) 0 1
        rw [show (some (1 : Int)) = some ((1 : Nat) : Int) from rfl, this]
        omega
      have a2 : HT.sIx (x.length + 1) (x.length + 1) (some (-1)) = x.length := by
        show (if (-1 : Int) < 0 then ((-1 : Int) + ((x.length + 1 : Nat) : Int)).toNat else min (-1 : Int).toNat (x.length + 1)) = _
        rw [if_pos (by decide)]
        omega
      rw [a1, a2, nv_drop, nv_take]
    have hfl : ∀ (u : Option V) H', Ex H2 H' → Ev (tFld K (tVar 2) "levels") [some (.ref ho), some (.ref a), some (.ref p), u] H' (.ref ll) := fun u H' e' => ev_fld (ev_var rfl) (e' _ _ g1) T.cFound.cl T.nFound_levels (by rfl)
    refine q_asgL (xs := nv (Vahypd.between x r.1)) ?_ fun bl H3 hbl3 e3 h3' => ?_
    · have := el_sl (K := K) (te := tFld K (tVar 2) "levels") (tl := tPart (tC (.int 1))) (th := tPart (tUn (rU fun i => V.int (-i)) (tC (.int 1)))) (σ := [some (.ref ho), some (.ref a), some (.ref p), none]) (H := H2) (hfl none _ (Ex.refl _)) (eo_some ev_c) (eo_some ev_neg1) (sq_of g2)
      rw [hcut] at this
      exact this
    · have e12 := (e1.trans e2).trans e3
      refine s_retL (xs := enc (Vahypd.looked h (.levels x))) ?_ fun q H4 hq e4 h4' => k q H4 (fresh_back e12 hq) (e12.trans e4) h4'
      rw [e]
      refine el_catL (el_cat1 (el_lst (ea_cons (ev_is (ev_len (ev_var rfl) (sq_of h3')) (by rw [nv_len])) ea_nil) (by show 1 ≤ 100000; decide)) (ev_var rfl) h3' (by rw [nv_len]; show 1 + _ ≤ _; omega)) (el_lst (ea_cons (ev_fld (ev_var rfl) (e3 _ _ g1) T.cFound.cl T.nFound_steps (v := .int ((r.2 : Nat) : Int)) (by rfl)) ea_nil) (by show 1 ≤ 100000; decide)) (by rw [List.length_append, nv_len]; show 1 + _ + 1 ≤ _; omega)
def spPart (T : Tx K mg) : Sp := fun vs H Q _ => ∃ (ho a : Addr) (h : Vahypd.Held) (b : Bytes), vs = [.ref ho, .ref a] ∧ HoAt T H ho h ∧ H a = some (.lst (tx b)) ∧ RetL (enc (Vahypd.looked h (.part b))) H Q
theorem parts_eq (s : Vahypa.Lst) (x : Bytes) (ls : List Nat) : Vahypd.partsOf s x ls = (gapsN x.length).filter fun g => ls.getD g 0 % 2 == 1 && decide (s.l ≤ g ∧ g + s.r ≤ x.length) := rfl
theorem ok_part (T : Tx K mg) : FnOk P w K mg base CX0 5 T.part.f T.part.fd ["holder", "letters"] (spPart T) := by
  have GA : FnOk P w K mg base CX0 4 _ _ _ _ := (ok_are_word_letters T).mono (by decide)
  have GL : FnOk P w K mg base CX0 4 _ _ _ _ := ok_look_up T
  have GP : FnOk P w K mg base CX0 4 _ _ _ _ := (ok_parted_gaps T).mono (by decide)
  refine T.part.F.ok scPart (fun vs H Q E h => ?_) (fun cdv A outer s H vs Q E hr h => ⟨_,
    pss_cons (ps_if (pt_not (pt_val (pe_fn T.are_word_letters GA hr (bdAreWordLetters T.are_word_letters.F) pass0 (pa_cons (pv 1) pa_nil)))) (pss_one (ps_ret (pe_lst (pa_cons (pe_un un_neg pe_int) pa_nil)))) pss_nil)
    (pss_cons (ps_set (i := 2) scPart.nd rfl (.inl rfl) (pe_fn T.look_up GL hr (bdLookUp T.look_up.F) pass0 (pa_cons (pe_fld (pv 0) rfl) (pa_cons (pv 1) pa_nil))))
    (pss_cons (ps_set (i := 3) scPart.nd rfl (.inl rfl) (pe_fn T.parted_gaps GP hr (bdPartedGaps T.parted_gaps.F) pass0 (pa_cons (pe_fld (pv 2) rfl) (pa_cons (pe_fld (pe_fld (pv 0) rfl) rfl) (pa_cons (pe_fld (pe_fld (pv 0) rfl) rfl) pa_nil)))))
    (pss_one (ps_ret (pe_op op_cat (pe_lst (pa_cons (pe_len T.b_len (pv 3)) pa_nil)) (pv 3)))))), ?_⟩)
  · obtain ⟨ho, a, h, b, rfl, _⟩ := h
    rfl
  obtain ⟨ho, a, h, b, rfl, hA, ha', k⟩ := h
  have hA0 := hA
  obtain ⟨dho, ha, tt, h1, ⟨dh, wl, el, f1, f4⟩, h3, h4, h5⟩ := hA
  refine q_when (b := !(Vahypa.readLetters b).isSome) (et_not (et_B (ev_word (T := T) (ev_var rfl) ha'))) (fun hs H1 e1 => ?_) (fun hs H1 e1 => ?_)
  · have hn : Vahypa.readLetters b = none := by
      cases q : Vahypa.readLetters b with
      | none => rfl
      | some x => rw [q] at hs; cases hs
    have e : enc (Vahypd.looked h (.part b)) = [V.int (-4)] := by
      simp only [Vahypd.looked, hn]
      rfl
    rw [e] at k
    exact s_retL (el_lst (vs := [V.int (-4)]) (ea_cons (ev_un ev_c ru_neg) ea_nil) (by show 1 ≤ 100000; decide)) fun p H2 hp e2 h2 => k p H2 (fresh_back e1 hp) (e1.trans e2) h2
  · obtain ⟨x, hx⟩ : ∃ x, Vahypa.readLetters b = some x := by
      cases q : Vahypa.readLetters b with
      | none => rw [q] at hs; cases hs
      | some x => exact ⟨x, rfl⟩
    obtain ⟨rfl, hb2, hb16⟩ := read_is hx
    refine q_ask (t_look (hA0.mono e1) (e1 _ _ h1) (h3.mono e1) (e1 _ _ ha') hb16 rfl rfl fun p ll dx H2 hp hll e2 g1 g2 => ?_)
    obtain ⟨r, hr'⟩ : ∃ r, r = Vahypd.look h.tab.1 h.tab.2 x := ⟨_, rfl⟩
    have hlen : r.1.length = x.length + 1 := by rw [hr']; exact look_len _ _ _
    rw [← hr'] at g1 g2
    have e12 := e1.trans e2
    have e : enc (Vahypd.looked h (.part x)) = [V.int (((Vahypd.partsOf h.lst x r.1).length : Nat) : Int)] ++ nv (Vahypd.partsOf h.lst x r.1) := by
      simp only [Vahypd.looked, hx, ← hr']
      show V.int _ :: iv (VahypBase.nats _) = _
      rw [iv_nats]
      rfl
    have hpl : (Vahypd.partsOf h.lst x r.1).length ≤ 1000 := by
      rw [parts_eq]
      refine Nat.le_trans (List.length_filter_le _ _) ?_
      unfold gapsN
      rw [List.length_map, List.length_range]
      omega
    refine q_asgL (xs := nv (Vahypd.partsOf h.lst x r.1)) (fun H3 e3 Q3 q3 => ?_) fun gl H3 hgl e3 h3' => ?_
    · have hhf : ∀ {f : Str} {u : V}, (hF h.lst.l h.lst.r wl el).lookup f = some u → NoAttr K T.cPatternList.C f → ∀ H', Ex H2 H' → Ev (tFld K (tFld K (tVar 0) "held") f) [some (.ref ho), some (.ref a), some (.ref p), none] H' u := fun {f u} hl hn H' e' => ev_fld (ev_fld (ev_var rfl) ((e12.trans e') _ _ h1) T.cHolder.cl T.nHolder_held (v := .ref ha) (by rfl)) ((e12.trans e') _ _ f1) T.cPatternList.cl hn hl
      exact t_fn (ea_cons (ev_fld (ev_var rfl) (e3 _ _ g1) T.cFound.cl T.nFound_levels (v := .ref ll) (by rfl)) (ea_cons (hhf (u := .int (h.lst.l : Int)) (by rfl) T.nPatternList_left _ e3) (ea_cons (hhf (u := .int (h.lst.r : Int)) (by rfl) T.nPatternList_right _ e3) ea_nil))) fun H4 e4 => ⟨ll, h.lst.l, h.lst.r, x.length, r.1, rfl, sq_of ((e3.trans e4) _ _ g2), hlen, by omega, fun q H5 hq e5 h5 => q3 q H5 (fresh_back e4 hq) (e4.trans e5) h5⟩
    · refine s_retL (xs := enc (Vahypd.looked h (.part x))) ?_ fun q H4 hq e4 h4' => k q H4 (fresh_back (e12.trans e3) hq) ((e12.trans e3).trans e4) h4'
      rw [e]
      exact el_cat1 (el_lst (ea_cons (ev_is (ev_len (ev_var rfl) (sq_of h3')) (by rw [nv_len])) ea_nil) (by show 1 ≤ 100000; decide)) (ev_var rfl) h3' (by rw [nv_len]; show 1 + _ ≤ _; omega)
end
end Pt
set_option Elab.async false
set_option linter.all false
set_option maxRecDepth 100000
set_option maxHeartbeats 2000000
namespace Pt
open PySem PySem.Spec PyProof.Rows L2 Evl
open VahypBase (Bytes)
open Vahypd (Node Table)
/-! ## load -/
section
variable {P : Program} {w : World} {K : PySem.W.Frag} {mg : Str → Option Value} {base : Heap} {X : Cx}
variable {σ : L2.St} {H H' : Hp} {ta tb tc te tl : TE} {t : TT} {x y z v : V} {C : Addr} {D : Ends} {tz : TS}
/-! ### what lies stays, when a holder's fields are set -/
/-- an instance of the holder or of a list at l -/
def IsIn (H : Hp) (l : Addr) (f : Str) : Prop := ∃ C d v fs, H l = some (.ins C d ((f, v) :: fs))
section
variable {l : Addr} {f : Str} {u : HO}
theorem IsIn.lst {a : Addr} {xs : List V} (h : IsIn H l f) (s : SqL K H a xs) : SqL K (upd H l u) a xs := by
  obtain ⟨C, d, v, fs, h⟩ := h
  rcases s with (s | ⟨o, s⟩) | s
  · exact .inl (.inl (by rw [upd_ne (fun z => by rw [z, h] at s; cases s)]; exact s))
  · exact .inl (.inr ⟨o, by rw [upd_ne (fun z => by rw [z, h] at s; cases s)]; exact s⟩)
  · exact .inr s
theorem IsIn.tup {a : Addr} {xs : List V} (h : IsIn H l f) (s : SqT K H a xs) : SqT K (upd H l u) a xs := by
  obtain ⟨C, d, v, fs, h⟩ := h
  rcases s with (s | ⟨o, s⟩) | s
  · exact .inl (.inl (by rw [upd_ne (fun z => by rw [z, h] at s; cases s)]; exact s))
  · exact .inl (.inr ⟨o, by rw [upd_ne (fun z => by rw [z, h] at s; cases s)]; exact s⟩)
  · exact .inr s
theorem IsIn.ins {a C d : Addr} {f' : Str} {v : V} {fs : List (Str × V)} (h : IsIn H l f) (hf : ¬ f' = f) (s : H a = some (.ins C d ((f', v) :: fs))) : upd H l u a = some (.ins C d ((f', v) :: fs)) := by
  obtain ⟨C', d', v', fs', h⟩ := h
  rw [upd_ne]
  · exact s
  · intro z
    rw [z, h] at s
    have s := Option.some.inj s
    injection s with _ _ s
    injection s with s _
    exact hf (Prod.mk.inj s).1.symm
theorem IsIn.ent {T : Tx K mg} {o : Addr} {en : Vahypd.Entry} (h : IsIn H l f) (hf : f = "held" ∨ f = "left") (s : EntAt T H o en) : EntAt T (upd H l u) o en := by
  obtain ⟨dx, sa, da, h1, h2, h3⟩ := s
  exact ⟨dx, sa, da, h.ins (by rcases hf with rfl | rfl <;> decide +kernel) h1, h.tup h2, h.tup h3⟩
theorem IsIn.entL {T : Tx K mg} {el : Addr} {es : List Vahypd.Entry} (h : IsIn H l f) (hf : f = "held" ∨ f = "left") (s : EntL T H el es) : EntL T (upd H l u) el es := by
  obtain ⟨refs, h1, h2⟩ := s
  refine ⟨refs, ?_, h2.mono fun _ _ r => h.ent hf r⟩
  obtain ⟨C', d', v', fs', h⟩ := h
  rw [upd_ne (fun z => by rw [z, h] at h1; cases h1)]
  exact h1
theorem IsIn.list {T : Tx K mg} {h el : Addr} {s : Vahypa.Lst} (i : IsIn H l "held") (a : LstEl T H h s el) : LstEl T (upd H l u) h s el := by
  obtain ⟨dh, wl, wrefs, h1, h2, h3, h4⟩ := a
  exact ⟨dh, wl, wrefs, i.ins (by decide +kernel) h1, i.lst h2, h3, i.entL (.inl rfl) h4⟩
theorem IsIn.node {T : Tx K mg} {o : Addr} {n : Node} (h : IsIn H l f) (hf : f = "held" ∨ f = "left") (s : NodeAt T H o n) : NodeAt T (upd H l u) o n := by
  obtain ⟨dx, dv, wa, h1, h2, ws, h3, h4⟩ := s
  refine ⟨dx, dv, wa, h.ins (by rcases hf with rfl | rfl <;> decide +kernel) h1, ?_, ws, h.tup h3, h4.mono fun _ _ r => h.tup r⟩
  cases ho : n.out with
  | none =>
    rw [ho] at h2
    exact h2
  | some dd =>
    rw [ho] at h2
    obtain ⟨da, e, h2⟩ := h2
    exact ⟨da, e, h.tup h2⟩
theorem IsIn.tab {T : Tx K mg} {t : Addr} {tk : Table × Nat} (h : IsIn H l f) (hf : f = "held" ∨ f = "left") (s : TabAt T H t tk) : TabAt T (upd H l u) t tk := by
  obtain ⟨dt, nl, refs, h1, h2, h3⟩ := s
  exact ⟨dt, nl, refs, h.ins (by rcases hf with rfl | rfl <;> decide +kernel) h1, h.lst h2, h3.mono fun _ _ r => h.node hf r⟩
end
/-- the holder, whatever is held -/
def StAt (T : Tx K mg) (H : Hp) (ho dho : Addr) (o : Vahypd.Obj) : Prop := match o with
  | none => H ho = some (.ins T.cHolder.C dho (hoF .non .non))
  | some h => ∃ ha tt, H ho = some (.ins T.cHolder.C dho (hoF (.ref ha) (.ref tt))) ∧ LstAt T H ha h.lst ∧ TabAt T H tt h.tab ∧ h.tab = Vahypd.tableOf h.lst.pats ∧ Good h.lst
theorem StAt.mono {T : Tx K mg} {ho dho : Addr} {o : Vahypd.Obj} (a : StAt T H ho dho o) (e : Ex H H') : StAt T H' ho dho o := by
  cases o with
  | none => exact e _ _ a
  | some h =>
    obtain ⟨ha, tt, h1, h2, h3, h4⟩ := a
    exact ⟨ha, tt, e _ _ h1, h2.mono e, h3.mono e, h4⟩
theorem StAt.is {T : Tx K mg} {ho dho : Addr} {o : Vahypd.Obj} (a : StAt T H ho dho o) : ∃ hv tv, H ho = some (.ins T.cHolder.C dho (hoF hv tv)) := by
  cases o with
  | none => exact ⟨_, _, a⟩
  | some h =>
    obtain ⟨ha, tt, h1, _⟩ := a
    exact ⟨_, _, h1⟩
theorem ho_held {hv tv u : V} : putF ("held" : Str) u (hoF hv tv) = hoF u tv := by
  simp [putF, hoF]
theorem ho_table {hv tv u : V} : putF ("table" : Str) u (hoF hv tv) = hoF hv u := by
  have h1 : ¬ ("held" : Str) = "table" := by decide +kernel
  simp [putF, hoF, h1]
end
end Pt
set_option Elab.async false
set_option linter.all false
set_option maxRecDepth 100000
set_option maxHeartbeats 2000000
namespace Pt
open PySem PySem.Spec PyProof.Rows L2 Evl
open VahypBase (Bytes)
open Vahypd (Node Table)
section
variable {P : Program} {w : World} {K : PySem.W.Frag} {mg : Str → Option Value} {base : Heap} {X : Cx}
variable {σ : L2.St} {H H' : Hp} {ta tb tc te tl : TE} {t : TT} {x y z v : V} {C : Addr} {D : Ends} {tz : TS}
theorem HdS.lst {T : Tx K mg} {G M : Hp} {h dh wl el : Addr} {wrefs erefs : List V} {s : Vahypa.Lst} (a : Apart G M) (x : HdS T G M h dh wl el wrefs erefs s) : LstEl T (over G M) h s el := by
  have e := ex_over a
  exact ⟨dh, wl, wrefs, over_m x.mh, sq_of (over_m x.mw), x.ws.1, erefs, over_m x.me, (x.ps.mono fun _ _ r => r.mono e).map_⟩
theorem HdS.good {T : Tx K mg} {G M : Hp} {h dh wl el : Addr} {wrefs erefs : List V} {s : Vahypa.Lst} (x : HdS T G M h dh wl el wrefs erefs s) (hu : Mx.Unlike s.pats) : Good s := ⟨x.ok, x.pn, x.wn, hu⟩
theorem q_fldset {f : Str} (k : te σ H fun y H1 => ta σ H1 fun x H2 => ∃ a C dx fs, x = .ref a ∧ H2 a = some (.ins C dx fs) ∧ Cls K C ∧ NoAttr K C f ∧ fs.length < 1000 ∧ tz D σ (upd H2 a (.ins C dx (putF f y fs)))) : tSeq (sFld K ta te f) tz D σ H := k
theorem t_gname {i : Nat} {Qn : L2.St → Hp → Prop} (k : Qn (σ.set i (some v)) H) : gName i v σ H Qn := k
def t_fault (C : Addr) : Addr → Value → Option Addr → TS := fun a cls d => tRet (tLst (tCons (tC (.int 0)) (tCons (tFltFld C "code" a cls d (tVar 3)) (tCons (tFltFld C "place" a cls d (tVar 3)) tNil))))
def spLoad (T : Tx K mg) : Sp := fun vs H Q _ => ∃ (ho dho a : Addr) (o : Vahypd.Obj) (b : Bytes), vs = [.ref ho, .ref a] ∧ StAt T H ho dho o ∧ SqL K H a (tx b) ∧ match Vahypa.read b with
  | .error f => RetL (enc (VahypBase.faulty f)) H Q
  | .ok s => ∀ p ha tt el H2, H p = none → H ha = none → (∀ c u, c ≠ ho → H c = some u → H2 c = some u) → H2 ho = some (.ins T.cHolder.C dho (hoF (.ref ha) (.ref tt))) → H el = none → LstEl T H2 ha s el → TabAt T H2 tt (Vahypd.tableOf s.pats) → Good s → H2 p = some (.lst (enc ⟨1, VahypBase.nats [s.words.length, s.pats.length]⟩)) → Q (.ref p) H2
theorem ok_load (T : Tx K mg) : FnOk P w K mg base CX0 14 T.load.f T.load.fd ["holder", "text"] (spLoad T) := by
  have GR : FnOk P w K mg base (L2.CX P w) 13 _ _ _ _ := (ok_read_list T).mono (by decide)
  have GP : FnOk P w K mg base CX0 13 _ _ _ _ := ok_packed T
  refine T.load.F.ok scLoad (fun vs H Q E h => ?_) (fun cdv A outer s H vs Q E hr h => ⟨_,
    pss_cons (ps_try_as (i := 3) (tb := fun W => tAsg (tCallS (spReadList T) (WE W) (tCons (tVar 1) tNil)) (gName 2)) (ts := t_fault T.cF) (Wout := fun _ _ _ _ => False) rfl rfl scLoad.nd rfl rfl ⟨rfl, by decide, Or.inl T.flt.gC⟩ takes0
      (fun W pn xe tk _ => pss_one (ps_set (i := 2) scLoad.nd rfl (Or.inl rfl) (by exact (pe_callS GR hr rfl T.read_list.m T.read_list.F.kp (bdReadList T.read_list.F) (fun σ => passAt tk σ) (by exact (pa_cons (pv 1) pa_nil))))))
      (fun a oe cls d pn hz hf => pss_one (ps_ret (by exact (pe_lst (pa_cons pe_int (pa_cons (pe_fltFld T.flt T.flt.noC hz hf (pv 3)) (pa_cons (pe_fltFld T.flt T.flt.noP hz hf (pv 3)) pa_nil))))))))
    (pss_cons (ps_fld (pv 0) (pv 2) rfl)
    (pss_cons (ps_fld (pv 0) (pe_fn T.packed GP hr (bdPacked T.packed.F) pass0 (pa_cons (pe_fld (pv 2) rfl) pa_nil)) rfl)
    (pss_one (ps_ret (pe_lst (pa_cons pe_int (pa_cons (pe_len T.b_len (pe_fld (pv 2) rfl)) (pa_cons (pe_len T.b_len (pe_fld (pv 2) rfl)) pa_nil)))))))), ?_⟩)
  · obtain ⟨ho, dho, a, o, b, rfl, _⟩ := h
    rfl
  obtain ⟨ho, dho, a, o, b, rfl, hSt, hS, k⟩ := h
  refine (ev_var (v := .ref a) rfl) H (Ex.refl _) _ fun H1 e1 => ?_
  refine ⟨a, b, rfl, ex_l e1 hS, ?_⟩
  cases hrd : Vahypa.read b with
  | error f =>
    rw [hrd] at k
    intro d H2 e2 h2
    refine ⟨true, T.flt.te, fun _ a0 _ => ?_, fun q => Bool.noConfusion q⟩
    refine ⟨_, rfl, rfl, rfl, d, _, _, rfl, h2, fF_code, _, rfl, rfl, rfl, d, _, _, rfl, h2, fF_place, (by show 3 ≤ sizeLine; exact sz_of (by decide)), fun p hp => ?_⟩
    exact k p _ (fresh_back (e1.trans e2) hp) ((e1.trans e2).trans (Ex.new hp)) upd_same
  | ok s =>
    rw [hrd] at k
    intro h dh wl el wrefs erefs G2 M2 eG2 a2 nh nwl nel hd
    have e2 : Ex H (over G2 M2) := (e1.trans eG2).trans (ex_over a2)
    obtain ⟨H2, hH2⟩ : ∃ H2, H2 = over G2 M2 := ⟨_, rfl⟩
    have hL := hd.lst a2
    have hg := hd.good (Mx.read_unlike hrd)
    rw [← hH2] at e2 hL ⊢
    clear hH2 hd a2 nwl eG2
    refine t_gname ?_
    dsimp only
    refine q_fldset ?_
    refine (ev_var (v := .ref h) rfl) H2 (Ex.refl _) _ fun H3 e3 => ?_
    refine (ev_var (v := .ref ho) rfl) H3 (Ex.refl _) _ fun H4 e4 => ?_
    have e24 := e3.trans e4
    obtain ⟨hv, tv, hho⟩ := (hSt.mono (e2.trans e24)).is
    refine ⟨ho, T.cHolder.C, dho, hoF hv tv, rfl, hho, T.cHolder.cl, T.nHolder_held, (by show 2 < 1000; decide), ?_⟩
    rw [ho_held]
    have hL5 : LstEl T (upd H4 ho (.ins T.cHolder.C dho (hoF (.ref h) tv))) h s el := IsIn.list ⟨_, _, _, _, hho⟩ (hL.mono e24)
    obtain ⟨H5, hH5⟩ : ∃ H5, H5 = upd H4 ho (.ins T.cHolder.C dho (hoF (.ref h) tv)) := ⟨_, rfl⟩
    have k5 : H5 ho = some (.ins T.cHolder.C dho (hoF (.ref h) tv)) := by rw [hH5, upd_same]
    have keep5 : ∀ c u, c ≠ ho → H c = some u → H5 c = some u := fun c u hc hu => by rw [hH5, upd_ne hc]; exact (e2.trans e24) c u hu
    have fresh5 : ∀ c, H5 c = none → H c = none := fun c hc => by
      by_cases z : c = ho
      · rw [z, k5] at hc
        cases hc
      · rw [hH5, upd_ne z] at hc
        exact fresh_back (e2.trans e24) hc
    rw [← hH5] at hL5 ⊢
    clear hH5
    refine q_fldset ?_
    have hL5' := hL5
    obtain ⟨dh', wl', wrefs', g1, g2, g3, g4⟩ := hL5'
    refine t_call (ea_cons (ev_fld (ev_var rfl) g1 T.cPatternList.cl T.nPatternList_entries (v := .ref el) (by rfl)) ea_nil) fun H6 e6 => ⟨el, Mx.entries s.pats, rfl, g4.list.mono e6, by rw [entries_len]; exact hg.pn, Mx.entries_short hg.ok, fun tt H7 htt e7 hTab => ?_⟩
    refine (ev_var (v := .ref ho) rfl) H7 (Ex.refl _) _ fun H8 e8 => ?_
    have e58 := (e6.trans e7).trans e8
    have k8 := e58 _ _ k5
    refine ⟨ho, T.cHolder.C, dho, hoF (.ref h) tv, rfl, k8, T.cHolder.cl, T.nHolder_table, (by show 2 < 1000; decide), ?_⟩
    rw [ho_table]
    have i8 : IsIn H8 ho "held" := ⟨_, _, _, _, k8⟩
    obtain ⟨H9, hH9⟩ : ∃ H9, H9 = upd H8 ho (.ins T.cHolder.C dho (hoF (.ref h) (.ref tt))) := ⟨_, rfl⟩
    have hL9 : LstEl T H9 h s el := by rw [hH9]; exact i8.list (hL5.mono e58)
    have hT9 : TabAt T H9 tt (Vahypd.tableOf s.pats) := by rw [hH9]; exact i8.tab (.inl rfl) (hTab.mono e8)
    have k9 : H9 ho = some (.ins T.cHolder.C dho (hoF (.ref h) (.ref tt))) := by rw [hH9, upd_same]
    have keep9 : ∀ c u, c ≠ ho → H c = some u → H9 c = some u := fun c u hc hu => by rw [hH9, upd_ne hc]; exact e58 c u (keep5 c u hc hu)
    have fresh9 : ∀ c, H9 c = none → H c = none := fun c hc => by
      by_cases z : c = ho
      · rw [z, k9] at hc
        cases hc
      · rw [hH9, upd_ne z] at hc
        exact fresh5 c (fresh_back e58 hc)
    rw [← hH9]
    clear hH9
    have hL9' := hL9
    obtain ⟨dh2, wl2, wrefs2, j1, j2, j3, erefs2, j4, j5⟩ := hL9'
    refine s_retL (xs := enc ⟨1, VahypBase.nats [s.words.length, s.pats.length]⟩) ?_ fun p H10 hp e10 h10 => ?_
    · refine el_lst (vs := [.int 1, .int ((s.words.length : Nat) : Int), .int ((s.pats.length : Nat) : Int)]) (ea_cons ev_c (ea_cons (ev_is (ev_len (ev_fld (ev_var rfl) j1 T.cPatternList.cl T.nPatternList_words (v := .ref wl2) (by rfl)) j2) (by rw [j3])) (ea_cons (ev_is (ev_len (ev_fld (ev_var rfl) j1 T.cPatternList.cl T.nPatternList_entries (v := .ref el) (by rfl)) (sq_of j4)) (by rw [j5.1, entries_len])) ea_nil))) (by show 3 ≤ 100000; decide)
    · exact k p h tt el H10 (fresh9 p hp) (fresh_back e1 nh) (fun c u hc hu => e10 c u (keep9 c u hc hu)) (e10 _ _ k9) (fresh_back e1 nel) (hL9.mono e10) (hT9.mono e10) hg h10
end
end Pt
set_option Elab.async false
set_option linter.all false
set_option maxRecDepth 100000
set_option maxHeartbeats 2000000
namespace Pt
open PySem PySem.Spec PyProof.Rows L2 Evl
open VahypBase (Bytes)
open Vahypd (Node Table)
theorem hF_entries {l r : Nat} {wl el el2 : Addr} : putF ("entries" : Str) (.ref el2) (hF l r wl el) = hF l r wl el2 := by
  have h1 : ¬ ("left" : Str) = "entries" := by decide +kernel
  have h2 : ¬ ("right" : Str) = "entries" := by decide +kernel
  have h3 : ¬ ("words" : Str) = "entries" := by decide +kernel
  simp [putF, hF, h1, h2, h3]
theorem canon_ok {ps : List Vahypa.Pat} (h : ∀ p ∈ ps, Mx.OkPat p) : Mx.Canon (Vahypd.tableOf ps).1 := Mx.build_canon (Mx.entries_short h)
section
variable {P : Program} {w : World} {K : PySem.W.Frag} {mg : Str → Option Value} {base : Heap} {X : Cx}
variable {σ : L2.St} {H H' : Hp} {ta tb tc te tl : TE} {t : TT} {x y z v : V} {C : Addr} {D : Ends} {tz : TS}
theorem enc_cat (n : Int) (l : List Int) : enc ⟨n, l⟩ = V.int n :: iv l := rfl
theorem iv_app (l m : List Int) : iv (l ++ m) = iv l ++ iv m := by unfold iv; rw [List.map_append]
/-! ### hold_entries -/
def spHold (T : Tx K mg) : Sp := fun vs H Q _ => ∃ (ho dho ha tt dh wl el l : Addr) (h : Vahypd.Held) (ps : List Vahypa.Pat), vs = [.ref ho, .ref l] ∧ H ho = some (.ins T.cHolder.C dho (hoF (.ref ha) (.ref tt))) ∧ H ha = some (.ins T.cPatternList.C dh (hF h.lst.l h.lst.r wl el)) ∧
  TabAt T H tt h.tab ∧ h.tab = Vahypd.tableOf h.lst.pats ∧ Good h.lst ∧ EntL T H l (Mx.entries ps) ∧ Good { h.lst with pats := ps } ∧
  ∀ p tt2 H2, H p = none → (∀ c u, c ≠ ho → c ≠ ha → H c = some u → H2 c = some u) → H2 ho = some (.ins T.cHolder.C dho (hoF (.ref ha) (.ref tt2))) → H2 ha = some (.ins T.cPatternList.C dh (hF h.lst.l h.lst.r wl l)) → EntL T H2 l (Mx.entries ps) → TabAt T H2 tt2 (Vahypd.tableOf ps) →
    H2 p = some (.lst (enc (Vahypd.changed h ps).2)) → Q (.ref p) H2
theorem ok_hold_entries (T : Tx K mg) : FnOk P w K mg base CX0 14 T.hold_entries.f T.hold_entries.fd ["holder", "entries"] (spHold T) := by
  have GP : FnOk P w K mg base CX0 13 _ _ _ _ := ok_packed T
  have GS : FnOk P w K mg base CX0 13 _ _ _ _ := (ok_patterns_and_sizes T).mono (by decide)
  have GK : FnOk P w K mg base CX0 13 _ _ _ _ := (ok_kept_nodes T).mono (by decide)
  refine T.hold_entries.F.ok scHoldEntries (fun vs H Q E h => ?_) (fun cdv A outer s H vs Q E hr h => ⟨_,
    pss_cons (ps_set (i := 2) scHoldEntries.nd rfl (.inl rfl) (pe_fld (pv 0) rfl))
    (pss_cons (ps_fld (pe_fld (pv 0) rfl) (pv 1) rfl)
    (pss_cons (ps_fld (pv 0) (pe_fn T.packed GP hr (bdPacked T.packed.F) pass0 (pa_cons (pv 1) pa_nil)) rfl)
    (pss_one (ps_ret (pe_op op_cat (pe_fn T.patterns_and_sizes GS hr (bdPatternsAndSizes T.patterns_and_sizes.F) pass0 (pa_cons (pv 0) pa_nil))
      (pe_lst (pa_cons (pe_fn T.kept_nodes GK hr (bdKeptNodes T.kept_nodes.F) pass0 (pa_cons (pv 2) (pa_cons (pe_fld (pv 0) rfl) pa_nil))) pa_nil))))))), ?_⟩)
  · obtain ⟨ho, dho, ha, tt, dh, wl, el, l, h, ps, rfl, _⟩ := h
    rfl
  obtain ⟨ho, dho, ha, tt, dh, wl, el, l, h, ps, rfl, h1, h2, h3, h4, h5, h6, h7, k⟩ := h
  have hne : ha ≠ ho := fun z => by
    rw [z, h1] at h2
    have := Option.some.inj h2
    injection this with _ _ q
    have := congrArg List.length q
    simp [hoF, hF] at this
  refine q_asg (v := .ref tt) (ev_fld (ev_var rfl) h1 T.cHolder.cl T.nHolder_table (by rfl)) fun H1 e1 => ?_
  refine q_fldset ?_
  refine (ev_var (v := .ref l) rfl) H1 (Ex.refl _) _ fun H2 e2 => ?_
  refine (ev_fld (ev_var (v := .ref ho) rfl) ((e1.trans e2) _ _ h1) T.cHolder.cl T.nHolder_held (v := .ref ha) (by rfl)) H2 (Ex.refl _) _ fun H3 e3 => ?_
  have e13 := (e1.trans e2).trans e3
  refine ⟨ha, T.cPatternList.C, dh, hF h.lst.l h.lst.r wl el, rfl, e13 _ _ h2, T.cPatternList.cl, T.nPatternList_entries, (by show 4 < 1000; decide), ?_⟩
  rw [hF_entries]
  have i3 : IsIn H3 ha "left" := ⟨_, _, _, _, e13 _ _ h2⟩
  obtain ⟨H4, hH4⟩ : ∃ H4, H4 = upd H3 ha (.ins T.cPatternList.C dh (hF h.lst.l h.lst.r wl l)) := ⟨_, rfl⟩
  have t4 : TabAt T H4 tt h.tab := by rw [hH4]; exact i3.tab (.inr rfl) (h3.mono e13)
  have l4 : EntL T H4 l (Mx.entries ps) := by rw [hH4]; exact i3.entL (.inr rfl) (h6.mono e13)
  have k4 : H4 ho = some (.ins T.cHolder.C dho (hoF (.ref ha) (.ref tt))) := by rw [hH4, upd_ne (Ne.symm hne)]; exact e13 _ _ h1
  have a4 : H4 ha = some (.ins T.cPatternList.C dh (hF h.lst.l h.lst.r wl l)) := by rw [hH4, upd_same]
  have keep4 : ∀ c u, c ≠ ha → H c = some u → H4 c = some u := fun c u hc hu => by rw [hH4, upd_ne hc]; exact e13 c u hu
  have fresh4 : ∀ c, H4 c = none → H c = none := fun c hc => by
    by_cases z : c = ha
    · rw [z, a4] at hc
      cases hc
    · rw [hH4, upd_ne z] at hc
      exact fresh_back e13 hc
  rw [← hH4]
  clear hH4
  refine q_fldset ?_
  refine t_call (ea_cons (ev_var (v := .ref l) rfl) ea_nil) fun H5 e5 => ⟨l, Mx.entries ps, rfl, l4.list.mono e5, by rw [entries_len]; exact h7.pn, Mx.entries_short h7.ok, fun tt2 H6 htt2 e6 hTab => ?_⟩
  have hTab : TabAt T H6 tt2 (Vahypd.tableOf ps) := hTab
  refine (ev_var (v := .ref ho) rfl) H6 (Ex.refl _) _ fun H7 e7 => ?_
  have e57 := (e5.trans e6).trans e7
  have k7 := e57 _ _ k4
  refine ⟨ho, T.cHolder.C, dho, hoF (.ref ha) (.ref tt), rfl, k7, T.cHolder.cl, T.nHolder_table, (by show 2 < 1000; decide), ?_⟩
  rw [ho_table]
  have i7 : IsIn H7 ho "held" := ⟨_, _, _, _, k7⟩
  obtain ⟨H8, hH8⟩ : ∃ H8, H8 = upd H7 ho (.ins T.cHolder.C dho (hoF (.ref ha) (.ref tt2))) := ⟨_, rfl⟩
  have t8 : TabAt T H8 tt h.tab := by rw [hH8]; exact i7.tab (.inl rfl) (t4.mono e57)
  have l8 : EntL T H8 l (Mx.entries ps) := by rw [hH8]; exact i7.entL (.inl rfl) (l4.mono e57)
  have n8 : TabAt T H8 tt2 (Vahypd.tableOf ps) := by rw [hH8]; exact i7.tab (.inl rfl) (hTab.mono e7)
  have k8 : H8 ho = some (.ins T.cHolder.C dho (hoF (.ref ha) (.ref tt2))) := by rw [hH8, upd_same]
  have a8 : H8 ha = some (.ins T.cPatternList.C dh (hF h.lst.l h.lst.r wl l)) := by rw [hH8, upd_ne hne]; exact e57 _ _ a4
  have keep8 : ∀ c u, c ≠ ho → c ≠ ha → H c = some u → H8 c = some u := fun c u hc hc2 hu => by rw [hH8, upd_ne hc]; exact e57 c u (keep4 c u hc2 hu)
  have fresh8 : ∀ c, H8 c = none → H c = none := fun c hc => by
    by_cases z : c = ho
    · rw [z, k8] at hc
      cases hc
    · rw [hH8, upd_ne z] at hc
      exact fresh4 c (fresh_back e57 hc)
  rw [← hH8]
  clear hH8
  obtain ⟨g, hg⟩ : ∃ g, g = Vahypd.held { h.lst with pats := ps } := ⟨_, rfl⟩
  have hgl : g.lst = { h.lst with pats := ps } := by rw [hg]; rfl
  have hgt : g.tab = Vahypd.tableOf ps := by rw [hg]; rfl
  have hA : HoAt T H8 ho g := ⟨dho, ha, tt2, k8, by rw [hgl]; exact ⟨dh, wl, l, a8, l8⟩, by rw [hgt]; exact n8, by rw [hgt, hgl], by rw [hgl]; exact h7⟩
  have hch : enc (Vahypd.changed h ps).2 = enc (Vahypd.looked g .table) ++ [V.int ((Vahypd.kept h.tab.1 (Vahypd.tableOf ps).1 : Nat) : Int)] := by
    have e : (Vahypd.changed h ps).2 = ⟨(ps.length : Int), Vahypd.sizes g ++ VahypBase.nats [Vahypd.kept h.tab.1 g.tab.1]⟩ := by rw [hg]; rfl
    have e2 : Vahypd.looked g .table = ⟨(g.lst.pats.length : Int), Vahypd.sizes g⟩ := rfl
    rw [e, e2, enc_cat, enc_cat, iv_app, hgt, hgl, iv_nats]
    rfl
  have ok7 : ∀ p ∈ ps, Mx.OkPat p := h7.ok
  have hlen : h.tab.1.length ≤ 321 := by rw [h4]; exact Mx.table_len h5.pn
  have hlen2 : (Vahypd.tableOf ps).1.length ≤ 321 := Mx.table_len h7.pn
  refine s_retL (xs := enc (Vahypd.changed h ps).2) ?_ fun p H9 hp e9 h9 => k p tt2 H9 (fresh8 p hp) (fun c u hc hc2 hu => e9 c u (keep8 c u hc hc2 hu)) (e9 _ _ k8) (e9 _ _ a8) (l8.mono e9) (n8.mono e9) h9
  rw [hch]
  refine el_catL (fun H9 e9 Q9 q9 => t_fn (ea_cons (ev_var rfl) ea_nil) fun H10 e10 => ⟨ho, g, rfl, hA.mono (e9.trans e10), fun p H11 hp e11 h11 => q9 p H11 (fresh_back e10 hp) (e10.trans e11) h11⟩) (el_lst (ea_cons (fun H9 e9 Q9 q9 => ?_) ea_nil) (by show 1 ≤ 100000; decide)) ?_
  · refine t_fn (vs := [.ref tt, .ref tt2]) (ea_cons (ev_var rfl) (ea_cons (ev_fld (ev_var (v := .ref ho) rfl) (e9 _ _ k8) T.cHolder.cl T.nHolder_table (v := .ref tt2) (by rfl)) ea_nil)) fun H10 e10 => ?_
    refine ⟨tt, tt2, h.tab, Vahypd.tableOf ps, rfl, t8.mono (e9.trans e10), n8.mono (e9.trans e10), by rw [h4]; exact canon_ok h5.ok, canon_ok ok7, by omega, by omega, fun n hn => ?_, fun H11 e11 => q9 H11 (e10.trans e11)⟩
    rw [h4] at hn
    exact Nat.le_trans (Mx.table_small h5.ok h5.pn n hn).2 (by decide)
  · have : (enc (Vahypd.looked g .table)).length = 5 := rfl
    rw [this]
    show 5 + 1 ≤ 100000
    decide
end
end Pt
set_option Elab.async false
set_option linter.all false
set_option maxRecDepth 100000
set_option maxHeartbeats 2000000
namespace Pt
open PySem PySem.Spec PyProof.Rows L2 Evl
open VahypBase (Bytes)
open Vahypd (Node Table)
section
variable {P : Program} {w : World} {K : PySem.W.Frag} {mg : Str → Option Value} {base : Heap} {X : Cx}
variable {σ : L2.St} {H H' : Hp} {ta tb tc te tl : TE} {t : TT} {x y z v : V} {C : Addr} {D : Ends} {tz : TS}
theorem s_retK (k : te σ H D.rt) : tRet te D σ H := k
/-- the holder and what it holds, place by place -/
def HoH (T : Tx K mg) (H : Hp) (ho dho ha dh wl el tt : Addr) (h : Vahypd.Held) : Prop := H ho = some (.ins T.cHolder.C dho (hoF (.ref ha) (.ref tt))) ∧ H ha = some (.ins T.cPatternList.C dh (hF h.lst.l h.lst.r wl el)) ∧
  TabAt T H tt h.tab ∧ h.tab = Vahypd.tableOf h.lst.pats ∧ Good h.lst ∧ EntL T H el (Mx.entries h.lst.pats)
theorem HoH.mono {T : Tx K mg} {ho dho ha dh wl el tt : Addr} {h : Vahypd.Held} (a : HoH T H ho dho ha dh wl el tt h) (e : Ex H H') : HoH T H' ho dho ha dh wl el tt h :=
  ⟨e _ _ a.1, e _ _ a.2.1, a.2.2.1.mono e, a.2.2.2.1, a.2.2.2.2.1, a.2.2.2.2.2.mono e⟩
theorem HoH.ho {T : Tx K mg} {ho dho ha dh wl el tt : Addr} {h : Vahypd.Held} (a : HoH T H ho dho ha dh wl el tt h) : HoAt T H ho h :=
  ⟨dho, ha, tt, a.1, ⟨dh, wl, el, a.2.1, a.2.2.2.2.2⟩, a.2.2.1, a.2.2.2.1, a.2.2.2.2.1⟩
/-- other patterns are held: what's kept, where it is, what's answered -/
def Chg (T : Tx K mg) (H : Hp) (ho dho ha dh wl : Addr) (h : Vahypd.Held) (ps : List Vahypa.Pat) (Q : VK) : Prop :=
  ∀ p el2 tt2 H2, H p = none → H el2 = none → (∀ c u, c ≠ ho → c ≠ ha → H c = some u → H2 c = some u) → HoH T H2 ho dho ha dh wl el2 tt2 (Vahypd.held { h.lst with pats := ps }) → H2 p = some (.lst (enc (Vahypd.changed h ps).2)) → Q (.ref p) H2
theorem Chg.grow {T : Tx K mg} {ho dho ha dh wl : Addr} {h : Vahypd.Held} {ps : List Vahypa.Pat} {Q : VK} (k : Chg T H ho dho ha dh wl h ps Q) (e : Ex H H') : Chg T H' ho dho ha dh wl h ps Q :=
  fun p el2 tt2 H2 hp hel keep g1 g2 => k p el2 tt2 H2 (fresh_back e hp) (fresh_back e hel) (fun c u a b hc => keep c u a b (e _ _ hc)) g1 g2
/-- hold_entries, called where new entries lie -/
theorem hold_call {T : Tx K mg} {ho dho ha dh wl el tt l : Addr} {h : Vahypd.Held} {ps : List Vahypa.Pat} {Q : VK} {E : XK} (a : HoH T H ho dho ha dh wl el tt h) (hl : EntL T H l (Mx.entries ps)) (hg : Good { h.lst with pats := ps }) (H0 : Hp) (e0 : Ex H0 H) (hl0 : H0 l = none)
    (k : Chg T H0 ho dho ha dh wl h ps Q) : spHold T [.ref ho, .ref l] H Q E := by
  refine ⟨ho, dho, ha, tt, dh, wl, el, l, h, ps, rfl, a.1, a.2.1, a.2.2.1, a.2.2.2.1, a.2.2.2.2.1, hl, hg, fun p tt2 H2 hp keep g1 g2 g3 g4 g5 => ?_⟩
  exact k p l tt2 H2 (fresh_back e0 hp) hl0 (fun c u a b hc => keep c u a b (e0 _ _ hc)) ⟨g1, g2, g4, rfl, hg, g3⟩ g5
/-! ### drop -/
def spDrop (T : Tx K mg) : Sp := fun vs H Q _ => ∃ (ho dho ha dh wl el tt : Addr) (h : Vahypd.Held) (n : Int), vs = [.ref ho, .int n] ∧ HoH T H ho dho ha dh wl el tt h ∧ match VahypBase.index n h.lst.pats.length with
  | none => RetL [.int (-2)] H Q
  | some k => Chg T H ho dho ha dh wl h (h.lst.pats.eraseIdx k) Q
theorem good_erase {s : Vahypa.Lst} (h : Good s) (k : Nat) : Good { s with pats := s.pats.eraseIdx k } :=
  ⟨fun p hp => h.ok p (List.mem_of_mem_eraseIdx hp), Nat.le_trans (List.length_eraseIdx_le ..) h.pn, h.wn, Mx.erase_unlike h.ds k⟩
theorem index_none {n : Int} {m : Nat} (h : (decide (n < 0) || decide ((m : Int) ≤ n)) = true) : VahypBase.index n m = none := by
  unfold VahypBase.index
  rw [if_neg]
  rintro ⟨h1, h2⟩
  rcases Bool.or_eq_true_iff.mp h with z | z
  · have := of_decide_eq_true z; omega
  · have := of_decide_eq_true z; omega
theorem index_some {n : Int} {m : Nat} (h : (decide (n < 0) || decide ((m : Int) ≤ n)) = false) : ∃ k : Nat, n = (k : Int) ∧ k < m ∧ VahypBase.index n m = some k := by
  obtain ⟨z1, z2⟩ := Bool.or_eq_false_iff.mp h
  have h1 := of_decide_eq_false z1
  have h2 := of_decide_eq_false z2
  refine ⟨n.toNat, by omega, by omega, ?_⟩
  unfold VahypBase.index
  rw [if_pos ⟨by omega, by omega⟩]
theorem ok_drop (T : Tx K mg) : FnOk P w K mg base CX0 15 T.drop.f T.drop.fd ["holder", "number"] (spDrop T) := by
  have GH : FnOk P w K mg base CX0 14 _ _ _ _ := ok_hold_entries T
  refine T.drop.F.ok scDrop (fun vs H Q E h => ?_) (fun cdv A outer s H vs Q E hr h => ⟨_,
    pss_cons (ps_set (i := 2) scDrop.nd rfl (.inl rfl) (pe_fld (pe_fld (pv 0) rfl) rfl))
    (pss_cons (ps_if (PW.pt (pw_or (pt_cmpR op_lt (pv 1) pe_int (nomark _)) (pw_or1 (pt_cmpR op_ge (pv 1) (pe_len T.b_len (pv 2)) (nomark _))))) (pss_one (ps_ret (pe_lst (pa_cons (pe_un un_neg pe_int) pa_nil)))) pss_nil)
    (pss_one (ps_ret (pe_fn T.hold_entries GH hr (bdHoldEntries T.hold_entries.F) pass0 (pa_cons (pv 0) (pa_cons (pe_op op_cat (pe_slice sl_list (pv 2) po_none (po_some (pv 1))) (pe_slice sl_list (pv 2) (po_some (pe_op op_add (pv 1) pe_int)) po_none)) pa_nil)))))), ?_⟩)
  · obtain ⟨ho, dho, ha, dh, wl, el, tt, h, n, rfl, _⟩ := h
    rfl
  obtain ⟨ho, dho, ha, dh, wl, el, tt, h, n, rfl, hA, k⟩ := h
  have hA0 := hA
  obtain ⟨h1, h2, h3, h4, h5, refs, hL, hR⟩ := hA
  have hlen := entries_len h.lst.pats
  refine q_asg (v := .ref el) (ev_fld (ev_fld (ev_var rfl) h1 T.cHolder.cl T.nHolder_held (v := .ref ha) (by rfl)) h2 T.cPatternList.cl T.nPatternList_entries (by rfl)) fun H1 e1 => ?_
  refine q_when (b := decide (n < 0) || decide ((h.lst.pats.length : Int) ≤ n)) (et_is (et_or (et_test (ev_op (ev_var (v := .int n) rfl) ev_c rv_I0)) fun _ => et_test (ev_op (ev_var (v := .int n) rfl) (ev_is (ev_len (ev_var (v := .ref el) rfl) (sq_of (e1 _ _ hL))) (by rw [hR.1, hlen])) rv_I0)) ?_) (fun hs H2 e2 => ?_) (fun hs H2 e2 => ?_)
  · rfl
  · rw [index_none hs] at k
    exact s_retL (el_lst (vs := [V.int (-2)]) (ea_cons (ev_un ev_c ru_neg) ea_nil) (by show 1 ≤ 100000; decide)) fun p H3 hp e3 h3' => k p H3 (fresh_back (e1.trans e2) hp) ((e1.trans e2).trans e3) h3'
  · obtain ⟨i, rfl, hi, hx⟩ := index_some hs
    rw [hx] at k
    have e12 := e1.trans e2
    have hLs := sq_of (K := K) (e12 _ _ hL)
    have s1 := el_sl (K := K) (te := tVar 2) (tl := tNoPart) (th := tPart (tVar 1)) (σ := [some (.ref ho), some (.int (i : Int)), some (.ref el)]) (H := H2) (a := el) (xs := refs) (lo := none) (hi := some (i : Int)) (ev_var rfl) eo_none (eo_some (ev_var rfl)) hLs
    rw [cut_to] at s1
    have s2 := el_sl (K := K) (te := tVar 2) (tl := tPart (tOp (rI0 fun i j => .int (i + j)) (tVar 1) (tC (.int 1)))) (th := tNoPart) (σ := [some (.ref ho), some (.int (i : Int)), some (.ref el)]) (H := H2) (a := el) (xs := refs) (lo := some ((i + 1 : Nat) : Int)) (hi := none) (ev_var rfl) (eo_some (ev_is (ev_op (ev_var rfl) ev_c rv_I0) (by congr 1))) eo_none hLs
    rw [cut_from] at s2
    refine s_retK ?_
    refine t_callQ ?_
    refine t_cons ?_
    refine (ev_var (v := .ref ho) rfl) H2 (Ex.refl _) _ fun H3 e3 => t_cons ?_
    refine (el_catL s1 s2 (by have := h5.pn; rw [List.length_take, List.length_drop, hR.1]; omega)) H3 e3 _ fun l H4 hl e4 h4' => t_nil ?_
    have e14 := (e12.trans e3).trans e4
    have hE : EntL T H4 l (Mx.entries (h.lst.pats.eraseIdx i)) := by
      rw [Mx.entries_erase]
      have hR4 := hR.mono (R' := EntAt T H4) fun _ _ r => r.mono e14
      exact ⟨_, h4', Rep.app (hR4.take i) (hR4.drop (i + 1))⟩
    exact hold_call (hA0.mono e14) hE (good_erase h5 i) H e14 (fresh_back (e12.trans e3) hl) k
end
end Pt
set_option Elab.async false
set_option linter.all false
set_option maxRecDepth 100000
set_option maxHeartbeats 2000000
namespace Pt
open PySem PySem.Spec PyProof.Rows L2 Evl
open VahypBase (Bytes)
open Vahypd (Node Table)
section
variable {P : Program} {w : World} {K : PySem.W.Frag} {mg : Str → Option Value} {base : Heap} {X : Cx}
variable {σ : L2.St} {H H' : Hp} {ta tb tc te tl : TE} {t : TT} {x y z v : V} {C : Addr} {D : Ends} {tz : TS}
/-! ### add -/
def spAdd (T : Tx K mg) : Sp := fun vs H Q _ => ∃ (ho dho ha dh wl el tt a : Addr) (h : Vahypd.Held) (b : Bytes), vs = [.ref ho, .ref a] ∧ HoH T H ho dho ha dh wl el tt h ∧ SqL K H a (tx b) ∧ b.length ≤ 9000 ∧ match Vahypa.patOf b with
  | none => RetL [.int (-4)] H Q
  | some p => if Vahypa.PATS < (Vahypd.withPat h.lst.pats p).length then RetL [.int (-7)] H Q else Chg T H ho dho ha dh wl h (Vahypd.withPat h.lst.pats p) Q
theorem good_with {s : Vahypa.Lst} {p : Vahypa.Pat} (h : Good s) (hp : Mx.OkPat p) (hz : ¬ Vahypa.PATS < (Vahypd.withPat s.pats p).length) : Good { s with pats := Vahypd.withPat s.pats p } :=
  ⟨Mx.with_ok h.ok hp, by have : Vahypa.PATS = 40 := rfl; show (Vahypd.withPat s.pats p).length ≤ 40; omega, h.wn, Mx.with_unlike h.ok hp h.ds⟩
theorem ok_add (T : Tx K mg) : FnOk P w K mg base CX0 15 T.add.f T.add.fd ["holder", "pattern"] (spAdd T) := by
  have GH : FnOk P w K mg base CX0 14 _ _ _ _ := ok_hold_entries T
  have GP : FnOk P w K mg base CX0 14 _ _ _ _ := (ok_pattern_entry T).mono (by decide)
  have GW : FnOk P w K mg base CX0 14 _ _ _ _ := (ok_with_entry T).mono (by decide)
  refine T.add.F.ok scAdd (fun vs H Q E h => ?_) (fun cdv A outer s H vs Q E hr h => ⟨_,
    pss_cons (ps_set (i := 2) scAdd.nd rfl (.inl rfl) (pe_fn T.pattern_entry GP hr (bdPatternEntry T.pattern_entry.F) pass0 (pa_cons (pv 1) pa_nil)))
    (pss_cons (ps_if (pt_cmpR op_isN (pv 2) pe_non (nomark _)) (pss_one (ps_ret (pe_lst (pa_cons (pe_un un_neg pe_int) pa_nil)))) pss_nil)
    (pss_cons (ps_set (i := 3) scAdd.nd rfl (.inl rfl) (pe_fn T.with_entry GW hr (bdWithEntry T.with_entry.F) pass0 (pa_cons (pe_fld (pe_fld (pv 0) rfl) rfl) (pa_cons (pv 2) pa_nil))))
    (pss_cons (ps_if (pt_cmpR op_gt (pe_len T.b_len (pv 3)) (pe_k T.k_MOST_PATTERNS) (nomark _)) (pss_one (ps_ret (pe_lst (pa_cons (pe_un un_neg pe_int) pa_nil)))) pss_nil)
    (pss_one (ps_ret (pe_fn T.hold_entries GH hr (bdHoldEntries T.hold_entries.F) pass0 (pa_cons (pv 0) (pa_cons (pv 3) pa_nil)))))))), ?_⟩)
  · obtain ⟨ho, dho, ha, dh, wl, el, tt, a, h, b, rfl, _⟩ := h
    rfl
  obtain ⟨ho, dho, ha, dh, wl, el, tt, a, h, b, rfl, hA, hS, hb, k⟩ := h
  refine q_ask ?_
  refine t_fn (ea_cons (ev_var (v := .ref a) rfl) ea_nil) fun H1 e1 => ⟨a, b, rfl, ex_l e1 hS, hb, ?_⟩
  cases hp : Vahypa.patOf b with
  | none =>
    rw [hp] at k
    intro H2 e2
    have e12 := e1.trans e2
    refine q_when (b := true) (et_test (ev_op (ev_var (v := .non) rfl) ev_c rv_isN)) (fun _ H3 e3 => ?_) (fun z => nomatch z)
    exact s_retL (el_lst (vs := [V.int (-4)]) (ea_cons (ev_un ev_c ru_neg) ea_nil) (by show 1 ≤ 100000; decide)) fun p H4 hp e4 h4 => k p H4 (fresh_back (e12.trans e3) hp) ((e12.trans e3).trans e4) h4
  | some pt =>
    rw [hp] at k
    dsimp only at k
    have hpo := Mx.patOf_ok hp
    intro o H2 e2 hN
    have hO : EntAt T H2 o (Vahypd.entryOf pt) := hN.at_
    have e12 := e1.trans e2
    refine q_when (b := false) (et_test (ev_op (ev_var (v := .ref o) rfl) ev_c rv_isN)) (fun z => nomatch z) (fun _ H3 e3 => ?_)
    have e13 := e12.trans e3
    have hA3 := hA.mono e13
    obtain ⟨h1, h2, h3, h4, h5, h6⟩ := hA3
    refine q_ask ?_
    refine t_fn (vs := [.ref el, .ref o]) (ea_cons (ev_fld (ev_fld (ev_var rfl) h1 T.cHolder.cl T.nHolder_held (v := .ref ha) (by rfl)) h2 T.cPatternList.cl T.nPatternList_entries (by rfl)) (ea_cons (ev_var rfl) ea_nil)) fun H4 e4 => ⟨el, o, Mx.entries h.lst.pats, Vahypd.entryOf pt, rfl, h6.mono e4, hO.mono (e3.trans e4), by rw [entries_len]; exact h5.pn, fun l H5 hl e5 hE => ?_⟩
    have e15 := (e13.trans e4).trans e5
    rw [← Mx.with_eq h5.ok hpo h5.ds] at hE
    have hE0 := hE
    obtain ⟨refs, hL, hR⟩ := hE0
    have hlen := entries_len (Vahypd.withPat h.lst.pats pt)
    have ePATS : Vahypa.PATS = 40 := rfl
    refine q_when (b := decide (40 < (Vahypd.withPat h.lst.pats pt).length)) (et_is (et_test (ev_op (ev_is (ev_len (ev_var (v := .ref l) rfl) (sq_of hL)) (by rw [hR.1, hlen])) ev_c rv_I0)) ?_) (fun hs H6 e6 => ?_) (fun hs H6 e6 => ?_)
    · rw [Bool.eq_iff_iff, decide_eq_true_eq, decide_eq_true_eq]
      omega
    · rw [if_pos (by rw [ePATS]; exact of_decide_eq_true hs)] at k
      exact s_retL (el_lst (vs := [V.int (-7)]) (ea_cons (ev_un ev_c ru_neg) ea_nil) (by show 1 ≤ 100000; decide)) fun p H7 hp e7 h7 => k p H7 (fresh_back (e15.trans e6) hp) ((e15.trans e6).trans e7) h7
    · have hz : ¬ Vahypa.PATS < (Vahypd.withPat h.lst.pats pt).length := by rw [ePATS]; exact of_decide_eq_false hs
      rw [if_neg hz] at k
      refine s_retK ?_
      refine t_fn (vs := [.ref ho, .ref l]) (ea_cons (ev_var rfl) (ea_cons (ev_var rfl) ea_nil)) fun H7 e7 => ?_
      have e17 := (e15.trans e6).trans e7
      exact hold_call (hA.mono e17) (hE.mono (e6.trans e7)) (good_with h5 hpo hz) H e17 (fresh_back (e13.trans e4) hl) k
/-! ### find_pattern -/
def spFind (T : Tx K mg) : Sp := fun vs H Q _ => ∃ (ho a : Addr) (h : Vahypd.Held) (b : Bytes), vs = [.ref ho, .ref a] ∧ HoAt T H ho h ∧ SqL K H a (tx b) ∧ b.length ≤ 9000 ∧ RetL (enc (Vahypd.looked h (.find b))) H Q
theorem signs_len {p : Vahypa.Pat} (h : Mx.OkPat p) : (Vahypd.signsOf p).length ≤ 8 := by
  have := Mx.entries_short (ps := [p]) (fun q hq => by rw [List.mem_singleton.mp hq]; exact h) (Vahypd.entryOf p) (List.mem_singleton.mpr rfl)
  exact this
theorem ok_find_pattern (T : Tx K mg) : FnOk P w K mg base CX0 5 T.find_pattern.f T.find_pattern.fd ["holder", "pattern"] (spFind T) := by
  have GP : FnOk P w K mg base CX0 4 _ _ _ _ := ok_pattern_entry T
  have GD : FnOk P w K mg base CX0 4 _ _ _ _ := (ok_digits_at T).mono (by decide)
  have GA : FnOk P w K mg base CX0 4 _ _ _ _ := (ok_nodes_alongT T).mono (by decide)
  refine T.find_pattern.F.ok scFindPattern (fun vs H Q E h => ?_) (fun cdv A outer s H vs Q E hr h => ⟨_,
    pss_cons (ps_set (i := 2) scFindPattern.nd rfl (.inl rfl) (pe_fn T.pattern_entry GP hr (bdPatternEntry T.pattern_entry.F) pass0 (pa_cons (pv 1) pa_nil)))
    (pss_cons (ps_if (pt_cmpR op_isN (pv 2) pe_non (nomark _)) (pss_one (ps_ret (pe_lst (pa_cons (pe_un un_neg pe_int) pa_nil)))) pss_nil)
    (pss_cons (ps_set (i := 3) scFindPattern.nd rfl (.inl rfl) (pe_cmpR op_notN (pe_fn T.digits_at GD hr (bdDigitsAt T.digits_at.F) pass0 (pa_cons (pe_fld (pv 0) rfl) (pa_cons (pe_fld (pv 2) rfl) pa_nil))) pe_non (nomark _)))
    (pss_one (ps_ret (pe_op op_cat (pe_lst (pa_cons (pe_ifExp (pt_val (pv 3)) pe_int pe_int) pa_nil)) (pe_fn T.nodes_along GA hr (bdNodesAlong T.nodes_along.F) pass0 (pa_cons (pe_fld (pv 0) rfl) (pa_cons (pe_fld (pv 2) rfl) pa_nil)))))))), ?_⟩)
  · obtain ⟨ho, a, h, b, rfl, _⟩ := h
    rfl
  obtain ⟨ho, a, h, b, rfl, hA, hS, hb, k⟩ := h
  obtain ⟨dho, ha, tt, h1, hl, h3, h4, h5⟩ := hA
  refine q_ask ?_
  refine t_fn (ea_cons (ev_var (v := .ref a) rfl) ea_nil) fun H1 e1 => ⟨a, b, rfl, ex_l e1 hS, hb, ?_⟩
  cases hp : Vahypa.patOf b with
  | none =>
    have e : enc (Vahypd.looked h (.find b)) = [V.int (-4)] := by
      simp only [Vahypd.looked, hp]
      rfl
    rw [e] at k
    intro H2 e2
    have e12 := e1.trans e2
    refine q_when (b := true) (et_test (ev_op (ev_var (v := .non) rfl) ev_c rv_isN)) (fun _ H3 e3 => ?_) (fun z => nomatch z)
    exact s_retL (el_lst (vs := [V.int (-4)]) (ea_cons (ev_un ev_c ru_neg) ea_nil) (by show 1 ≤ 100000; decide)) fun p H4 hp e4 h4 => k p H4 (fresh_back (e12.trans e3) hp) ((e12.trans e3).trans e4) h4
  | some pt =>
    have hpo := Mx.patOf_ok hp
    intro o H2 e2 hN
    have hO : EntAt T H2 o (Vahypd.entryOf pt) := hN.at_
    have e12 := e1.trans e2
    obtain ⟨dx, sa, da, g1, g2, g3⟩ := hO
    have g2 : SqT K H2 sa (nv (Vahypd.signsOf pt)) := g2
    have hz := signs_len hpo
    have hlow : Mx.Low h.tab.1 := by rw [h4]; exact (canon_ok h5.ok).low
    have hfst : h.tab.2 < h.tab.1.length := by rw [h4]; exact Mx.table_first _
    have hin := Mx.nodes_lt hlow.inner (Vahypd.signsOf pt) h.tab.2 hfst
    refine q_when (b := false) (et_test (ev_op (ev_var (v := .ref o) rfl) ev_c rv_isN)) (fun z => nomatch z) (fun _ H3 e3 => ?_)
    have e13 := e12.trans e3
    have hval : ∀ {u3 : Option V} (H4 : Hp), Ex H3 H4 → EvA (tCons (tFld K (tVar 0) "table") (tCons (tFld K (tVar 2) "signs") tNil)) [some (.ref ho), some (.ref a), some (.ref o), u3] H4 [.ref tt, .ref sa] := fun {u3} H4 e4 =>
      ea_cons (ev_fld (ev_var rfl) ((e13.trans e4) _ _ h1) T.cHolder.cl T.nHolder_table (v := .ref tt) (by rfl)) (ea_cons (ev_fld (ev_var (v := .ref o) rfl) ((e3.trans e4) _ _ g1) T.cEntry.cl T.nEntry_signs (v := .ref sa) (by rfl)) ea_nil)
    refine q_asg (v := .bl (Vahypd.findOut h.tab.1 h.tab.2 (Vahypd.signsOf pt)).isSome) (fun H4 e4 Q4 q4 => ?_) fun H4 e4 => ?_
    · refine t_fn (hval H4 e4) fun H5 e5 => ⟨tt, sa, h.tab, Vahypd.signsOf pt, rfl, h3.mono ((e13.trans e4).trans e5), ex_t (e3.trans (e4.trans e5)) g2, by omega, hin, fun u H6 e6 hD => ?_⟩
      cases hf : Vahypd.findOut h.tab.1 h.tab.2 (Vahypd.signsOf pt) with
      | none =>
        rw [hf] at hD q4
        have hu : u = .non := hD
        subst hu
        exact ev_c H6 (Ex.refl _) _ fun H7 e7 => rv_notN H7 (Ex.refl _) _ fun H8 e8 => q4 H8 ((e5.trans e6).trans (e7.trans e8))
      | some dd =>
        rw [hf] at hD q4
        obtain ⟨da, rfl, _⟩ := hD
        exact ev_c H6 (Ex.refl _) _ fun H7 e7 => rv_notN H7 (Ex.refl _) _ fun H8 e8 => q4 H8 ((e5.trans e6).trans (e7.trans e8))
    · have e14 := e13.trans e4
      refine s_retL (xs := enc (Vahypd.looked h (.find b))) ?_ fun p H5 hp e5 h5' => k p H5 (fresh_back e14 hp) (e14.trans e5) h5'
      have e : enc (Vahypd.looked h (.find b)) = [V.int (if (Vahypd.findOut h.tab.1 h.tab.2 (Vahypd.signsOf pt)).isSome = true then 1 else 0)] ++ nv (Vahypd.nodesBy h.tab.1 h.tab.2 (Vahypd.signsOf pt)) := by
        simp only [Vahypd.looked, hp]
        show V.int _ :: iv (VahypBase.nats _) = _
        rw [iv_nats]
        rfl
      rw [e]
      refine el_catL (el_lst (ea_cons (ev_ifI (et_B (ev_var (v := .bl (Vahypd.findOut h.tab.1 h.tab.2 (Vahypd.signsOf pt)).isSome) rfl)) ev_c ev_c) ea_nil) (by show 1 ≤ 100000; decide)) (fun H5 e5 Q5 q5 => ?_) ?_
      · refine t_fn (hval H5 (e4.trans e5)) fun H6 e6 => ⟨tt, sa, h.tab, Vahypd.signsOf pt, rfl, h3.mono ((e14.trans e5).trans e6), ex_t ((e3.trans e4).trans (e5.trans e6)) g2, by omega, hin, fun p H7 hp e7 h7 => q5 p H7 (fresh_back e6 hp) (e6.trans e7) h7⟩
      · have := Mx.nodes_len h.tab.1 (Vahypd.signsOf pt) h.tab.2
        rw [nv_len]
        show 1 + _ ≤ _
        omega
end
end Pt
set_option Elab.async false
set_option linter.all false
set_option maxRecDepth 100000
set_option maxHeartbeats 2000000
namespace Pt
open PySem PySem.Spec PyProof.Rows L2 Evl
open VahypBase (Bytes)
open Vahypd (Node Table)
section
variable {P : Program} {w : World} {K : PySem.W.Frag} {mg : Str → Option Value} {base : Heap} {X : Cx}
variable {σ : L2.St} {H H' : Hp} {ta tb tc te tl : TE} {t : TT} {x y z v : V} {C : Addr} {D : Ends} {tz : TS}
/-! ### node_and_ends -/
def spNodeEnds (T : Tx K mg) : Sp := fun vs H Q _ => ∃ (ho : Addr) (h : Vahypd.Held) (n : Int), vs = [.ref ho, .int n] ∧ HoAt T H ho h ∧ RetL (enc (Vahypd.looked h (.node n))) H Q
theorem ok_node_and_ends (T : Tx K mg) : FnOk P w K mg base CX0 3 T.node_and_ends.f T.node_and_ends.fd ["holder", "number"] (spNodeEnds T) := by
  have GC : FnOk P w K mg base CX0 2 _ _ _ _ := (ok_counted_ends T).mono (by decide)
  have GT : FnOk P w K mg base CX0 2 _ _ _ _ := (ok_told_node T).mono (by decide)
  refine T.node_and_ends.F.ok scNodeAndEnds (fun vs H Q E h => ?_) (fun cdv A outer s H vs Q E hr h => ⟨_,
    pss_cons (ps_set (i := 2) scNodeAndEnds.nd rfl (.inl rfl) (pe_fld (pe_fld (pv 0) rfl) rfl))
    (pss_cons (ps_if (PW.pt (pw_or (pt_cmpR op_lt (pv 1) pe_int (nomark _)) (pw_or1 (pt_cmpR op_ge (pv 1) (pe_len T.b_len (pv 2)) (nomark _))))) (pss_one (ps_ret (pe_lst (pa_cons (pe_un un_neg pe_int) pa_nil)))) pss_nil)
    (pss_one (ps_ret (pe_op op_cat (pe_lst (pa_cons (pe_ix ix_list (pe_fn T.counted_ends GC hr (bdCountedEnds T.counted_ends.F) pass0 (pa_cons (pe_fld (pv 0) rfl) pa_nil)) (pv 1) (fun _ _ => rfl)) pa_nil))
      (pe_fn T.told_node GT hr (bdToldNode T.told_node.F) pass0 (pa_cons (pe_ix ix_list (pv 2) (pv 1) (fun _ _ => rfl)) pa_nil)))))), ?_⟩)
  · obtain ⟨ho, h, n, rfl, _⟩ := h
    rfl
  obtain ⟨ho, h, n, rfl, hA, k⟩ := h
  obtain ⟨dho, ha, tt, h1, hl, h3, h4, h5⟩ := hA
  have h30 := h3
  obtain ⟨dt, nl, refs, g1, g2, g3⟩ := h3
  have hlow : Mx.Low h.tab.1 := by rw [h4]; exact (canon_ok h5.ok).low
  have hC : Mx.Canon h.tab.1 := by rw [h4]; exact canon_ok h5.ok
  have hsm : ∀ n ∈ h.tab.1, SmallN n := by rw [h4]; exact Mx.table_small h5.ok h5.pn
  have hlen : h.tab.1.length ≤ 321 := by rw [h4]; exact Mx.table_len h5.pn
  refine q_asg (v := .ref nl) (ev_fld (ev_fld (ev_var rfl) h1 T.cHolder.cl T.nHolder_table (v := .ref tt) (by rfl)) g1 T.cTable.cl T.nTable_nodes (by rfl)) fun H1 e1 => ?_
  refine q_when (b := decide (n < 0) || decide ((h.tab.1.length : Int) ≤ n)) (et_is (et_or (et_test (ev_op (ev_var (v := .int n) rfl) ev_c rv_I0)) fun _ => et_test (ev_op (ev_var (v := .int n) rfl) (ev_is (ev_len (ev_var (v := .ref nl) rfl) (ex_l e1 g2)) (by rw [g3.1])) rv_I0)) ?_) (fun hs H2 e2 => ?_) (fun hs H2 e2 => ?_)
  · rfl
  · have e : enc (Vahypd.looked h (.node n)) = [V.int (-2)] := by
      simp only [Vahypd.looked, index_none hs]
      rfl
    rw [e] at k
    exact s_retL (el_lst (vs := [V.int (-2)]) (ea_cons (ev_un ev_c ru_neg) ea_nil) (by show 1 ≤ 100000; decide)) fun p H3 hp e3 h3' => k p H3 (fresh_back (e1.trans e2) hp) ((e1.trans e2).trans e3) h3'
  · obtain ⟨i, rfl, hi, hx⟩ := index_some hs
    have hn := List.getElem?_eq_getElem hi
    obtain ⟨nd, hnd⟩ : ∃ nd, nd = h.tab.1[i] := ⟨_, rfl⟩
    rw [← hnd] at hn
    have e : enc (Vahypd.looked h (.node (i : Int))) = [V.int (((Mx.cnts h.tab.1).getD i 0 : Nat) : Int)] ++ nv (Vahypd.nodeRow nd) := by
      simp only [Vahypd.looked, hx, hn, Option.bind_some, Option.map_some]
      have : (Vahypd.spellOut h.tab.1 Vahypd.LONG i).length = (Mx.cnts h.tab.1).getD i 0 := Mx.sp_len hC hi
      show V.int _ :: iv (VahypBase.nats _) = _
      rw [iv_nats, this]
      rfl
    have e12 := e1.trans e2
    refine s_retL (xs := enc (Vahypd.looked h (.node (i : Int)))) ?_ fun p H3 hp e3 h3' => k p H3 (fresh_back e12 hp) (e12.trans e3) h3'
    rw [e]
    have hat : (Mx.cnts h.tab.1)[i]? = some ((Mx.cnts h.tab.1).getD i 0) := by
      rw [List.getD_eq_getElem?_getD, List.getElem?_eq_getElem (by rw [Mx.cnts_len]; exact hi)]
      rfl
    obtain ⟨o, hro, hN⟩ := g3.2 _ _ hn
    have hrow := row_len (hsm nd (List.mem_of_getElem? hn))
    refine el_catL (el_lst (ea_cons (ev_opL1 (xs := nv (Mx.cnts h.tab.1)) (fun H3 e3 Q3 q3 => ?_) (fun H3 e3 => ev_var (v := .int (i : Int)) rfl) fun p H3 hp e3 => rv_ixL (sq_of hp) (atI_nat (nv_at hat))) ea_nil) (by show 1 ≤ 100000; decide)) (fun H3 e3 Q3 q3 => ?_) (by rw [nv_len]; show 1 + _ ≤ _; omega)
    · exact t_fn (ea_cons (ev_fld (ev_var rfl) ((e12.trans e3) _ _ h1) T.cHolder.cl T.nHolder_table (v := .ref tt) (by rfl)) ea_nil) fun H4 e4 => ⟨tt, h.tab, rfl, h30.mono ((e12.trans e3).trans e4), by omega, fun n hn => Nat.le_trans (hsm n hn).2 (by decide), hlow, fun p H5 hp e5 h5 => q3 p H5 (fresh_back e4 hp) (e4.trans e5) h5⟩
    · exact t_fn (vs := [.ref o]) (ea_cons (ev_op (ev_var (v := .ref nl) rfl) (ev_var (v := .int (i : Int)) rfl) (rv_ixL (ex_l (e12.trans e3) g2) (atI_nat hro))) ea_nil) fun H4 e4 => ⟨o, nd, rfl, hN.mono ((e12.trans e3).trans e4), hsm nd (List.mem_of_getElem? hn), fun p H5 hp e5 h5 => q3 p H5 (fresh_back e4 hp) (e4.trans e5) h5⟩
/-! ### check -/
def spCheck (T : Tx K mg) : Sp := fun vs H Q _ => ∃ (ho a : Addr) (h : Vahypd.Held) (l : List Int), vs = [.ref ho, .ref a] ∧ HoAt T H ho h ∧ SqL K H a (iv l) ∧ l.length ≤ 2000 ∧ RetL (enc (Vahypd.looked h (.check l))) H Q
theorem check_is (h : Vahypd.Held) (l : List Int) : Vahypd.looked h (.check l) = match okNums l with
    | none => VahypBase.one (-4)
    | some t => ⟨if Vahypd.tells t h.lst.pats = true then 1 else 0, VahypBase.nats [if Vahypd.proper t = true then 1 else 0, t.1.length]⟩ := by
  unfold okNums
  simp only [Vahypd.looked]
  by_cases hq : l.any (fun z => decide (z < 0)) = true
  · rw [if_pos hq, if_pos hq]
  · rw [if_neg hq, if_neg hq]
    cases Vahypd.readTable (l.map fun z => z.toNat) <;> rfl
def t_nots : Addr → Value → Option Addr → TS := fun _ _ _ => tRet (tLst (tCons (tUn (rU fun i => .int (-i)) (tC (.int 4))) tNil))
theorem ok_check (T : Tx K mg) : FnOk P w K mg base CX0 7 T.check.f T.check.fd ["holder", "numbers"] (spCheck T) := by
  have GR : FnOk P w K mg base (L2.CX P w) 6 _ _ _ _ := ok_read_table T
  have GI : FnOk P w K mg base CX0 6 _ _ _ _ := (ok_is_right T).mono (by decide)
  have GJ : FnOk P w K mg base CX0 6 _ _ _ _ := (ok_tells_just T).mono (by decide)
  refine T.check.F.ok scCheck (fun vs H Q E h => ?_) (fun cdv A outer s H vs Q E hr h => ⟨_,
    pss_cons (ps_try_only (tb := fun W => tAsg (tCallS (spReadTable T) (WE W) (tCons (tVar 1) tNil)) (gName 2)) (ts := t_nots) (Wout := fun _ _ _ _ => False) rfl rfl ⟨rfl, by decide, Or.inl T.nt.g⟩ takes0
      (fun W pn xe tk _ => pss_one (ps_set (i := 2) scCheck.nd rfl (Or.inl rfl) (by exact (pe_callS GR hr rfl T.read_table.m T.read_table.F.kp (bdReadTable T.read_table.F) (fun σ => passAt tk σ) (by exact (pa_cons (pv 1) pa_nil))))))
      (fun a oe cls d pn hz hf => pss_one (ps_ret (by exact (pe_lst (pa_cons (pe_un un_neg pe_int) pa_nil))))))
    (pss_cons (ps_if (pt_not (pt_val (pe_fn T.is_right GI hr (bdIsRight T.is_right.F) pass0 (pa_cons (pv 2) pa_nil)))) (pss_one (ps_ret (pe_lst (pa_cons pe_int (pa_cons pe_int (pa_cons (pe_len T.b_len (pe_fld (pv 2) rfl)) pa_nil)))))) pss_nil)
    (pss_cons (ps_set (i := 3) scCheck.nd rfl (.inl rfl) (pe_fn T.tells_just GJ hr (bdTellsJust T.tells_just.F) pass0 (pa_cons (pv 2) (pa_cons (pe_fld (pe_fld (pv 0) rfl) rfl) pa_nil))))
    (pss_one (ps_ret (pe_lst (pa_cons (pe_ifExp (pt_val (pv 3)) pe_int pe_int) (pa_cons pe_int (pa_cons (pe_len T.b_len (pe_fld (pv 2) rfl)) pa_nil)))))))), ?_⟩)
  · obtain ⟨ho, a, h, l, rfl, _⟩ := h
    rfl
  obtain ⟨ho, a, h, l, rfl, hA, hS, hz, k⟩ := h
  obtain ⟨dho, ha, tt, h1, ⟨dh, wl, el, f1, f4⟩, h3, h4, h5⟩ := hA
  rw [check_is] at k
  refine (ev_var (v := .ref a) rfl) H (Ex.refl _) _ fun H1 e1 => ?_
  refine ⟨a, l, rfl, ex_l e1 hS, hz, ?_⟩
  cases hrd : okNums l with
  | none =>
    rw [hrd] at k
    intro H2 e2
    refine ⟨true, T.nt.te, fun _ a0 _ => ?_, fun q => Bool.noConfusion q⟩
    unfold t_nots
    exact s_retL (el_lst (vs := [V.int (-4)]) (ea_cons (ev_un ev_c ru_neg) ea_nil) (by show 1 ≤ 100000; decide)) fun p H3 hp e3 h3' => k p H3 (fresh_back (e1.trans e2) hp) ((e1.trans e2).trans e3) h3'
  | some tk =>
    rw [hrd] at k
    dsimp only at k
    intro t2 H2 ht2 e2 hT hlen hsm
    have hT0 := hT
    obtain ⟨dt, nl, refs, g1, g2, g3⟩ := hT
    have e12 := e1.trans e2
    refine t_gname ?_
    dsimp only
    have hkz : ∀ n ∈ tk.1, n.kids.length ≤ 1000 := fun n hn => (hsm n hn).2
    have hlenE : ∀ {u3 : Option V} (H3 : Hp), Ex H2 H3 → Ev (tCB (rLenS K) (tCons (tFld K (tVar 2) "nodes") tNil)) [some (.ref ho), some (.ref a), some (.ref t2), u3] H3 (.int (tk.1.length : Int)) := fun {u3} H3 e3 =>
      ev_is (ev_len (ev_fld (ev_var rfl) (e3 _ _ g1) T.cTable.cl T.nTable_nodes (v := .ref nl) (by rfl)) (ex_l e3 g2)) (by rw [g3.1])
    refine q_when (b := !Vahypd.proper tk) (et_not (et_B (fun H3 e3 Q3 q3 => t_fn (ea_cons (ev_var (v := .ref t2) rfl) ea_nil) fun H4 e4 => ⟨.bl (Vahypd.proper tk), ⟨t2, tk, rfl, hT0.mono (e3.trans e4), by omega, hkz, rfl⟩, fun H5 e5 => q3 H5 (e4.trans e5)⟩))) (fun hs H3 e3 => ?_) (fun hs H3 e3 => ?_)
    · have hp : Vahypd.proper tk = false := nb1 hs
      have ht : Vahypd.tells tk h.lst.pats = false := by rw [Mx.tells_eq h5.pn, hp]; rfl
      rw [hp, ht] at k
      have e13 := e12.trans e3
      exact s_retL (xs := [.int 0, .int 0, .int (tk.1.length : Int)]) (el_lst (ea_cons ev_c (ea_cons ev_c (ea_cons (hlenE H3 e3) ea_nil))) (by show 3 ≤ 100000; decide)) fun p H4 hp e4 h4 => k p H4 (fresh_back e13 hp) (e13.trans e4) h4
    · have hp : Vahypd.proper tk = true := nb2 hs
      obtain ⟨hlow, hfst⟩ := Mx.proper_low hp
      have ht : Vahypd.tells tk h.lst.pats = Mx.tellsE tk (Mx.entries h.lst.pats) := by rw [Mx.tells_eq h5.pn, hp]; rfl
      rw [hp, ht] at k
      have e13 := e12.trans e3
      refine q_asg (v := .bl (Mx.tellsE tk (Mx.entries h.lst.pats))) (fun H4 e4 Q4 q4 => ?_) fun H4 e4 => ?_
      · refine t_fn (vs := [.ref t2, .ref el]) (ea_cons (ev_var rfl) (ea_cons (ev_fld (ev_fld (ev_var rfl) ((e13.trans e4) _ _ h1) T.cHolder.cl T.nHolder_held (v := .ref ha) (by rfl)) ((e13.trans e4) _ _ f1) T.cPatternList.cl T.nPatternList_entries (v := .ref el) (by rfl)) ea_nil)) fun H5 e5 => ?_
        exact ⟨_, ⟨t2, el, tk, Mx.entries h.lst.pats, rfl, hT0.mono (e3.trans (e4.trans e5)), (f4.mono ((e13.trans e4).trans e5)).list, by omega, hkz, by rw [entries_len]; exact h5.pn, Mx.entries_short h5.ok, hlow, hfst, rfl⟩, fun H6 e6 => q4 H6 (e5.trans e6)⟩
      · have e14 := e13.trans e4
        refine s_retL (xs := [.int (if Mx.tellsE tk (Mx.entries h.lst.pats) = true then 1 else 0), .int 1, .int (tk.1.length : Int)]) (el_lst (ea_cons (ev_ifI (et_B (ev_var (v := .bl (Mx.tellsE tk (Mx.entries h.lst.pats))) rfl)) ev_c ev_c) (ea_cons ev_c (ea_cons (hlenE H4 (e3.trans e4)) ea_nil))) (by show 3 ≤ 100000; decide)) fun p H5 hp e5 h5' => k p H5 (fresh_back e14 hp) (e14.trans e5) h5'
end
end Pt
set_option Elab.async false
set_option linter.all false
set_option maxRecDepth 100000
set_option maxHeartbeats 2000000
namespace Pt
open PySem PySem.Spec PyProof.Rows L2 Evl
open VahypBase (Bytes)
open Vahypd (Node Table)
section
variable {P : Program} {w : World} {K : PySem.W.Frag} {mg : Str → Option Value} {base : Heap} {X : Cx}
variable {σ : L2.St} {H H' : Hp} {ta tb tc te tl : TE} {t : TT} {x y z v : V} {C : Addr} {D : Ends} {tz tu : TS}
/-! ### Holder() -/
theorem ok_Holder (T : Tx K mg) : FnOk P w K mg base CX0 1 T.cHolder.f T.cHolder.fd ["self"] (spIni T.cHolder.C 0 fun _ => hoF .non .non) := by
  refine T.cHolder.F.ok scHolderInit (fun vs H Q E h => ?_) (fun cdv A outer s H vs Q E hr h => ⟨_, pss_cons (ps_fld (pv 0) pe_non rfl) (pss_one (ps_fld (pv 0) pe_non rfl)), ?_⟩)
  · obtain ⟨p, dx, as, rfl, hl, _⟩ := h
    rw [List.length_cons, hl]
    rfl
  · obtain ⟨p, dx, as, rfl, hl, hp, k⟩ := h
    match as, hl with
    | [], _ =>
      refine ⟨_, rfl, p, T.cHolder.C, dx, [], rfl, hp, T.cHolder.cl, T.nHolder_held, (by show 0 < 1000; decide), ?_⟩
      refine ⟨_, rfl, p, T.cHolder.C, dx, _, rfl, upd_same, T.cHolder.cl, T.nHolder_table, (by show 1 < 1000; decide), ?_⟩
      show Q .non _
      rw [upd_upd, puts2 (by decide +kernel)]
      exact k
/-! ### answer_of -/
/-- the holder between calls -/
def HoL (T : Tx K mg) (H : Hp) (ho dho : Addr) (o : Vahypd.Obj) (ha el : Addr) : Prop := match o with
  | none => H ho = some (.ins T.cHolder.C dho (hoF .non .non))
  | some h => ∃ tt dh wl, HoH T H ho dho ha dh wl el tt h
theorem HoL.mono {T : Tx K mg} {ho dho ha el : Addr} {o : Vahypd.Obj} (a : HoL T H ho dho o ha el) (e : Ex H H') : HoL T H' ho dho o ha el := by
  cases o with
  | none => exact e _ _ a
  | some h =>
    obtain ⟨tt, dh, wl, a⟩ := a
    exact ⟨tt, dh, wl, a.mono e⟩
theorem HoL.st {T : Tx K mg} {ho dho ha el : Addr} {o : Vahypd.Obj} (a : HoL T H ho dho o ha el) : StAt T H ho dho o := by
  cases o with
  | none => exact a
  | some h =>
    obtain ⟨tt, dh, wl, h1, h2, h3, h4, h5, h6⟩ := a
    exact ⟨ha, tt, h1, ⟨dh, wl, el, h2, h6⟩, h3, h4, h5⟩
def RowIs (H : Hp) (v : V) (b : Bytes) : Prop := ∃ a, v = .ref a ∧ H a = some (.lst (tx b)) ∧ b.length ≤ 9000
/-- a call's place and its argument -/
def ArgIs (H : Hp) (c : Int) (v : V) : Vahypd.Call → Prop
  | .load b => c = 0 ∧ RowIs H v b
  | .table => c = 1
  | .store => c = 2
  | .levels b => c = 3 ∧ RowIs H v b
  | .part b => c = 4 ∧ RowIs H v b
  | .add b => c = 5 ∧ RowIs H v b
  | .drop p => c = 6 ∧ v = .int p
  | .check l => c = 7 ∧ ∃ a, v = .ref a ∧ H a = some (.lst (iv l)) ∧ l.length ≤ 2000
  | .find b => c = 8 ∧ RowIs H v b
  | .node k => c = 9 ∧ v = .int k
def AnsQ (T : Tx K mg) (H : Hp) (ho dho ha el : Addr) (r : Vahypd.Obj × VahypBase.Answer) (Q : VK) : Prop :=
  ∀ p H2 ha2 el2, H p = none → (∀ c u, c ≠ ho → c ≠ ha → H c = some u → H2 c = some u) → (ha2 = ha ∨ H ha2 = none) → (el2 = el ∨ H el2 = none) → HoL T H2 ho dho r.1 ha2 el2 → H2 p = some (.lst (enc r.2)) → Q (.ref p) H2
theorem AnsQ.same {T : Tx K mg} {ho dho ha el : Addr} {o : Vahypd.Obj} {a : VahypBase.Answer} {Q : VK} (k : AnsQ T H ho dho ha el (o, a) Q) (hH : HoL T H ho dho o ha el) : RetL (enc a) H Q := fun p H2 hp e h => k p H2 ha el hp (fun c u _ _ hc => e c u hc) (.inl rfl) (.inl rfl) (hH.mono e) h
theorem AnsQ.chg {T : Tx K mg} {ho dho ha el dh wl : Addr} {h : Vahypd.Held} {ps : List Vahypa.Pat} {Q : VK} (k : AnsQ T H ho dho ha el (Vahypd.changed h ps) Q) : Chg T H ho dho ha dh wl h ps Q := fun p el2 tt2 H2 hp hel keep g h2 => k p H2 ha el2 hp keep (.inl rfl) (.inr hel) ⟨tt2, dh, wl, g⟩ h2
theorem AnsQ.same2 {T : Tx K mg} {ho dho ha el : Addr} {o : Vahypd.Obj} {a : VahypBase.Answer} {Q : VK} (k : AnsQ T H ho dho ha el (o, a) Q) (hH : HoL T H ho dho o ha el) (e : Ex H H') : RetL (enc a) H' Q := fun p H2 hp e2 h => k.same hH p H2 (fresh_back e hp) (e.trans e2) h
theorem RetL.grow {xs : List V} {Q : VK} (k : RetL xs H Q) (e : Ex H H') : RetL xs H' Q := fun p H2 hp e2 h => k p H2 (fresh_back e hp) (e.trans e2) h
theorem AnsQ.grow {T : Tx K mg} {ho dho ha el : Addr} {r : Vahypd.Obj × VahypBase.Answer} {Q : VK} (k : AnsQ T H ho dho ha el r Q) (e : Ex H H') : AnsQ T H' ho dho ha el r Q :=
  fun p H2 ha2 el2 hp keep h1 h2 h3 h4 => k p H2 ha2 el2 (fresh_back e hp) (fun c u a b hc => keep c u a b (e _ _ hc)) (h1.imp id (fresh_back e)) (h2.imp id (fresh_back e)) h3 h4
def spAnswer (T : Tx K mg) : Sp := fun vs H Q _ => ∃ (ho dho ha el : Addr) (c : Int) (v : V) (o : Vahypd.Obj) (k : Vahypd.Call), vs = [.ref ho, .int c, v] ∧ HoL T H ho dho o ha el ∧ ArgIs H c v k ∧ AnsQ T H ho dho ha el (Vahypd.step o k) Q
theorem q_not {n m : Int} (h : n ≠ m) (hv : σ[1]? = some (some (.int n))) (kk : ∀ H1, Ex H H1 → tz D σ H1) : tSeq (tIfS (tTest (tOp rEq (tVar 1) (tC (.int m)))) tu tNext) tz D σ H :=
  q_when (b := false) (et_is (et_test (ev_op (ev_var hv) ev_c (rv_eq rfl))) (decide_eq_false fun z => h (V.int.inj z))) (fun z => nomatch z) fun _ H1 e1 => kk H1 e1
theorem q_yes {n m : Int} (h : n = m) (hv : σ[1]? = some (some (.int n))) (kk : ∀ H1, Ex H H1 → tu { D with nx := tz D } σ H1) : tSeq (tIfS (tTest (tOp rEq (tVar 1) (tC (.int m)))) tu tNext) tz D σ H :=
  q_when (b := true) (et_is (et_test (ev_op (ev_var hv) ev_c (rv_eq rfl))) (decide_eq_true (by rw [h]))) (fun _ H1 e1 => kk H1 e1) (fun z => nomatch z)
theorem RowIs.mono {b : Bytes} (h : RowIs H v b) (e : Ex H H') : RowIs H' v b := let ⟨a, h1, h2, h3⟩ := h; ⟨a, h1, e _ _ h2, h3⟩
theorem ArgIs.mono {c : Int} {k : Vahypd.Call} (h : ArgIs H c v k) (e : Ex H H') : ArgIs H' c v k := by
  cases k with
  | load b => exact ⟨h.1, h.2.mono e⟩
  | table => exact h
  | store => exact h
  | levels b => exact ⟨h.1, h.2.mono e⟩
  | part b => exact ⟨h.1, h.2.mono e⟩
  | add b => exact ⟨h.1, h.2.mono e⟩
  | drop p => exact h
  | check l =>
    obtain ⟨h1, a, h2, h3, h4⟩ := h
    exact ⟨h1, a, h2, e _ _ h3, h4⟩
  | find b => exact ⟨h.1, h.2.mono e⟩
  | node p => exact h
theorem ok_answer_of (T : Tx K mg) : FnOk P w K mg base CX0 16 T.answer_of.f T.answer_of.fd ["holder", "call", "argument"] (spAnswer T) := by
  have G0 : FnOk P w K mg base CX0 15 _ _ _ _ := (ok_load T).mono (by decide)
  have G1 : FnOk P w K mg base CX0 15 _ _ _ _ := (ok_patterns_and_sizes T).mono (by decide)
  have G2 : FnOk P w K mg base CX0 15 _ _ _ _ := (ok_store T).mono (by decide)
  have G3 : FnOk P w K mg base CX0 15 _ _ _ _ := (ok_levels_between T).mono (by decide)
  have G4 : FnOk P w K mg base CX0 15 _ _ _ _ := (ok_part T).mono (by decide)
  have G5 : FnOk P w K mg base CX0 15 _ _ _ _ := ok_add T
  have G6 : FnOk P w K mg base CX0 15 _ _ _ _ := ok_drop T
  have G7 : FnOk P w K mg base CX0 15 _ _ _ _ := (ok_check T).mono (by decide)
  have G8 : FnOk P w K mg base CX0 15 _ _ _ _ := (ok_find_pattern T).mono (by decide)
  have G9 : FnOk P w K mg base CX0 15 _ _ _ _ := (ok_node_and_ends T).mono (by decide)
  refine T.answer_of.F.ok scAnswerOf (fun vs H Q E h => ?_) (fun cdv A outer s H vs Q E hr h => ⟨_,
    pss_cons (ps_if (pt_cmpR op_eq (pv 1) (pe_k T.k_LOAD) (nomark _)) (pss_one (ps_ret (pe_fn T.load G0 hr (bdLoad T.load.F) pass0 (pa_cons (pv 0) (pa_cons (pv 2) pa_nil))))) pss_nil)
    (pss_cons (ps_if (pt_cmpR op_isN (pe_fld (pv 0) rfl) pe_non (nomark _)) (pss_one (ps_ret (pe_lst (pa_cons (pe_un un_neg pe_int) pa_nil)))) pss_nil)
    (pss_cons (ps_if (pt_cmpR op_eq (pv 1) (pe_k T.k_TABLE) (nomark _)) (pss_one (ps_ret (pe_fn T.patterns_and_sizes G1 hr (bdPatternsAndSizes T.patterns_and_sizes.F) pass0 (pa_cons (pv 0) pa_nil)))) pss_nil)
    (pss_cons (ps_if (pt_cmpR op_eq (pv 1) (pe_k T.k_STORE) (nomark _)) (pss_one (ps_ret (pe_fn T.store G2 hr (bdStore T.store.F) pass0 (pa_cons (pv 0) pa_nil)))) pss_nil)
    (pss_cons (ps_if (pt_cmpR op_eq (pv 1) (pe_k T.k_LEVELS) (nomark _)) (pss_one (ps_ret (pe_fn T.levels_between G3 hr (bdLevelsBetween T.levels_between.F) pass0 (pa_cons (pv 0) (pa_cons (pv 2) pa_nil))))) pss_nil)
    (pss_cons (ps_if (pt_cmpR op_eq (pv 1) (pe_k T.k_PART) (nomark _)) (pss_one (ps_ret (pe_fn T.part G4 hr (bdPart T.part.F) pass0 (pa_cons (pv 0) (pa_cons (pv 2) pa_nil))))) pss_nil)
    (pss_cons (ps_if (pt_cmpR op_eq (pv 1) (pe_k T.k_ADD) (nomark _)) (pss_one (ps_ret (pe_fn T.add G5 hr (bdAdd T.add.F) pass0 (pa_cons (pv 0) (pa_cons (pv 2) pa_nil))))) pss_nil)
    (pss_cons (ps_if (pt_cmpR op_eq (pv 1) (pe_k T.k_DROP) (nomark _)) (pss_one (ps_ret (pe_fn T.drop G6 hr (bdDrop T.drop.F) pass0 (pa_cons (pv 0) (pa_cons (pv 2) pa_nil))))) pss_nil)
    (pss_cons (ps_if (pt_cmpR op_eq (pv 1) (pe_k T.k_CHECK) (nomark _)) (pss_one (ps_ret (pe_fn T.check G7 hr (bdCheck T.check.F) pass0 (pa_cons (pv 0) (pa_cons (pv 2) pa_nil))))) pss_nil)
    (pss_cons (ps_if (pt_cmpR op_eq (pv 1) (pe_k T.k_FIND) (nomark _)) (pss_one (ps_ret (pe_fn T.find_pattern G8 hr (bdFindPattern T.find_pattern.F) pass0 (pa_cons (pv 0) (pa_cons (pv 2) pa_nil))))) pss_nil)
    (pss_one (ps_ret (pe_fn T.node_and_ends G9 hr (bdNodeAndEnds T.node_and_ends.F) pass0 (pa_cons (pv 0) (pa_cons (pv 2) pa_nil)))))))))))))), ?_⟩)
  · obtain ⟨ho, dho, ha, el, c, v, o, k, rfl, _⟩ := h
    rfl
  obtain ⟨ho, dho, ha, el, c, v, o, k, rfl, hH, hA, kk⟩ := h
  by_cases hc : c = 0
  · cases k with
    | load b =>
      obtain ⟨_, a, rfl, hS, hb⟩ := hA
      refine q_yes hc rfl fun H1 e1 => ?_
      refine s_retK ?_
      refine t_fn (vs := [.ref ho, .ref a]) (ea_cons (ev_var rfl) (ea_cons (ev_var rfl) ea_nil)) fun H2 e2 => ?_
      have e12 := e1.trans e2
      refine ⟨ho, dho, a, o, b, rfl, (hH.mono e12).st, ex_l e12 (sq_of hS), ?_⟩
      have hstep : Vahypd.step o (.load b) = (match Vahypa.read b with
        | .ok s => (some (Vahypd.held s), ⟨1, VahypBase.nats [s.words.length, s.pats.length]⟩)
        | .error f => (o, VahypBase.faulty f)) := by
        cases o <;> rfl
      rw [hstep] at kk
      cases hr : Vahypa.read b with
      | error f =>
        rw [hr] at kk
        exact kk.same2 hH e12
      | ok s =>
        rw [hr] at kk
        intro p ha2 tt el2 H3 hp hha keep hho hel hL hT hg h3
        obtain ⟨dh, wl, wrefs, g1, g2, g3, g4⟩ := hL
        exact kk p H3 ha2 el2 (fresh_back e12 hp) (fun c u c1 _ hu => keep c u c1 (e12 _ _ hu)) (.inr (fresh_back e12 hha)) (.inr (fresh_back e12 hel)) ⟨tt, dh, wl, hho, g1, hT, rfl, hg, g4⟩ h3
    | table => exact absurd (hc.symm.trans hA) (by decide)
    | store => exact absurd (hc.symm.trans hA) (by decide)
    | levels b => exact absurd (hc.symm.trans hA.1) (by decide)
    | part b => exact absurd (hc.symm.trans hA.1) (by decide)
    | add b => exact absurd (hc.symm.trans hA.1) (by decide)
    | drop p => exact absurd (hc.symm.trans hA.1) (by decide)
    | check l => exact absurd (hc.symm.trans hA.1) (by decide)
    | find b => exact absurd (hc.symm.trans hA.1) (by decide)
    | node p => exact absurd (hc.symm.trans hA.1) (by decide)
  refine q_not hc rfl fun H1 e1 => ?_
  cases o with
  | none =>
    have hst : Vahypd.step none k = (none, VahypBase.one (-1)) := by
      cases k with
      | load b => exact absurd hA.1 hc
      | _ => rfl
    rw [hst] at kk
    have kk := kk.same hH
    have hH : H ho = some (.ins T.cHolder.C dho (hoF .non .non)) := hH
    refine q_when (b := true) (et_test (ev_op (ev_fld (ev_var rfl) (e1 _ _ hH) T.cHolder.cl T.nHolder_held (v := .non) (by rfl)) ev_c rv_isN)) (fun _ H2 e2 => ?_) (fun z => nomatch z)
    exact s_retL (el_lst (vs := [V.int (-1)]) (ea_cons (ev_un ev_c ru_neg) ea_nil) (by show 1 ≤ 100000; decide)) fun p H3 hp e3 h3' => kk p H3 (fresh_back (e1.trans e2) hp) ((e1.trans e2).trans e3) h3'
  | some h =>
    have hH0 := hH
    obtain ⟨tt, dh, wl, hH⟩ := hH
    refine q_when (b := false) (et_test (ev_op (ev_fld (ev_var rfl) (e1 _ _ hH.1) T.cHolder.cl T.nHolder_held (v := .ref ha) (by rfl)) ev_c rv_isN)) (fun z => nomatch z) (fun _ H2 e2 => ?_)
    have e12 := e1.trans e2
    have hH := hH.mono e12
    have kk := kk.grow e12
    have hA := hA.mono e12
    have hH0 := hH0.mono e12
    clear e12 e1 e2
    cases k with
    | load b => exact absurd hA.1 hc
    | table =>
      refine q_yes hA rfl fun H3 e3 => s_retK ?_
      exact t_fn (vs := [.ref ho]) (ea_cons (ev_var rfl) ea_nil) fun H4 e4 => ⟨ho, h, rfl, hH.ho.mono (e3.trans e4), AnsQ.same2 (o := some h) kk hH0 (e3.trans e4)⟩
    | store =>
      have hA : c = 2 := hA
      refine q_not (by omega) rfl fun H3 e3 => q_yes hA rfl fun H4 e4 => s_retK ?_
      exact t_fn (vs := [.ref ho]) (ea_cons (ev_var rfl) ea_nil) fun H5 e5 => ⟨ho, h, rfl, hH.ho.mono ((e3.trans e4).trans e5), AnsQ.same2 (o := some h) kk hH0 ((e3.trans e4).trans e5)⟩
    | levels b =>
      obtain ⟨hcc, a, rfl, hS, hb⟩ := hA
      refine q_not (by omega) rfl fun H3 e3 => q_not (by omega) rfl fun H4 e4 => q_yes hcc rfl fun H5 e5 => s_retK ?_
      refine t_fn (vs := [.ref ho, .ref a]) (ea_cons (ev_var rfl) (ea_cons (ev_var rfl) ea_nil)) fun H6 e6 => ?_
      have e := (e3.trans e4).trans (e5.trans e6)
      exact ⟨ho, a, h, b, rfl, hH.ho.mono e, e _ _ hS, AnsQ.same2 (o := some h) kk hH0 e⟩
    | part b =>
      obtain ⟨hcc, a, rfl, hS, hb⟩ := hA
      refine q_not (by omega) rfl fun H3 e3 => q_not (by omega) rfl fun H4 e4 => q_not (by omega) rfl fun H5 e5 => q_yes hcc rfl fun H6 e6 => s_retK ?_
      refine t_fn (vs := [.ref ho, .ref a]) (ea_cons (ev_var rfl) (ea_cons (ev_var rfl) ea_nil)) fun H7 e7 => ?_
      have e := ((e3.trans e4).trans (e5.trans e6)).trans e7
      exact ⟨ho, a, h, b, rfl, hH.ho.mono e, e _ _ hS, AnsQ.same2 (o := some h) kk hH0 e⟩
    | add b =>
      obtain ⟨hcc, a, rfl, hS, hb⟩ := hA
      refine q_not (by omega) rfl fun H3 e3 => q_not (by omega) rfl fun H4 e4 => q_not (by omega) rfl fun H5 e5 => q_not (by omega) rfl fun H6 e6 => q_yes hcc rfl fun H7 e7 => s_retK ?_
      refine t_fn (vs := [.ref ho, .ref a]) (ea_cons (ev_var rfl) (ea_cons (ev_var rfl) ea_nil)) fun H8 e8 => ?_
      have e := ((e3.trans e4).trans (e5.trans e6)).trans (e7.trans e8)
      refine ⟨ho, dho, ha, dh, wl, el, tt, a, h, b, rfl, hH.mono e, sq_of (e _ _ hS), hb, ?_⟩
      simp only [Vahypd.step] at kk
      cases hp : Vahypa.patOf b with
      | none =>
        rw [hp] at kk
        exact AnsQ.same2 (o := some h) kk hH0 e
      | some p =>
        rw [hp] at kk
        dsimp only at kk ⊢
        by_cases hz : Vahypa.PATS < (Vahypd.withPat h.lst.pats p).length
        · rw [if_pos hz] at kk ⊢
          exact AnsQ.same2 (o := some h) kk hH0 e
        · rw [if_neg hz] at kk ⊢
          exact kk.chg.grow e
    | drop n =>
      obtain ⟨hcc, rfl⟩ := hA
      refine q_not (by omega) rfl fun H3 e3 => q_not (by omega) rfl fun H4 e4 => q_not (by omega) rfl fun H5 e5 => q_not (by omega) rfl fun H6 e6 => q_not (by omega) rfl fun H7 e7 => q_yes hcc rfl fun H8 e8 => s_retK ?_
      refine t_fn (vs := [.ref ho, .int n]) (ea_cons (ev_var rfl) (ea_cons (ev_var rfl) ea_nil)) fun H9 e9 => ?_
      have e := (((e3.trans e4).trans (e5.trans e6)).trans (e7.trans e8)).trans e9
      refine ⟨ho, dho, ha, dh, wl, el, tt, h, n, rfl, hH.mono e, ?_⟩
      simp only [Vahypd.step] at kk
      cases hx : VahypBase.index n h.lst.pats.length with
      | none =>
        rw [hx] at kk
        exact AnsQ.same2 (o := some h) kk hH0 e
      | some i =>
        rw [hx] at kk
        exact kk.chg.grow e
    | check l =>
      obtain ⟨hcc, a, rfl, hS, hb⟩ := hA
      refine q_not (by omega) rfl fun H3 e3 => q_not (by omega) rfl fun H4 e4 => q_not (by omega) rfl fun H5 e5 => q_not (by omega) rfl fun H6 e6 => q_not (by omega) rfl fun H7 e7 => q_not (by omega) rfl fun H8 e8 => q_yes hcc rfl fun H9 e9 => s_retK ?_
      refine t_fn (vs := [.ref ho, .ref a]) (ea_cons (ev_var rfl) (ea_cons (ev_var rfl) ea_nil)) fun H10 e10 => ?_
      have e := (((e3.trans e4).trans (e5.trans e6)).trans (e7.trans e8)).trans (e9.trans e10)
      exact ⟨ho, a, h, l, rfl, hH.ho.mono e, sq_of (e _ _ hS), hb, AnsQ.same2 (o := some h) kk hH0 e⟩
    | find b =>
      obtain ⟨hcc, a, rfl, hS, hb⟩ := hA
      refine q_not (by omega) rfl fun H3 e3 => q_not (by omega) rfl fun H4 e4 => q_not (by omega) rfl fun H5 e5 => q_not (by omega) rfl fun H6 e6 => q_not (by omega) rfl fun H7 e7 => q_not (by omega) rfl fun H8 e8 => q_not (by omega) rfl fun H9 e9 => q_yes hcc rfl fun H10 e10 => s_retK ?_
      refine t_fn (vs := [.ref ho, .ref a]) (ea_cons (ev_var rfl) (ea_cons (ev_var rfl) ea_nil)) fun H11 e11 => ?_
      have e := ((((e3.trans e4).trans (e5.trans e6)).trans (e7.trans e8)).trans (e9.trans e10)).trans e11
      exact ⟨ho, a, h, b, rfl, hH.ho.mono e, sq_of (e _ _ hS), hb, AnsQ.same2 (o := some h) kk hH0 e⟩
    | node n =>
      obtain ⟨hcc, rfl⟩ := hA
      refine q_not (by omega) rfl fun H3 e3 => q_not (by omega) rfl fun H4 e4 => q_not (by omega) rfl fun H5 e5 => q_not (by omega) rfl fun H6 e6 => q_not (by omega) rfl fun H7 e7 => q_not (by omega) rfl fun H8 e8 => q_not (by omega) rfl fun H9 e9 => q_not (by omega) rfl fun H10 e10 => s_retK ?_
      refine t_fn (vs := [.ref ho, .int n]) (ea_cons (ev_var rfl) (ea_cons (ev_var rfl) ea_nil)) fun H11 e11 => ?_
      have e := ((((e3.trans e4).trans (e5.trans e6)).trans (e7.trans e8)).trans (e9.trans e10)).trans e11
      exact ⟨ho, h, n, rfl, hH.ho.mono e, AnsQ.same2 (o := some h) kk hH0 e⟩
end
end Pt
set_option Elab.async false
set_option linter.all false
set_option maxRecDepth 100000
/-! ## the flat list of calls, call by call -/
namespace Mx
open PyVahypd (shape whole)
theorem calls_nil {f : Nat} {cs : List (List (List Int))} (h : PyFlat.calls shape f [] = some cs) : cs = [] := by
  cases f <;> exact (Option.some.inj h).symm
theorem calls_cons {f : Nat} {p : Int} {r : List Int} {cs : List (List (List Int))} (h : PyFlat.calls shape f (p :: r) = some cs) : ∃ f' c t cs', f = f' + 1 ∧ PyFlat.call shape (p :: r) = some (c, t) ∧ PyFlat.calls shape f' t = some cs' ∧ cs = c :: cs' := by
  cases f with
  | zero => cases h
  | succ f =>
    unfold PyFlat.calls at h
    cases hc : PyFlat.call shape (p :: r) with
    | none => rw [hc] at h; cases h
    | some x =>
      obtain ⟨c, t⟩ := x
      rw [hc] at h
      dsimp only at h
      cases hr : PyFlat.calls shape f t with
      | none => rw [hr] at h; cases h
      | some cs' =>
        rw [hr] at h
        exact ⟨f, c, t, cs', rfl, rfl, hr, (Option.some.inj h).symm⟩
theorem call_row {p : Int} {r : List Int} {c : List (List Int)} {t : List Int} (hs : shape p = some (0, 1)) (h : PyFlat.call shape (p :: r) = some (c, t)) : ∃ (n : Nat) (r' : List Int), r = (n : Int) :: r' ∧ n ≤ r'.length ∧ c = [[p], r'.take n] ∧ t = r'.drop n := by
  simp only [PyFlat.call, hs] at h
  simp only [Nat.not_lt_zero, if_false, List.drop_zero, List.take_zero] at h
  cases r with
  | nil => cases h
  | cons n r' =>
    by_cases hn : 0 ≤ n ∧ n.toNat ≤ r'.length
    · simp only [PyFlat.rows, PyFlat.row, if_pos hn] at h
      have h := Option.some.inj h
      refine ⟨n.toNat, r', by rw [Int.toNat_of_nonneg hn.1], hn.2, ?_, ?_⟩
      · exact (Prod.mk.inj h).1.symm
      · exact (Prod.mk.inj h).2.symm
    · simp only [PyFlat.rows, PyFlat.row, if_neg hn] at h
      cases h
theorem call_num {p : Int} {r : List Int} {c : List (List Int)} {t : List Int} (hs : shape p = some (1, 0)) (h : PyFlat.call shape (p :: r) = some (c, t)) : ∃ x, r = x :: t ∧ c = [[p, x]] := by
  simp only [PyFlat.call, hs] at h
  cases r with
  | nil => cases h
  | cons x r' =>
    have hl : ¬ (x :: r').length < 1 := by rw [List.length_cons]; omega
    simp only [if_neg hl, PyFlat.rows] at h
    have h := Option.some.inj h
    refine ⟨x, ?_, (Prod.mk.inj h).1.symm⟩
    rw [← (Prod.mk.inj h).2]
    rfl
theorem call_none {p : Int} {r : List Int} {c : List (List Int)} {t : List Int} (hs : shape p = some (0, 0)) (h : PyFlat.call shape (p :: r) = some (c, t)) : c = [[p]] ∧ t = r := by
  simp only [PyFlat.call, hs] at h
  simp only [Nat.not_lt_zero, if_false, PyFlat.rows, List.drop_zero, List.take_zero] at h
  have h := Option.some.inj h
  exact ⟨(Prod.mk.inj h).1.symm, (Prod.mk.inj h).2.symm⟩
theorem shape_cases {p : Int} {c : List (List Int)} {r t : List Int} (h : PyFlat.call shape (p :: r) = some (c, t)) :
    ((p = 0 ∨ p = 3 ∨ p = 4 ∨ p = 5 ∨ p = 7 ∨ p = 8) ∧ shape p = some (0, 1)) ∨ ((p = 6 ∨ p = 9) ∧ shape p = some (1, 0)) ∨ ((p = 1 ∨ p = 2) ∧ shape p = some (0, 0)) := by
  by_cases h0 : p = 0
  · subst h0; exact .inl ⟨.inl rfl, rfl⟩
  by_cases h1 : p = 1
  · subst h1; exact .inr (.inr ⟨.inl rfl, rfl⟩)
  by_cases h2 : p = 2
  · subst h2; exact .inr (.inr ⟨.inr rfl, rfl⟩)
  by_cases h3 : p = 3
  · subst h3; exact .inl ⟨.inr (.inl rfl), rfl⟩
  by_cases h4 : p = 4
  · subst h4; exact .inl ⟨.inr (.inr (.inl rfl)), rfl⟩
  by_cases h5 : p = 5
  · subst h5; exact .inl ⟨.inr (.inr (.inr (.inl rfl))), rfl⟩
  by_cases h6 : p = 6
  · subst h6; exact .inr (.inl ⟨.inl rfl, rfl⟩)
  by_cases h7 : p = 7
  · subst h7; exact .inl ⟨.inr (.inr (.inr (.inr (.inl rfl)))), rfl⟩
  by_cases h8 : p = 8
  · subst h8; exact .inl ⟨.inr (.inr (.inr (.inr (.inr rfl)))), rfl⟩
  by_cases h9 : p = 9
  · subst h9; exact .inr (.inl ⟨.inr rfl, rfl⟩)
  · exfalso
    have : shape p = none := by
      unfold shape
      simp only [if_neg h0, if_neg h1, if_neg h2, if_neg h3, if_neg h4, if_neg h5, if_neg h6, if_neg h7, if_neg h8, if_neg h9]
    simp only [PyFlat.call, this] at h
    cases h
/-- the counts are put in already -/
theorem whole_id (c : List (List Int)) : whole c = c := by
  unfold whole
  split <;> rfl
theorem map_whole (cs : List (List (List Int))) : cs.map whole = cs := by
  rw [show whole = id from funext whole_id, List.map_id]
theorem told_cons (a : List Int) (l : List (List Int)) : PyFlat.told (a :: l) = ((a.length : Int) :: a) ++ PyFlat.told l := rfl
theorem played_cons {S : Type} (step : S → List (List Int) → S × List Int) (s : S) (c : List (List Int)) (r : List (List (List Int))) : PyFlat.played step s (c :: r) = (step s c).2 :: PyFlat.played step (step s c).1 r := rfl
end Mx
set_option Elab.async false
set_option linter.all false
set_option maxRecDepth 100000
set_option maxHeartbeats 2000000
namespace Pt
open PySem PySem.Spec PyProof.Rows L2 Evl
open VahypBase (Bytes)
open Vahypd (Node Table)
section
variable {P : Program} {w : World} {K : PySem.W.Frag} {mg : Str → Option Value} {base : Heap} {X : Cx}
variable {σ : L2.St} {H H' : Hp} {ta tb tc te tl : TE} {t : TT} {x y z v : V} {C : Addr} {D : Ends} {tz tu : TS}
/-! ### between calls: the reader and the told numbers change -/
def Soft (u : HO) : Prop := (∃ C d v fs, u = .ins C d ((("numbers" : Str), v) :: fs)) ∨ ∃ xs, u = .lst (iv xs)
section
variable {l : Addr} {u0 u : HO}
theorem soft_t {a : Addr} {xs : List V} (h0 : H l = some u0) (hs : Soft u0) (s : SqT K H a xs) : SqT K (upd H l u) a xs := by
  by_cases z : a = l
  · subst z
    rcases s with (s | ⟨o, s⟩) | s
    · rw [h0] at s
      have s := Option.some.inj s
      rcases hs with ⟨C, d, v, fs, rfl⟩ | ⟨xs, rfl⟩ <;> cases s
    · rw [h0] at s
      have s := Option.some.inj s
      rcases hs with ⟨C, d, v, fs, rfl⟩ | ⟨xs, rfl⟩ <;> cases s
    · exact .inr s
  · rcases s with (s | ⟨o, s⟩) | s
    · exact .inl (.inl (by rw [upd_ne z]; exact s))
    · exact .inl (.inr ⟨o, by rw [upd_ne z]; exact s⟩)
    · exact .inr s
theorem soft_refs {a o : Addr} {rs : List V} (h0 : H l = some u0) (hs : Soft u0) (s : SqL K H a (.ref o :: rs)) : SqL K (upd H l u) a (.ref o :: rs) := by
  by_cases z : a = l
  · subst z
    rcases s with (s | ⟨o, s⟩) | s
    · rw [h0] at s
      have s := Option.some.inj s
      rcases hs with ⟨C, d, v, fs, rfl⟩ | ⟨xs, rfl⟩
      · cases s
      · injection s with s
        cases xs with
        | nil => cases s
        | cons x xs => cases (List.cons.inj s).1
    · rw [h0] at s
      have s := Option.some.inj s
      rcases hs with ⟨C, d, v, fs, rfl⟩ | ⟨xs, rfl⟩ <;> cases s
    · exact .inr s
  · rcases s with (s | ⟨o, s⟩) | s
    · exact .inl (.inl (by rw [upd_ne z]; exact s))
    · exact .inl (.inr ⟨o, by rw [upd_ne z]; exact s⟩)
    · exact .inr s
theorem soft_ins {a C d : Addr} {f' : Str} {v : V} {fs : List (Str × V)} (h0 : H l = some u0) (hs : Soft u0) (hf : ¬ f' = "numbers") (s : H a = some (.ins C d ((f', v) :: fs))) : upd H l u a = some (.ins C d ((f', v) :: fs)) := by
  rw [upd_ne]
  · exact s
  · intro z
    rw [z, h0] at s
    have s := Option.some.inj s
    rcases hs with ⟨C, d, v, fs, rfl⟩ | ⟨xs, rfl⟩
    · injection s with _ _ s
      injection s with s _
      exact hf (Prod.mk.inj s).1.symm
    · cases s
theorem soft_ent {T : Tx K mg} {o : Addr} {en : Vahypd.Entry} (h0 : H l = some u0) (hs : Soft u0) (s : EntAt T H o en) : EntAt T (upd H l u) o en := by
  obtain ⟨dx, sa, da, h1, h2, h3⟩ := s
  exact ⟨dx, sa, da, soft_ins h0 hs (by decide +kernel) h1, soft_t h0 hs h2, soft_t h0 hs h3⟩
theorem soft_node {T : Tx K mg} {o : Addr} {n : Node} (h0 : H l = some u0) (hs : Soft u0) (s : NodeAt T H o n) : NodeAt T (upd H l u) o n := by
  obtain ⟨dx, dv, wa, h1, h2, ws, h3, h4⟩ := s
  refine ⟨dx, dv, wa, soft_ins h0 hs (by decide +kernel) h1, ?_, ws, soft_t h0 hs h3, h4.mono fun _ _ r => soft_t h0 hs r⟩
  cases ho : n.out with
  | none =>
    rw [ho] at h2
    exact h2
  | some dd =>
    rw [ho] at h2
    obtain ⟨da, e, h2⟩ := h2
    exact ⟨da, e, soft_t h0 hs h2⟩
theorem soft_tab {T : Tx K mg} {t : Addr} {tk : Table × Nat} (h0 : H l = some u0) (hs : Soft u0) (hne : 0 < tk.1.length) (s : TabAt T H t tk) : TabAt T (upd H l u) t tk := by
  obtain ⟨dt, nl, refs, h1, h2, h3⟩ := s
  refine ⟨dt, nl, refs, soft_ins h0 hs (by decide +kernel) h1, ?_, h3.mono fun _ _ r => soft_node h0 hs r⟩
  cases refs with
  | nil =>
    have := h3.1
    simp at this
    omega
  | cons r rs =>
    obtain ⟨x, o, _, e, _⟩ := h3.at (i := 0) rfl
    subst e
    exact soft_refs h0 hs h2
theorem HoL.soft {T : Tx K mg} {ho dho ha el : Addr} {o : Vahypd.Obj} (h0 : H l = some u0) (hs : Soft u0) (n1 : ho ≠ l) (n2 : ha ≠ l) (n3 : el ≠ l) (a : HoL T H ho dho o ha el) : HoL T (upd H l u) ho dho o ha el := by
  cases o with
  | none =>
    show upd H l u ho = _
    rw [upd_ne n1]
    exact a
  | some h =>
    obtain ⟨tt, dh, wl, h1, h2, h3, h4, h5, refs, h6, h7⟩ := a
    refine ⟨tt, dh, wl, by rw [upd_ne n1]; exact h1, by rw [upd_ne n2]; exact h2, soft_tab h0 hs ?_ h3, h4, h5, refs, by rw [upd_ne n3]; exact h6, h7.mono fun _ _ r => soft_ent h0 hs r⟩
    rw [h4]
    exact Nat.lt_of_le_of_lt (Nat.zero_le _) (Mx.table_first _)
end
/-- the reader has gone on, all else is kept -/
def Hopped (T : Tx K mg) (H H2 : Hp) (r cl dr : Addr) (j : Nat) : Prop := (∀ c u, c ≠ r → H c = some u → H2 c = some u) ∧ H2 r = some (.ins T.cRowReader.C dr (crF cl j))
theorem Hopped.holder {T : Tx K mg} {H2 : Hp} {r cl dr ho dho ha el : Addr} {i j : Nat} {o : Vahypd.Obj} (h : Hopped T H H2 r cl dr j) (hr : H r = some (.ins T.cRowReader.C dr (crF cl i))) (n1 : ho ≠ r) (n2 : ha ≠ r) (n3 : el ≠ r) (a : HoL T H ho dho o ha el) : HoL T H2 ho dho o ha el := by
  have e : Ex H (upd H2 r (.ins T.cRowReader.C dr (crF cl i))) := fun c u hc => by
    by_cases z : c = r
    · rw [z, upd_same, ← hr, ← z]
      exact hc
    · rw [upd_ne z]
      exact h.1 c u z hc
  have a2 := (a.mono e).soft (u := .ins T.cRowReader.C dr (crF cl j)) upd_same (.inl ⟨_, _, _, _, rfl⟩) n1 n2 n3
  rw [upd_upd] at a2
  have : upd H2 r (HO.ins T.cRowReader.C dr (crF cl j)) = H2 := by
    funext c
    by_cases z : c = r
    · rw [z, upd_same, h.2]
    · rw [upd_ne z]
  rw [this] at a2
  exact a2
def cutR (H : Hp) (r : Addr) : Hp := fun b => if b = r then none else H b
theorem cut_ne {r b : Addr} (h : b ≠ r) : cutR H r b = H b := if_neg h
theorem cut_ex {H0 : Hp} {r : Addr} (e : Ex H0 H) (hr : H0 r = none) : Ex H0 (cutR H r) := fun c u hc => by
  rw [cut_ne fun z => by rw [z, hr] at hc; cases hc]
  exact e c u hc
theorem cut_cr {T : Tx K mg} {H0 : Hp} {r cl dr : Addr} {l : List Int} {i : Nat} (e : Ex H0 H) (h0 : H0 r = none) (hL : SqL K H0 cl (iv l)) (hr : H r = some (.ins T.cRowReader.C dr (crF cl i))) : CrS T (cutR H r) (hop T noHp r cl dr i) r cl dr l i ∧ H = over (cutR H r) (hop T noHp r cl dr i) := by
  refine ⟨⟨fun b o hb => ?_, upd_same, ex_l (cut_ex e h0) hL⟩, ?_⟩
  · by_cases z : b = r
    · exact if_pos z
    · rw [hop_ne z] at hb
      cases hb
  · funext b
    by_cases z : b = r
    · rw [z, hr]
      exact (over_m upd_same).symm
    · rw [over_g (by rw [hop_ne z]; rfl), cut_ne z]
theorem cut_hop {T : Tx K mg} {G2 : Hp} {r cl dr : Addr} {i j : Nat} (e : Ex (cutR H r) G2) : Hopped T H (over G2 (hop T (hop T noHp r cl dr i) r cl dr j)) r cl dr j := by
  rw [hop2]
  refine ⟨fun c u hc hu => ?_, over_m upd_same⟩
  rw [over_g (by rw [hop_ne hc]; rfl)]
  exact e c u (by rw [cut_ne hc]; exact hu)
def spTN (T : Tx K mg) : Sp := fun vs H Q _ => ∃ (r cl dr : Addr) (l : List Int) (i : Nat) (n : Int) (H0 : Hp), vs = [.ref r] ∧ Ex H0 H ∧ H0 r = none ∧ SqL K H0 cl (iv l) ∧ H r = some (.ins T.cRowReader.C dr (crF cl i)) ∧ l[i]? = some n ∧
  ∀ H2, Hopped T H H2 r cl dr (i + 1) → Q (.int n) H2
theorem ok_TN (T : Tx K mg) : FnOk P w K mg base CX0 2 T.mRowReader_take_number.f T.mRowReader_take_number.fd ["self"] (spTN T) := (ok_take_number0 T).imp fun vs H Q E h => by
  obtain ⟨r, cl, dr, l, i, n, H0, e1, e, h0, hL, hr, hn, k⟩ := h
  obtain ⟨hC, hE⟩ := cut_cr e h0 hL hr
  exact ⟨r, cl, dr, l, i, n, _, _, e1, hE, hC, hn, fun G2 e2 _ => k _ (cut_hop e2)⟩
def spTA (T : Tx K mg) : Sp := fun vs H Q _ => ∃ (r cl dr : Addr) (l : List Int) (i : Nat) (c : Int) (H0 : Hp), vs = [.ref r, .int c] ∧ Ex H0 H ∧ H0 r = none ∧ SqL K H0 cl (iv l) ∧ H r = some (.ins T.cRowReader.C dr (crF cl i)) ∧
  (withRow c = true → ∃ n : Nat, l[i]? = some (n : Int) ∧ i + 1 + n ≤ l.length ∧ ∀ p H2, H p = none → Hopped T H H2 r cl dr (i + 1 + n) → H2 p = some (.lst (iv ((l.drop (i + 1)).take n))) → Q (.ref p) H2) ∧
  (withNum c = true → ∃ n : Int, l[i]? = some n ∧ ∀ H2, Hopped T H H2 r cl dr (i + 1) → Q (.int n) H2) ∧
  (withRow c = false → withNum c = false → ∀ H2, Hopped T H H2 r cl dr i → Q .non H2)
theorem ok_TA (T : Tx K mg) : FnOk P w K mg base CX0 4 T.argument_of.f T.argument_of.fd ["reader", "call"] (spTA T) := (ok_argument_of T).imp fun vs H Q E h => by
  obtain ⟨r, cl, dr, l, i, c, H0, e1, e, h0, hL, hr, k1, k2, k3⟩ := h
  obtain ⟨hC, hE⟩ := cut_cr e h0 hL hr
  refine ⟨r, cl, dr, l, i, c, _, _, e1, hE, hC, fun hc => ?_, fun hc => ?_, fun hc hc2 G2 e2 _ => ?_⟩
  · obtain ⟨n, hn, hz, k⟩ := k1 hc
    refine ⟨n, hn, hz, fun p G2 hp e2 _ h2 => ?_⟩
    rw [← hE] at hp
    refine k p _ hp (cut_hop e2) ?_
    have hne : p ≠ r := fun z => by rw [z, hr] at hp; cases hp
    rw [over_g (by rw [hop_ne hne, hop_ne hne]; rfl)]
    exact h2
  · obtain ⟨n, hn, k⟩ := k2 hc
    exact ⟨n, hn, fun G2 e2 _ => k _ (cut_hop e2)⟩
  · have := cut_hop (T := T) (cl := cl) (dr := dr) (i := i) (j := i) e2
    rw [hop2] at this
    exact k3 hc hc2 _ this
/-! ### a call, its argument at hand -/
theorem tx_row {row : List Int} (h : NeutralIO.bytes row = true) : tx (VahypdNeutral.bytesOf row) = iv row := by
  unfold tx VahypdNeutral.bytesOf iv
  rw [List.map_map]
  refine List.map_congr_left fun z hz => ?_
  have hb := List.all_eq_true.mp h z hz
  simp only [Bool.and_eq_true, decide_eq_true_eq] at hb
  show V.int _ = V.int z
  congr 1
  have : (UInt8.ofNat z.toNat).toNat = z.toNat := by
    rw [UInt8.toNat_ofNat']
    omega
  rw [this]
  omega
theorem row_bytes {row : List Int} (h : (row.all (fun (z : Int) => VahypdNeutral.natural z 8)) = true) : NeutralIO.bytes row = true := by
  unfold NeutralIO.bytes
  rw [List.all_eq_true] at h ⊢
  intro z hz
  have := h z hz
  unfold VahypdNeutral.natural at this
  simp only [Bool.and_eq_true, decide_eq_true_eq] at this ⊢
  omega
theorem row_is {row : List Int} (h : ((row.all (fun (z : Int) => VahypdNeutral.natural z 8)) && decide (row.length ≤ 8192)) = true) : NeutralIO.bytes row = true ∧ ∀ (H : Hp) (a : Addr), H a = some (.lst (iv row)) → RowIs H (.ref a) (VahypdNeutral.bytesOf row) := by
  obtain ⟨h1, h2⟩ := Bool.and_eq_true_iff.mp h
  have hb := row_bytes h1
  refine ⟨hb, fun H a ha => ⟨a, rfl, by rw [tx_row hb]; exact ha, ?_⟩⟩
  unfold VahypdNeutral.bytesOf
  rw [List.length_map]
  have := of_decide_eq_true h2
  omega
theorem call_of_row {p : Int} {row : List Int} (hp : p = 0 ∨ p = 3 ∨ p = 4 ∨ p = 5 ∨ p = 7 ∨ p = 8) (h : VahypdNeutral.asked1 [[p], row] = true) : ∃ k, VahypdNeutral.callOf [[p], row] = some k ∧ ∀ (H : Hp) (a : Addr), H a = some (.lst (iv row)) → ArgIs H p (.ref a) k := by
  rcases hp with rfl | rfl | rfl | rfl | rfl | rfl
  · obtain ⟨hb, g⟩ := row_is h
    exact ⟨.load _, if_pos hb, fun H a ha => ⟨rfl, g H a ha⟩⟩
  · obtain ⟨hb, g⟩ := row_is h
    exact ⟨.levels _, if_pos hb, fun H a ha => ⟨rfl, g H a ha⟩⟩
  · obtain ⟨hb, g⟩ := row_is h
    exact ⟨.part _, if_pos hb, fun H a ha => ⟨rfl, g H a ha⟩⟩
  · obtain ⟨hb, g⟩ := row_is h
    exact ⟨.add _, if_pos hb, fun H a ha => ⟨rfl, g H a ha⟩⟩
  · have h : (row.all VahypdNeutral.whole60 && decide (row.length ≤ 2000)) = true := h
    exact ⟨.check row, rfl, fun H a ha => ⟨rfl, a, rfl, ha, of_decide_eq_true (Bool.and_eq_true_iff.mp h).2⟩⟩
  · obtain ⟨hb, g⟩ := row_is h
    exact ⟨.find _, if_pos hb, fun H a ha => ⟨rfl, g H a ha⟩⟩
theorem call_of_num {p x : Int} (hp : p = 6 ∨ p = 9) : ∃ k, VahypdNeutral.callOf [[p, x]] = some k ∧ ∀ (H : Hp), ArgIs H p (.int x) k := by
  rcases hp with rfl | rfl
  · exact ⟨.drop x, rfl, fun H => ⟨rfl, rfl⟩⟩
  · exact ⟨.node x, rfl, fun H => ⟨rfl, rfl⟩⟩
theorem call_of_none {p : Int} (hp : p = 1 ∨ p = 2) : ∃ k, VahypdNeutral.callOf [[p]] = some k ∧ ∀ (H : Hp), ArgIs H p .non k := by
  rcases hp with rfl | rfl
  · exact ⟨.table, rfl, fun H => rfl⟩
  · exact ⟨.store, rfl, fun H => rfl⟩
theorem step_is {o : Vahypd.Obj} {c : List (List Int)} {k : Vahypd.Call} (h : VahypdNeutral.callOf c = some k) : VahypdNeutral.step o c = ((Vahypd.step o k).1, (Vahypd.step o k).2.value :: (Vahypd.step o k).2.rest) := by
  unfold VahypdNeutral.step
  rw [h]
  rfl
end
end Pt
set_option Elab.async false
set_option linter.all false
set_option maxRecDepth 100000
set_option maxHeartbeats 2000000
namespace Pt
open PySem PySem.Spec PyProof.Rows L2 Evl
open VahypBase (Bytes)
open Vahypd (Node Table)
open PyVahypd (shape)
section
variable {P : Program} {w : World} {K : PySem.W.Frag} {mg : Str → Option Value} {base : Heap} {X : Cx}
variable {σ : L2.St} {H H' : Hp} {ta tb tc te tl : TE} {t : TT} {x y z v : V} {C : Addr} {D : Ends} {tz tu : TS}
theorem drop_two {l r : List Int} {i : Nat} {p : Int} (hd : l.drop i = p :: r) : l[i]? = some p ∧ r = l.drop (i + 1) ∧ i < l.length := by
  have hi : i < l.length := by
    have := congrArg List.length hd
    rw [List.length_drop, List.length_cons] at this
    omega
  rw [List.drop_eq_getElem_cons hi] at hd
  injection hd with h1 h2
  exact ⟨by rw [List.getElem?_eq_getElem hi, h1], h2.symm, hi⟩
theorem call_parse {l r : List Int} {c : List (List Int)} {t : List Int} {i : Nat} {p : Int} (hd : l.drop i = p :: r) (h : PyFlat.call shape (p :: r) = some (c, t)) (ha : VahypdNeutral.asked1 c = true) : ∃ k j, VahypdNeutral.callOf c = some k ∧ i < j ∧ j ≤ l.length ∧ t = l.drop j ∧ l[i]? = some p ∧
    (withRow p = true → ∃ n : Nat, l[i + 1]? = some (n : Int) ∧ i + 1 + 1 + n ≤ l.length ∧ j = i + 1 + 1 + n ∧ ∀ (H : Hp) (a : Addr), H a = some (.lst (iv ((l.drop (i + 1 + 1)).take n))) → ArgIs H p (.ref a) k) ∧
    (withNum p = true → ∃ n : Int, l[i + 1]? = some n ∧ j = i + 1 + 1 ∧ ∀ H : Hp, ArgIs H p (.int n) k) ∧
    (withRow p = false → withNum p = false → j = i + 1 ∧ ∀ H : Hp, ArgIs H p .non k) := by
  obtain ⟨hp, hr, hi⟩ := drop_two hd
  rcases Mx.shape_cases h with ⟨hpc, hs⟩ | ⟨hpc, hs⟩ | ⟨hpc, hs⟩
  · have w1 : withRow p = true := by rcases hpc with rfl | rfl | rfl | rfl | rfl | rfl <;> rfl
    have w2 : withNum p = false := by rcases hpc with rfl | rfl | rfl | rfl | rfl | rfl <;> rfl
    obtain ⟨n, r', hr', hn, rfl, rfl⟩ := Mx.call_row hs h
    rw [hr'] at hr
    obtain ⟨hn2, hr2, hi2⟩ := drop_two hr.symm
    obtain ⟨k, hk, g⟩ := call_of_row hpc ha
    have hl : i + 1 + 1 + n ≤ l.length := by
      rw [hr2, List.length_drop] at hn
      omega
    refine ⟨k, i + 1 + 1 + n, hk, by omega, hl, by rw [hr2, List.drop_drop], hp, fun _ => ⟨n, hn2, hl, rfl, fun H a h => g H a (by rw [hr2]; exact h)⟩, fun z => ?_, fun z => ?_⟩
    · rw [w2] at z; cases z
    · rw [w1] at z; cases z
  · have w1 : withRow p = false := by rcases hpc with rfl | rfl <;> rfl
    have w2 : withNum p = true := by rcases hpc with rfl | rfl <;> rfl
    obtain ⟨x, hx, rfl⟩ := Mx.call_num hs h
    rw [hx] at hr
    obtain ⟨hn2, hr2, hi2⟩ := drop_two hr.symm
    obtain ⟨k, hk, g⟩ := call_of_num (x := x) hpc
    refine ⟨k, i + 1 + 1, hk, by omega, by omega, hr2, hp, fun z => ?_, fun _ => ⟨x, hn2, rfl, g⟩, fun _ z => ?_⟩
    · rw [w1] at z; cases z
    · rw [w2] at z; cases z
  · have w1 : withRow p = false := by rcases hpc with rfl | rfl <;> rfl
    have w2 : withNum p = false := by rcases hpc with rfl | rfl <;> rfl
    obtain ⟨rfl, rfl⟩ := Mx.call_none hs h
    obtain ⟨k, hk, g⟩ := call_of_none hpc
    refine ⟨k, i + 1, hk, by omega, by omega, hr, hp, fun z => ?_, fun z => ?_, fun _ _ => ⟨rfl, g⟩⟩
    · rw [w1] at z; cases z
    · rw [w2] at z; cases z
structure MSt (T : Tx K mg) (H0 H : Hp) (a r dr ho dho tl : Addr) (l tgt : List Int) (i : Nat) (acc : List Int) (o : Vahypd.Obj) (ha el : Addr) (f : Nat) (cs : List (List (List Int))) : Prop where
  ex : Ex H0 H
  rr : H r = some (.ins T.cRowReader.C dr (crF a i))
  hh : HoL T H ho dho o ha el
  tt : H tl = some (.lst (iv acc))
  n1 : ho ≠ r
  n2 : ha ≠ r
  n3 : el ≠ r
  n4 : ho ≠ tl
  n5 : ha ≠ tl
  n6 : el ≠ tl
  n7 : r ≠ tl
  hha : H0 ha = none
  il : i ≤ l.length
  cc : PyFlat.calls shape f (l.drop i) = some cs
  as : ∀ c ∈ cs, VahypdNeutral.asked1 c = true
  tg : tgt = acc ++ PyFlat.told (PyFlat.played VahypdNeutral.step o cs)
theorem MSt.mono {T : Tx K mg} {H0 : Hp} {a r dr ho dho tl : Addr} {l tgt : List Int} {i : Nat} {acc : List Int} {o : Vahypd.Obj} {ha el : Addr} {f : Nat} {cs : List (List (List Int))} (s : MSt T H0 H a r dr ho dho tl l tgt i acc o ha el f cs) (e : Ex H H') : MSt T H0 H' a r dr ho dho tl l tgt i acc o ha el f cs :=
  { s with ex := s.ex.trans e, rr := e _ _ s.rr, hh := s.hh.mono e, tt := e _ _ s.tt }
theorem q_appZ {l : Addr} {xs : List V} (hl : H l = some (.lst xs)) (ha : Ev ta σ H (.ref l)) (h : Ev te σ H v) (hz : xs.length < sizeLine) (k : ∀ H1, Ex H H1 → tz D σ (upd H1 l (.lst (xs ++ [v])))) :
    tSeq (tDrop (tBM K "list" rAppend ta (tCons te tNil))) tz D σ H := ha H (Ex.refl H) _ fun H1 e1 =>
  ⟨Or.inl ⟨rfl, xs, sq_of (e1 l _ hl)⟩, h H1 e1 _ fun H2 e2 => ⟨l, xs, v, rfl, rfl, e2 l _ (e1 l _ hl), hz, k H2 (e1.trans e2)⟩⟩
theorem s_extZ {l b : Addr} {xs zs : List V} (hl : H l = some (.lst xs)) (hb : H b = some (.lst zs)) (ha : Ev ta σ H (.ref l)) (h : Ev te σ H (.ref b)) (hz : xs.length + zs.length ≤ sizeLine) (k : ∀ H1, Ex H H1 → D.nx σ (upd H1 l (.lst (xs ++ zs)))) :
    tDrop (tBM K "list" rExtend ta (tCons te tNil)) D σ H := ha H (Ex.refl H) _ fun H1 e1 =>
  ⟨Or.inl ⟨rfl, xs, sq_of (e1 l _ hl)⟩, h H1 e1 _ fun H2 e2 => ⟨l, b, xs, zs, rfl, rfl, e2 l _ (e1 l _ hl), e2 b _ (e1 b _ hb), hz, k H2 (e1.trans e2)⟩⟩
/-- what's promised of the whole: each call is told, and the numbers told are no more than fit -/
def spAnswers (K : PySem.W.Frag) : Sp := fun vs H Q _ => ∃ (a : Addr) (l : List Int) (cs : List (List (List Int))), vs = [.ref a] ∧ SqL K H a (iv l) ∧ PyFlat.calls shape l.length l = some cs ∧ (∀ c ∈ cs, VahypdNeutral.asked1 c = true) ∧ (PyFlat.told (PyFlat.played VahypdNeutral.step VahypdNeutral.start cs)).length ≤ 10000000 ∧
  RetL (iv (PyFlat.told (PyFlat.played VahypdNeutral.step VahypdNeutral.start cs))) H Q
theorem size_ten {n : Nat} (h : n ≤ 10000000) : n ≤ sizeLine := Nat.le_trans h (by decide +kernel)
theorem ok_answers (T : Tx K mg) : FnOk P w K mg base CX0 17 T.answers.f T.answers.fd ["calls"] (spAnswers K) := by
  have GI : FnOk P w K mg base CX0 15 _ _ _ _ := (ok_RowReader T).mono (by decide)
  have GO : FnOk P w K mg base CX0 15 _ _ _ _ := (ok_Holder T).mono (by decide)
  have GD : FnOk P w K mg base CX0 16 _ _ _ _ := (ok_is_done T).mono (by decide)
  have GT : FnOk P w K mg base CX0 16 _ _ _ _ := (ok_TN T).mono (by decide)
  have GB : FnOk P w K mg base CX0 16 _ _ _ _ := (ok_TA T).mono (by decide)
  have GA : FnOk P w K mg base CX0 16 _ _ _ _ := ok_answer_of T
  refine T.answers.F.ok scAnswers (fun vs H Q E h => ?_) (fun cdv A outer s H vs Q E hr h => ⟨_,
    pss_cons (ps_set (i := 1) scAnswers.nd rfl (.inl rfl) (pe_make T.cRowReader.mkc GI hr rfl T.cRowReader.m (bdRowReaderInit T.cRowReader.F) .nil pass0 (pa_cons (pv 0) pa_nil)))
    (pss_cons (ps_set (i := 2) scAnswers.nd rfl (.inl rfl) (pe_make0 T.cHolder.mkc GO hr rfl T.cHolder.m (bdHolderInit T.cHolder.F) .nil pass0))
    (pss_cons (ps_set (i := 3) scAnswers.nd rfl (.inl rfl) (pe_lst pa_nil))
    (pss_cons (ps_while PassesOwn.never (pt_not (pt_val (pe_meth0 (pv 1) T.cRowReader.cl T.mRowReader_is_done.M GD hr (bdRowReaderIsDone T.mRowReader_is_done.F) .nil pass0)))
      (pss_cons (ps_set (i := 4) scAnswers.nd rfl (.inl rfl) (pe_meth0 (pv 1) T.cRowReader.cl T.mRowReader_take_number.M GT hr (bdRowReaderTakeNumber T.mRowReader_take_number.F) .nil pass0))
      (pss_cons (ps_set (i := 5) scAnswers.nd rfl (.inl rfl) (pe_fn T.answer_of GA hr (bdAnswerOf T.answer_of.F) pass0 (pa_cons (pv 2) (pa_cons (pv 4) (pa_cons (pe_fn T.argument_of GB hr (bdArgumentOf T.argument_of.F) pass0 (pa_cons (pv 1) (pa_cons (pv 4) pa_nil))) pa_nil)))))
      (pss_cons (ps_expr (pe_bm PySem.F.plainAttrs_list PySem.F.slot_list_append PySem.F.type_list_append mt_append (pv 3) (pa_cons (pe_len T.b_len (pv 5)) pa_nil)))
      (pss_one (ps_expr (pe_bm PySem.F.plainAttrs_list PySem.F.slot_list_extend PySem.F.type_list_extend mt_extend (pv 3) (pa_cons (pv 5) pa_nil))))))))
    (pss_one (ps_ret (pv 3)))))), ?_⟩)
  · obtain ⟨a, l, cs, rfl, _⟩ := h
    rfl
  obtain ⟨a, l, cs, rfl, hL, hcs, has, hz, k⟩ := h
  refine q_asgN (en_make (vs := [.ref a]) (ea_cons (ev_var rfl) ea_nil) rfl) fun r dr H1 hr0 e1 h1 => ?_
  refine q_asgN (en_make (vs := []) ea_nil rfl) fun ho dho H2 hho e2 h2 => ?_
  refine q_asgL (el_lst ea_nil (by decide)) fun tl H3 htl e3 h3 => ?_
  have e13 := (e1.trans e2).trans e3
  obtain ⟨tgt, htgt⟩ : ∃ tgt, tgt = PyFlat.told (PyFlat.played VahypdNeutral.step VahypdNeutral.start cs) := ⟨_, rfl⟩
  rw [← htgt] at hz k
  have hho0 := fresh_back e1 hho
  have htl0 := fresh_back (e1.trans e2) htl
  have nrh : ho ≠ r := fun z => by rw [z, h1] at hho; cases hho
  have nrt : r ≠ tl := fun z => by rw [← z, e2 _ _ h1] at htl; cases htl
  have nht : ho ≠ tl := fun z => by rw [← z, h2] at htl; cases htl
  refine q_while (fun m σ' H' => ∃ (i : Nat) (acc : List Int) (o : Vahypd.Obj) (ha el : Addr) (f : Nat) (cs : List (List (List Int))) (u4 u5 : Option V), m = l.length - i ∧ σ' = [some (.ref a), some (.ref r), some (.ref ho), some (.ref tl), u4, u5] ∧ MSt T H H' a r dr ho dho tl l tgt i acc o ha el f cs) l.length ?_ ?_
  · refine ⟨0, [], none, ho, ho, l.length, cs, none, none, rfl, rfl, ⟨e13, (e2.trans e3) _ _ h1, e3 _ _ h2, h3, nrh, nrh, nrh, nht, nht, nht, nrt, hho0, Nat.zero_le _, hcs, has, ?_⟩⟩
    rw [htgt]
    rfl
  rintro m σ' H4 ⟨i, acc, o, ha, el, f, cs, u4, u5, rfl, rfl, S⟩
  refine ⟨!decide (i = l.length), et_not (et_B fun H5 e5 Q5 q5 => t_meth (a := r) (ev_var rfl) (e5 _ _ S.rr) (by rfl) ea_nil fun H6 e6 => ⟨.bl (decide (i = l.length)), ⟨r, a, dr, l, i, rfl, (e5.trans e6) _ _ S.rr, ex_l (S.ex.trans (e5.trans e6)) hL, rfl⟩, fun H7 e7 => q5 H7 (e6.trans e7)⟩), fun hb H5 e5 => ⟨_, fun σ2 H2 h => h, ?_⟩, fun hb H5 e5 => ?_⟩
  · have S := S.mono e5
    clear e5
    have hi : i < l.length := by
      have := of_decide_eq_false (nb1 hb)
      have := S.il
      omega
    obtain ⟨p, r0, hd⟩ : ∃ p r0, l.drop i = p :: r0 := ⟨_, _, List.drop_eq_getElem_cons hi⟩
    have hcc := S.cc
    rw [hd] at hcc
    obtain ⟨f', c, t, cs', rfl, hcall, hcs', rfl⟩ := Mx.calls_cons hcc
    obtain ⟨kc, j, hk, hij, hjl, rfl, hp, a1, a2, a3⟩ := call_parse hd hcall (S.as c (List.mem_cons_self ..))
    refine q_ask ?_
    refine t_meth (a := r) (ev_var rfl) S.rr (by rfl) ea_nil fun H6 e6 => ?_
    have S := S.mono e6
    clear e6
    refine ⟨r, a, dr, l, i, p, H, rfl, S.ex, hr0, hL, S.rr, hp, fun H7 hop7 => ?_⟩
    have hh7 := hop7.holder S.rr S.n1 S.n2 S.n3 S.hh
    have ex7 : Ex H H7 := fun c u hc => hop7.1 c u (fun z => by rw [z, hr0] at hc; cases hc) (S.ex c u hc)
    have tt7 : H7 tl = some (.lst (iv acc)) := hop7.1 _ _ (Ne.symm S.n7) S.tt
    have rr7 := hop7.2
    clear hop7
    refine q_ask ?_
    refine t_callQ ?_
    refine t_cons ?_
    refine (ev_var (v := .ref ho) rfl) H7 (Ex.refl _) _ fun H8 e8 => t_cons ?_
    refine (ev_var (v := .int p) rfl) H8 (Ex.refl _) _ fun H9 e9 => t_cons ?_
    refine t_fn (vs := [.ref r, .int p]) (ea_cons (ev_var rfl) (ea_cons (ev_var rfl) ea_nil)) fun H10 e10 => ?_
    have e710 := (e8.trans e9).trans e10
    have hh := hh7.mono e710
    have ex := ex7.trans e710
    have tt := e710 _ _ tt7
    have rr := e710 _ _ rr7
    have main : ∀ (v : V) H11, Hopped T H10 H11 r a dr j → ArgIs H11 p v kc → spAnswer T [.ref ho, .int p, v] H11 (fun x H12 => tSeq (tDrop (tBM K "list" rAppend (tVar 3) (tCons (tCB (rLenS K) (tCons (tVar 5) tNil)) tNil))) (tDrop (tBM K "list" rExtend (tVar 3) (tCons (tVar 5) tNil)))
        { nx := fun σ2 H2 => ∃ m', m' < l.length - i ∧ ∃ (i : Nat) (acc : List Int) (o : Vahypd.Obj) (ha el : Addr) (f : Nat) (cs : List (List (List Int))) (u4 u5 : Option V), m' = l.length - i ∧ σ2 = [some (.ref a), some (.ref r), some (.ref ho), some (.ref tl), u4, u5] ∧ MSt T H H2 a r dr ho dho tl l tgt i acc o ha el f cs, rt := Q } [some (.ref a), some (.ref r), some (.ref ho), some (.ref tl), some (.int p), some x] H12) E := by
      intro v H11 hop11 hA
      have hh11 := hop11.holder rr S.n1 S.n2 S.n3 hh
      have ex11 : Ex H H11 := fun c u hc => hop11.1 c u (fun z => by rw [z, hr0] at hc; cases hc) (ex c u hc)
      have tt11 : H11 tl = some (.lst (iv acc)) := hop11.1 _ _ (Ne.symm S.n7) tt
      have rr11 := hop11.2
      refine ⟨ho, dho, ha, el, p, v, o, kc, rfl, hh11, hA, fun pa H12 ha2 el2 hpa keep w1 w2 hh12 h12 => ?_⟩
      have hst := step_is (o := o) hk
      obtain ⟨ans, hans⟩ : ∃ ans, ans = (Vahypd.step o kc).2.value :: (Vahypd.step o kc).2.rest := ⟨_, rfl⟩
      have h12 : H12 pa = some (.lst (iv ans)) := by rw [hans]; exact h12
      rw [← hans] at hst
      clear hans
      have rr12 : H12 r = _ := keep _ _ (Ne.symm S.n1) (Ne.symm S.n2) rr11
      have tt12 : H12 tl = _ := keep _ _ (Ne.symm S.n4) (Ne.symm S.n5) tt11
      have ex12 : Ex H H12 := fun c u hc => keep c u (fun z => by rw [z, hho0] at hc; cases hc) (fun z => by rw [z, S.hha] at hc; cases hc) (ex11 c u hc)
      have m2 : ha2 ≠ r := w1.elim (fun z => z ▸ S.n2) fun z q => by rw [q, rr11] at z; cases z
      have m3 : el2 ≠ r := w2.elim (fun z => z ▸ S.n3) fun z q => by rw [q, rr11] at z; cases z
      have m5 : ha2 ≠ tl := w1.elim (fun z => z ▸ S.n5) fun z q => by rw [q, tt11] at z; cases z
      have m6 : el2 ≠ tl := w2.elim (fun z => z ▸ S.n6) fun z q => by rw [q, tt11] at z; cases z
      have hha2 : H ha2 = none := w1.elim (fun z => z ▸ S.hha) fun z => fresh_back ex11 z
      have npt : pa ≠ tl := fun z => by rw [z, tt11] at hpa; cases hpa
      have htg : tgt = (acc ++ [(ans.length : Int)] ++ ans) ++ PyFlat.told (PyFlat.played VahypdNeutral.step (Vahypd.step o kc).1 cs') := by
        rw [S.tg, Mx.played_cons, Mx.told_cons, hst]
        simp only [List.append_assoc, List.cons_append, List.nil_append]
      have hzt : acc.length + 1 + ans.length ≤ 10000000 := by
        rw [htg] at hz
        simp only [List.length_append, List.length_cons, List.length_nil] at hz
        omega
      refine q_appZ (xs := iv acc) tt12 (ev_var rfl) (ev_len (ev_var (v := .ref pa) rfl) (sq_of h12)) (by rw [iv_len]; exact Nat.lt_of_lt_of_le (show acc.length < 10000000 by omega) (size_ten (Nat.le_refl _))) fun H13 e13 => ?_
      have hsoft : Soft (.lst (iv acc)) := .inr ⟨_, rfl⟩
      refine s_extZ (xs := iv acc ++ [.int ((iv ans).length : Int)]) (zs := iv ans) upd_same (by rw [upd_ne npt]; exact e13 _ _ h12) (ev_var rfl) (ev_var rfl) (by rw [List.length_append, iv_len, iv_len]; exact size_ten hzt) fun H14 e14 => ?_
      have hup : Ex H13 (upd H14 tl (.lst (iv acc))) := fun c u hc => by
        by_cases z : c = tl
        · rw [z, upd_same, ← e13 _ _ tt12, ← z]
          exact hc
        · rw [upd_ne z]
          exact e14 c u (by rw [upd_ne z]; exact hc)
      have hfin : ∀ u, HoL T (upd H14 tl u) ho dho (Vahypd.step o kc).1 ha2 el2 := fun u => by
        have := ((hh12.mono e13).mono hup).soft (u := u) upd_same hsoft S.n4 m5 m6
        rw [upd_upd] at this
        exact this
      refine ⟨l.length - j, by omega, j, acc ++ [(ans.length : Int)] ++ ans, (Vahypd.step o kc).1, ha2, el2, f', cs', _, _, rfl, rfl, ⟨?_, ?_, hfin _, ?_, S.n1, m2, m3, S.n4, m5, m6, S.n7, hha2, hjl, hcs', fun c hc => S.as c (List.mem_cons_of_mem _ hc), htg⟩⟩
      · intro c u hc
        rw [upd_ne fun z => by rw [z, htl0] at hc; cases hc]
        have h13 := e13 _ _ (ex12 c u hc)
        exact e14 c u (by rw [upd_ne fun z => by rw [z, htl0] at hc; cases hc]; exact h13)
      · rw [upd_ne S.n7]
        exact e14 _ _ (by rw [upd_ne S.n7]; exact e13 _ _ rr12)
      · rw [upd_same]
        rw [iv_app, iv_app, iv_len]
        rfl
    refine ⟨r, a, dr, l, i + 1, p, H, rfl, ex, hr0, hL, rr, fun hw => ?_, fun hw => ?_, fun hw hw2 H11 hop11 => ?_⟩
    · obtain ⟨n, hn, hz1, rfl, g⟩ := a1 hw
      exact ⟨n, hn, hz1, fun pa H11 hpa hop11 h11 => t_nil (main (.ref pa) H11 hop11 (g H11 pa h11))⟩
    · obtain ⟨n, hn, rfl, g⟩ := a2 hw
      exact ⟨n, hn, fun H11 hop11 => t_nil (main (.int n) H11 hop11 (g H11))⟩
    · obtain ⟨rfl, g⟩ := a3 hw hw2
      exact t_nil (main .non H11 hop11 (g H11))
  · have S := S.mono e5
    have hi : i = l.length := of_decide_eq_true (nb2 hb)
    have hcc := S.cc
    rw [hi, List.drop_length] at hcc
    have hcs0 := Mx.calls_nil hcc
    have htg := S.tg
    rw [hcs0] at htg
    have htg : tgt = acc := by rw [htg]; exact List.append_nil _
    rw [htg] at k
    exact s_ret (ev_var (v := .ref tl) rfl) fun H6 e6 => k tl H6 htl0 (S.ex.trans e6) (e6 _ _ S.tt)
end
end Pt
set_option Elab.async false
set_option linter.all false
set_option maxRecDepth 100000
set_option maxHeartbeats 2000000
/-! ## a class's record from what the heap tells; the request's codec -/
namespace Pt
open PySem PySem.Spec PySem.W PySem.Calls PyProof.Rows PySem.HandSPX L2 Evl
section
variable {K : PySem.W.Frag} {h : Heap} {mg : Str → Option Value}
structure ZNode (K : PySem.W.Frag) (mg : Str → Option Value) : Type where
  R : ClsR K mg "Node" "Node.__init__" sNodeInit
  nNode_digits : NoAttr K R.C "digits"
  nNode_ways : NoAttr K R.C "ways"
  mNode_way_by : MthR K R.C "way_by" "Node.way_by" sNodeWayBy
def zNode {C : Addr} {f : Addr} {oc kV doc pm cdv ct : Value} {od an : Option Addr} {osl : Array (Option Value)} {f2 : Addr} {oc2 kV2 doc2 pm2 cdv2 ct2 : Value} {od2 an2 : Option Addr} {osl2 : Array (Option Value)} (X : K.In h) (G : h.Ns mainGlobals mg)
    (aC : PySem.W.nsIn K mainGlobals "Node" = some (some (.ref C))) (a : PySem.W.findIn K (.ref C) "__init__" = some (some (.ref f))) (i : PySem.W.isFn K (.ref f) = true) (l : K.lookup f = some ⟨oc, od, .func (PySem.W.fnOf "__init__" "Node.__init__" (defArgs sNodeInit) (defBody sNodeInit) (defScope sNodeInit) .none kV doc pm an cdv ct), osl⟩) (c : PySem.W.codeIn K cdv "Node.__init__" = true) (k : PySem.W.keepIn K (.ref f) = true)
    (pg : PySem.W.plainGet K C Str.empty = true) (hd : PySem.W.hasDictIn K C = true) (po : PySem.W.plainOver K C = true) (sa : PySem.W.findIn K (.ref C) "__setattr__" = some (some (.builtin "object.__setattr__"))) (mk : PySem.W.makesIn K C = true) (kc : PySem.W.keepIn K (.ref C) = true)
    (n0 : PySem.W.findIn K (.ref C) "digits" = some none)
    (n1 : PySem.W.findIn K (.ref C) "ways" = some none)
    (a2 : PySem.W.findIn K (.ref C) "way_by" = some (some (.ref f2))) (i2 : PySem.W.isFn K (.ref f2) = true) (l2 : K.lookup f2 = some ⟨oc2, od2, .func (PySem.W.fnOf "way_by" "Node.way_by" (defArgs sNodeWayBy) (defBody sNodeWayBy) (defScope sNodeWayBy) .none kV2 doc2 pm2 an2 cdv2 ct2), osl2⟩) (c2 : PySem.W.codeIn K cdv2 "Node.way_by" = true) (k2 : PySem.W.keepIn K (.ref f2) = true) : ZNode K mg :=
  ⟨clsR_mk X G aC a i l c k pg hd po sa mk kc, n0, n1, mthR_mk a2 i2 l2 c2 k2⟩
structure ZTable (K : PySem.W.Frag) (mg : Str → Option Value) : Type where
  R : ClsR K mg "Table" "Table.__init__" sTableInit
  nTable_nodes : NoAttr K R.C "nodes"
  nTable_first : NoAttr K R.C "first"
def zTable {C : Addr} {f : Addr} {oc kV doc pm cdv ct : Value} {od an : Option Addr} {osl : Array (Option Value)} (X : K.In h) (G : h.Ns mainGlobals mg)
    (aC : PySem.W.nsIn K mainGlobals "Table" = some (some (.ref C))) (a : PySem.W.findIn K (.ref C) "__init__" = some (some (.ref f))) (i : PySem.W.isFn K (.ref f) = true) (l : K.lookup f = some ⟨oc, od, .func (PySem.W.fnOf "__init__" "Table.__init__" (defArgs sTableInit) (defBody sTableInit) (defScope sTableInit) .none kV doc pm an cdv ct), osl⟩) (c : PySem.W.codeIn K cdv "Table.__init__" = true) (k : PySem.W.keepIn K (.ref f) = true)
    (pg : PySem.W.plainGet K C Str.empty = true) (hd : PySem.W.hasDictIn K C = true) (po : PySem.W.plainOver K C = true) (sa : PySem.W.findIn K (.ref C) "__setattr__" = some (some (.builtin "object.__setattr__"))) (mk : PySem.W.makesIn K C = true) (kc : PySem.W.keepIn K (.ref C) = true)
    (n0 : PySem.W.findIn K (.ref C) "nodes" = some none)
    (n1 : PySem.W.findIn K (.ref C) "first" = some none) : ZTable K mg :=
  ⟨clsR_mk X G aC a i l c k pg hd po sa mk kc, n0, n1⟩
structure ZToken (K : PySem.W.Frag) (mg : Str → Option Value) : Type where
  R : ClsR K mg "Token" "Token.__init__" sTokenInit
  nToken_kind : NoAttr K R.C "kind"
  nToken_place : NoAttr K R.C "place"
  nToken_chunk : NoAttr K R.C "chunk"
def zToken {C : Addr} {f : Addr} {oc kV doc pm cdv ct : Value} {od an : Option Addr} {osl : Array (Option Value)} (X : K.In h) (G : h.Ns mainGlobals mg)
    (aC : PySem.W.nsIn K mainGlobals "Token" = some (some (.ref C))) (a : PySem.W.findIn K (.ref C) "__init__" = some (some (.ref f))) (i : PySem.W.isFn K (.ref f) = true) (l : K.lookup f = some ⟨oc, od, .func (PySem.W.fnOf "__init__" "Token.__init__" (defArgs sTokenInit) (defBody sTokenInit) (defScope sTokenInit) .none kV doc pm an cdv ct), osl⟩) (c : PySem.W.codeIn K cdv "Token.__init__" = true) (k : PySem.W.keepIn K (.ref f) = true)
    (pg : PySem.W.plainGet K C Str.empty = true) (hd : PySem.W.hasDictIn K C = true) (po : PySem.W.plainOver K C = true) (sa : PySem.W.findIn K (.ref C) "__setattr__" = some (some (.builtin "object.__setattr__"))) (mk : PySem.W.makesIn K C = true) (kc : PySem.W.keepIn K (.ref C) = true)
    (n0 : PySem.W.findIn K (.ref C) "kind" = some none)
    (n1 : PySem.W.findIn K (.ref C) "place" = some none)
    (n2 : PySem.W.findIn K (.ref C) "chunk" = some none) : ZToken K mg :=
  ⟨clsR_mk X G aC a i l c k pg hd po sa mk kc, n0, n1, n2⟩
structure ZEntry (K : PySem.W.Frag) (mg : Str → Option Value) : Type where
  R : ClsR K mg "Entry" "Entry.__init__" sEntryInit
  nEntry_signs : NoAttr K R.C "signs"
  nEntry_digits : NoAttr K R.C "digits"
def zEntry {C : Addr} {f : Addr} {oc kV doc pm cdv ct : Value} {od an : Option Addr} {osl : Array (Option Value)} (X : K.In h) (G : h.Ns mainGlobals mg)
    (aC : PySem.W.nsIn K mainGlobals "Entry" = some (some (.ref C))) (a : PySem.W.findIn K (.ref C) "__init__" = some (some (.ref f))) (i : PySem.W.isFn K (.ref f) = true) (l : K.lookup f = some ⟨oc, od, .func (PySem.W.fnOf "__init__" "Entry.__init__" (defArgs sEntryInit) (defBody sEntryInit) (defScope sEntryInit) .none kV doc pm an cdv ct), osl⟩) (c : PySem.W.codeIn K cdv "Entry.__init__" = true) (k : PySem.W.keepIn K (.ref f) = true)
    (pg : PySem.W.plainGet K C Str.empty = true) (hd : PySem.W.hasDictIn K C = true) (po : PySem.W.plainOver K C = true) (sa : PySem.W.findIn K (.ref C) "__setattr__" = some (some (.builtin "object.__setattr__"))) (mk : PySem.W.makesIn K C = true) (kc : PySem.W.keepIn K (.ref C) = true)
    (n0 : PySem.W.findIn K (.ref C) "signs" = some none)
    (n1 : PySem.W.findIn K (.ref C) "digits" = some none) : ZEntry K mg :=
  ⟨clsR_mk X G aC a i l c k pg hd po sa mk kc, n0, n1⟩
structure ZPatternList (K : PySem.W.Frag) (mg : Str → Option Value) : Type where
  R : ClsR K mg "PatternList" "PatternList.__init__" sPatternListInit
  nPatternList_left : NoAttr K R.C "left"
  nPatternList_right : NoAttr K R.C "right"
  nPatternList_words : NoAttr K R.C "words"
  nPatternList_entries : NoAttr K R.C "entries"
def zPatternList {C : Addr} {f : Addr} {oc kV doc pm cdv ct : Value} {od an : Option Addr} {osl : Array (Option Value)} (X : K.In h) (G : h.Ns mainGlobals mg)
    (aC : PySem.W.nsIn K mainGlobals "PatternList" = some (some (.ref C))) (a : PySem.W.findIn K (.ref C) "__init__" = some (some (.ref f))) (i : PySem.W.isFn K (.ref f) = true) (l : K.lookup f = some ⟨oc, od, .func (PySem.W.fnOf "__init__" "PatternList.__init__" (defArgs sPatternListInit) (defBody sPatternListInit) (defScope sPatternListInit) .none kV doc pm an cdv ct), osl⟩) (c : PySem.W.codeIn K cdv "PatternList.__init__" = true) (k : PySem.W.keepIn K (.ref f) = true)
    (pg : PySem.W.plainGet K C Str.empty = true) (hd : PySem.W.hasDictIn K C = true) (po : PySem.W.plainOver K C = true) (sa : PySem.W.findIn K (.ref C) "__setattr__" = some (some (.builtin "object.__setattr__"))) (mk : PySem.W.makesIn K C = true) (kc : PySem.W.keepIn K (.ref C) = true)
    (n0 : PySem.W.findIn K (.ref C) "left" = some none)
    (n1 : PySem.W.findIn K (.ref C) "right" = some none)
    (n2 : PySem.W.findIn K (.ref C) "words" = some none)
    (n3 : PySem.W.findIn K (.ref C) "entries" = some none) : ZPatternList K mg :=
  ⟨clsR_mk X G aC a i l c k pg hd po sa mk kc, n0, n1, n2, n3⟩
structure ZTokenReader (K : PySem.W.Frag) (mg : Str → Option Value) : Type where
  R : ClsR K mg "TokenReader" "TokenReader.__init__" sTokenReaderInit
  nTokenReader_tokens : NoAttr K R.C "tokens"
  nTokenReader_at : NoAttr K R.C "at"
  mTokenReader_stands : MthR K R.C "stands" "TokenReader.stands" sTokenReaderStands
  mTokenReader_take : MthR K R.C "take" "TokenReader.take" sTokenReaderTake
  mTokenReader_take_keyword : MthR K R.C "take_keyword" "TokenReader.take_keyword" sTokenReaderTakeKeyword
def zTokenReader {C : Addr} {f : Addr} {oc kV doc pm cdv ct : Value} {od an : Option Addr} {osl : Array (Option Value)} {f2 : Addr} {oc2 kV2 doc2 pm2 cdv2 ct2 : Value} {od2 an2 : Option Addr} {osl2 : Array (Option Value)} {f3 : Addr} {oc3 kV3 doc3 pm3 cdv3 ct3 : Value} {od3 an3 : Option Addr} {osl3 : Array (Option Value)} {f4 : Addr} {oc4 kV4 doc4 pm4 cdv4 ct4 : Value} {od4 an4 : Option Addr} {osl4 : Array (Option Value)} (X : K.In h) (G : h.Ns mainGlobals mg)
    (aC : PySem.W.nsIn K mainGlobals "TokenReader" = some (some (.ref C))) (a : PySem.W.findIn K (.ref C) "__init__" = some (some (.ref f))) (i : PySem.W.isFn K (.ref f) = true) (l : K.lookup f = some ⟨oc, od, .func (PySem.W.fnOf "__init__" "TokenReader.__init__" (defArgs sTokenReaderInit) (defBody sTokenReaderInit) (defScope sTokenReaderInit) .none kV doc pm an cdv ct), osl⟩) (c : PySem.W.codeIn K cdv "TokenReader.__init__" = true) (k : PySem.W.keepIn K (.ref f) = true)
    (pg : PySem.W.plainGet K C Str.empty = true) (hd : PySem.W.hasDictIn K C = true) (po : PySem.W.plainOver K C = true) (sa : PySem.W.findIn K (.ref C) "__setattr__" = some (some (.builtin "object.__setattr__"))) (mk : PySem.W.makesIn K C = true) (kc : PySem.W.keepIn K (.ref C) = true)
    (n0 : PySem.W.findIn K (.ref C) "tokens" = some none)
    (n1 : PySem.W.findIn K (.ref C) "at" = some none)
    (a2 : PySem.W.findIn K (.ref C) "stands" = some (some (.ref f2))) (i2 : PySem.W.isFn K (.ref f2) = true) (l2 : K.lookup f2 = some ⟨oc2, od2, .func (PySem.W.fnOf "stands" "TokenReader.stands" (defArgs sTokenReaderStands) (defBody sTokenReaderStands) (defScope sTokenReaderStands) .none kV2 doc2 pm2 an2 cdv2 ct2), osl2⟩) (c2 : PySem.W.codeIn K cdv2 "TokenReader.stands" = true) (k2 : PySem.W.keepIn K (.ref f2) = true)
    (a3 : PySem.W.findIn K (.ref C) "take" = some (some (.ref f3))) (i3 : PySem.W.isFn K (.ref f3) = true) (l3 : K.lookup f3 = some ⟨oc3, od3, .func (PySem.W.fnOf "take" "TokenReader.take" (defArgs sTokenReaderTake) (defBody sTokenReaderTake) (defScope sTokenReaderTake) .none kV3 doc3 pm3 an3 cdv3 ct3), osl3⟩) (c3 : PySem.W.codeIn K cdv3 "TokenReader.take" = true) (k3 : PySem.W.keepIn K (.ref f3) = true)
    (a4 : PySem.W.findIn K (.ref C) "take_keyword" = some (some (.ref f4))) (i4 : PySem.W.isFn K (.ref f4) = true) (l4 : K.lookup f4 = some ⟨oc4, od4, .func (PySem.W.fnOf "take_keyword" "TokenReader.take_keyword" (defArgs sTokenReaderTakeKeyword) (defBody sTokenReaderTakeKeyword) (defScope sTokenReaderTakeKeyword) .none kV4 doc4 pm4 an4 cdv4 ct4), osl4⟩) (c4 : PySem.W.codeIn K cdv4 "TokenReader.take_keyword" = true) (k4 : PySem.W.keepIn K (.ref f4) = true) : ZTokenReader K mg :=
  ⟨clsR_mk X G aC a i l c k pg hd po sa mk kc, n0, n1, mthR_mk a2 i2 l2 c2 k2, mthR_mk a3 i3 l3 c3 k3, mthR_mk a4 i4 l4 c4 k4⟩
structure ZFound (K : PySem.W.Frag) (mg : Str → Option Value) : Type where
  R : ClsR K mg "Found" "Found.__init__" sFoundInit
  nFound_levels : NoAttr K R.C "levels"
  nFound_steps : NoAttr K R.C "steps"
  mFound_put_over : MthR K R.C "put_over" "Found.put_over" sFoundPutOver
def zFound {C : Addr} {f : Addr} {oc kV doc pm cdv ct : Value} {od an : Option Addr} {osl : Array (Option Value)} {f2 : Addr} {oc2 kV2 doc2 pm2 cdv2 ct2 : Value} {od2 an2 : Option Addr} {osl2 : Array (Option Value)} (X : K.In h) (G : h.Ns mainGlobals mg)
    (aC : PySem.W.nsIn K mainGlobals "Found" = some (some (.ref C))) (a : PySem.W.findIn K (.ref C) "__init__" = some (some (.ref f))) (i : PySem.W.isFn K (.ref f) = true) (l : K.lookup f = some ⟨oc, od, .func (PySem.W.fnOf "__init__" "Found.__init__" (defArgs sFoundInit) (defBody sFoundInit) (defScope sFoundInit) .none kV doc pm an cdv ct), osl⟩) (c : PySem.W.codeIn K cdv "Found.__init__" = true) (k : PySem.W.keepIn K (.ref f) = true)
    (pg : PySem.W.plainGet K C Str.empty = true) (hd : PySem.W.hasDictIn K C = true) (po : PySem.W.plainOver K C = true) (sa : PySem.W.findIn K (.ref C) "__setattr__" = some (some (.builtin "object.__setattr__"))) (mk : PySem.W.makesIn K C = true) (kc : PySem.W.keepIn K (.ref C) = true)
    (n0 : PySem.W.findIn K (.ref C) "levels" = some none)
    (n1 : PySem.W.findIn K (.ref C) "steps" = some none)
    (a2 : PySem.W.findIn K (.ref C) "put_over" = some (some (.ref f2))) (i2 : PySem.W.isFn K (.ref f2) = true) (l2 : K.lookup f2 = some ⟨oc2, od2, .func (PySem.W.fnOf "put_over" "Found.put_over" (defArgs sFoundPutOver) (defBody sFoundPutOver) (defScope sFoundPutOver) .none kV2 doc2 pm2 an2 cdv2 ct2), osl2⟩) (c2 : PySem.W.codeIn K cdv2 "Found.put_over" = true) (k2 : PySem.W.keepIn K (.ref f2) = true) : ZFound K mg :=
  ⟨clsR_mk X G aC a i l c k pg hd po sa mk kc, n0, n1, mthR_mk a2 i2 l2 c2 k2⟩
structure ZPacker (K : PySem.W.Frag) (mg : Str → Option Value) : Type where
  R : ClsR K mg "Packer" "Packer.__init__" sPackerInit
  nPacker_nodes : NoAttr K R.C "nodes"
  nPacker_numbers : NoAttr K R.C "numbers"
  mPacker_number_of : MthR K R.C "number_of" "Packer.number_of" sPackerNumberOf
def zPacker {C : Addr} {f : Addr} {oc kV doc pm cdv ct : Value} {od an : Option Addr} {osl : Array (Option Value)} {f2 : Addr} {oc2 kV2 doc2 pm2 cdv2 ct2 : Value} {od2 an2 : Option Addr} {osl2 : Array (Option Value)} (X : K.In h) (G : h.Ns mainGlobals mg)
    (aC : PySem.W.nsIn K mainGlobals "Packer" = some (some (.ref C))) (a : PySem.W.findIn K (.ref C) "__init__" = some (some (.ref f))) (i : PySem.W.isFn K (.ref f) = true) (l : K.lookup f = some ⟨oc, od, .func (PySem.W.fnOf "__init__" "Packer.__init__" (defArgs sPackerInit) (defBody sPackerInit) (defScope sPackerInit) .none kV doc pm an cdv ct), osl⟩) (c : PySem.W.codeIn K cdv "Packer.__init__" = true) (k : PySem.W.keepIn K (.ref f) = true)
    (pg : PySem.W.plainGet K C Str.empty = true) (hd : PySem.W.hasDictIn K C = true) (po : PySem.W.plainOver K C = true) (sa : PySem.W.findIn K (.ref C) "__setattr__" = some (some (.builtin "object.__setattr__"))) (mk : PySem.W.makesIn K C = true) (kc : PySem.W.keepIn K (.ref C) = true)
    (n0 : PySem.W.findIn K (.ref C) "nodes" = some none)
    (n1 : PySem.W.findIn K (.ref C) "numbers" = some none)
    (a2 : PySem.W.findIn K (.ref C) "number_of" = some (some (.ref f2))) (i2 : PySem.W.isFn K (.ref f2) = true) (l2 : K.lookup f2 = some ⟨oc2, od2, .func (PySem.W.fnOf "number_of" "Packer.number_of" (defArgs sPackerNumberOf) (defBody sPackerNumberOf) (defScope sPackerNumberOf) .none kV2 doc2 pm2 an2 cdv2 ct2), osl2⟩) (c2 : PySem.W.codeIn K cdv2 "Packer.number_of" = true) (k2 : PySem.W.keepIn K (.ref f2) = true) : ZPacker K mg :=
  ⟨clsR_mk X G aC a i l c k pg hd po sa mk kc, n0, n1, mthR_mk a2 i2 l2 c2 k2⟩
structure ZRowReader (K : PySem.W.Frag) (mg : Str → Option Value) : Type where
  R : ClsR K mg "RowReader" "RowReader.__init__" sRowReaderInit
  nRowReader_numbers : NoAttr K R.C "numbers"
  nRowReader_at : NoAttr K R.C "at"
  mRowReader_is_done : MthR K R.C "is_done" "RowReader.is_done" sRowReaderIsDone
  mRowReader_take_some : MthR K R.C "take_some" "RowReader.take_some" sRowReaderTakeSome
  mRowReader_take_number : MthR K R.C "take_number" "RowReader.take_number" sRowReaderTakeNumber
  mRowReader_take_row : MthR K R.C "take_row" "RowReader.take_row" sRowReaderTakeRow
def zRowReader {C : Addr} {f : Addr} {oc kV doc pm cdv ct : Value} {od an : Option Addr} {osl : Array (Option Value)} {f2 : Addr} {oc2 kV2 doc2 pm2 cdv2 ct2 : Value} {od2 an2 : Option Addr} {osl2 : Array (Option Value)} {f3 : Addr} {oc3 kV3 doc3 pm3 cdv3 ct3 : Value} {od3 an3 : Option Addr} {osl3 : Array (Option Value)} {f4 : Addr} {oc4 kV4 doc4 pm4 cdv4 ct4 : Value} {od4 an4 : Option Addr} {osl4 : Array (Option Value)} {f5 : Addr} {oc5 kV5 doc5 pm5 cdv5 ct5 : Value} {od5 an5 : Option Addr} {osl5 : Array (Option Value)} (X : K.In h) (G : h.Ns mainGlobals mg)
    (aC : PySem.W.nsIn K mainGlobals "RowReader" = some (some (.ref C))) (a : PySem.W.findIn K (.ref C) "__init__" = some (some (.ref f))) (i : PySem.W.isFn K (.ref f) = true) (l : K.lookup f = some ⟨oc, od, .func (PySem.W.fnOf "__init__" "RowReader.__init__" (defArgs sRowReaderInit) (defBody sRowReaderInit) (defScope sRowReaderInit) .none kV doc pm an cdv ct), osl⟩) (c : PySem.W.codeIn K cdv "RowReader.__init__" = true) (k : PySem.W.keepIn K (.ref f) = true)
    (pg : PySem.W.plainGet K C Str.empty = true) (hd : PySem.W.hasDictIn K C = true) (po : PySem.W.plainOver K C = true) (sa : PySem.W.findIn K (.ref C) "__setattr__" = some (some (.builtin "object.__setattr__"))) (mk : PySem.W.makesIn K C = true) (kc : PySem.W.keepIn K (.ref C) = true)
    (n0 : PySem.W.findIn K (.ref C) "numbers" = some none)
    (n1 : PySem.W.findIn K (.ref C) "at" = some none)
    (a2 : PySem.W.findIn K (.ref C) "is_done" = some (some (.ref f2))) (i2 : PySem.W.isFn K (.ref f2) = true) (l2 : K.lookup f2 = some ⟨oc2, od2, .func (PySem.W.fnOf "is_done" "RowReader.is_done" (defArgs sRowReaderIsDone) (defBody sRowReaderIsDone) (defScope sRowReaderIsDone) .none kV2 doc2 pm2 an2 cdv2 ct2), osl2⟩) (c2 : PySem.W.codeIn K cdv2 "RowReader.is_done" = true) (k2 : PySem.W.keepIn K (.ref f2) = true)
    (a3 : PySem.W.findIn K (.ref C) "take_some" = some (some (.ref f3))) (i3 : PySem.W.isFn K (.ref f3) = true) (l3 : K.lookup f3 = some ⟨oc3, od3, .func (PySem.W.fnOf "take_some" "RowReader.take_some" (defArgs sRowReaderTakeSome) (defBody sRowReaderTakeSome) (defScope sRowReaderTakeSome) .none kV3 doc3 pm3 an3 cdv3 ct3), osl3⟩) (c3 : PySem.W.codeIn K cdv3 "RowReader.take_some" = true) (k3 : PySem.W.keepIn K (.ref f3) = true)
    (a4 : PySem.W.findIn K (.ref C) "take_number" = some (some (.ref f4))) (i4 : PySem.W.isFn K (.ref f4) = true) (l4 : K.lookup f4 = some ⟨oc4, od4, .func (PySem.W.fnOf "take_number" "RowReader.take_number" (defArgs sRowReaderTakeNumber) (defBody sRowReaderTakeNumber) (defScope sRowReaderTakeNumber) .none kV4 doc4 pm4 an4 cdv4 ct4), osl4⟩) (c4 : PySem.W.codeIn K cdv4 "RowReader.take_number" = true) (k4 : PySem.W.keepIn K (.ref f4) = true)
    (a5 : PySem.W.findIn K (.ref C) "take_row" = some (some (.ref f5))) (i5 : PySem.W.isFn K (.ref f5) = true) (l5 : K.lookup f5 = some ⟨oc5, od5, .func (PySem.W.fnOf "take_row" "RowReader.take_row" (defArgs sRowReaderTakeRow) (defBody sRowReaderTakeRow) (defScope sRowReaderTakeRow) .none kV5 doc5 pm5 an5 cdv5 ct5), osl5⟩) (c5 : PySem.W.codeIn K cdv5 "RowReader.take_row" = true) (k5 : PySem.W.keepIn K (.ref f5) = true) : ZRowReader K mg :=
  ⟨clsR_mk X G aC a i l c k pg hd po sa mk kc, n0, n1, mthR_mk a2 i2 l2 c2 k2, mthR_mk a3 i3 l3 c3 k3, mthR_mk a4 i4 l4 c4 k4, mthR_mk a5 i5 l5 c5 k5⟩
structure ZHolder (K : PySem.W.Frag) (mg : Str → Option Value) : Type where
  R : ClsR K mg "Holder" "Holder.__init__" sHolderInit
  nHolder_held : NoAttr K R.C "held"
  nHolder_table : NoAttr K R.C "table"
def zHolder {C : Addr} {f : Addr} {oc kV doc pm cdv ct : Value} {od an : Option Addr} {osl : Array (Option Value)} (X : K.In h) (G : h.Ns mainGlobals mg)
    (aC : PySem.W.nsIn K mainGlobals "Holder" = some (some (.ref C))) (a : PySem.W.findIn K (.ref C) "__init__" = some (some (.ref f))) (i : PySem.W.isFn K (.ref f) = true) (l : K.lookup f = some ⟨oc, od, .func (PySem.W.fnOf "__init__" "Holder.__init__" (defArgs sHolderInit) (defBody sHolderInit) (defScope sHolderInit) .none kV doc pm an cdv ct), osl⟩) (c : PySem.W.codeIn K cdv "Holder.__init__" = true) (k : PySem.W.keepIn K (.ref f) = true)
    (pg : PySem.W.plainGet K C Str.empty = true) (hd : PySem.W.hasDictIn K C = true) (po : PySem.W.plainOver K C = true) (sa : PySem.W.findIn K (.ref C) "__setattr__" = some (some (.builtin "object.__setattr__"))) (mk : PySem.W.makesIn K C = true) (kc : PySem.W.keepIn K (.ref C) = true)
    (n0 : PySem.W.findIn K (.ref C) "held" = some none)
    (n1 : PySem.W.findIn K (.ref C) "table" = some none) : ZHolder K mg :=
  ⟨clsR_mk X G aC a i l c k pg hd po sa mk kc, n0, n1⟩
theorem zNotTold {CF : Addr} (X : K.In h) (G : h.Ns mainGlobals mg) (aF : PySem.W.nsIn K mainGlobals "NotTold" = some (some (.ref CF)))
    (xF : PySem.W.excIn K CF [.type "Exception", .type "BaseException", .type "object"] "Exception.__new__" = true) (kF : PySem.W.keepIn K (.ref CF) = true) (bF : PySem.W.subIn K (.ref CF) (.type "BaseException") = some true) (tF : PySem.W.typeIn K (.ref CF) = some (.type "type"))
    (iF : PySem.W.isClsIn K CF = true) (sF : PySem.W.subIn K (.ref CF) (.ref CF) = some true) : ∃ C, L2.NtTxt K mg C := ⟨CF, PySem.W.mg_of X G aF, xF, kF, bF, tF, exm_self bF iF tF sF⟩
/-- the promise, from the request -/
theorem answers_sp {H : Hp} {p : Addr} {l : List Int} (hask : PyVahypd.answers_asked l = true) (hs : SqL K H p (iv l)) : spAnswers K [.ref p] H (fun v H' => Dw K H' v (.list ((PyVahypd.answers l).map WData.int))) (fun _ _ _ => False) := by
  unfold PyVahypd.answers_asked at hask
  cases hc : PyFlat.calls PyVahypd.shape l.length l with
  | none => rw [hc] at hask; cases hask
  | some cs =>
    rw [hc] at hask
    dsimp only at hask
    have he : PyVahypd.answers l = PyFlat.told (PyFlat.played VahypdNeutral.step VahypdNeutral.start cs) := by
      unfold PyVahypd.answers PyVahypd.calls
      rw [hc]
      dsimp only
      rw [Mx.map_whole]
    rw [Mx.map_whole] at hask
    simp only [Bool.and_eq_true] at hask
    obtain ⟨⟨⟨_, _⟩, hk⟩, hz⟩ := hask
    unfold VahypdNeutral.asked at hk
    have hk := (Bool.and_eq_true_iff.mp hk).1
    have hz := of_decide_eq_true hz
    rw [he] at hz ⊢
    exact ⟨p, l, cs, rfl, hs, hc, fun c h => List.all_eq_true.mp hk c h, hz, fun q H2 _ _ h => .lst (L2.SqL.of h) (L2.dw_ints _)⟩
theorem whole {P : Program} {w : World} {fa : Addr} (T : Tx K mg) (hfa : mg "answers" = some (.ref fa)) : ∃ fd : FuncData, (∀ (s : Shared) (us : List Value), us.length = (["calls"] : List Str).length → BindsTo s fd ⟨us, []⟩ ((["calls"] : List Str).zip us)) ∧ ∀ base : Heap, K.In base → base.Ns mainGlobals mg → FnOk P w K mg base CX0 17 fa fd ["calls"] (spAnswers K) := by
  have e := Option.some.inj (hfa.symm.trans T.answers.m)
  injection e with e
  subst e
  refine ⟨T.answers.fd, fun s us hu => ?_, fun base _ _ => ok_answers T⟩
  obtain ⟨oc, od, kV, doc, pm, an, cdv, ct, osl, e, lk, hcd⟩ := T.answers.F.ex
  rw [e]
  match us, hu with
  | [_], _ => exact .of_eq rfl
end
end Pt
set_option Elab.async false
set_option linter.all false
set_option maxRecDepth 100000
set_option maxHeartbeats 2000000
open PySem PySem.W PyProof.Rows Pt
set_option maxRecDepth 100000 in
set_option maxHeartbeats 8000000 in
theorem PySem.Challenge.cw_patterntables_s01_answers_holds : PySem.Challenge.rw_patterntables_s01_answers.Holds := by
  w_on; k_headS; (case hw => exact ⟨[.list [.int 1]], by decide +kernel, by decide +kernel⟩)
  k_fillS
  refine L2.walk_specK (r := PySem.Challenge.rw_patterntables_s01_answers) (k := 17) (CX := L2.CX0) (ps := ["calls"]) (sp := Pt.spAnswers) (by decide +kernel) rfl rfl ⟨rfl, by decide, by decide⟩ (fun w h Y => PySem.W.kIn_of Y) ?F ?S (fun _ _ _ _ z => z)
  case F =>
    intro w mg fa h Y KX G hmg
    have r_cNode : ZNode (PySem.Challenge.cw_patterntables_s01_answers_holds.heap_1 w.params) mg := by
      refine' zNode KX G ?aC ?a ?l ?i ?c ?k ?pg ?hd ?po ?sa ?mk ?kc ?n0 ?n1 ?a2 ?i2 ?l2 ?c2 ?k2
      (case aC => k_is); (case a => k_is); (case l => k_is); (case i => k_is); (case c => k_is); (case k => k_is); (case pg => k_is); (case hd => k_is); (case po => k_is); (case sa => k_is); (case mk => k_is); (case kc => k_is); (case n0 => k_is); (case n1 => k_is); (case a2 => k_is); (case i2 => k_is); (case l2 => k_is); (case c2 => k_is); (case k2 => k_is)
    have r_cTable : ZTable (PySem.Challenge.cw_patterntables_s01_answers_holds.heap_1 w.params) mg := by
      refine' zTable KX G ?aC ?a ?l ?i ?c ?k ?pg ?hd ?po ?sa ?mk ?kc ?n0 ?n1
      (case aC => k_is); (case a => k_is); (case l => k_is); (case i => k_is); (case c => k_is); (case k => k_is); (case pg => k_is); (case hd => k_is); (case po => k_is); (case sa => k_is); (case mk => k_is); (case kc => k_is); (case n0 => k_is); (case n1 => k_is)
    have r_cToken : ZToken (PySem.Challenge.cw_patterntables_s01_answers_holds.heap_1 w.params) mg := by
      refine' zToken KX G ?aC ?a ?l ?i ?c ?k ?pg ?hd ?po ?sa ?mk ?kc ?n0 ?n1 ?n2
      (case aC => k_is); (case a => k_is); (case l => k_is); (case i => k_is); (case c => k_is); (case k => k_is); (case pg => k_is); (case hd => k_is); (case po => k_is); (case sa => k_is); (case mk => k_is); (case kc => k_is); (case n0 => k_is); (case n1 => k_is); (case n2 => k_is)
    have r_cEntry : ZEntry (PySem.Challenge.cw_patterntables_s01_answers_holds.heap_1 w.params) mg := by
      refine' zEntry KX G ?aC ?a ?l ?i ?c ?k ?pg ?hd ?po ?sa ?mk ?kc ?n0 ?n1
      (case aC => k_is); (case a => k_is); (case l => k_is); (case i => k_is); (case c => k_is); (case k => k_is); (case pg => k_is); (case hd => k_is); (case po => k_is); (case sa => k_is); (case mk => k_is); (case kc => k_is); (case n0 => k_is); (case n1 => k_is)
    have r_cPatternList : ZPatternList (PySem.Challenge.cw_patterntables_s01_answers_holds.heap_1 w.params) mg := by
      refine' zPatternList KX G ?aC ?a ?l ?i ?c ?k ?pg ?hd ?po ?sa ?mk ?kc ?n0 ?n1 ?n2 ?n3
      (case aC => k_is); (case a => k_is); (case l => k_is); (case i => k_is); (case c => k_is); (case k => k_is); (case pg => k_is); (case hd => k_is); (case po => k_is); (case sa => k_is); (case mk => k_is); (case kc => k_is); (case n0 => k_is); (case n1 => k_is); (case n2 => k_is); (case n3 => k_is)
    have r_cTokenReader : ZTokenReader (PySem.Challenge.cw_patterntables_s01_answers_holds.heap_1 w.params) mg := by
      refine' zTokenReader KX G ?aC ?a ?l ?i ?c ?k ?pg ?hd ?po ?sa ?mk ?kc ?n0 ?n1 ?a2 ?i2 ?l2 ?c2 ?k2 ?a3 ?i3 ?l3 ?c3 ?k3 ?a4 ?i4 ?l4 ?c4 ?k4
      (case aC => k_is); (case a => k_is); (case l => k_is); (case i => k_is); (case c => k_is); (case k => k_is); (case pg => k_is); (case hd => k_is); (case po => k_is); (case sa => k_is); (case mk => k_is); (case kc => k_is); (case n0 => k_is); (case n1 => k_is); (case a2 => k_is); (case i2 => k_is); (case l2 => k_is); (case c2 => k_is); (case k2 => k_is); (case a3 => k_is); (case i3 => k_is); (case l3 => k_is); (case c3 => k_is); (case k3 => k_is); (case a4 => k_is); (case i4 => k_is); (case l4 => k_is); (case c4 => k_is); (case k4 => k_is)
    have r_cFound : ZFound (PySem.Challenge.cw_patterntables_s01_answers_holds.heap_1 w.params) mg := by
      refine' zFound KX G ?aC ?a ?l ?i ?c ?k ?pg ?hd ?po ?sa ?mk ?kc ?n0 ?n1 ?a2 ?i2 ?l2 ?c2 ?k2
      (case aC => k_is); (case a => k_is); (case l => k_is); (case i => k_is); (case c => k_is); (case k => k_is); (case pg => k_is); (case hd => k_is); (case po => k_is); (case sa => k_is); (case mk => k_is); (case kc => k_is); (case n0 => k_is); (case n1 => k_is); (case a2 => k_is); (case i2 => k_is); (case l2 => k_is); (case c2 => k_is); (case k2 => k_is)
    have r_cPacker : ZPacker (PySem.Challenge.cw_patterntables_s01_answers_holds.heap_1 w.params) mg := by
      refine' zPacker KX G ?aC ?a ?l ?i ?c ?k ?pg ?hd ?po ?sa ?mk ?kc ?n0 ?n1 ?a2 ?i2 ?l2 ?c2 ?k2
      (case aC => k_is); (case a => k_is); (case l => k_is); (case i => k_is); (case c => k_is); (case k => k_is); (case pg => k_is); (case hd => k_is); (case po => k_is); (case sa => k_is); (case mk => k_is); (case kc => k_is); (case n0 => k_is); (case n1 => k_is); (case a2 => k_is); (case i2 => k_is); (case l2 => k_is); (case c2 => k_is); (case k2 => k_is)
    have r_cRowReader : ZRowReader (PySem.Challenge.cw_patterntables_s01_answers_holds.heap_1 w.params) mg := by
      refine' zRowReader KX G ?aC ?a ?l ?i ?c ?k ?pg ?hd ?po ?sa ?mk ?kc ?n0 ?n1 ?a2 ?i2 ?l2 ?c2 ?k2 ?a3 ?i3 ?l3 ?c3 ?k3 ?a4 ?i4 ?l4 ?c4 ?k4 ?a5 ?i5 ?l5 ?c5 ?k5
      (case aC => k_is); (case a => k_is); (case l => k_is); (case i => k_is); (case c => k_is); (case k => k_is); (case pg => k_is); (case hd => k_is); (case po => k_is); (case sa => k_is); (case mk => k_is); (case kc => k_is); (case n0 => k_is); (case n1 => k_is); (case a2 => k_is); (case i2 => k_is); (case l2 => k_is); (case c2 => k_is); (case k2 => k_is); (case a3 => k_is); (case i3 => k_is); (case l3 => k_is); (case c3 => k_is); (case k3 => k_is); (case a4 => k_is); (case i4 => k_is); (case l4 => k_is); (case c4 => k_is); (case k4 => k_is); (case a5 => k_is); (case i5 => k_is); (case l5 => k_is); (case c5 => k_is); (case k5 => k_is)
    have r_cHolder : ZHolder (PySem.Challenge.cw_patterntables_s01_answers_holds.heap_1 w.params) mg := by
      refine' zHolder KX G ?aC ?a ?l ?i ?c ?k ?pg ?hd ?po ?sa ?mk ?kc ?n0 ?n1
      (case aC => k_is); (case a => k_is); (case l => k_is); (case i => k_is); (case c => k_is); (case k => k_is); (case pg => k_is); (case hd => k_is); (case po => k_is); (case sa => k_is); (case mk => k_is); (case kc => k_is); (case n0 => k_is); (case n1 => k_is)
    have r_k_TEXT_TOO_LONG : GlV mg "TEXT_TOO_LONG" (.int 1) := by
      refine' glI_mk KX G ?a
      (case a => k_is)
    have r_k_NO_TOKEN : GlV mg "NO_TOKEN" (.int 2) := by
      refine' glI_mk KX G ?a
      (case a => k_is)
    have r_k_NOT_ALLOWED : GlV mg "NOT_ALLOWED" (.int 3) := by
      refine' glI_mk KX G ?a
      (case a => k_is)
    have r_k_TOO_MANY : GlV mg "TOO_MANY" (.int 4) := by
      refine' glI_mk KX G ?a
      (case a => k_is)
    have r_k_TOLD_BEFORE : GlV mg "TOLD_BEFORE" (.int 5) := by
      refine' glI_mk KX G ?a
      (case a => k_is)
    have r_k_NOT_AS_TOLD : GlV mg "NOT_AS_TOLD" (.int 7) := by
      refine' glI_mk KX G ?a
      (case a => k_is)
    have r_k_BLANKS : GlT (PySem.Challenge.cw_patterntables_s01_answers_holds.heap_1 w.params) mg "BLANKS" [.int 32, .int 9, .int 10] := by
      refine' glT_mk KX G ?a ?l ?z ?v
      (case a => k_is); (case l => k_is); (case z => decide); (case v => exact .cons ⟨_, rfl⟩ (.cons ⟨_, rfl⟩ (.cons ⟨_, rfl⟩ (.nil))))
    have r_k_LINE_END : GlV mg "LINE_END" (.int 10) := by
      refine' glI_mk KX G ?a
      (case a => k_is)
    have r_k_REMARK : GlV mg "REMARK" (.int 35) := by
      refine' glI_mk KX G ?a
      (case a => k_is)
    have r_k_SEMICOLON : GlV mg "SEMICOLON" (.int 59) := by
      refine' glI_mk KX G ?a
      (case a => k_is)
    have r_k_HYPHEN : GlV mg "HYPHEN" (.int 45) := by
      refine' glI_mk KX G ?a
      (case a => k_is)
    have r_k_POINT : GlV mg "POINT" (.int 46) := by
      refine' glI_mk KX G ?a
      (case a => k_is)
    have r_k_CHUNK : GlV mg "CHUNK" (.str "chunk") := by
      refine' glS_mk KX G ?a
      (case a => k_is)
    have r_k_SIGN : GlV mg "SIGN" (.str "sign") := by
      refine' glS_mk KX G ?a
      (case a => k_is)
    have r_k_END : GlV mg "END" (.str "end") := by
      refine' glS_mk KX G ?a
      (case a => k_is)
    have r_k_LONGEST_CHUNK : GlV mg "LONGEST_CHUNK" (.int 40) := by
      refine' glI_mk KX G ?a
      (case a => k_is)
    have r_k_GREATEST_MARGIN : GlV mg "GREATEST_MARGIN" (.int 5) := by
      refine' glI_mk KX G ?a
      (case a => k_is)
    have r_k_FEWEST_LETTERS : GlV mg "FEWEST_LETTERS" (.int 2) := by
      refine' glI_mk KX G ?a
      (case a => k_is)
    have r_k_MOST_LETTERS : GlV mg "MOST_LETTERS" (.int 16) := by
      refine' glI_mk KX G ?a
      (case a => k_is)
    have r_k_MOST_PATTERN_LETTERS : GlV mg "MOST_PATTERN_LETTERS" (.int 6) := by
      refine' glI_mk KX G ?a
      (case a => k_is)
    have r_k_EDGE : GlV mg "EDGE" (.int 0) := by
      refine' glI_mk KX G ?a
      (case a => k_is)
    have r_k_LONGEST_TEXT : GlV mg "LONGEST_TEXT" (.int 4096) := by
      refine' glI_mk KX G ?a
      (case a => k_is)
    have r_k_MOST_WORDS : GlV mg "MOST_WORDS" (.int 24) := by
      refine' glI_mk KX G ?a
      (case a => k_is)
    have r_k_MOST_PATTERNS : GlV mg "MOST_PATTERNS" (.int 40) := by
      refine' glI_mk KX G ?a
      (case a => k_is)
    have r_k_MOST_NODES : GlV mg "MOST_NODES" (.int 300) := by
      refine' glI_mk KX G ?a
      (case a => k_is)
    have r_k_LOAD : GlV mg "LOAD" (.int 0) := by
      refine' glI_mk KX G ?a
      (case a => k_is)
    have r_k_TABLE : GlV mg "TABLE" (.int 1) := by
      refine' glI_mk KX G ?a
      (case a => k_is)
    have r_k_STORE : GlV mg "STORE" (.int 2) := by
      refine' glI_mk KX G ?a
      (case a => k_is)
    have r_k_LEVELS : GlV mg "LEVELS" (.int 3) := by
      refine' glI_mk KX G ?a
      (case a => k_is)
    have r_k_PART : GlV mg "PART" (.int 4) := by
      refine' glI_mk KX G ?a
      (case a => k_is)
    have r_k_ADD : GlV mg "ADD" (.int 5) := by
      refine' glI_mk KX G ?a
      (case a => k_is)
    have r_k_DROP : GlV mg "DROP" (.int 6) := by
      refine' glI_mk KX G ?a
      (case a => k_is)
    have r_k_CHECK : GlV mg "CHECK" (.int 7) := by
      refine' glI_mk KX G ?a
      (case a => k_is)
    have r_k_FIND : GlV mg "FIND" (.int 8) := by
      refine' glI_mk KX G ?a
      (case a => k_is)
    have r_k_NODE : GlV mg "NODE" (.int 9) := by
      refine' glI_mk KX G ?a
      (case a => k_is)
    have r_b_Exception : mg "Exception" = none := by
      refine' free_mk KX G ?a
      (case a => k_is)
    have r_b_all : mg "all" = none := by
      refine' free_mk KX G ?a
      (case a => k_is)
    have r_b_any : mg "any" = none := by
      refine' free_mk KX G ?a
      (case a => k_is)
    have r_b_enumerate : mg "enumerate" = none := by
      refine' free_mk KX G ?a
      (case a => k_is)
    have r_b_len : mg "len" = none := by
      refine' free_mk KX G ?a
      (case a => k_is)
    have r_b_list : mg "list" = none := by
      refine' free_mk KX G ?a
      (case a => k_is)
    have r_b_max : mg "max" = none := by
      refine' free_mk KX G ?a
      (case a => k_is)
    have r_b_min : mg "min" = none := by
      refine' free_mk KX G ?a
      (case a => k_is)
    have r_b_ord : mg "ord" = none := by
      refine' free_mk KX G ?a
      (case a => k_is)
    have r_b_range : mg "range" = none := by
      refine' free_mk KX G ?a
      (case a => k_is)
    have r_b_set : mg "set" = none := by
      refine' free_mk KX G ?a
      (case a => k_is)
    have r_b_sorted : mg "sorted" = none := by
      refine' free_mk KX G ?a
      (case a => k_is)
    have r_b_sum : mg "sum" = none := by
      refine' free_mk KX G ?a
      (case a => k_is)
    have r_b_tuple : mg "tuple" = none := by
      refine' free_mk KX G ?a
      (case a => k_is)
    have r_nodes_along : FnR (PySem.Challenge.cw_patterntables_s01_answers_holds.heap_1 w.params) mg "nodes_along" sNodesAlong := by
      refine' fnR_mk KX G ?a ?l ?c ?k
      (case a => k_is); (case l => k_is); (case c => k_is); (case k => k_is)
    have r_digits_at : FnR (PySem.Challenge.cw_patterntables_s01_answers_holds.heap_1 w.params) mg "digits_at" sDigitsAt := by
      refine' fnR_mk KX G ?a ?l ?c ?k
      (case a => k_is); (case l => k_is); (case c => k_is); (case k => k_is)
    have r_counted_ends : FnR (PySem.Challenge.cw_patterntables_s01_answers_holds.heap_1 w.params) mg "counted_ends" sCountedEnds := by
      refine' fnR_mk KX G ?a ?l ?c ?k
      (case a => k_is); (case l => k_is); (case c => k_is); (case k => k_is)
    have r_goes_on_right : FnR (PySem.Challenge.cw_patterntables_s01_answers_holds.heap_1 w.params) mg "goes_on_right" sGoesOnRight := by
      refine' fnR_mk KX G ?a ?l ?c ?k
      (case a => k_is); (case l => k_is); (case c => k_is); (case k => k_is)
    have r_is_right : FnR (PySem.Challenge.cw_patterntables_s01_answers_holds.heap_1 w.params) mg "is_right" sIsRight := by
      refine' fnR_mk KX G ?a ?l ?c ?k
      (case a => k_is); (case l => k_is); (case c => k_is); (case k => k_is)
    have r_tells_just : FnR (PySem.Challenge.cw_patterntables_s01_answers_holds.heap_1 w.params) mg "tells_just" sTellsJust := by
      refine' fnR_mk KX G ?a ?l ?c ?k
      (case a => k_is); (case l => k_is); (case c => k_is); (case k => k_is)
    have r_spelled : FnR (PySem.Challenge.cw_patterntables_s01_answers_holds.heap_1 w.params) mg "spelled" sSpelled := by
      refine' fnR_mk KX G ?a ?l ?c ?k
      (case a => k_is); (case l => k_is); (case c => k_is); (case k => k_is)
    have r_is_letter : FnR (PySem.Challenge.cw_patterntables_s01_answers_holds.heap_1 w.params) mg "is_letter" sIsLetter := by
      refine' fnR_mk KX G ?a ?l ?c ?k
      (case a => k_is); (case l => k_is); (case c => k_is); (case k => k_is)
    have r_is_digit : FnR (PySem.Challenge.cw_patterntables_s01_answers_holds.heap_1 w.params) mg "is_digit" sIsDigit := by
      refine' fnR_mk KX G ?a ?l ?c ?k
      (case a => k_is); (case l => k_is); (case c => k_is); (case k => k_is)
    have r_is_chunk_byte : FnR (PySem.Challenge.cw_patterntables_s01_answers_holds.heap_1 w.params) mg "is_chunk_byte" sIsChunkByte := by
      refine' fnR_mk KX G ?a ?l ?c ?k
      (case a => k_is); (case l => k_is); (case c => k_is); (case k => k_is)
    have r_remark_end : FnR (PySem.Challenge.cw_patterntables_s01_answers_holds.heap_1 w.params) mg "remark_end" sRemarkEnd := by
      refine' fnR_mk KX G ?a ?l ?c ?k
      (case a => k_is); (case l => k_is); (case c => k_is); (case k => k_is)
    have r_past_blanks : FnR (PySem.Challenge.cw_patterntables_s01_answers_holds.heap_1 w.params) mg "past_blanks" sPastBlanks := by
      refine' fnR_mk KX G ?a ?l ?c ?k
      (case a => k_is); (case l => k_is); (case c => k_is); (case k => k_is)
    have r_chunk_end : FnR (PySem.Challenge.cw_patterntables_s01_answers_holds.heap_1 w.params) mg "chunk_end" sChunkEnd := by
      refine' fnR_mk KX G ?a ?l ?c ?k
      (case a => k_is); (case l => k_is); (case c => k_is); (case k => k_is)
    have r_token_at : FnR (PySem.Challenge.cw_patterntables_s01_answers_holds.heap_1 w.params) mg "token_at" sTokenAt := by
      refine' fnR_mk KX G ?a ?l ?c ?k
      (case a => k_is); (case l => k_is); (case c => k_is); (case k => k_is)
    have r_read_tokens : FnR (PySem.Challenge.cw_patterntables_s01_answers_holds.heap_1 w.params) mg "read_tokens" sReadTokens := by
      refine' fnR_mk KX G ?a ?l ?c ?k
      (case a => k_is); (case l => k_is); (case c => k_is); (case k => k_is)
    have r_margin_of : FnR (PySem.Challenge.cw_patterntables_s01_answers_holds.heap_1 w.params) mg "margin_of" sMarginOf := by
      refine' fnR_mk KX G ?a ?l ?c ?k
      (case a => k_is); (case l => k_is); (case c => k_is); (case k => k_is)
    have r_are_word_letters : FnR (PySem.Challenge.cw_patterntables_s01_answers_holds.heap_1 w.params) mg "are_word_letters" sAreWordLetters := by
      refine' fnR_mk KX G ?a ?l ?c ?k
      (case a => k_is); (case l => k_is); (case c => k_is); (case k => k_is)
    have r_stands_between_letters : FnR (PySem.Challenge.cw_patterntables_s01_answers_holds.heap_1 w.params) mg "stands_between_letters" sStandsBetweenLetters := by
      refine' fnR_mk KX G ?a ?l ?c ?k
      (case a => k_is); (case l => k_is); (case c => k_is); (case k => k_is)
    have r_word_letters : FnR (PySem.Challenge.cw_patterntables_s01_answers_holds.heap_1 w.params) mg "word_letters" sWordLetters := by
      refine' fnR_mk KX G ?a ?l ?c ?k
      (case a => k_is); (case l => k_is); (case c => k_is); (case k => k_is)
    have r_entry_of_body : FnR (PySem.Challenge.cw_patterntables_s01_answers_holds.heap_1 w.params) mg "entry_of_body" sEntryOfBody := by
      refine' fnR_mk KX G ?a ?l ?c ?k
      (case a => k_is); (case l => k_is); (case c => k_is); (case k => k_is)
    have r_pattern_entry : FnR (PySem.Challenge.cw_patterntables_s01_answers_holds.heap_1 w.params) mg "pattern_entry" sPatternEntry := by
      refine' fnR_mk KX G ?a ?l ?c ?k
      (case a => k_is); (case l => k_is); (case c => k_is); (case k => k_is)
    have r_read_margin : FnR (PySem.Challenge.cw_patterntables_s01_answers_holds.heap_1 w.params) mg "read_margin" sReadMargin := by
      refine' fnR_mk KX G ?a ?l ?c ?k
      (case a => k_is); (case l => k_is); (case c => k_is); (case k => k_is)
    have r_read_margins : FnR (PySem.Challenge.cw_patterntables_s01_answers_holds.heap_1 w.params) mg "read_margins" sReadMargins := by
      refine' fnR_mk KX G ?a ?l ?c ?k
      (case a => k_is); (case l => k_is); (case c => k_is); (case k => k_is)
    have r_take_behind_keyword : FnR (PySem.Challenge.cw_patterntables_s01_answers_holds.heap_1 w.params) mg "take_behind_keyword" sTakeBehindKeyword := by
      refine' fnR_mk KX G ?a ?l ?c ?k
      (case a => k_is); (case l => k_is); (case c => k_is); (case k => k_is)
    have r_read_word : FnR (PySem.Challenge.cw_patterntables_s01_answers_holds.heap_1 w.params) mg "read_word" sReadWord := by
      refine' fnR_mk KX G ?a ?l ?c ?k
      (case a => k_is); (case l => k_is); (case c => k_is); (case k => k_is)
    have r_all_signs : FnR (PySem.Challenge.cw_patterntables_s01_answers_holds.heap_1 w.params) mg "all_signs" sAllSigns := by
      refine' fnR_mk KX G ?a ?l ?c ?k
      (case a => k_is); (case l => k_is); (case c => k_is); (case k => k_is)
    have r_with_entry : FnR (PySem.Challenge.cw_patterntables_s01_answers_holds.heap_1 w.params) mg "with_entry" sWithEntry := by
      refine' fnR_mk KX G ?a ?l ?c ?k
      (case a => k_is); (case l => k_is); (case c => k_is); (case k => k_is)
    have r_read_pattern : FnR (PySem.Challenge.cw_patterntables_s01_answers_holds.heap_1 w.params) mg "read_pattern" sReadPattern := by
      refine' fnR_mk KX G ?a ?l ?c ?k
      (case a => k_is); (case l => k_is); (case c => k_is); (case k => k_is)
    have r_read_list : FnR (PySem.Challenge.cw_patterntables_s01_answers_holds.heap_1 w.params) mg "read_list" sReadList := by
      refine' fnR_mk KX G ?a ?l ?c ?k
      (case a => k_is); (case l => k_is); (case c => k_is); (case k => k_is)
    have r_go_from : FnR (PySem.Challenge.cw_patterntables_s01_answers_holds.heap_1 w.params) mg "go_from" sGoFrom := by
      refine' fnR_mk KX G ?a ?l ?c ?k
      (case a => k_is); (case l => k_is); (case c => k_is); (case k => k_is)
    have r_look_up : FnR (PySem.Challenge.cw_patterntables_s01_answers_holds.heap_1 w.params) mg "look_up" sLookUp := by
      refine' fnR_mk KX G ?a ?l ?c ?k
      (case a => k_is); (case l => k_is); (case c => k_is); (case k => k_is)
    have r_parted_gaps : FnR (PySem.Challenge.cw_patterntables_s01_answers_holds.heap_1 w.params) mg "parted_gaps" sPartedGaps := by
      refine' fnR_mk KX G ?a ?l ?c ?k
      (case a => k_is); (case l => k_is); (case c => k_is); (case k => k_is)
    have r_first_signs : FnR (PySem.Challenge.cw_patterntables_s01_answers_holds.heap_1 w.params) mg "first_signs" sFirstSigns := by
      refine' fnR_mk KX G ?a ?l ?c ?k
      (case a => k_is); (case l => k_is); (case c => k_is); (case k => k_is)
    have r_entries_behind : FnR (PySem.Challenge.cw_patterntables_s01_answers_holds.heap_1 w.params) mg "entries_behind" sEntriesBehind := by
      refine' fnR_mk KX G ?a ?l ?c ?k
      (case a => k_is); (case l => k_is); (case c => k_is); (case k => k_is)
    have r_digits_here : FnR (PySem.Challenge.cw_patterntables_s01_answers_holds.heap_1 w.params) mg "digits_here" sDigitsHere := by
      refine' fnR_mk KX G ?a ?l ?c ?k
      (case a => k_is); (case l => k_is); (case c => k_is); (case k => k_is)
    have r_node_of : FnR (PySem.Challenge.cw_patterntables_s01_answers_holds.heap_1 w.params) mg "node_of" sNodeOf := by
      refine' fnR_mk KX G ?a ?l ?c ?k
      (case a => k_is); (case l => k_is); (case c => k_is); (case k => k_is)
    have r_packed : FnR (PySem.Challenge.cw_patterntables_s01_answers_holds.heap_1 w.params) mg "packed" sPacked := by
      refine' fnR_mk KX G ?a ?l ?c ?k
      (case a => k_is); (case l => k_is); (case c => k_is); (case k => k_is)
    have r_nodes_without_sharing : FnR (PySem.Challenge.cw_patterntables_s01_answers_holds.heap_1 w.params) mg "nodes_without_sharing" sNodesWithoutSharing := by
      refine' fnR_mk KX G ?a ?l ?c ?k
      (case a => k_is); (case l => k_is); (case c => k_is); (case k => k_is)
    have r_sizes : FnR (PySem.Challenge.cw_patterntables_s01_answers_holds.heap_1 w.params) mg "sizes" sSizes := by
      refine' fnR_mk KX G ?a ?l ?c ?k
      (case a => k_is); (case l => k_is); (case c => k_is); (case k => k_is)
    have r_ways_through : FnR (PySem.Challenge.cw_patterntables_s01_answers_holds.heap_1 w.params) mg "ways_through" sWaysThrough := by
      refine' fnR_mk KX G ?a ?l ?c ?k
      (case a => k_is); (case l => k_is); (case c => k_is); (case k => k_is)
    have r_kept_nodes : FnR (PySem.Challenge.cw_patterntables_s01_answers_holds.heap_1 w.params) mg "kept_nodes" sKeptNodes := by
      refine' fnR_mk KX G ?a ?l ?c ?k
      (case a => k_is); (case l => k_is); (case c => k_is); (case k => k_is)
    have r_told_node : FnR (PySem.Challenge.cw_patterntables_s01_answers_holds.heap_1 w.params) mg "told_node" sToldNode := by
      refine' fnR_mk KX G ?a ?l ?c ?k
      (case a => k_is); (case l => k_is); (case c => k_is); (case k => k_is)
    have r_told_table : FnR (PySem.Challenge.cw_patterntables_s01_answers_holds.heap_1 w.params) mg "told_table" sToldTable := by
      refine' fnR_mk KX G ?a ?l ?c ?k
      (case a => k_is); (case l => k_is); (case c => k_is); (case k => k_is)
    have r_read_digits : FnR (PySem.Challenge.cw_patterntables_s01_answers_holds.heap_1 w.params) mg "read_digits" sReadDigits := by
      refine' fnR_mk KX G ?a ?l ?c ?k
      (case a => k_is); (case l => k_is); (case c => k_is); (case k => k_is)
    have r_read_ways : FnR (PySem.Challenge.cw_patterntables_s01_answers_holds.heap_1 w.params) mg "read_ways" sReadWays := by
      refine' fnR_mk KX G ?a ?l ?c ?k
      (case a => k_is); (case l => k_is); (case c => k_is); (case k => k_is)
    have r_read_node : FnR (PySem.Challenge.cw_patterntables_s01_answers_holds.heap_1 w.params) mg "read_node" sReadNode := by
      refine' fnR_mk KX G ?a ?l ?c ?k
      (case a => k_is); (case l => k_is); (case c => k_is); (case k => k_is)
    have r_read_table : FnR (PySem.Challenge.cw_patterntables_s01_answers_holds.heap_1 w.params) mg "read_table" sReadTable := by
      refine' fnR_mk KX G ?a ?l ?c ?k
      (case a => k_is); (case l => k_is); (case c => k_is); (case k => k_is)
    have r_load : FnR (PySem.Challenge.cw_patterntables_s01_answers_holds.heap_1 w.params) mg "load" sLoad := by
      refine' fnR_mk KX G ?a ?l ?c ?k
      (case a => k_is); (case l => k_is); (case c => k_is); (case k => k_is)
    have r_patterns_and_sizes : FnR (PySem.Challenge.cw_patterntables_s01_answers_holds.heap_1 w.params) mg "patterns_and_sizes" sPatternsAndSizes := by
      refine' fnR_mk KX G ?a ?l ?c ?k
      (case a => k_is); (case l => k_is); (case c => k_is); (case k => k_is)
    have r_store : FnR (PySem.Challenge.cw_patterntables_s01_answers_holds.heap_1 w.params) mg "store" sStore := by
      refine' fnR_mk KX G ?a ?l ?c ?k
      (case a => k_is); (case l => k_is); (case c => k_is); (case k => k_is)
    have r_levels_between : FnR (PySem.Challenge.cw_patterntables_s01_answers_holds.heap_1 w.params) mg "levels_between" sLevelsBetween := by
      refine' fnR_mk KX G ?a ?l ?c ?k
      (case a => k_is); (case l => k_is); (case c => k_is); (case k => k_is)
    have r_part : FnR (PySem.Challenge.cw_patterntables_s01_answers_holds.heap_1 w.params) mg "part" sPart := by
      refine' fnR_mk KX G ?a ?l ?c ?k
      (case a => k_is); (case l => k_is); (case c => k_is); (case k => k_is)
    have r_hold_entries : FnR (PySem.Challenge.cw_patterntables_s01_answers_holds.heap_1 w.params) mg "hold_entries" sHoldEntries := by
      refine' fnR_mk KX G ?a ?l ?c ?k
      (case a => k_is); (case l => k_is); (case c => k_is); (case k => k_is)
    have r_add : FnR (PySem.Challenge.cw_patterntables_s01_answers_holds.heap_1 w.params) mg "add" sAdd := by
      refine' fnR_mk KX G ?a ?l ?c ?k
      (case a => k_is); (case l => k_is); (case c => k_is); (case k => k_is)
    have r_drop : FnR (PySem.Challenge.cw_patterntables_s01_answers_holds.heap_1 w.params) mg "drop" sDrop := by
      refine' fnR_mk KX G ?a ?l ?c ?k
      (case a => k_is); (case l => k_is); (case c => k_is); (case k => k_is)
    have r_check : FnR (PySem.Challenge.cw_patterntables_s01_answers_holds.heap_1 w.params) mg "check" sCheck := by
      refine' fnR_mk KX G ?a ?l ?c ?k
      (case a => k_is); (case l => k_is); (case c => k_is); (case k => k_is)
    have r_find_pattern : FnR (PySem.Challenge.cw_patterntables_s01_answers_holds.heap_1 w.params) mg "find_pattern" sFindPattern := by
      refine' fnR_mk KX G ?a ?l ?c ?k
      (case a => k_is); (case l => k_is); (case c => k_is); (case k => k_is)
    have r_node_and_ends : FnR (PySem.Challenge.cw_patterntables_s01_answers_holds.heap_1 w.params) mg "node_and_ends" sNodeAndEnds := by
      refine' fnR_mk KX G ?a ?l ?c ?k
      (case a => k_is); (case l => k_is); (case c => k_is); (case k => k_is)
    have r_argument_of : FnR (PySem.Challenge.cw_patterntables_s01_answers_holds.heap_1 w.params) mg "argument_of" sArgumentOf := by
      refine' fnR_mk KX G ?a ?l ?c ?k
      (case a => k_is); (case l => k_is); (case c => k_is); (case k => k_is)
    have r_answer_of : FnR (PySem.Challenge.cw_patterntables_s01_answers_holds.heap_1 w.params) mg "answer_of" sAnswerOf := by
      refine' fnR_mk KX G ?a ?l ?c ?k
      (case a => k_is); (case l => k_is); (case c => k_is); (case k => k_is)
    have r_answers : FnR (PySem.Challenge.cw_patterntables_s01_answers_holds.heap_1 w.params) mg "answers" sAnswers := by
      refine' fnR_mk KX G ?a ?l ?c ?k
      (case a => k_is); (case l => k_is); (case c => k_is); (case k => k_is)
    have r_flt : ∃ C f, PySem.FltX.FltTxt (PySem.Challenge.cw_patterntables_s01_answers_holds.heap_1 w.params) mg C f := by
      refine' ⟨_, _, flt_mk KX G ?aC ?xL ?sa ?ga ?gg ?n1 ?n2 ?a ?t ?l ?c ?kC ?eC ?tC ?hC ?iC ?sC⟩
      (case aC => k_is); (case xL => k_is); (case sa => k_is); (case ga => k_is); (case gg => k_is); (case n1 => k_is); (case n2 => k_is); (case a => k_is); (case t => k_is); (case l => k_is); (case c => k_is); (case kC => k_is); (case eC => k_is); (case tC => k_is); (case hC => k_is); (case iC => k_is); (case sC => first | rfl | k_is)
    obtain ⟨cF, iF, r_flt⟩ := r_flt
    have r_nt : ∃ C, L2.NtTxt (PySem.Challenge.cw_patterntables_s01_answers_holds.heap_1 w.params) mg C := by
      refine' zNotTold KX G ?aF ?xF ?kF ?bF ?tF ?iF ?sF
      (case aF => k_is); (case xF => k_exc); (case kF => k_is); (case bF => k_is); (case tF => k_is); (case iF => k_is); (case sF => first | rfl | k_is)
    obtain ⟨cN, r_nt⟩ := r_nt
    have T : Tx (PySem.Challenge.cw_patterntables_s01_answers_holds.heap_1 w.params) mg := { k_TEXT_TOO_LONG := r_k_TEXT_TOO_LONG, k_NO_TOKEN := r_k_NO_TOKEN, k_NOT_ALLOWED := r_k_NOT_ALLOWED, k_TOO_MANY := r_k_TOO_MANY, k_TOLD_BEFORE := r_k_TOLD_BEFORE, k_NOT_AS_TOLD := r_k_NOT_AS_TOLD, k_BLANKS := r_k_BLANKS, k_LINE_END := r_k_LINE_END, k_REMARK := r_k_REMARK, k_SEMICOLON := r_k_SEMICOLON, k_HYPHEN := r_k_HYPHEN, k_POINT := r_k_POINT, k_CHUNK := r_k_CHUNK, k_SIGN := r_k_SIGN, k_END := r_k_END, k_LONGEST_CHUNK := r_k_LONGEST_CHUNK, k_GREATEST_MARGIN := r_k_GREATEST_MARGIN, k_FEWEST_LETTERS := r_k_FEWEST_LETTERS, k_MOST_LETTERS := r_k_MOST_LETTERS, k_MOST_PATTERN_LETTERS := r_k_MOST_PATTERN_LETTERS, k_EDGE := r_k_EDGE, k_LONGEST_TEXT := r_k_LONGEST_TEXT, k_MOST_WORDS := r_k_MOST_WORDS, k_MOST_PATTERNS := r_k_MOST_PATTERNS, k_MOST_NODES := r_k_MOST_NODES, k_LOAD := r_k_LOAD, k_TABLE := r_k_TABLE, k_STORE := r_k_STORE, k_LEVELS := r_k_LEVELS, k_PART := r_k_PART, k_ADD := r_k_ADD, k_DROP := r_k_DROP, k_CHECK := r_k_CHECK, k_FIND := r_k_FIND, k_NODE := r_k_NODE, b_Exception := r_b_Exception, b_all := r_b_all, b_any := r_b_any, b_enumerate := r_b_enumerate, b_len := r_b_len, b_list := r_b_list, b_max := r_b_max, b_min := r_b_min, b_ord := r_b_ord, b_range := r_b_range, b_set := r_b_set, b_sorted := r_b_sorted, b_sum := r_b_sum, b_tuple := r_b_tuple, nodes_along := r_nodes_along, digits_at := r_digits_at, counted_ends := r_counted_ends, goes_on_right := r_goes_on_right, is_right := r_is_right, tells_just := r_tells_just, spelled := r_spelled, is_letter := r_is_letter, is_digit := r_is_digit, is_chunk_byte := r_is_chunk_byte, remark_end := r_remark_end, past_blanks := r_past_blanks, chunk_end := r_chunk_end, token_at := r_token_at, read_tokens := r_read_tokens, margin_of := r_margin_of, are_word_letters := r_are_word_letters, stands_between_letters := r_stands_between_letters, word_letters := r_word_letters, entry_of_body := r_entry_of_body, pattern_entry := r_pattern_entry, read_margin := r_read_margin, read_margins := r_read_margins, take_behind_keyword := r_take_behind_keyword, read_word := r_read_word, all_signs := r_all_signs, with_entry := r_with_entry, read_pattern := r_read_pattern, read_list := r_read_list, go_from := r_go_from, look_up := r_look_up, parted_gaps := r_parted_gaps, first_signs := r_first_signs, entries_behind := r_entries_behind, digits_here := r_digits_here, node_of := r_node_of, packed := r_packed, nodes_without_sharing := r_nodes_without_sharing, sizes := r_sizes, ways_through := r_ways_through, kept_nodes := r_kept_nodes, told_node := r_told_node, told_table := r_told_table, read_digits := r_read_digits, read_ways := r_read_ways, read_node := r_read_node, read_table := r_read_table, load := r_load, patterns_and_sizes := r_patterns_and_sizes, store := r_store, levels_between := r_levels_between, part := r_part, hold_entries := r_hold_entries, add := r_add, drop := r_drop, check := r_check, find_pattern := r_find_pattern, node_and_ends := r_node_and_ends, argument_of := r_argument_of, answer_of := r_answer_of, answers := r_answers, cNode := r_cNode.R, nNode_digits := r_cNode.nNode_digits, nNode_ways := r_cNode.nNode_ways, mNode_way_by := r_cNode.mNode_way_by, cTable := r_cTable.R, nTable_nodes := r_cTable.nTable_nodes, nTable_first := r_cTable.nTable_first, cF := cF, iF := iF, flt := r_flt, cToken := r_cToken.R, nToken_kind := r_cToken.nToken_kind, nToken_place := r_cToken.nToken_place, nToken_chunk := r_cToken.nToken_chunk, cEntry := r_cEntry.R, nEntry_signs := r_cEntry.nEntry_signs, nEntry_digits := r_cEntry.nEntry_digits, cPatternList := r_cPatternList.R, nPatternList_left := r_cPatternList.nPatternList_left, nPatternList_right := r_cPatternList.nPatternList_right, nPatternList_words := r_cPatternList.nPatternList_words, nPatternList_entries := r_cPatternList.nPatternList_entries, cTokenReader := r_cTokenReader.R, nTokenReader_tokens := r_cTokenReader.nTokenReader_tokens, nTokenReader_at := r_cTokenReader.nTokenReader_at, mTokenReader_stands := r_cTokenReader.mTokenReader_stands, mTokenReader_take := r_cTokenReader.mTokenReader_take, mTokenReader_take_keyword := r_cTokenReader.mTokenReader_take_keyword, cFound := r_cFound.R, nFound_levels := r_cFound.nFound_levels, nFound_steps := r_cFound.nFound_steps, mFound_put_over := r_cFound.mFound_put_over, cPacker := r_cPacker.R, nPacker_nodes := r_cPacker.nPacker_nodes, nPacker_numbers := r_cPacker.nPacker_numbers, mPacker_number_of := r_cPacker.mPacker_number_of, cN := cN, nt := r_nt, cRowReader := r_cRowReader.R, nRowReader_numbers := r_cRowReader.nRowReader_numbers, nRowReader_at := r_cRowReader.nRowReader_at, mRowReader_is_done := r_cRowReader.mRowReader_is_done, mRowReader_take_some := r_cRowReader.mRowReader_take_some, mRowReader_take_number := r_cRowReader.mRowReader_take_number, mRowReader_take_row := r_cRowReader.mRowReader_take_row, cHolder := r_cHolder.R, nHolder_held := r_cHolder.nHolder_held, nHolder_table := r_cHolder.nHolder_table }
    exact whole T hmg
  case S =>
    intro K H xs a hO hwi hask hx
    cases hx with
    | cons h1 h2 =>
      cases h2
      cases h1 with
      | lst hs ha =>
        have e := L2.ints_dw a.1 _ ha
        subst e
        exact answers_sp hask hs
